import PyProof.Rows.All
import Wide.All
import OpenK.AllK
import Wide.FinOn
import Lean
import PyProof.EqAt
import PyProof.EqKinds
import PyProof.TupleCall
import PySem.Challenge.RW_easelroom_k25_maps_between_pictures
set_option Elab.async false
set_option linter.all false
set_option maxRecDepth 100000
set_option maxHeartbeats 0
local macro_rules | `(tactic| lia) => `(tactic| first | lia (splits := 9) | omega)
open Option renaming some→Dn,none→JI
open PySem.W renaming Frag→Bl,nsIn→Iw,Looks→Vw,mg_of→Ld,findIn→M6,mg_none_of→Pg,keepIn→Og,mroIn→Pb,clsIn→U9,InstAt→VJ,fnOf→U8,looks_findIn→Xe,looks_mroIn→XH,hasDictIn→Wx,codeIn→W9,excIn→WY,isFn→WW,typeIn→X6
open PySem renaming wpAny_bind→Al,Value→Mk,Shared→Af,Spec→agi,wpAny_pure→Ck,starEach→Cy,mainGlobals→IK,Program→Dz,wpAny→Bm,Around→Dl,sizeLine→Ht,model→CN,NameKind→ML,World→Cw,boot_len→N5,wpAny_field→Kc,Builtin→Qx,wpAny_mono→K3,wpAny_holding→Nb,wpAny_newObj_type→Q9,cellsFrom→KN,wpAny_callSpecial?_slot→UG,mem_of_lookup→Rt,assignEach→Mz,compareOp→Ly,FuncData→Ln,foldedSetIterable→Rn,PassesOwn→YJ,wpAny_call_entry→Rm,backTo→Jd,wpAny_Call_Name_kw→VN,wpAny_standAt→Qt,wpAny_attempt→Rg,attributeBase→Rf,binaryOp→O5,wpAny_loadPart_at→Vq,bootBuiltins→Ra,wpAny_setField→Vd,wpAny_seqItems→Vb,wpAny_setField_rec→Wj,wpAny_passesOwn→Vu,builtinLookup_eq_fast→XJ,wpAny_truthy_bool→Wg,wpAny_pyIter_list→Wd,behindInMarks→VR,SetTable→Xq,wpAny_of_eq→U6,wpAny_execs_nil→W8,swapsWith→Qs,rawInt→NK,excClassObj→VG,isSubtype_type→WX,Within→Xu,Paired→Vn,cLine→Lk,wpAny_rule→VF,isInstance→VD,typeLookup_type→X3,sliceBounds→Vm,Keyword→QM,codeAny_mono→W6,IsPair→PL,firstArgMember→Wu,wpAny_throw→Vz,sizeLine_eq→Vy,keywordEach→Vx,pyNext→Q6,codeAny→RT
open PySem.Heap renaming get?_push_of_some→IV,lt_size→Hx,get?_push_size→Kg,get?_update_other→Pj,get?_update_self→QW,SameBut→Ro,size_push→Qd,get?_none_of_le→XM,ExtBut→W0
open List renaming length_map→Hu,getElem?_eq_getElem→Jx,size_toArray→Jf,mem_cons→JN,lookup_cons→LI,getD_eq_getElem?_getD→Pr,length_append→Mf,getElem?_eq_some_iff→Pn,getElem?_map→N7,mem_singleton→Nz,mem_cons_of_mem→Ph,all_eq_true→Nr,mem_cons_self→Ow,map_cons→Lz,mem_of_getElem?→Q0,take_length→OJ,not_mem_nil→O7,take_succ→Nh,mem_filter→Oh,getElem?_append_right→V0,mem_append_right→Qu,length_take→Q8,mem_append→Py,mem_range→Px,getElem?_append_left→Vf,range→Ni,map_append→Qg,length_cons→Qy,mem_map→Pz,replicate→Qf,zip_cons_cons→V5,mem_iff_getElem→Vt,findSome?_cons→Vs,length_range'→Vr,all_cons→Rh,length_drop→Vo,eq_nil_of_length_eq_zero→Y0,getElem?_eq_none→Xh,append_nil→Vv,mem_append_left→XQ,getElem_mem→Wc,nodup_cons→WQ,length_set→WL,getElem?_replicate→Xp,forIn_cons→WD,contains_cons→Wy,any_cons→Vi,mem_flatMap→XC,getElem?_set_ne→Xv,map_nil→WT,forIn_nil→X5,drop_zero→X4
open Option.some renaming inj→JD
open Nat renaming le_refl→Ig,lt_of_lt_of_le→K5,le_trans→J4,ne_of_lt→Ko,lt_irrefl→Pa,ne_of_gt→QX,lt_of_le_of_lt→Vh,beq→Nq,lt_or_gt_of_ne→Wq,eq_of_beq_eq_true→Xc,zero_le→U7,le_succ→V8,le_of_ble_eq_true→Xx,ble→QS
open Bool renaming false_ne_true→Ky,and_eq_true→Jw,false_eq_true→Wr,not_eq_true→WR,not_eq_true'→Ww,and_false→Wb,eq_iff_iff→X8
open Int renaming mul_ne_zero→Lp,mul_eq_zero→Q7,eq_ofNat_of_zero_le→XF,gcd→O6,eq_of_mul_eq_mul_left→Xr,mul_zero→VB,mul_comm→V9
open PySem.Builtin.SmallTypes renaming nextOf→Rj,ownedTupleIsFree→YH
open Prod renaming ext→J7
open PySem.SeqAt renaming EqAt→V2,ne_of_list_tuple→Xl
open PyProof.Rows renaming slot_tuple_getitem→Vg,callWith_type1→Xi,boot_isinstance→VH,SortKind→RV,kindOf→O4,Keyed→M5,envOfC→PN,boot_list→V7,SortSt→Pu,AllBare→Qp
open PySem.PassesOwn renaming never→Oq
open PySem.Obj renaming data_mapFields→QT,isFreed_of_fields→Ri,cls_mapFields→Wv
open Ne renaming symm→Jo
open False renaming elim→Ov
open Option renaming bind_some→V3,getD_some→XD
open Classical renaming propDecidable→Ws
open Decidable renaming not_not→VP
open PySem.F renaming slot_tuple_iterator_next→Y4,attrBase_ValueError→Xz,excBase_ValueError→Y9,store_object→Xd,slot_zip_next→Xj
open PySem.Str renaming ofString→Rb
open PySem.Builtin.Slice renaming slicePlaces→YG
open PySem.Heap.SameBut renaming update→Xg
open PySem.Builtin.Tuple renaming tupleExact→Y7
open PySem.Calls renaming Name_function_global→Y5
open PySem.SetTable renaming bits→Vl
open Prod.mk renaming injEq→Vk
namespace L2
open PySem PySem.Spec PyProof.Rows
abbrev Key:=Sum Int Str
def aaO:Key->Mk->Bool
 | .inl k,v=>Value.isInt k v
 | .inr x,v=>Value.isStrOf x v
def afz (w:Cw):Key->Int
 | .inl k=>hashInt k
 | .inr x=>hashStr w x
theorem cu:∀ {k:Key} {v:Mk},aaO k v=true->(∃ i t,k=Sum.inl i/\v=Value.int i t)\/(∃ x t,k=Sum.inr x/\v=Value.str x t)
 | .inl i,v,h=>by
  obtain ⟨t,e⟩:=Value.isInt_shape (k:=i) (v:=v) h;exact .inl ⟨i,t,rfl,e⟩
 | .inr x,v,h=>by
  obtain ⟨t,e⟩:=Value.isStrOf_shape (x:=x) (v:=v) h;exact .inr ⟨x,t,rfl,e⟩
theorem aaZ (a b:Int):decide ((Sum.inl a:Key)=Sum.inl b)=(a==b):=by
 by_cases e:a=b
 ·subst e;simp
 ·have h:¬ (Sum.inl a:Key)=Sum.inl b:=fun q=>e (Sum.inl.inj q)
  rw [decide_eq_false h];exact (beq_eq_false_iff_ne.mpr e).symm
theorem abn (a b:Str):decide ((Sum.inr a:Key)=Sum.inr b)=decide (a=b):=by
 by_cases e:a=b
 ·subst e;simp
 ·have h:¬ (Sum.inr a:Key)=Sum.inr b:=fun q=>e (Sum.inr.inj q)
  rw [decide_eq_false h,decide_eq_false e]
theorem aaM (a:Int)(b:Str):decide ((Sum.inl a:Key)=Sum.inr b)=false:=decide_eq_false (fun q=>nomatch q)
theorem abj (a:Str)(b:Int):decide ((Sum.inr a:Key)=Sum.inl b)=false:=decide_eq_false (fun q=>nomatch q)
def BP (prog:Dz)(w:Cw):PySem.KeyKind prog w Key where
 is:=aaO
 hash:=afz w
 inj:=fun v a b ha hb=>by
  rcases cu ha with ⟨i,t,rfl,rfl⟩ | ⟨x,t,rfl,rfl⟩
  ·rcases cu hb with ⟨j,u,rfl,e⟩ | ⟨y,u,rfl,e⟩
   ·injection e with e1 _;rw [e1]
   ·exact nomatch e
  ·rcases cu hb with ⟨j,u,rfl,e⟩ | ⟨y,u,rfl,e⟩
   ·exact nomatch e
   ·injection e with e1 _;rw [e1]
 byValue:=fun k v h=>by
  rcases cu h with ⟨i,t,rfl,rfl⟩ | ⟨x,t,rfl,rfl⟩ <;> rfl
 pyHash:=fun hv h=>by
  rcases cu hv with ⟨i,t,rfl,rfl⟩ | ⟨x,t,rfl,rfl⟩
  ·exact wpAny_pyHash_int h
  ·exact wpAny_pyHash_str h
 eqBool:=fun hu hv h=>by
  rcases cu hu with ⟨i,t,rfl,rfl⟩ | ⟨x,t,rfl,rfl⟩
  ·rcases cu hv with ⟨j,u,rfl,rfl⟩ | ⟨y,u,rfl,rfl⟩
   ·rw [aaZ] at h;exact wpAny_eqBool_int h
   ·rw [aaM] at h;exact SeqAt.EqAt.int_str i t y u _ _ _ _ h
  ·rcases cu hv with ⟨j,u,rfl,rfl⟩ | ⟨y,u,rfl,rfl⟩
   ·rw [abj] at h;exact SeqAt.EqAt.str_int x t j u _ _ _ _ h
   ·rw [abn] at h;exact wpAny_eqBool_str h
 «strs»:=fun k x t v h=>by
  rcases cu h with ⟨i,u,rfl,e⟩ | ⟨y,u,rfl,e⟩
  ·exact nomatch e
  ·injection e with e1 _
   subst e1;cases v <;> rfl
inductive V where
 | non | bl (b:Bool) | int (i:Int) | str (x:Str) | byt (b:Array UInt8) | flt (b:UInt64) | ref (a:Addr) | ty (n:String)
 deriving DecidableEq
def RelV:V->Mk->Prop
 | .non,u=>u=Value.none
 | .bl b,u=>u=Value.bool b
 | .int i,u=>∃ t,u=Value.int i t
 | .str x,u=>∃ t,u=Value.str x t
 | .byt b,u=>∃ t,u=Value.bytes b t
 | .flt b,u=>∃ t,u=Value.float b t
 | .ref a,u=>u=Value.ref a
 | .ty n,u=>u=Value.type n
abbrev Bp:List V->List Mk->Prop:=Vn RelV
variable {xs : List V}{us : List Mk}
theorem Bp.length {xs:List V}{us:List Mk}(r:Bp xs us):xs.length=us.length:=Paired.length r
theorem Bp.get:∀ {xs:List V} {us:List Mk} {i:Nat} {x:V},Bp xs us->xs[i]?=Dn x->∃ u,us[i]?=Dn u/\RelV x u
 | _,_,_,_,.nil,e=>by simp at e
 | _,_,0,_,.cons r _,e=>by simp at e;subst e;exact ⟨_,rfl,r⟩
 | _,_,i+1,x,.cons _ t,e=>by
  obtain ⟨u,h1,h2⟩:=Bp.get (i:=i) (x:=x) t (by simpa using e);exact ⟨u,by simpa using h1,h2⟩
variable {u : Mk}
theorem Bp.set {x:V}{u:Mk}(r:RelV x u):∀ {xs:List V} {us:List Mk} (i:Nat),Bp xs us->Bp (xs.set i x) (us.set i u)
 | _,_,_,.nil=>.nil
 | _,_,0,.cons _ t=>.cons r t
 | _,_,i+1,.cons q t=>.cons q (Bp.set r i t)
theorem Bp.append:∀ {xs ys:List V} {us ws:List Mk},Bp xs us->Bp ys ws->Bp (xs++ys) (us++ws)
 | _,_,_,_,.nil,s=>s
 | _,_,_,_,.cons r t,s=>.cons r (Bp.append t s)
theorem Bp.take:∀ {xs:List V} {us:List Mk} (n:Nat),Bp xs us->Bp (xs.take n) (us.take n)
 | _,_,0,_=>.nil
 | _,_,_+1,.nil=>.nil
 | _,_,n+1,.cons r t=>.cons r (Bp.take n t)
theorem Bp.drop:∀ {xs:List V} {us:List Mk} (n:Nat),Bp xs us->Bp (xs.drop n) (us.drop n)
 | _,_,0,r=>r
 | _,_,_+1,.nil=>.nil
 | _,_,n+1,.cons _ t=>Bp.drop n t
def W5:Option V->Option Mk->Prop
 | some v,Dn u=>RelV v u
 | none,JI=>True
 | _,_=>False
variable {κ : Type}
def KV:List (κ×V)->List (κ×Mk)->Prop:=Vn fun (p:κ×V) (q:κ×Mk)=>p.1=q.1/\RelV p.2 q.2
def kV:Key->V
 | .inl i=>.int i
 | .inr x=>.str x
inductive HO where
 | lst (xs:List V)
 | tup (xs:List V)
 | dK (kvs:List (Key×V)) | dT (kvs:List (List Key×V))
 | set (S:Int->Bool) (n:Nat)
 | ins (C dx:Addr) (fs:List (Str×V))
 | own (x:Addr)
 | xd (fs:List (Str×V))
 | met (f x:Addr)
 | rng (lo hi:Int)
 | frz (o:Obj) (u:HO)
 | tbl (ps:Array Mk)
 | ext (φ : Heap->Prop)
abbrev Hp:=Addr->Option HO
def Dv (H:Hp)(a:Addr)(o:HO):Hp:=fun b=>if b=a then Dn o else H b
variable {a : Addr}{H : Hp}
theorem aU {o:HO}:Dv H a o a=Dn o:=by unfold Dv;rw [if_pos rfl]
variable {b : Addr}
theorem aJ {o:HO}(h:b≠a):Dv H a o b=H b:=by unfold Dv;rw [if_neg h]
theorem aN {o:HO}(h:H a=Dn o)(h':H b=JI):a≠b:=by
 intro e;subst e;rw [h] at h';cases h'
section
variable (P:Dz)(w:Cw)
def RG (h:Heap)(a:Addr)(items:Array Mk):Prop:=∃ o,h.get? a=Dn o/\o.cls=.type "tuple"/\(∃ n,o.data=.seq items n)/\o.dict=JI
theorem RG.tup {h:Heap}{items:Array Mk}(x:RG h a items):IsTup h a items:=let ⟨o,ho,hc,hd,_⟩:=x;⟨o,ho,hc,hd⟩
theorem RG.new (h:Heap)(items:Array Mk):RG (h.push { cls:=.type "tuple",data:=.seq items }) h.objs.size items:=⟨_,Kg _ rfl,rfl,⟨_,rfl⟩,rfl⟩
def iW (H:Hp)(h:Heap)(a:Addr):HO->Prop
 | .lst xs=>xs.length<=Ht/\∃ (its:List Mk) (n:Nat),Bp xs its/\h.get? a=Dn { cls:=.type "list",data:=.seq its.toArray n }
 | .tup xs=>xs.length<=Ht/\∃ its:List Mk,Bp xs its/\RG h a its.toArray
 | .dK kvs=>kvs.length<=Ht/\(a==sysModules)=false/\∃ vs,KV kvs vs/\h.DictOf (BP P w) a vs
 | .dT kvs=>kvs.length<=Ht/\(a==sysModules)=false/\∃ xs:List (List Key×Addr×Mk),
   Vn (fun (p:List Key×V) (q:List Key×Addr×Mk)=>p.1=q.1/\H q.2.1=Dn (.tup (p.1.map kV))/\RelV p.2 q.2.2) kvs xs /\
   ∃ o es ep,h.get? a=Dn o/\o.ExactDict/\o.data=.dict es ep/\es.toList=xs.map (entryOfKey (tupleKind (BP P w)))/\(xs.map (·.1)).Nodup
 | .set S n=>h.SetOf (intKind P w) a S n
 | .ins C dx fs=>H dx=Dn (.own a)/\fs.length<=1000/\dx≠a/\h.get? a=Dn (PySem.W.instObj C dx) /\
   ∃ mA,h.Ns1 dx mA/\(∀ f,W5 (fs.lookup f) (mA f))/\Xu mA (fs.map (·.1))
 | .own _=>∃ o,h.get? a=Dn o
 | .xd fs=>∃ mA,h.Ns1 a mA/\∀ f,W5 (fs.lookup f) (mA f)
 | .rng lo hi=>∃ t u v,h.get? a=Dn { cls:=.type "range",data:=.fields #[.int lo t,.int hi u,.int 1 v] }
 | .frz o u=>h.get? a=Dn o/\iW H h a u
 | .tbl ps=>h.get? a=Dn { cls:=.none,data:=.fields ps }
 | .met f x=>h.get? a=Dn (PySem.W.methodObj (.ref f) (.ref x))
 | .ext φ=>φ h/\(∃ o,h.get? a=Dn o)/\∀ h1 h2:Heap,φ h1->(∀ o,h1.get? a=Dn o->h2.get? a=Dn o)->φ h2
def K7 (H:Hp)(h:Heap):Prop:=∀ a o,H a=Dn o->iW P w H h a o
end
variable {h : Heap}
section
variable {P:Dz}{w:Cw}{H':Hp}{h':Heap}{o:HO}
theorem iW.lt (x:iW P w H h a o):a<h.objs.size:=by
 cases o with
 | lst xs=>obtain ⟨_,_,_,_,e⟩:=x;exact Hx e
 | tup xs=>obtain ⟨_,_,_,p⟩:=x;exact p.tup.lt
 | dK kvs=>obtain ⟨_,_,_,_,o,_,_,e,_⟩:=x;exact Hx e
 | dT kvs=>obtain ⟨_,_,_,_,o,_,_,e,_⟩:=x;exact Hx e
 | set S n=>obtain ⟨o,_,_,_,e,_⟩:=x;exact Hx e
 | ins C dx fs=>obtain ⟨_,_,_,e,_⟩:=x;exact Hx e
 | own y=>obtain ⟨_,e⟩:=x;exact Hx e
 | xd fs=>obtain ⟨_,⟨_,_,_,e,_⟩,_⟩:=x;exact Hx e
 | rng lo hi=>obtain ⟨_,_,_,e⟩:=x;exact Hx e
 | frz ob u=>obtain ⟨e,_⟩:=x;exact Hx e
 | tbl ps=>exact Hx (show h.get? a=Dn _ from x)
 | met f y=>exact Hx (show h.get? a=Dn _ from x)
 | ext φ=>obtain ⟨_,⟨_,e⟩,_⟩:=x;exact Hx e
theorem Paired.mapP {α β : Type}{F G:α->β->Prop}:∀ {l₁ : List α} {l₂ : List β},Vn F l₁ l₂->(∀ a b,F a b->G a b)->Vn G l₁ l₂
 | _,_,.nil,_=>.nil
 | _,_,.cons r t,f=>.cons (f _ _ r) (Paired.mapP t f)
theorem iW.stay (x:iW P w H h a o)(k:∀ b u,(b=a\/H b=Dn (.own a))->h.get? b=Dn u->h'.get? b=Dn u)
  (ho:∀ b,H b=Dn (.own a)->H' b=Dn (.own a)) (ht:∀ b xs,H b=Dn (.tup xs)->H' b=Dn (.tup xs)):iW P w H' h' a o:=by
 induction o with
 | lst xs=>obtain ⟨z,its,n,r,e⟩:=x;exact ⟨z,its,n,r,k _ _ (.inl rfl) e⟩
 | tup xs=>obtain ⟨z,its,r,ob,e,c⟩:=x;exact ⟨z,its,r,ob,k _ _ (.inl rfl) e,c⟩
 | dK kvs=>obtain ⟨z,y,vs,r,ob,es,ep,e,c⟩:=x;exact ⟨z,y,vs,r,ob,es,ep,k _ _ (.inl rfl) e,c⟩
 | dT kvs=>
  obtain ⟨z,y,xs,r,ob,es,ep,e,c⟩:=x;exact ⟨z,y,xs,Paired.mapP r fun p q z=>⟨z.1,ht _ _ z.2.1,z.2.2⟩,ob,es,ep,k _ _ (.inl rfl) e,c⟩
 | set S n=>obtain ⟨ob,es,ep,t,e,c⟩:=x;exact ⟨ob,es,ep,t,k _ _ (.inl rfl) e,c⟩
 | ins C dx fs=>
  obtain ⟨d,z,ne,e,mA,⟨od,es,ep,e2,c⟩,r⟩:=x;exact ⟨ho _ d,z,ne,k _ _ (.inl rfl) e,mA,⟨od,es,ep,k _ _ (.inr d) e2,c⟩,r⟩
 | own y=>obtain ⟨ob,e⟩:=x;exact ⟨ob,k _ _ (.inl rfl) e⟩
 | xd fs=>obtain ⟨mA,⟨od,es,ep,e,c⟩,r⟩:=x;exact ⟨mA,⟨od,es,ep,k _ _ (.inl rfl) e,c⟩,r⟩
 | rng lo hi=>obtain ⟨t,u,v,e⟩:=x;exact ⟨t,u,v,k _ _ (.inl rfl) e⟩
 | frz ob u ih=>obtain ⟨e,q⟩:=x;exact ⟨k _ _ (.inl rfl) e,ih q⟩
 | tbl ps=>
  have e:h.get? a=Dn { cls:=.none,data:=.fields ps }:=x;show h'.get? a=Dn { cls:=.none,data:=.fields ps };exact k a _ (.inl rfl) e
 | met f y=>
  have e:h.get? a=Dn (PySem.W.methodObj (.ref f) (.ref y)):=x;show h'.get? a=Dn (PySem.W.methodObj (.ref f) (.ref y));exact k a _ (.inl rfl) e
 | ext φ=>obtain ⟨p,⟨o,e⟩,st⟩:=x;exact ⟨st _ _ p fun o q=>k _ _ (.inl rfl) q,⟨o,k _ _ (.inl rfl) e⟩,st⟩
theorem K7.lt (x:K7 P w H h)(e:H a=Dn o):a<h.objs.size:=(x a o e).lt
theorem K7.fresh (x:K7 P w H h)(e:h.objs.size<=a):H a=JI:=by
 cases q:H a with
 | none=>rfl
 | some u=>exact absurd (K5 (x.lt q) e) (Pa _)
theorem K7.kept (x:K7 P w H h)(k:∀ b u,h.get? b=Dn u->h'.get? b=Dn u):K7 P w H h':=fun a o e=>
 (x a o e).stay (fun b u _ q=>k b u q) (fun _ q=>q) fun _ _ q=>q
theorem K7.laid (x:K7 P w H h)(k:∀ b u,h.get? b=Dn u->h'.get? b=Dn u)(hp:h.objs.size<=a)(new:iW P w (Dv H a o) h' a o):K7 P w (Dv H a o) h':=fun b u e=>by
 have hn:=x.fresh hp;by_cases hb:b=a
 ·subst hb;rw [aU] at e;cases e;exact new
 ·rw [aJ hb] at e;exact (x b u e).stay (fun c v _ q=>k c v q) (fun c q=>by rw [aJ (aN q hn)];exact q) fun c xs q=>by rw [aJ (aN q hn)];exact q
end
variable {h' : Heap}{H' : Hp}{w : Cw}{P : Dz}
def Rd (H:Hp)(a:Addr)(u:HO):Prop:=H a=Dn u\/∃ o,H a=Dn (.frz o u)
theorem Rd.ok {u:HO}(r:Rd H a u)(x:K7 P w H h):iW P w H h a u:=by
 rcases r with r | ⟨o,r⟩
 ·exact x a u r
 ·obtain ⟨_,q⟩:=x a _ r;exact q
def Mut:Option HO->Prop
 | some (.lst _)=>True
 | some (.dK _)=>True
 | some (.dT _)=>True
 | some (.set _ _)=>True
 | some (.ins _ _ _)=>True
 | some (.ext _)=>True
 | some (.xd _)=>True
 | _=>False
section
variable {x e:Addr}{o':HO}
theorem K7.write (ok:K7 P w H h)(mu:Mut (H x))(he:e=x\/H e=Dn (.own x))(k:∀ b u,b≠e->h.get? b=Dn u->h'.get? b=Dn u)(heo:∃ u,h'.get? e=Dn u)
  (new:iW P w (Dv H x o') h' x o'):K7 P w (Dv H x o') h':=fun b u q=>by
 have nown:∀ c y,H c=Dn (.own y)->c≠x:=fun c y r z=>by subst z;rw [r] at mu;exact mu
 have ntup:∀ c xs,H c=Dn (.tup xs)->c≠x:=fun c xs r z=>by subst z;rw [r] at mu;exact mu
 by_cases hb:b=x
 ·subst hb;rw [aU] at q;cases q;exact new
 ·rw [aJ hb] at q;by_cases hbe:b=e
  ·have q':H b=Dn (.own x):=by
    rcases he with z | z
    ·exact absurd (hbe.trans z) hb
    ·rw [hbe];exact z
   rw [q] at q';cases q';obtain ⟨v,hv⟩:=heo;exact ⟨v,by rw [hbe];exact hv⟩
  ·refine (ok b u q).stay (fun c v hc r=>k c v ?_ r) (fun c r=>by rw [aJ (nown c b r)];exact r) fun c xs r=>by rw [aJ (ntup c xs r)];exact r
   rcases hc with rfl | hc
   ·exact hbe
   ·rintro rfl;rcases he with z | z
    ·exact nown c b hc z
    ·rw [hc] at z;cases z;exact hb rfl
end
structure Un (fs ex:List Addr) (H H':Hp) (h h':Heap):Prop where
 keep:∀ b o,h.get? b=Dn o->H b=JI->b∉fs->b∉ex->h'.get? b=Dn o
 slot:∀ b o,h.get? b=Dn o->H b=JI->b∈fs->b∉ex->∃ sl,h'.get? b=Dn { o with slots:=sl }
 free:∀ b o,h.get? b=Dn o->H b=JI->b∉ex->H' b=JI
 there:∀ b o,h.get? b=Dn o->b∉ex->∃ o',h'.get? b=Dn o'
 tups:∀ b xs,H b=Dn (.tup xs)->H' b=Dn (.tup xs)
 frzs:∀ b o u,H b=Dn (.frz o u)->H' b=Dn (.frz o u)
 tbls:∀ b ps,H b=Dn (.tbl ps)->∃ more,H' b=Dn (.tbl (ps++more))
section
variable {fs fs' ex ex':List Addr}{H1 H2:Hp}{h1 h2:Heap}{x e:Addr}{o:HO}
theorem Un.any (u:Un fs ex H H1 h h1){ob:Obj}(q:h.get? b=Dn ob)(n:H b=JI)(hx:b∉ex):∃ sl,h1.get? b=Dn { ob with slots:=sl }:=by
 by_cases hb:b∈fs
 ·exact u.slot b ob q n hb hx
 ·exact ⟨ob.slots,u.keep b ob q n hb hx⟩
theorem Un.kept (k:∀ b u,h.get? b=Dn u->h'.get? b=Dn u):Un fs ex H H h h':=
 ⟨fun b ob q _ _ _=>k b ob q,fun b ob q _ _ _=>⟨ob.slots,k b ob q⟩,fun _ _ _ n _=>n,fun b ob q _=>⟨ob,k b ob q⟩,fun _ _ q=>q,fun _ _ _ q=>q,fun _ ps q=>⟨#[],by rw [q];simp⟩⟩
theorem Un.refl:Un fs ex H H h h:=Un.kept fun _ _ q=>q
theorem Un.laid (k:∀ b u,h.get? b=Dn u->h'.get? b=Dn u)(hp:h.objs.size<=a)(hn:H a=JI):Un fs ex H (Dv H a o) h h' where
 keep:=fun b u q _ _ _=>k b u q
 slot:=fun b u q _ _ _=>⟨u.slots,k b u q⟩
 free:=fun b u q n _=>by rw [aJ (Ko (K5 (Hx q) hp))];exact n
 there:=fun b u q _=>⟨u,k b u q⟩
 tups:=fun b xs q=>by rw [aJ (aN q hn)];exact q
 frzs:=fun b u xs q=>by rw [aJ (aN q hn)];exact q
 tbls:=fun b ps q=>⟨#[],by rw [aJ (aN q hn),q];simp⟩
theorem Un.write (mu:Mut (H x))(he:e=x\/H e=Dn (.own x))(k:∀ b u,b≠e->h.get? b=Dn u->h'.get? b=Dn u)(heo:∃ u,h'.get? e=Dn u):Un fs ex H (Dv H x o) h h':=by
 have hx:∀ b,H b=JI->b≠x:=fun b n z=>by subst z;rw [n] at mu;exact mu
 have hb:∀ b,H b=JI->b≠e:=fun b n z=>by
  subst z;rcases he with r | r
  ·exact hx b n r
  ·rw [n] at r;cases r
 have hm:∀ b u,H b=Dn u->¬ Mut (Dn u)->b≠x:=fun b u q nm z=>by subst z;rw [q] at mu;exact nm mu
 refine ⟨fun b u q n _ _=>k b u (hb b n) q,fun b u q n _ _=>⟨u.slots,k b u (hb b n) q⟩,fun b u q n _=>by rw [aJ (hx b n)];exact n,fun b u q _=>?_,
  fun b xs q=>by rw [aJ (hm b _ q fun z=>z)];exact q,fun b u xs q=>by rw [aJ (hm b _ q fun z=>z)];exact q,fun b ps q=>⟨#[],by rw [aJ (hm b _ q fun z=>z),q];simp⟩⟩
 by_cases hbe:b=e
 ·subst hbe;exact heo
 ·exact ⟨u,k b u hbe q⟩
end
def trk (h:Heap)(H:Hp):List Addr:=(Ni h.objs.size).filter fun a=>(H a).isSome
def Qq (h:Heap)(H:Hp):Heap:=PySem.W.hideAll h (trk h H)
theorem zaR (h:Heap)(H:Hp):(Qq h H).objs.size=h.objs.size:=PySem.W.hideAll_size _ _
theorem zbN {o:Obj}(e:h.get? b=Dn o)(n:H b=JI):(Qq h H).get? b=Dn o:=
 PySem.W.hideAll_get _ e fun hm=>by
  have q:(H b).isSome=true:=(Oh.mp hm).2;rw [n] at q;simp at q
theorem aiO {o:Obj}(e:(Qq h H).get? b=Dn o):h.get? b=Dn o/\H b=JI:=by
 have e':h.get? b=Dn o:=PySem.W.of_hideAll (trk h H) e;refine ⟨e',?_⟩;cases q:H b with
 | none=>rfl
 | some x=>
  have hm:b∈trk h H:=Oh.mpr ⟨Px.mpr (Hx e'),by simp [q]⟩;have z:(Qq h H).get? b=JI:=PySem.W.hideAll_none (trk h H) hm;rw [z] at e;cases e
def ajm (g h:Heap)(L:Addr):List (Addr×Obj):=(Ni h.objs.size).filterMap fun a=>if a=L\/(g.get? a).isSome=true then JI else (h.get? a).map fun o=>(a,o)
def rest (g h:Heap)(L d:Addr):List (Addr×Obj):=(ajm g h L).filter fun p=>decide (p.1≠d)
structure Mod (K:Bl) (mg:Str->Option Mk) (base:Heap):Prop where
 kin:K.In base
 glob:base.Ns IK mg
 blt:∃ mb,base.Ns builtinsNs mb/\∀ x:Str,x ≠ "__name__"->mb x=Ra x
 nolimit:base.NoLimit
structure Cx where
 prog:Dz
 w:Cw
 K:Bl
 mg:Str->Option Mk
 base:Heap
 A:Dl
 N:List Str
 s₀ : Af
 H₀ : Hp
 env:Env
 outer:List Env
 stack:List Env
 ex:List Addr
 fn:Str->Bool
 calm:Bool
 pn:List (Addr×Obj)
 xe:Mk->Af->Prop
def frs (l:List Env):List Addr:=l.filterMap (·.frame)
abbrev Cx.fs (X:Cx):List Addr:=frs X.outer
def Vis (sc:Scope)(x:Str):Prop:=sc.names.lookup x=Dn .local\/sc.names.lookup x=Dn .cell\/sc.names.lookup x=Dn .free
def Loc (sc:Scope)(x:Str):Prop:=sc.names.lookup x=Dn .local\/sc.names.lookup x=Dn .cell
def Look (env:Env)(h:Heap)(m:Str->Option Mk)(x:Str)(u:Mk):Prop:=
 (env.kindOf x=Dn .local/\m x=Dn u)\/((env.kindOf x=Dn .cell\/env.kindOf x=Dn .free)/\∃ c,env.cells.lookup x=Dn c/\h.IsCell c (Dn u))
inductive PB (H:Hp):Mk->Prop
 | nil:PB H .none
 | cons {c:Addr} {o:Obj} {u:HO} {vs:Array Mk} {z:Mk} (h1:H c=Dn (.frz o u)) (h2:o.data=.fields vs) (h3:vs[2]?=Dn z) (t:PB H z):PB H (.ref c)
theorem PB.mono {v:Mk}(c:PB H v)(k:∀ a o u,H a=Dn (.frz o u)->H' a=Dn (.frz o u)):PB H' v:=by
 induction c with
 | nil=>exact .nil
 | cons h1 h2 h3 _ ih=>exact .cons (k _ _ _ h1) h2 h3 ih
def Still (H:Hp)(v:Mk):Prop:=(∃ a,v=.ref a)/\PB H v
def Quiet (A:Dl)(H:Hp):Prop:=∀ v,A.handled=Dn v->Still H v
structure Cx.Ok (X:Cx):Prop where
 mod:Mod X.K X.mg X.base
 kind:X.env.scope.kind=.function
 glob:X.env.globals=IK
 blt:X.env.builtins=builtinsNs
 above:X.s₀.heap.objs.size<=X.env.locals
 inj:∀ x y c,X.env.cells.lookup x=Dn c->X.env.cells.lookup y=Dn c->x=y
 has:∀ x,(X.env.kindOf x=Dn .cell\/X.env.kindOf x=Dn .free)->∃ c,X.env.cells.lookup x=Dn c
 cab:∀ x c,X.fn x=true->X.env.cells.lookup x=Dn c->X.s₀.heap.objs.size<=c
 hd:X.calm=true->X.A.handled=JI
 qt:Quiet X.A X.H₀
 frames:X.A.frames=Dn X.stack
 stk:X.stack=X.outer\/(X.stack=X.env::X.outer/\X.env.frame=Dn X.env.locals)
 exf:∀ b∈X.ex,b≠X.env.locals/\∀ x c,X.env.cells.lookup x=Dn c->c≠b
 bs:∀ b o,X.base.get? b=Dn o->X.s₀.heap.get? b=Dn o/\X.H₀ b=JI
 bsz:X.base.objs.size<=X.s₀.heap.objs.size
 noex:∀ b o,X.base.get? b=Dn o->b∉X.ex
 exfs:∀ b∈X.ex,b∉X.fs
 funs:X.s₀.heap.FunFrames X.base X.outer
 frf:∀ b∈X.fs,X.H₀ b=JI
structure BR (X:Cx) (alP:List (Addr×Obj)) (σ : List (Option V)) (H:Hp) (s:Af):Prop where
 ok:X.Ok
 os:s.os=X.s₀.os
 bare:Qp s.gens
 base:Un X.fs X.ex X.H₀ H X.s₀.heap s.heap
 loc:∃ m,s.heap.Ns X.env.locals m/\∀ (i:Nat) (x:Str) (v:V),X.N[i]?=Dn x->σ[i]?=Dn (Dn v)->Vis X.env.scope x->∃ u,RelV v u/\Look X.env s.heap m x u
 cell:∀ x c,X.env.cells.lookup x=Dn c->∃ v,s.heap.IsCell c v
 free:H X.env.locals=JI
 freeC:∀ x c,X.env.cells.lookup x=Dn c->H c=JI
 pin:∀ p∈X.pn++alP,s.heap.get? p.1=Dn p.2/\H p.1=JI/\p.1≠X.env.locals/\p.1∉X.fs/\∀ v,p.2.data≠.cell v
 hok:K7 X.prog X.w H s.heap
 len:σ.length=X.N.length
section
variable {X:Cx}{alP:List (Addr×Obj)}{σ : List (Option V)}{s:Af}
theorem Cx.Ok.nofr (ok:X.Ok){o:Obj}(e:X.base.get? b=Dn o):b∉X.fs:=fun hb=>by
 have:=(ok.funs.mem hb).1
 rw [e] at this;cases this
theorem BR.bs (I:BR X alP σ H s):∀ b o,X.base.get? b=Dn o->s.heap.get? b=Dn o/\H b=JI:=fun b o e=>
 ⟨I.base.keep b o (I.ok.bs b o e).1 (I.ok.bs b o e).2 (I.ok.nofr e) (I.ok.noex b o e),I.base.free b o (I.ok.bs b o e).1 (I.ok.bs b o e).2 (I.ok.noex b o e)⟩
theorem BR.qt0 (I:BR X alP σ H s):Quiet X.A H:=fun v e=>⟨(I.ok.qt v e).1,(I.ok.qt v e).2.mono I.base.frzs⟩
theorem BR.bk (I:BR X alP σ H s):∀ b o,X.base.get? b=Dn o->s.heap.get? b=Dn o:=fun b o e=>(I.bs b o e).1
theorem BR.mod (I:BR X alP σ H s):Mod X.K X.mg X.base:=I.ok.mod
theorem BR.kIn (I:BR X alP σ H s):X.K.In s.heap:=I.ok.mod.kin.keeps I.bk
theorem BR.lt (I:BR X alP σ H s):X.env.locals<s.heap.objs.size:=let ⟨_,hn,_⟩:=I.loc;hn.lt
theorem BR.sz (I:BR X alP σ H s):X.s₀.heap.objs.size<=s.heap.objs.size:=J4 I.ok.above (Nat.le_of_lt I.lt)
theorem BR.nofs (I:BR X alP σ H s)(h:s.heap.objs.size<=a):a∉X.fs:=fun hb=>by
 obtain ⟨_,o,ho,_⟩:=I.ok.funs.mem hb;exact absurd (K5 (Hx ho)<|J4 I.sz h)<|Pa _
theorem BR.cne (I:BR X alP σ H s):∀ x c,X.env.cells.lookup x=Dn c->c≠X.env.locals:=fun x c e z=>by
 obtain ⟨v,o,ho,hd⟩:=I.cell x c e;obtain ⟨m,⟨o',es,ep,ho',hd',_⟩,_⟩:=I.loc;rw [z,ho'] at ho;cases ho;rw [hd'] at hd;cases hd
theorem BR.funs (I:BR X alP σ H s):s.heap.FunFrames X.base X.outer:=by
 have all:∀ (l:List Env),(∀ b∈frs l,b∈X.fs)->X.s₀.heap.FunFrames X.base l->s.heap.FunFrames X.base l:=by
  intro l;induction l with
  | nil=>intro _ _;trivial
  | cons env r ih=>
   intro hs hl;obtain ⟨hk,⟨L,o,hf,hn,ho,hd⟩,hr⟩:=hl;have hL:L∈X.fs:=hs L (by unfold frs;rw [List.filterMap_cons,hf];exact Ow);obtain ⟨sl,e⟩:=I.base.slot L o ho (I.ok.frf L hL) hL fun z=>I.ok.exfs L z hL
   exact ⟨hk,⟨L,_,hf,hn,e,hd⟩,ih (fun b hb=>hs b (by unfold frs;rw [List.filterMap_cons,hf];exact Ph _ hb)) hr⟩
 exact all X.outer (fun _ hb=>hb) I.ok.funs
theorem BR.stack (I:BR X alP σ H s):s.heap.FunFrames X.base X.stack:=by
 rcases I.ok.stk with e | ⟨e,hf⟩
 ·rw [e];exact I.funs
 ·rw [e];obtain ⟨m,hn,_⟩:=I.loc;refine .cons (by rw [I.ok.kind];decide) hf hn ?_ I.funs;exact XM<|J4 I.ok.bsz I.ok.above
theorem BR.stkSub (I:BR X alP σ H s):∀ b∈frs X.stack,b∈X.env.locals::X.fs:=fun b hb=>by
 rcases I.ok.stk with e | ⟨e,hf⟩
 ·rw [e] at hb;exact Ph _ hb
 ·rw [e] at hb;unfold frs at hb;rw [List.filterMap_cons,hf] at hb;exact hb
theorem BR.stkFree (I:BR X alP σ H s):∀ b∈frs X.stack,H b=JI:=fun b hb=>by
 rcases JN.mp (I.stkSub b hb) with e | hb
 ·rw [e];exact I.free
 ·obtain ⟨_,o,ho,_⟩:=I.ok.funs.mem hb;exact I.base.free b o ho (I.ok.frf b hb) fun z=>I.ok.exfs b z hb
theorem BR.stepG {g':Array GenState}{t':Nat}{d':Drawn}{ch:List Addr}(I:BR X alP σ H s)
  (hch:∀ b∈ch,(b∈X.ex\/X.s₀.heap.get? b=JI)/\b≠X.env.locals/\(∀ x c,X.env.cells.lookup x=Dn c->c≠b)/\∀ p∈X.pn++alP,p.1≠b)
  (keep:∀ b o,b≠X.env.locals->b∉X.fs->b∉ch->s.heap.get? b=Dn o->H b=JI->h'.get? b=Dn o)
  (slot:∀ b o,b≠X.env.locals->b∈X.fs->b∉ch->s.heap.get? b=Dn o->H b=JI->∃ sl,h'.get? b=Dn { o with slots:=sl }) (free:∀ b o,b∉ch->s.heap.get? b=Dn o->H b=JI->H' b=JI)
  (there:∀ b o,b∉ch->s.heap.get? b=Dn o->∃ o',h'.get? b=Dn o')
  (tups:∀ b xs,H b=Dn (.tup xs)->H' b=Dn (.tup xs)) (frzs:∀ b o u,H b=Dn (.frz o u)->H' b=Dn (.frz o u)) (tbls:∀ b ps,H b=Dn (.tbl ps)->∃ more,H' b=Dn (.tbl (ps++more)))
  (ns:∀ m,s.heap.Ns X.env.locals m->h'.Ns X.env.locals m) (hok:K7 X.prog X.w H' h') (hg:Qp g') :
  BR X alP σ H' { s with heap:=h',gens:=g',drawn:=d',toks:=t' }:=by
 have neL:∀ b o,X.s₀.heap.get? b=Dn o->b≠X.env.locals:=fun b o e=>Ko (K5 (Hx e) I.ok.above)
 have neC:∀ b o,X.s₀.heap.get? b=Dn o->b∉X.ex->b∉ch:=fun b o e hx hb=>by
  rcases (hch b hb).1 with z | z
  ·exact hx z
  ·rw [z] at e;cases e
 have cellK:∀ x c,X.env.cells.lookup x=Dn c->∀ v,s.heap.IsCell c v->h'.IsCell c v:=fun x c e v ⟨o,ho,hd⟩=>by
  have nch:c∉ch:=fun z=>(hch c z).2.2.1 x c e rfl
  by_cases hc:c∈X.fs
  ·obtain ⟨sl,q⟩:=slot c o (I.cne x c e) hc nch ho (I.freeC x c e);exact ⟨_,q,hd⟩
  ·exact ⟨o,keep c o (I.cne x c e) hc nch ho<|I.freeC x c e,hd⟩
 refine ⟨I.ok,I.os,hg,⟨fun b o e n hb hx=>?_,fun b o e n hb hx=>?_,fun b o e n hx=>?_,fun b o e hx=>?_,fun b xs e=>tups b xs<|I.base.tups b xs e,fun b o xs e=>frzs b o xs<|I.base.frzs b o xs e,fun b ps e=>?_⟩,?_,fun x c e=>?_,?_,fun x c e=>?_,fun p hp=>?_,hok,I.len⟩
 ·exact keep b o (neL b o e) hb (neC b o e hx) (I.base.keep b o e n hb hx)<|I.base.free b o e n hx
 ·obtain ⟨sl,e1⟩:=I.base.slot b o e n hb hx;obtain ⟨sl',e2⟩:=slot b _ (neL b o e) hb (neC b o e hx) e1 (I.base.free b o e n hx);exact ⟨sl',e2⟩
 ·obtain ⟨o',e1⟩:=I.base.there b o e hx;exact free b o' (neC b o e hx) e1<|I.base.free b o e n hx
 ·obtain ⟨o',e1⟩:=I.base.there b o e hx;exact there b o' (neC b o e hx) e1
 ·obtain ⟨m1,e1⟩:=I.base.tbls b ps e;obtain ⟨m2,e2⟩:=tbls b _ e1;exact ⟨m1++m2,by rw [e2,Array.append_assoc]⟩
 ·obtain ⟨m,hn,hl⟩:=I.loc;refine ⟨m,ns m hn,fun i x v e1 e2 e3=>?_⟩;obtain ⟨u,r,l⟩:=hl i x v e1 e2 e3;refine ⟨u,r,?_⟩;rcases l with l | ⟨k,c,e,z⟩
  ·exact .inl l
  ·exact .inr ⟨k,c,e,cellK x c e _ z⟩
 ·obtain ⟨v,z⟩:=I.cell x c e;exact ⟨v,cellK x c e v z⟩
 ·obtain ⟨m,⟨o,_,_,ho,_⟩,_⟩:=I.loc;exact free _ o (fun z=>(hch _ z).2.1 rfl) ho I.free
 ·obtain ⟨v,o,ho,hd⟩:=I.cell x c e;exact free c o (fun z=>(hch c z).2.2.1 x c e rfl) ho<|I.freeC x c e
 ·obtain ⟨e,n,ne,nf,d⟩:=I.pin p hp;have nch:p.1∉ch:=fun z=>(hch p.1 z).2.2.2 p hp rfl
  exact ⟨keep p.1 p.2 ne nf nch e n,free p.1 p.2 nch e n,ne,nf,d⟩
theorem BR.step {g':Array GenState}{t':Nat}{d':Drawn}{ch:List Addr}(I:BR X alP σ H s)
  (hch:∀ b∈ch,(b∈X.ex\/X.s₀.heap.objs.size<=b)/\b≠X.env.locals/\(∀ x c,X.env.cells.lookup x=Dn c->c≠b)/\∀ p∈X.pn++alP,p.1≠b)
  (keep:∀ b o,b≠X.env.locals->b∉X.fs->b∉ch->s.heap.get? b=Dn o->H b=JI->h'.get? b=Dn o)
  (slot:∀ b o,b≠X.env.locals->b∈X.fs->b∉ch->s.heap.get? b=Dn o->H b=JI->∃ sl,h'.get? b=Dn { o with slots:=sl }) (free:∀ b o,b∉ch->s.heap.get? b=Dn o->H b=JI->H' b=JI)
  (there:∀ b o,b∉ch->s.heap.get? b=Dn o->∃ o',h'.get? b=Dn o')
  (tups:∀ b xs,H b=Dn (.tup xs)->H' b=Dn (.tup xs)) (frzs:∀ b o u,H b=Dn (.frz o u)->H' b=Dn (.frz o u)) (tbls:∀ b ps,H b=Dn (.tbl ps)->∃ more,H' b=Dn (.tbl (ps++more)))
  (ns:∀ m,s.heap.Ns X.env.locals m->h'.Ns X.env.locals m) (hok:K7 X.prog X.w H' h') (hg:Qp g') :
  BR X alP σ H' { s with heap:=h',gens:=g',drawn:=d',toks:=t' }:=
 I.stepG (ch:=ch) (fun b z=>⟨(hch b z).1.imp id fun q=>XM q,(hch b z).2⟩) keep slot free there tups frzs tbls ns hok hg
theorem BR.un {t':Nat}(I:BR X alP σ H s)(u:Un X.fs [] H H' s.heap h')(hok:K7 X.prog X.w H' h'):BR X alP σ H' { s with heap:=h',toks:=t' }:=by
 obtain ⟨m,⟨o,es,ep,ho,r⟩,_⟩:=id I.loc;obtain ⟨sl,hL⟩:=u.any ho I.free (by simp);exact I.step (g':=s.gens) (d':=s.drawn) (ch:=[]) (fun _ z=>nomatch z) (fun b o _ hb _ e n=>u.keep b o e n hb (by simp)) (fun b o _ hb _ e n=>u.slot b o e n hb (by simp)) (fun b o _ e n=>u.free b o e n (by simp)) (fun b o _ e=>u.there b o e (by simp)) u.tups u.frzs u.tbls (fun m' hm=>by
  obtain ⟨o',es',ep',ho',r'⟩:=hm;rw [ho] at ho';cases ho';exact ⟨_,es',ep',hL,r'⟩) hok I.bare
theorem BR.call {g':Array GenState}{t':Nat}{d':Drawn}{ch:List Addr}(I:BR X alP σ H s)(u:Un (frs X.stack) ch H H' s.heap h')(hok:K7 X.prog X.w H' h')(hg:Qp g')
  (hch:∀ b∈ch,(b∈X.ex\/X.s₀.heap.objs.size<=b)/\b≠X.env.locals/\(∀ x c,X.env.cells.lookup x=Dn c->c≠b)/\∀ p∈X.pn++alP,p.1≠b) :
  BR X alP σ H' { s with heap:=h',gens:=g',drawn:=d',toks:=t' }:=by
 obtain ⟨m,⟨o,es,ep,ho,r⟩,_⟩:=id I.loc;obtain ⟨sl,hL⟩:=u.any ho I.free fun z=>(hch _ z).2.1 rfl
 exact I.step (ch:=ch) hch (fun b o hL hb hc e n=>u.keep b o e n (fun z=>(JN.mp (I.stkSub b z)).elim hL hb) hc) (fun b o _ _ hc e n=>u.any e n hc) (fun b o hc e n=>u.free b o e n hc) (fun b o hc e=>u.there b o e hc) u.tups u.frzs u.tbls (fun m' hm=>by
  obtain ⟨o',es',ep',ho',r'⟩:=hm;rw [ho] at ho';cases ho';exact ⟨_,es',ep',hL,r'⟩) hok hg
theorem BR.turned {t':Nat}{it:Addr}(I:BR X alP σ H s)(k:∀ b o,b≠it->s.heap.get? b=Dn o->h'.get? b=Dn o)(hn:H it=JI)(hL:it≠X.env.locals)
  (h1:it∈X.ex\/X.s₀.heap.objs.size<=it) (h2:∀ x c,X.env.cells.lookup x=Dn c->c≠it) (h3:∀ p∈X.pn++alP,p.1≠it):BR X alP σ H { s with heap:=h',toks:=t' }:=by
 have nit:∀ b u,H b=Dn u->b≠it:=fun b u e z=>by rw [z,hn] at e;cases e
 refine I.step (g':=s.gens) (d':=s.drawn) (ch:=[it]) (fun b hb=>?_) (fun b o _ _ hc e _=>k b o (fun z=>hc<|by simp [z]) e) (fun b o _ _ hc e _=>⟨o.slots,k b o (fun z=>hc<|by simp [z]) e⟩) (fun _ _ _ _ n=>n)
  (fun b o hc e=>⟨o,k b o (fun z=>hc (by simp [z])) e⟩) (fun _ _ e=>e) (fun _ _ _ e=>e) (fun b ps e=>⟨#[],by rw [e];simp⟩) (fun m hm=>?_) (fun b u e=>?_) I.bare
 ·have e:b=it:=by simpa using hb
  subst e;exact ⟨h1,hL,h2,h3⟩
 ·obtain ⟨o,es,ep,ho,r⟩:=hm;exact ⟨o,es,ep,k _ o (Jo hL) ho,r⟩
 ·refine (I.hok b u e).stay (fun c v hc q=>k c v ?_ q) (fun _ q=>q) fun _ _ q=>q;rcases hc with z | z
  ·rw [z];exact nit b u e
  ·exact nit c _ z
theorem BR.tok (I:BR X alP σ H s)(t:Nat):BR X alP σ H { s with toks:=t }:=I.un (h':=s.heap) (t':=t) Un.refl I.hok
theorem BR.kept {t':Nat}(I:BR X alP σ H s)(k:∀ b u,s.heap.get? b=Dn u->h'.get? b=Dn u):BR X alP σ H { s with heap:=h',toks:=t' }:=I.un (Un.kept k) (I.hok.kept k)
theorem BR.laid {a:Addr}{o:HO}{t':Nat}(I:BR X alP σ H s)(k:∀ b u,s.heap.get? b=Dn u->h'.get? b=Dn u)(hp:s.heap.objs.size<=a)(new:iW X.prog X.w (Dv H a o) h' a o) :
  BR X alP σ (Dv H a o) { s with heap:=h',toks:=t' }:=I.un (Un.laid k hp (I.hok.fresh hp)) (I.hok.laid k hp new)
theorem BR.write {x e:Addr}{o:HO}{t':Nat}(I:BR X alP σ H s)(mu:Mut (H x))(he:e=x\/H e=Dn (.own x))(k:∀ b u,b≠e->s.heap.get? b=Dn u->h'.get? b=Dn u)(heo:∃ u,h'.get? e=Dn u)
  (new:iW X.prog X.w (Dv H x o) h' x o):BR X alP σ (Dv H x o) { s with heap:=h',toks:=t' }:=I.un (Un.write mu he k heo) (I.hok.write mu he k heo new)
theorem BR.weak {σ':List (Option V)}(I:BR X alP σ H s)(hl:σ'.length = σ.length)(w:∀ (i:Nat) v,σ'[i]?=Dn (Dn v)->σ[i]?=Dn (Dn v)):BR X alP σ' H s:=
 ⟨I.ok,I.os,I.bare,I.base,let ⟨m,hn,hl'⟩:=I.loc;⟨m,hn,fun i x v e1 e2 e3=>hl' i x v e1 (w i v e2) e3⟩,I.cell,I.free,I.freeC,I.pin,I.hok,hl.trans I.len⟩
theorem BR.pins_of {pins':List (Addr×Obj)}(I:BR X alP σ H s)(h:∀ p∈pins',s.heap.get? p.1=Dn p.2/\H p.1=JI/\p.1≠X.env.locals/\p.1∉X.fs/\∀ v,p.2.data≠.cell v):BR X pins' σ H s:=
 ⟨I.ok,I.os,I.bare,I.base,I.loc,I.cell,I.free,I.freeC,fun p hp=>(Py.mp hp).elim (fun z=>I.pin p (XQ _ z)) (h p),I.hok,I.len⟩
theorem Fl {N:List Str}(hN:N.Nodup){i j:Nat}{x:Str}(a:N[i]?=Dn x)(b:N[j]?=Dn x):i=j:=by
 obtain ⟨h1,e1⟩:=Pn.mp a;obtain ⟨h2,e2⟩:=Pn.mp b;exact (List.getElem_inj hN).mp (e1.trans e2.symm)
theorem Ba {M:Model}{A:Dl}{E:Mk->Af->Prop}{i:Nat}{x:Str}{v:V}{Q:Unit->Af->Prop}(I:BR X alP σ H s)(hN:X.N.Nodup)(hi:X.N[i]?=Dn x)(hx:Loc X.env.scope x)(r:RelV v u)
  (h:∀ s',BR X alP (σ.set i (Dn v)) H s'->(∃ a,Ro a s.heap s'.heap/\(a=X.env.locals\/X.env.cells.lookup x=Dn a))->Q () s') (hf:X.fn x=true\/X.env.scope.names.lookup x=Dn .local:=by first | exact .inl rfl | exact .inr rfl | assumption):Bm M A (storeName X.env x u) Q E s:=by
 obtain ⟨m,hn,hl⟩:=id I.loc;have hcls:(X.env.scope.kind==.class||(X.env.scope.kind==.module&&X.env.locals != X.env.globals))=false:=by rw [I.ok.kind];rfl
 have hiσ : i < σ.length:=by rw [I.len];exact (Pn.mp hi).1
 have cne:=I.cne;have tracked:∀ {a:Addr} {h':Heap},(∃ o,s.heap.get? a=Dn o/\H a=JI)->Ro a s.heap h'->K7 X.prog X.w H h':=fun {a h'} ha hs b ob e=>by
  obtain ⟨_,_,hfree⟩:=ha;refine (I.hok b ob e).stay (fun c w' hc q=>(hs.2 c ?_).trans q) (fun _ q=>q) fun _ _ q=>q;rintro rfl;rcases hc with rfl | hc
  ·rw [hfree] at e;cases e
  ·rw [hfree] at hc;cases hc
 rcases hx with hk | hk
 ·refine wpAny_storeName_local hk hn (fun h' hn' hs=>?_) hcls;obtain ⟨oL,_,_,hoL,_⟩:=id hn;refine h _ ⟨I.ok,I.os,I.bare,⟨fun b o e n hb hx=>?_,fun b o e n hb hx=>?_,I.base.free,fun b o e hx=>?_,I.base.tups,I.base.frzs,I.base.tbls⟩,⟨_,hn',fun j y v' e1 e2 e3=>?_⟩,fun y c e=>?_,I.free,I.freeC,fun p hp=>?_,tracked ⟨oL,hoL,I.free⟩ hs,by simpa using I.len⟩ ⟨_,hs,.inl rfl⟩
  ·exact (hs.2 b<|Ko<|K5 (Hx e) I.ok.above).trans (I.base.keep b o e n hb hx)
  ·obtain ⟨sl,e1⟩:=I.base.slot b o e n hb hx;exact ⟨sl,(hs.2 b<|Ko<|K5 (Hx e) I.ok.above).trans e1⟩
  ·obtain ⟨o',e1⟩:=I.base.there b o e hx;exact ⟨o',(hs.2 b<|Ko<|K5 (Hx e) I.ok.above).trans e1⟩
  ·by_cases hj:j=i
   ·subst hj;rw [hi] at e1;cases e1;rw [List.getElem?_set_self hiσ] at e2;cases e2;exact ⟨u,r,.inl ⟨hk,by simp⟩⟩
   ·rw [Xv (Jo hj)] at e2;obtain ⟨u',r',q⟩:=hl j y v' e1 e2 e3;refine ⟨u',r',?_⟩;rcases q with ⟨k,e⟩ | ⟨k,c,e,z⟩
    ·refine .inl ⟨k,?_⟩;have:y≠x:=fun e=>hj (Fl hN e1 (e ▸ hi))
     simp [this,e]
    ·exact .inr ⟨k,c,e,z.sameBut hs<|cne y c e⟩
  ·obtain ⟨w',z⟩:=I.cell y c e;exact ⟨w',z.sameBut hs<|cne y c e⟩
  ·obtain ⟨e,n,ne,nf,d⟩:=I.pin p hp;exact ⟨(hs.2 p.1 ne).trans e,n,ne,nf,d⟩
 ·have hfn:X.fn x=true:=by
   rcases hf with z | z
   ·exact z
   ·rw [z] at hk;cases hk
  obtain ⟨c,hc⟩:=I.ok.has x (.inl hk);obtain ⟨w',z⟩:=I.cell x c hc;refine wpAny_storeName_cell I.ok.kind hk hc z<|fun h' hc' hs=>?_
  obtain ⟨oc,hoc,hocd⟩:=id z;refine h { s with heap:=h' } ⟨I.ok,I.os,I.bare,⟨fun b o e n hb hx=>?_,fun b o e n hb hx=>?_,I.base.free,fun b o e hx=>?_,I.base.tups,I.base.frzs,I.base.tbls⟩,⟨m,hn.sameBut hs<|Jo<|cne x c hc,fun j y v' e1 e2 e3=>?_⟩,fun y c' e=>?_,I.free,I.freeC,fun p hp=>?_,tracked ⟨oc,hoc,I.freeC x c hc⟩ hs,by simpa using I.len⟩ ⟨c,hs,.inr hc⟩
  ·exact (hs.2 b<|Ko<|K5 (Hx e)<|I.ok.cab x c hfn hc).trans (I.base.keep b o e n hb hx)
  ·obtain ⟨sl,e1⟩:=I.base.slot b o e n hb hx;exact ⟨sl,(hs.2 b<|Ko<|K5 (Hx e)<|I.ok.cab x c hfn hc).trans e1⟩
  ·obtain ⟨o',e1⟩:=I.base.there b o e hx;exact ⟨o',(hs.2 b<|Ko<|K5 (Hx e)<|I.ok.cab x c hfn hc).trans e1⟩
  ·by_cases hj:j=i
   ·subst hj;rw [hi] at e1;cases e1;rw [List.getElem?_set_self hiσ] at e2;cases e2;exact ⟨u,r,.inr ⟨.inl hk,c,hc,hc'⟩⟩
   ·rw [Xv (Jo hj)] at e2;obtain ⟨u',r',q⟩:=hl j y v' e1 e2 e3;refine ⟨u',r',?_⟩;rcases q with q | ⟨k,c',e,z'⟩
    ·exact .inl q
    ·refine .inr ⟨k,c',e,z'.sameBut hs ?_⟩;rintro rfl;exact hj<|Fl hN e1<|I.ok.inj _ _ _ e hc ▸ hi
  ·by_cases hcc:c'=c
   ·subst hcc;exact ⟨_,hc'⟩
   ·obtain ⟨w2,z2⟩:=I.cell y c' e;exact ⟨w2,z2.sameBut hs hcc⟩
  ·obtain ⟨e,n,ne,nf,d⟩:=I.pin p hp;refine ⟨(hs.2 p.1 ?_).trans e,n,ne,nf,d⟩;intro q;rw [q,hoc] at e;have q':oc=p.2:=JD e;exact d w' (by rw [<-q'];exact hocd)
theorem nF {M:Model}{A:Dl}{E:Mk->Af->Prop}{i:Nat}{x:Str}{v:V}{Q:Unit->Af->Prop}(I:BR X alP σ H s)(hN:X.N.Nodup)(hi:X.N[i]?=Dn x)(hx:Loc X.env.scope x)(r:RelV v u)
  (h:∀ s',BR X alP (σ.set i (Dn v)) H s'->Q () s') (hf:X.fn x=true\/X.env.scope.names.lookup x=Dn .local:=by first | exact .inl rfl | exact .inr rfl | assumption):Bm M A (storeName X.env x u) Q E s:=
 Ba I hN hi hx r (fun s' I' _=>h s' I') hf
theorem BR.call' {s':Af}{ch:List Addr}(I:BR X alP σ H s)(ho:s'.os=s.os)(u:Un (frs X.stack) ch H H' s.heap s'.heap)(hok:K7 X.prog X.w H' s'.heap)(hg:Qp s'.gens)
  (hch:∀ b∈ch,(b∈X.ex\/X.s₀.heap.objs.size<=b)/\b≠X.env.locals/\(∀ x c,X.env.cells.lookup x=Dn c->c≠b)/\∀ p∈X.pn++alP,p.1≠b):BR X alP σ H' s':=by
 obtain ⟨h',g',d',t',o'⟩:=s';have e:o'=s.os:=ho;subst e;exact I.call (g':=g') (t':=t') (d':=d') u hok hg hch
end
variable {X : Cx}{alP : List (Addr×Obj)}{M : Model}{i j : Nat}{A : Dl}{E : Mk->Af->Prop}{s' : Af}
abbrev XK:=Mk->Option Addr->Hp->Prop
abbrev St:=List (Option V)
abbrev VK:=V->Hp->Prop
abbrev TE:=St->Hp->VK->Prop
abbrev TT:=St->Hp->(Bool->Hp->Prop)->Prop
abbrev TA:=St->Hp->(List V->Hp->Prop)->Prop
structure Ends where
 nx:St->Hp->Prop
 rt:VK
 bk:St->Hp->Prop:=fun _ _=>False
 ct:St->Hp->Prop:=fun _ _=>False
abbrev TS:=Ends->St->Hp->Prop
def EP (X:Cx)(alP:List (Addr×Obj))(σ : St)(Q:VK)(u:Mk)(s':Af):Prop:=∃ v H',BR X alP σ H' s'/\RelV v u/\Q v H'
def TP (X:Cx)(alP:List (Addr×Obj))(σ : St)(Q:Bool->Hp->Prop)(b:Bool)(s':Af):Prop:=∃ H',BR X alP σ H' s'/\Q b H'
def zad (X:Cx)(alP:List (Addr×Obj))(σ : St)(Q:List V->Hp->Prop)(us:List Mk)(s':Af):Prop:=∃ vs H',BR X alP σ H' s'/\Bp vs us/\Q vs H'
def SP (X:Cx)(alP:List (Addr×Obj))(D:Ends)(f:Flow)(s':Af):Prop:=
 match f with
 | .next=>∃ σ' H',BR X alP σ' H' s'/\D.nx σ' H'
 | .brk=>∃ σ' H',BR X alP σ' H' s'/\D.bk σ' H'
 | .cont=>∃ σ' H',BR X alP σ' H' s'/\D.ct σ' H'
 | .ret u=>∃ v σ' H',BR X alP σ' H' s'/\RelV v u/\D.rt v H'
def PE (X:Cx)(e:Expr)(t:TE):Prop:=
 ∀ (alP:List (Addr×Obj)) (s:Af) (σ : St) (H:Hp) (Q:VK),BR X alP σ H s->t σ H Q->Bm (CN X.prog X.w) X.A (eval e X.env) (EP X alP σ Q) X.xe s
def PT (X:Cx)(e:Expr)(t:TT):Prop:=
 ∀ (alP:List (Addr×Obj)) (s:Af) (σ : St) (H:Hp) (Q:Bool->Hp->Prop),BR X alP σ H s->t σ H Q->Bm (CN X.prog X.w) X.A (isTrue e X.env (eval e X.env)) (TP X alP σ Q) X.xe s
def PW (X:Cx)(e:Expr)(t:TT):Prop:=
 ∀ (whole:Sem Mk) (alP:List (Addr×Obj)) (s:Af) (σ : St) (H:Hp) (Q:Bool->Hp->Prop),BR X alP σ H s->t σ H Q->Bm (CN X.prog X.w) X.A (isTrue e X.env whole) (TP X alP σ Q) X.xe s
variable {e : Expr}
theorem PW.pt {t:TT}(h:PW X e t):PT X e t:=h _
def PA (X:Cx)(es:List Expr)(t:TA):Prop:=
 ∀ (pos:Pos) (alP:List (Addr×Obj)) (s:Af) (σ : St) (H:Hp) (Q:List V->Hp->Prop),BR X alP σ H s->t σ H Q->Bm (CN X.prog X.w) X.A (spliced (Jd pos (Cy es X.env))) (zad X alP σ Q) X.xe s
def PS (X:Cx)(st:Stmt)(t:TS):Prop:=
 ∀ (alP:List (Addr×Obj)) (s:Af) (σ : St) (H:Hp) (D:Ends),BR X alP σ H s->t D σ H->Bm (CN X.prog X.w) X.A (exec st X.env) (SP X alP D) X.xe s
def Nv (X:Cx)(st:List Stmt)(t:TS):Prop:=
 ∀ (alP:List (Addr×Obj)) (s:Af) (σ : St) (H:Hp) (D:Ends),BR X alP σ H s->t D σ H->Bm (CN X.prog X.w) X.A (execs st X.env) (SP X alP D) X.xe s
theorem HJ {α : Type}{t:Sem α}{Q Q':α->Af->Prop}{s:Af}(h:Bm M A t Q E s)(hQ:∀ a s,Q a s->Q' a s):Bm M A t Q' E s:=K3 h hQ fun _ _ x=>x
section
def QV (i:Nat):TE:=fun σ H Q=>∃ v,σ[i]?=Dn (Dn v)/\Q v H
def tC (v:V):TE:=fun _ H Q=>Q v H
theorem abf {x:Str}{pos:Pos}(hN:X.N[i]?=Dn x)(hv:Vis X.env.scope x)(hd:(x==("__debug__" : Str))=false:=by decide)(hcd:(x==("__classdict__" : Str))=false:=by decide):PE X (.Name x pos) (QV i):=by
 intro alP s σ H Q I h;obtain ⟨v,e,h⟩:=h;obtain ⟨m,hn,hl⟩:=I.loc;obtain ⟨u,r,l⟩:=hl i x v hN e hv;have fin:EP X alP σ Q u s:=⟨v,H,I,r,h⟩
 rcases l with ⟨hk,hm⟩ | ⟨hk,c,hc,hcell⟩
 ·exact wpAny_Name (wpAny_loadName_local I.ok.kind hk hn hm fin) hd
 ·rcases hk with hk | hk
  ·exact wpAny_Name (wpAny_loadName_cell I.ok.kind hk hc hcell fin) hd
  ·exact wpAny_Name (wpAny_loadName_free I.ok.kind hk hc hcell fin hcd) hd
theorem abK {i j pos}:PE X (.Constant (.int i) j pos) (tC (.int i)):=fun _ _ _ H _ I h=>wpAny_Constant_int ⟨.int i,H,I.tok _,⟨_,rfl⟩,h⟩
theorem ac5 {b j pos}:PE X (.Constant (.bool b) j pos) (tC (.bl b)):=fun _ _ _ H _ I h=>Constant_bool ⟨.bl b,H,I,rfl,h⟩
theorem aaf {j pos}:PE X (.Constant .none j pos) (tC .non):=fun _ _ _ H _ I h=>Constant_none ⟨.non,H,I,rfl,h⟩
theorem aby {x j pos}:PE X (.Constant (.str x) j pos) (tC (.str x)):=fun _ _ _ H _ I h=>Calls.Constant_str ⟨.str x,H,I.tok _,⟨_,rfl⟩,h⟩
def Gl (X:Cx)(x:Str):Prop:=X.env.kindOf x=Dn .globalImplicit
theorem oZ {s:Af}{σ : St}{x:Str}{pos:Pos}{Q:Mk->Af->Prop}(I:BR X alP σ H s)(hg:Gl X x)(hm:X.mg x=Dn u)(h:Q u s)
  (hd:(x==("__debug__" : Str))=false:=by decide):Bm (CN X.prog X.w) X.A (eval (.Name x pos) X.env) Q E s:=
 Y5 I.ok.kind hg (Calls.loadGlobal_global (by rw [I.ok.glob];exact I.mod.glob.keeps I.bk) hm h) hd
theorem sW {s:Af}{σ : St}{x:Str}{pos:Pos}{Q:Mk->Af->Prop}(I:BR X alP σ H s)(hg:Gl X x)(hm:X.mg x=JI)(hv:Ra x=Dn u)(h:Q u s)
  (hn:x ≠ "__name__":=by decide) (hd:(x==("__debug__" : Str))=false:=by decide):Bm (CN X.prog X.w) X.A (eval (.Name x pos) X.env) Q E s:=by
 obtain ⟨mb,h1,h2⟩:=I.mod.blt;exact Y5 I.ok.kind hg (Calls.loadGlobal_builtin (by rw [I.ok.glob];exact I.mod.glob.keeps I.bk) hm (by rw [I.ok.blt];exact h1.keeps I.bk) ((h2 x hn).trans hv) h) hd
theorem yK {x:Str}{v:V}{pos:Pos}(hg:Gl X x)(hm:X.mg x=Dn u)(r:RelV v u)(hd:(x==("__debug__" : Str))=false:=by decide):PE X (.Name x pos) (tC v):=
 fun _ _ _ H _ I h=>oZ I hg hm ⟨v,H,I,r,h⟩ hd
theorem lX {x:Str}{v:V}{pos:Pos}(hg:Gl X x)(hm:X.mg x=JI)(hv:Ra x=Dn u)(r:RelV v u)(hn:x ≠ "__name__":=by decide)(hd:(x==("__debug__" : Str))=false:=by decide):PE X (.Name x pos) (tC v):=
 fun _ _ _ H _ I h=>sW I hg hm hv ⟨v,H,I,r,h⟩ hn hd
variable {a b:Expr}{ta tb:TE}{pos:Pos}
variable {tA tB':TT}{rest:List Expr}
def afn (t u:TT):TT:=fun σ H Q=>t σ H fun c H1=>if c=true then u σ H1 Q else Q false H1
def tOr (t u:TT):TT:=fun σ H Q=>t σ H fun c H1=>if c=true then Q true H1 else u σ H1 Q
def afu (t:TT):TT:=fun σ H Q=>t σ H fun c H1=>Q (!c) H1
theorem ajK (ha:PT X a tA):PW X (.BoolOp .And [a] pos) tA:=by
 intro wh alP s σ H Q I h;refine isTrue_and<|HJ (ha alP s σ H Q I h) fun c s1 e=>?_
 cases c with
 | true=>exact isTrue_and_nil e
 | false=>exact e
theorem aaB (ha:PT X a tA):PW X (.BoolOp .Or [a] pos) tA:=by
 intro wh alP s σ H Q I h;refine isTrue_or<|HJ (ha alP s σ H Q I h) fun c s1 e=>?_
 cases c with
 | false=>exact isTrue_or_nil e
 | true=>exact e
theorem abo (ha:PT X a tA)(hb:PW X (.BoolOp .And (b::rest) pos) tB'):PW X (.BoolOp .And (a::b::rest) pos) (afn tA tB'):=by
 intro wh alP s σ H Q I h;refine isTrue_and<|HJ (ha alP s σ H _ I h) fun c s1 ⟨H1,I1,q1⟩=>?_
 cases c with
 | true=>exact hb wh alP s1 σ H1 Q I1 q1
 | false=>exact ⟨H1,I1,q1⟩
theorem acG (ha:PT X a tA)(hb:PW X (.BoolOp .Or (b::rest) pos) tB'):PW X (.BoolOp .Or (a::b::rest) pos) (tOr tA tB'):=by
 intro wh alP s σ H Q I h;refine isTrue_or<|HJ (ha alP s σ H _ I h) fun c s1 ⟨H1,I1,q1⟩=>?_
 cases c with
 | true=>exact ⟨H1,I1,q1⟩
 | false=>exact hb wh alP s1 σ H1 Q I1 q1
theorem ZR (ha:PT X a tA):PT X (.UnaryOp .Not a pos) (afu tA):=by
 intro alP s σ H Q I h;exact isTrue_not<|ha alP s σ H (fun c H1=>Q (!c) H1) I h
def aea (ta tb:TE):TE:=fun σ H Q=>ta σ H fun x H1=>∃ c,x=.bl c/\if c=true then tb σ H1 Q else Q (.bl false) H1
def adu (ta:TE):TE:=fun σ H Q=>ta σ H fun x H1=>∃ c,x=.bl c/\Q (.bl (!c)) H1
theorem ZQ {op}{t:TE}(h:PE X a t):PE X (.BoolOp op [a] pos) t:=fun alP s σ H Q I hw=>BoolOp_one (h alP s σ H Q I hw)
theorem abC (ha:PE X a ta)(hb:PE X (.BoolOp .And (b::rest) pos) tb):PE X (.BoolOp .And (a::b::rest) pos) (aea ta tb):=by
 intro alP s σ H Q I h;refine BoolOp_and<|HJ (ha alP s σ H _ I h) fun v s1 ⟨x,H1,I1,r1,q1⟩=>?_
 obtain ⟨c,rfl,q1⟩:=q1;cases r1;refine Wg ?_;cases c with
 | true=>exact hb alP s1 σ H1 Q I1 q1
 | false=>exact ⟨.bl false,H1,I1,rfl,q1⟩
theorem aaD (ha:PE X a ta):PE X (.UnaryOp .Not a pos) (adu ta):=by
 intro alP s σ H Q I h;refine UnaryOp_<|HJ (ha alP s σ H _ I h) fun v s1 ⟨x,H1,I1,r1,q1⟩=>?_
 obtain ⟨c,rfl,q1⟩:=q1;cases r1;exact not_of<|Wg ⟨.bl<|!c,H1,I1,rfl,q1⟩
def tIf (t:TT)(ta tb:TE):TE:=fun σ H Q=>t σ H fun c H1=>if c=true then ta σ H1 Q else tb σ H1 Q
theorem ajX {c:Expr}(hc:PT X c tA)(ha:PE X a ta)(hb:PE X b tb):PE X (.IfExp c a b pos) (tIf tA ta tb):=by
 intro alP s σ H Q I h;refine wpAny_IfExp<|HJ (hc alP s σ H _ I h) fun d s1 ⟨H1,I1,q1⟩=>?_
 cases d with
 | true=>exact ha alP s1 σ H1 Q I1 q1
 | false=>exact hb alP s1 σ H1 Q I1 q1
end
variable {pos : Pos}{σ : St}{ta : TE}{Q : Mk->Af->Prop}
def JR (K:Bl)(H:Hp)(a:Addr)(xs:List V):Prop:=
 Rd H a (.lst xs) \/
  ∃ (o:Obj) (its:Array Mk) (n:Nat),K.lookup a=Dn o/\o.cls=.type "list"/\o.dict=JI/\o.data=.seq its n/\its.size<=Ht/\Bp xs its.toList
def Jh (K:Bl)(H:Hp)(a:Addr)(xs:List V):Prop:=
 Rd H a (.tup xs) \/
  ∃ (o:Obj) (its:Array Mk) (n:Nat),K.lookup a=Dn o/\o.cls=.type "tuple"/\o.data=.seq its n/\its.size<=Ht/\Bp xs its.toList/\o.dict=JI
def af7:Mk->Option V
 | .none=>Dn .non
 | .bool b=>Dn (.bl b)
 | .int i _=>Dn (.int i)
 | .str x _=>Dn (.str x)
 | .bytes b _=>Dn (.byt b)
 | .float b _=>Dn (.flt b)
 | .ref a=>Dn (.ref a)
 | .type n=>Dn (.ty n)
 | _=>JI
theorem RelV.abs {x:V}(r:RelV x u):af7 u=Dn x:=by
 cases x with
 | non=>cases r;rfl
 | bl _=>cases r;rfl
 | int _=>obtain ⟨t,rfl⟩:=r;rfl
 | str _=>obtain ⟨t,rfl⟩:=r;rfl
 | byt _=>obtain ⟨t,rfl⟩:=r;rfl
 | flt _=>obtain ⟨t,rfl⟩:=r;rfl
 | ref _=>cases r;rfl
 | ty _=>cases r;rfl
theorem RelV.inj {x y:V}(r:RelV x u)(q:RelV y u):x=y:=JD (r.abs.symm.trans q.abs)
theorem Bp.inj:∀ {xs ys:List V} {us:List Mk},Bp xs us->Bp ys us->xs=ys
 | _,_,_,.nil,.nil=>rfl
 | _,_,_,.cons r t,.cons r' t'=>by rw [r.inj r',Bp.inj t t']
section
variable {s:Af}{ys:List V}
theorem JR.of {K:Bl}(h:H a=Dn (.lst xs)):JR K H a xs:=.inl (.inl h)
theorem Jh.of {K:Bl}(h:H a=Dn (.tup xs)):Jh K H a xs:=.inl (.inl h)
theorem BR.list (I:BR X alP σ H s)(h:JR X.K H a xs):∃ its:List Mk,Bp xs its/\PlainL s.heap a its.toArray/\xs.length<=Ht:=by
 rcases h with h | ⟨o,its,n,hk,hc,hd,hs,hz,r⟩
 ·obtain ⟨z,its,n,r,e⟩:=h.ok I.hok;exact ⟨its,r,⟨_,n,e,rfl,rfl,rfl⟩,z⟩
 ·refine ⟨its.toList,r,⟨o,n,I.kIn a o hk,hc,hd,by simpa using hs⟩,?_⟩;have e:=r.length;simp only [Array.length_toList] at e;lia
theorem BR.tupO (I:BR X alP σ H s)(h:Jh X.K H a xs):∃ its:List Mk,Bp xs its/\RG s.heap a its.toArray/\xs.length<=Ht:=by
 rcases h with h | ⟨o,its,n,hk,hc,hs,hz,r,hd⟩
 ·obtain ⟨z,its,r,p⟩:=h.ok I.hok;exact ⟨its,r,p,z⟩
 ·refine ⟨its.toList,r,⟨o,I.kIn a o hk,hc,⟨n,by simpa using hs⟩,hd⟩,?_⟩;have e:=r.length;simp only [Array.length_toList] at e;lia
theorem BR.tuple (I:BR X alP σ H s)(h:Jh X.K H a xs):∃ its:List Mk,Bp xs its/\IsTup s.heap a its.toArray/\xs.length<=Ht:=let ⟨its,r,p,z⟩:=I.tupO h;⟨its,r,p.tup,z⟩
theorem BR.list_inj (I:BR X alP σ H s)(h:JR X.K H a xs)(h':JR X.K H a ys):xs=ys:=by
 obtain ⟨its,r,⟨o,n,e,_,_,d⟩,_⟩:=I.list h;obtain ⟨its',r',⟨o',n',e',_,_,d'⟩,_⟩:=I.list h';rw [e] at e';cases e';rw [d] at d';injection d' with d1 _
 have:its=its':=by simpa using congrArg Array.toList d1
 subst this;exact r.inj r'
theorem BR.tuple_inj (I:BR X alP σ H s)(h:Jh X.K H a xs)(h':Jh X.K H a ys):xs=ys:=by
 obtain ⟨its,r,⟨o,e,_,n,d⟩,_⟩:=I.tuple h;obtain ⟨its',r',⟨o',e',_,n',d'⟩,_⟩:=I.tuple h';rw [e] at e';cases e';rw [d] at d';injection d' with d1 _
 have:its=its':=by simpa using congrArg Array.toList d1
 subst this;exact r.inj r'
end
variable {K : Bl}
abbrev Cx.wish (X:Cx)(E:Mk->Af->Prop):Cx:={ X with xe:=E }
abbrev Cx.nox (X:Cx):Cx:=X.wish fun _ _=>False
theorem Cx.Ok.wish {X:Cx}(ok:X.Ok)(E:Mk->Af->Prop):(X.wish E).Ok:=
 ⟨ok.mod,ok.kind,ok.glob,ok.blt,ok.above,ok.inj,ok.has,ok.cab,ok.hd,ok.qt,ok.frames,ok.stk,ok.exf,ok.bs,ok.bsz,ok.noex,ok.exfs,ok.funs,ok.frf⟩
theorem Cx.Ok.unwish (ok:(X.wish E).Ok):X.Ok:=
 ⟨ok.mod,ok.kind,ok.glob,ok.blt,ok.above,ok.inj,ok.has,ok.cab,ok.hd,ok.qt,ok.frames,ok.stk,ok.exf,ok.bs,ok.bsz,ok.noex,ok.exfs,ok.funs,ok.frf⟩
section
variable {s:Af}
theorem BR.wish (I:BR X alP σ H s)(E:Mk->Af->Prop):BR (X.wish E) alP σ H s:=⟨I.ok.wish E,I.os,I.bare,I.base,I.loc,I.cell,I.free,I.freeC,I.pin,I.hok,I.len⟩
theorem BR.unwish (I:BR (X.wish E) alP σ H s):BR X alP σ H s:=⟨I.ok.unwish,I.os,I.bare,I.base,I.loc,I.cell,I.free,I.freeC,I.pin,I.hok,I.len⟩
theorem SP.unwish {D:Ends}{f:Flow}{s':Af}(h:SP (X.wish E) alP D f s'):SP X alP D f s':=by
 cases f with
 | next=>obtain ⟨σ',H',I,q⟩:=h;exact ⟨σ',H',I.unwish,q⟩
 | brk=>obtain ⟨σ',H',I,q⟩:=h;exact ⟨σ',H',I.unwish,q⟩
 | cont=>obtain ⟨σ',H',I,q⟩:=h;exact ⟨σ',H',I.unwish,q⟩
 | ret u=>obtain ⟨v,σ',H',I,r,q⟩:=h;exact ⟨v,σ',H',I.unwish,r,q⟩
theorem Nv.nox {st:List Stmt}{t:TS}(h:Nv X.nox st t):Nv X st t:=fun alP s σ H D I hw=>
 K3 (h alP s σ H D (I.wish _) hw) (fun _ _ q=>q.unwish) fun _ _ z=>Ov z
end
section
variable {st:Stmt}{rest:List Stmt}{t u:TS}{te:TE}
def aev:TS:=fun D σ H=>D.nx σ H
def aey (t u:TS):TS:=fun D σ H=>t { D with nx:=u D } σ H
theorem Yn:Nv X [] aev:=fun _ _ σ H _ I h=>W8 ⟨σ,H,I,h⟩
theorem xP (h1:PS X st t)(h2:Nv X rest u):Nv X (st::rest) (aey t u):=by
 intro alP s σ H D I h;refine wpAny_execs_cons<|HJ (h1 alP s σ H { D with nx:=u D } I h) fun f s1 q=>?_
 cases f with
 | next=>
  obtain ⟨σ',H',I',q⟩:=q;exact h2 alP s1 σ' H' D I' q
 | ret v=>exact q
 | brk=>exact q
 | cont=>exact q
theorem BW (h1:PS X st t):Nv X [st] t:=by
 intro alP s σ H D I h;refine wpAny_execs_cons<|HJ (h1 alP s σ H D I h) fun f s1 q=>?_
 cases f with
 | next=>exact W8 q
 | ret v=>exact q
 | brk=>exact q
 | cont=>exact q
theorem BR.quiet {s:Af}(I:BR X alP σ H s):interactive X.env=false:=by simp [interactive,I.ok.kind]
def acT (te:TE):TS:=fun D σ H=>te σ H fun _ H1=>D.nx σ H1
theorem Lh (he:PE X e te)(hs:Qs e JI pos.line X.env=pure false:=by rfl):PS X (.Expr e pos) (acT te):=by
 intro alP s σ H D I h;exact wpAny_Expr_any (HJ (he alP s σ H _ I h) fun v s1 ⟨x,H1,I1,r1,q1⟩=>⟨σ,H1,I1,q1⟩) I.quiet hs
def afS (te:TE):TS:=fun D σ H=>te σ H D.rt
theorem aaS (he:PE X e te):PS X (.Return (Dn e) pos) (afS te):=by
 intro alP s σ H D I h;exact wpAny_Return_some<|HJ (he alP s σ H _ I h) fun v s1 ⟨x,H1,I1,r1,q1⟩=>⟨x,σ,H1,I1,r1,q1⟩
def afi (c:TT)(t u:TS):TS:=fun D σ H=>c σ H fun b H1=>if b=true then t D σ H1 else u D σ H1
theorem aaV {c:Expr}{a b:List Stmt}{tc:TT}(hc:PT X c tc)(ha:Nv X a t)(hb:Nv X b u):PS X (.If c a b pos) (afi tc t u):=by
 intro alP s σ H D I h;refine wpAny_If<|HJ (hc alP s σ H _ I h) fun d s1 ⟨H1,I1,q1⟩=>?_
 cases d with
 | true=>exact ha alP s1 σ H1 D I1 q1
 | false=>exact hb alP s1 σ H1 D I1 q1
def abI:TS:=fun _ _ _=>False
theorem zbG:PS X st abI:=fun _ _ _ _ _ _ h=>h.elim
end
abbrev TG:=V->St->Hp->(St->Hp->Prop)->Prop
abbrev RJ:=List V->St->Hp->(St->Hp->Prop)->Prop
def PG (X:Cx)(target:Expr)(t:TG):Prop:=
 ∀ (alP:List (Addr×Obj)) (s:Af) (σ : St) (H:Hp) (v:V) (u:Mk) (Q:St->Hp->Prop),BR X alP σ H s->RelV v u->t v σ H Q ->
  Bm (CN X.prog X.w) X.A (assign target X.env u) (fun _ s'=>∃ σ' H',BR X alP σ' H' s'/\Q σ' H') X.xe s
def Ru (X:Cx)(ts:List Expr)(t:RJ):Prop:=
 ∀ (alP:List (Addr×Obj)) (s:Af) (σ : St) (H:Hp) (vs:List V) (us:List Mk) (Q:St->Hp->Prop),BR X alP σ H s->Bp vs us->t vs σ H Q ->
  Bm (CN X.prog X.w) X.A (assignInOrder ((Mz ts X.env).map (·.2)) us) (fun _ s'=>∃ σ' H',BR X alP σ' H' s'/\Q σ' H') X.xe s
abbrev Zb:=V->V->V->Hp->(Hp->Prop)->Prop
def ada (X:Cx)(t:Zb):Prop:=
 ∀ (alP:List (Addr×Obj)) (s:Af) (σ : St) (H:Hp) (o i v:V) (ov iv u:Mk) (Q:Hp->Prop),BR X alP σ H s->RelV o ov->RelV i iv->RelV v u->t o i v H Q ->
  Bm (CN X.prog X.w) X.A (setItem ov iv u) (fun _ s'=>∃ H',BR X alP σ H' s'/\Q H') X.xe s
section
def Li (i:Nat):TG:=fun v σ H Q=>Q (σ.set i (Dn v)) H
theorem yR {x:Str}(hN:X.N.Nodup)(hi:X.N[i]?=Dn x)(hx:Loc X.env.scope x)(hf:X.fn x=true\/X.env.scope.names.lookup x=Dn .local:=by first | exact .inl rfl | exact .inr rfl | assumption):PG X (.Name x pos) (Li i):=by
 intro alP s σ H v u Q I r h;exact wpAny_assign_Name<|nF I hN hi hx r (fun s' I'=>⟨_,H,I',h⟩) hf
def afr:RJ:=fun vs σ H Q=>vs=[]/\Q σ H
def aes (t:TG)(u:RJ):RJ:=fun vs σ H Q=>∃ v r,vs=v::r/\t v σ H fun σ' H'=>u r σ' H' Q
theorem JK:Ru X [] afr:=by
 intro alP s σ H vs us Q I r h;obtain ⟨e,h⟩:=h;subst e;cases r;exact assignInOrder_nil ⟨σ,H,I,h⟩
theorem yx {es:List Expr}{t:TG}{u:RJ}(h1:PG X e t)(h2:Ru X es u)
  (hs:(Mz (e::es) X.env).map (·.2)=assign e X.env::(Mz es X.env).map (·.2):=by rfl):Ru X (e::es) (aes t u):=by
 intro alP s σ H vs us Q I r h;obtain ⟨v,vr,e1,h⟩:=h;subst e1;cases r with
 | cons r rr=>
  rw [hs];refine assignInOrder_cons<|HJ (h1 alP s σ H _ _ _ I r h) fun _ s1 ⟨σ1,H1,I1,q1⟩=>?_
  exact h2 alP s1 σ1 H1 _ _ Q I1 rr q1
def afU (K:Bl)(n:Nat)(t:RJ):TG:=fun v σ H Q=>∃ a xs,v=.ref a/\Jh K H a xs/\xs.length=n/\t xs σ H Q
theorem ZG {es:List Expr}{k:Nat}{t:RJ}{n:Nat}(hc:X.calm=true)(h:Ru X es t)
  (hn:(Mz es X.env).length=n:=by rfl) (hst:(Mz es X.env).findIdx? (·.1)=JI:=by rfl):PG X (.Tuple es k pos) (afU X.K n t):=by
 intro alP s σ H v u Q I r hw;obtain ⟨a,xs,e1,hq,hl,hw⟩:=hw;subst e1;cases r;obtain ⟨its,rv,ht,hz⟩:=I.tuple hq;refine assign_Tuple_tuple (I.ok.hd hc) ht (by simp [hn,<-hl,rv.length]) hst fun h' hx=>?_;have I1:BR X alP σ H { s with heap:=h' }:=I.kept (t':=s.toks) fun b o e=>hx b o (Ko (Hx e)) e
 exact h alP _ σ H xs _ Q I1 (by simpa using rv) hw
def afC (to ti:TE)(t:Zb):TG:=fun v σ H Q=>to σ H fun o H1=>ti σ H1 fun i H2=>t o i v H2 fun H3=>Q σ H3
theorem abW {o i:Expr}{to ti:TE}{t:Zb}(ho:PE X o to)(hi:PE X i ti)(hs:ada X t)
  (ha:∀ v,assign (.Subscript o i pos) X.env v=(do
   let ov <-holding [v] (eval o X.env)
   let iv <-holding [v,ov] (eval i X.env)
   standAt pos
   holding [v,ov,iv] (setItem ov iv v)
   release [v,ov,iv] []):=by intro _;rfl):PG X (.Subscript o i pos) (afC to ti t):=by
 intro alP s σ H v u Q I r h;rw [ha];refine Al<|Nb<|HJ (ho alP s σ H _ I h) fun ov s1 ⟨x,H1,I1,r1,q1⟩=>?_
 refine Al<|Nb<|HJ (hi alP s1 σ H1 _ I1 q1) fun iv s2 ⟨y,H2,I2,r2,q2⟩=>?_
 refine Al<|Qt<|Al<|Nb<|HJ (hs alP s2 σ H2 x y v ov iv u _ I2 r1 r2 r q2) fun _ s3 ⟨H3,I3,q3⟩=>?_
 exact wpAny_release ⟨σ,H3,I3,q3⟩
def Y8 (te:TE)(g:TG):TS:=fun D σ H=>te σ H fun x H1=>g x σ H1 D.nx
theorem aa1 {tg:Expr}{te:TE}{g:TG}(he:PE X e te)(hg:PG X tg g)(hs:swapsWithSole [tg] e pos.line X.env=pure false:=by rfl)(hw:swappedStores [tg] e X.env=pure JI:=by rfl)
  (h1:(Mz [tg] X.env).map (·.2)=[assign tg X.env]:=by rfl):PS X (.Assign [tg] e pos) (Y8 te g):=by
 intro alP s σ H D I h;refine wpAny_Assign_stores (HJ (he alP s σ H _ I h) fun v s1 ⟨x,H1,I1,r1,q1⟩=>?_) hs hw;rw [h1];exact HJ (hg alP s1 σ H1 x v _ I1 r1 q1) fun _ s2 q=>q
theorem Te {x:Str}{te:TE}{pos':Pos}(hN:X.N.Nodup)(hi:X.N[i]?=Dn x)(hx:Loc X.env.scope x)(he:PE X e te)(hs:Qs e (Dn (.Name x pos')) pos.line X.env=pure false:=by rfl)(hf:X.fn x=true\/X.env.scope.names.lookup x=Dn .local:=by first | exact .inl rfl | exact .inr rfl | assumption):
  PS X (.Assign [.Name x pos'] e pos) (Y8 te (Li i)):=by
 intro alP s σ H D I h;refine wpAny_Assign_Name (HJ (he alP s σ H _ I h) fun v s1 ⟨y,H1,I1,r1,q1⟩=>?_) hs;exact nF I1 hN hi hx r1 (fun s2 I2=>⟨_,H1,I2,q1⟩) hf
def aeE (i j:Nat)(ta:TA):TS:=fun D σ H=>ta σ H fun vs H1=>∃ v w,vs=[v,w]/\D.nx ((σ.set i (Dn v)).set j (Dn w)) H1
theorem Ze {x y:Str}{a b:Expr}{ta:TA}{px py pt:Pos}{kt k2 pt2}(hc:X.calm=true)(hN:X.N.Nodup)(hi:X.N[i]?=Dn x)(hj:X.N[j]?=Dn y)(hij:i≠j)
  (hx:X.env.scope.names.lookup x=Dn .local) (hy:X.env.scope.names.lookup y=Dn .local) (ha:PA X [a,b] ta)
  (hw:swappedStores [.Tuple [.Name x px,.Name y py] kt pt] (.Tuple [a,b] k2 pt2) X.env=pure (Dn [x,y]))
  (hs:swapsWithSole [.Tuple [.Name x px,.Name y py] kt pt] (.Tuple [a,b] k2 pt2) pos.line X.env=pure false:=by rfl) :
  PS X (.Assign [.Tuple [.Name x px,.Name y py] kt pt] (.Tuple [a,b] k2 pt2) pos) (aeE i j ta):=by
 intro alP s σ H D I h;rw [exec_Assign_arm];refine Al<|Qt ?_
 rw [hs];refine Al<|Ck ?_
 rw [if_neg (by decide)];refine Al<|Tuple_<|HJ (ha _ alP s σ H _ I h) fun us s1 ⟨vs,H1,I1,r1,q1⟩=>?_
 obtain ⟨v,w,e1,q1⟩:=q1;subst e1;obtain ⟨u1,u2,rfl,rv,rw'⟩:∃ u1 u2,us=[u1,u2]/\RelV v u1/\RelV w u2:=by
  cases r1 with
  | cons p q=>
   cases q with
   | cons p' q'=>
    cases q'
    exact ⟨_,_,rfl,p,p'⟩
 refine Q9 ?_ (by show 2<=Ht;decide);have I2:BR X alP σ H1 { s1 with heap:=s1.heap.push { cls:=.type "tuple",data:=.seq [u1,u2].toArray } }:=I1.kept (t':=s1.toks) fun b o e=>IV _ e
 rw [hw];refine Al<|Ck ?_
 show Bm (CN X.prog X.w) X.A (do rule "assign.swapped-stores";let items <-unpackItems (.ref s1.heap.objs.size) 2 JI;assignInOrder [fun v=>bindName X.env y v,fun v=>bindName X.env x v] items.reverse;pure Flow.next) _ _ _;refine Al<|VF<|Al<|unpackItems_tuple (items:=#[u1,u2]) (I.ok.hd hc) (IsTup.new s1.heap _) fun h' hx'=>?_
 have I3:=I2.kept (h':=h') (t':=s1.toks) fun b o e=>hx' b o (Ko (Hx e)) e
 show Bm _ _ (assignInOrder [fun v=>bindName X.env y v,fun v=>bindName X.env x v] [u2,u1] >>= fun _=>pure Flow.next) _ _ _;refine Al<|assignInOrder_cons<|wpAny_bindName<|nF I3 hN hj (.inl hy) rw' (fun s2 I4=>?_)<|.inr hy
 refine assignInOrder_cons<|wpAny_bindName<|nF I4 hN hi (.inl hx) rv (fun s3 I5=>assignInOrder_nil<|Ck ?_)<|.inr hx
 rw [List.set_comm _ _ (Jo hij)] at I5;exact ⟨_,H1,I5,q1⟩
end
variable {o tg : Expr}{es : List Expr}{k n : Nat}{pos' : Pos}
section
def abg (c:TT)(tb:TS):TS:=fun D σ H=>∃ W:Nat->St->Hp->Prop,(∃ m,W m σ H)/\∀ m σ H,W m σ H ->
 c σ H fun b H1=>if b=true then ∃ N:St->Hp->Prop,(∀ σ' H',N σ' H'->∃ m',m'<m/\W m' σ' H')/\tb { D with nx:=N,ct:=N,bk:=D.nx } σ H1 else D.nx σ H1
theorem agZ {c:Expr}{body:List Stmt}{tc:TT}{tb:TS}(hp:YJ (CN X.prog X.w) X.A X.env X.xe)(hc:PT X c tc)(hb:Nv X body tb):PS X (.While c body [] pos) (abg tc tb):=by
 intro alP s σ H D I h;obtain ⟨W,⟨m0,w0⟩,turn⟩:=h;refine wpAny_While<|codeAny_whileLoop (fun n s'=>∃ σ' H',BR X alP σ' H' s'/\W n σ' H') ?_ m0 ⟨σ,H,I,w0⟩
 rintro n s1 ⟨σ1,H1,I1,w1⟩;refine Vu hp<|HJ (hc alP s1 σ1 H1 _ I1<|turn n σ1 H1 w1) fun b s2 ⟨H2,I2,q2⟩=>?_
 cases b with
 | true=>
  obtain ⟨N,hN,q2⟩:=q2;rw [if_pos rfl];refine Vu hp<|HJ (hb alP s2 σ1 H2 _ I2 q2) fun f s3 q3=>?_
  cases f with
  | next=>
   obtain ⟨σ3,H3,I3,n3⟩:=q3;obtain ⟨m',hm,w3⟩:=hN σ3 H3 n3;exact ⟨m',hm,σ3,H3,I3,w3⟩
  | cont=>
   obtain ⟨σ3,H3,I3,n3⟩:=q3;obtain ⟨m',hm,w3⟩:=hN σ3 H3 n3;exact ⟨m',hm,σ3,H3,I3,w3⟩
  | brk=>exact q3
  | ret v=>exact q3
 | false=>
  rw [if_neg Ky];exact W8 ⟨σ1,H2,I2,q2⟩
end
variable {body : List Stmt}
theorem w6:entryFor table "proto.unchain" = Dn Qx.«proto.unchain»:=entryFor_of_tree (by kernel_rfl)
inductive Gp (h:Heap):List Addr->Mk->Prop
 | nil:Gp h [] .none
 | cons {c:Addr} {o:Obj} {vs:Array Mk} {z:Mk} {l:List Addr} (ho:h.get? c=Dn o) (hd:o.data=.fields vs) (h2:vs[2]?=Dn z) (t:Gp h l z):Gp h (c::l) (.ref c)
theorem Gp.keep {l:List Addr}{v:Mk}(c:Gp h l v)(k:∀ a∈l,∀ o,h.get? a=Dn o->h'.get? a=Dn o):Gp h' l v:=by
 induction c with
 | nil=>exact .nil
 | cons ho hd h2 t ih=>exact .cons (k _ (by simp) _ ho) hd h2 (ih fun a ha=>k a (by simp [ha]))
theorem Gp.there {l:List Addr}{v:Mk}(c:Gp h l v):∀ a∈l,∃ o,h.get? a=Dn o:=by
 induction c with
 | nil=>intro a ha;cases ha
 | @cons c o vs z l ho hd h2 t ih=>
  intro a ha;rcases JN.mp ha with rfl | ha
  ·exact ⟨o,ho⟩
  ·exact ih a ha
def CJ (A:Dl)(h:Heap):Prop:=∀ v,A.handled=Dn v->∃ a l,v=.ref a/\Gp h l v
theorem PB.heap {v:Mk}(c:PB H v)(x:K7 P w H h):∃ l,Gp h l v:=by
 induction c with
 | nil=>exact ⟨[],.nil⟩
 | cons h1 h2 h3 _ ih=>obtain ⟨l,t⟩:=ih;exact ⟨_,.cons (x _ _ h1).1 h2 h3 t⟩
theorem ahU (q:Quiet A H)(x:K7 P w H h):CJ A h:=fun v e=>by
 obtain ⟨⟨a,h1⟩,c⟩:=q v e;obtain ⟨l,t⟩:=c.heap x;exact ⟨a,l,h1,t⟩
def Lnk (h:Heap)(x y:Mk):Prop:=∃ (c:Addr) (o:Obj) (vs:Array Mk),x=.ref c/\h.get? c=Dn o/\o.data=.fields vs/\vs[2]?=Dn y
inductive Qi (h:Heap):Mk->Mk->Prop
 | refl {x:Mk}:Qi h x x
 | step {x y z:Mk} (a:Lnk h x y) (b:Qi h y z):Qi h x z
variable {z : Mk}
theorem Qi.snoc {x y:Mk}(a:Qi h x y)(b:Lnk h y z):Qi h x z:=by
 induction a with
 | refl=>exact .step b .refl
 | step l _ ih=>exact .step l (ih b)
theorem Qi.one {x y:Mk}(a:Qi h x y)(b:Lnk h y z):∃ u,Lnk h x u/\Qi h u z:=by
 cases a with
 | refl=>exact ⟨z,b,.refl⟩
 | step l r=>exact ⟨_,l,r.snoc b⟩
variable {R : Result->Af->Prop}{prog : Dz}
theorem wL {s:Af}{e:Addr}(h:R (.ok (.ret .none)) s):∀ {l:List Addr} {o:Mk},Gp s.heap l o->e∉l->(∃ a,o=.ref a)->∀ (slow:Mk) (tg:Bool),(tg=false->Qi s.heap slow o)->(tg=true->∃ y,Lnk s.heap slow y/\Qi s.heap y o) ->
  RT (CN prog w) A (.builtin "proto.unchain" ⟨[.ref e,o,slow,.bool tg],[]⟩) R s:=by
 intro l o c;induction c with
 | nil=>rintro _ ⟨a,z⟩;cases z
 | @cons c o vs z l ho hd h2 t ih=>
  intro ne _ slow tg hf ht;have lk:Lnk s.heap (.ref c) z:=⟨c,o,vs,rfl,ho,hd,h2⟩
  refine codeAny_builtin w6 ?_;unfold Qx.«proto.unchain»;dsimp only;refine Al<|Kc ho hd h2 ?_
  by_cases z0:z=.none
  ·subst z0;rw [if_pos (show (Value.none==Value.none)=true from rfl)];refine Al<|Ck<|Ck ?_
   exact h
  ·have zn:¬ (z==Value.none)=true:=fun q=>z0 (beq_iff_eq.mp q)
   rw [if_neg zn];obtain ⟨d,rfl,hdm⟩:∃ d,z=.ref d/\d∈l:=by
    cases t with
    | nil=>exact absurd rfl z0
    | cons=>exact ⟨_,rfl,by simp⟩
   have ze:¬ (Value.ref d==Value.ref e)=true:=fun q=>by
    have:=Value.ref.inj (beq_iff_eq.mp q)
    exact ne (by rw [<-this];simp [hdm])
   rw [if_neg ze];by_cases zs:(Value.ref d==slow)=true
   ·rw [if_pos zs];refine Al<|VF ?_
    first
     | exact Ck h
     | (refine Al (Ck (Ck ?_));exact h)
   ·rw [if_neg zs];have ne':e∉l:=fun q=>ne (by simp [q])
    cases tg with
    | true=>
     obtain ⟨y,⟨cs,os,ss,rfl,hs1,hs2,hs3⟩,r⟩:=ht rfl;rw [if_pos rfl];refine Al<|Kc hs1 hs2 hs3<|Ck ⟨Code.quiet_builtin _<|by decide +kernel,?_⟩
     exact ih ne' ⟨d,rfl⟩ y false (fun _=>r.snoc lk) fun q=>nomatch q
    | false=>
     rw [if_neg Ky];refine Al<|Ck<|Ck ⟨Code.quiet_builtin _<|by decide +kernel,?_⟩
     exact ih ne' ⟨d,rfl⟩ slow true (fun q=>nomatch q) fun _=>(hf rfl).one lk
variable {oe : Obj}
theorem zaI {α : Type}{s:Af}{e:Addr}{ws:Array Mk}{h0:Heap}{Q:α->Af->Prop}(hq:CJ A h0)(k0:∀ b o,h0.get? b=Dn o->s.heap.get? b=Dn o)(e0:h0.get? e=JI)(he:s.heap.get? e=Dn oe)(hd:oe.data=.fields ws)(hz:2<ws.size)
  (h:∀ h',(∀ b,b≠e->h'.get? b=s.heap.get? b)->(∃ o',h'.get? e=Dn o'/\o'.cls=oe.cls/\o'.dict=oe.dict/\((A.handled=JI/\h'=s.heap)\/∃ v,A.handled=Dn v/\o'.data=.fields (ws.setIfInBounds 2 v)))->E (.ref e) { s with heap:=h' }):Bm (CN prog w) A (raiseNew (.ref e):Sem α) Q E s:=by
 unfold raiseNew;refine Al<|wpAny_handled ?_
 cases hh:A.handled with
 | none=>
  dsimp only;refine Al<|Ck<|Vz ?_
  exact h s.heap (fun _ _=>rfl) ⟨oe,he,rfl,rfl,.inl ⟨hh,rfl⟩⟩
 | some v=>
  obtain ⟨a,l,rfl,ch⟩:=hq v hh;have nl:e∉l:=fun q=>by obtain ⟨o,z⟩:=ch.there e q;rw [e0] at z;cases z
  have ch':Gp s.heap l (.ref a):=ch.keep fun b _ o z=>k0 b o z
  dsimp only;have al:a∈l:=by cases ch with | cons=>simp
  have ne:(Value.ref a != Value.ref e)=true:=by
   simp only [bne_iff_ne,ne_eq];intro q;exact nl (by rw [<-Value.ref.inj q];exact al)
  rw [if_pos ne];refine Al<|Nb<|wpAny_runValue<|wL ?_ ch' nl ⟨a,rfl⟩ (.ref a) false (fun _=>.refl) fun q=>nomatch q
  dsimp only;refine Al ?_;unfold updateField;refine Al<|wpAny_load he ?_
  rw [hd];dsimp only;rw [if_pos hz];refine wpAny_update he<|Vz ?_
  have hd3:=QT hd (·.setIfInBounds 2 (Value.ref a));exact h _ (fun b hb=>Pj _ _<|Jo hb) ⟨_,QW _ he<|Ri hd3,Wv _ _,by obtain ⟨c0,d0,dt,sl⟩:=oe;cases hd;rfl,.inr ⟨_,hh,hd3⟩⟩
theorem ahl {s:Af}{it:Addr}{x left step:Int}{Q:Option Mk->Af->Prop}(hh:CJ A s.heap)(hit:IsRangeIter s.heap it x left step)(hleft:left<=0)
  (hQ:∀ h',W0 it s.heap h'->Q JI { s with heap:=h' }):Bm (CN prog w) A (Q6 (.ref it)) Q E s:=by
 have hT:s.TypeIs (.ref it) "range_iterator":=⟨_,hit,rfl⟩
 unfold Q6;refine Al (Rg (UG (name:=Rb "__next__") hT F.slot_range_iterator_next
  (Rm F.slot_range_iterator_next hT F.entry_range_iterator_next ?_ (F.args_range_iterator_next_1 _))))
 show Bm _ _ (field (.ref it) 0 >>= _) _ _ s;refine Al<|Kc hit rfl (x:=NK x) rfl ?_
 show Bm _ _ (field (.ref it) 1 >>= _) _ _ s;refine Al<|Kc hit rfl (x:=NK left) rfl ?_
 show Bm _ _ (field (.ref it) 2 >>= _) _ _ s;refine Al<|Kc hit rfl (x:=NK step) rfl ?_
 show Bm _ _ (if left<=0 then _ else _) _ _ s;rw [if_pos hleft];refine Al<|VF ?_
 refine Al ?_;show Bm _ _ (newExc (.type "StopIteration") [] >>= _) _ _ _;refine Al ?_;simp only [newExc,newTuple];refine Al<|Q9 ?_<|by size_fits
 refine Al (m:=Wu _ _)<|U6 (a:=Value.none) (by first | rfl | (simp only [Wu];rfl)) ?_
 refine Q9 ?_<|by size_fits
 refine zaI (A:=A.in1) (h0:=s.heap) hh (fun b o q=>IV _<|IV _ q) (XM<|by simp [Heap.push]) (Kg _ rfl) rfl (by simp;lia) fun h' h1 ⟨o',h2,h3,_⟩=>?_;refine Al<|wpAny_isInstance (T := "StopIteration") (b:=true) ⟨_,h2,h3⟩ isSubtype_stop ?_
 refine Ck<|hQ _ fun b o hb e=>?_
 rw [h1 b ?_]
 ·exact IV _<|IV _ e
 ·have:=Hx e
  exact Ko<|K5 this<|by simp [Heap.push]
structure It where
 go:Nat->Hp->Prop
 yld:Nat->Hp->V->Hp->Prop
 stop:Nat->Hp->Prop
 cm:Bool
def Ju (X:Cx)(alP:List (Addr×Obj))(H:Hp)(b:Addr):Prop:=
 H b=JI/\b≠X.env.locals/\b∉X.fs/\(b∈X.ex\/X.s₀.heap.objs.size<=b)/\(∀ x c,X.env.cells.lookup x=Dn c->c≠b)/\∀ p∈X.pn++alP,p.1≠b
theorem BR.fpOk {s:Af}(I:BR X alP σ H s)(hb:s.heap.objs.size<=b)(hn:H' b=JI):Ju X alP H' b:=by
 refine ⟨hn,QX<|K5 I.lt hb,I.nofs hb,.inr<|J4 I.sz hb,fun x c e z=>?_,fun p hp z=>?_⟩
 ·obtain ⟨v,q⟩:=I.cell x c e;exact absurd (K5 q.lt (by rw [z];exact hb))<|Pa _
 ·exact absurd (K5 (Hx (I.pin p hp).1) (by rw [z];exact hb))<|Pa _
structure Turn (P:Dz) (w:Cw) (K:Bl) (tg:Expr) (J:It) (fp:List Addr) (it:Addr) (tn:Nat->Heap->Prop):Prop where
 mem:it∈fp
 obj:∀ i h,tn i h->∀ b∈fp,∃ o,h.get? b=Dn o/\∀ v,o.data≠.cell v
 keep:∀ i h h',tn i h->(∀ b∈fp,∀ o,h.get? b=Dn o->h'.get? b=Dn o)->tn i h'
 item:∀ (X:Cx),X.prog=P->X.w=w->X.K=K->(J.cm=true->X.calm=true)->∀ (i:Nat) (alP:List (Addr×Obj)) (s:Af) (σ : St) (H:Hp) (E:Mk->Af->Prop),BR X alP σ H s->(∀ b∈fp,Ju X alP H b)->tn i s.heap->J.go i H ->
  Bm (CN P w) X.A (Q6 (.ref it)) (fun r s1=>∃ u,r=Dn u /\
   Bm (CN P w) X.A (letOwnedTupleGo tg (.ref it) u) (fun _ s2=>∃ x H',BR X alP σ H' s2/\RelV x u/\J.yld i H x H'/\tn (i+1) s2.heap/\∀ b∈fp,H' b=JI) E s1) E s
 done:∀ (X:Cx),X.prog=P->X.w=w->X.K=K->(J.cm=true->X.calm=true)->∀ (i:Nat) (alP:List (Addr×Obj)) (s:Af) (σ : St) (H:Hp) (E:Mk->Af->Prop),BR X alP σ H s->(∀ b∈fp,Ju X alP H b)->tn i s.heap->J.stop i H ->
  Bm (CN P w) X.A (Q6 (.ref it)) (fun r s1=>r=JI/\BR X alP σ H s1) E s
 self:∀ (A:Dl) (i:Nat) (s:Af) (Q:Mk->Af->Prop) (E:Mk->Af->Prop),tn i s.heap->Q (.ref it) s->Bm (CN P w) A (pyIter (.ref it)) Q E s
abbrev TI:=St->Hp->(It->Hp->Prop)->Prop
def PIE (X:Cx)(alP:List (Addr×Obj))(σ : St)(tg:Expr)(R:It->Hp->Prop)(itv:Mk)(s2:Af):Prop:=
 ∃ (it:Addr) (fp:List Addr) (tn:Nat->Heap->Prop) (J:It) (H':Hp),itv=.ref it/\BR X alP σ H' s2/\Turn X.prog X.w X.K tg J fp it tn/\tn 0 s2.heap/\(∀ b∈fp,Ju X alP H' b)/\R J H'
def PI (X:Cx)(tg iter:Expr)(wi:TI):Prop:=
 ∀ (alP:List (Addr×Obj)) (s:Af) (σ : St) (H:Hp) (R:It->Hp->Prop),BR X alP σ H s->wi σ H R ->
  Bm (CN X.prog X.w) X.A (eval iter X.env) (fun v s1=>Bm (CN X.prog X.w) X.A (pyIter v) (PIE X alP σ tg R) X.xe s1) X.xe s
theorem MK {s:Af}{it:Addr}{o:Obj}{n:String}{vs:Array Mk}{Q:Unit->Af->Prop}(ho:s.heap.get? it=Dn o)(hc:o.cls=.type n)(hd:o.data=.fields vs)
    (hn:["enumerate", "zip", "dict_itemiterator", "dict_reverseitemiterator", "odict_iterator", "itertools.zip_longest", "itertools.pairwise"].contains n=false) (hQ:Q () s):Bm M A (letOwnedTupleGo tg (.ref it) u) Q E s:=by
  unfold letOwnedTupleGo;cases tg <;> first
    | exact Ck hQ
    | (cases u <;> first
        | exact Ck hQ
        | (refine Al (wpAny_load ho ?_)
           rw [hc,hd];show Bm M A (if (["enumerate", "zip", "dict_itemiterator", "dict_reverseitemiterator", "odict_iterator", "itertools.zip_longest", "itertools.pairwise"].contains n&&vs[0]?==Dn (NK _))=true then _ else _) Q E s;rw [if_neg (by intro h;rw [hn,Bool.false_and] at h;cases h)];exact Ck hQ))
def Itl (K:Bl)(a:Addr):It:=
 ⟨fun i H=>∃ xs x,JR K H a xs/\xs[i]?=Dn x,fun i H x H'=>H'=H/\∀ xs,JR K H a xs->xs[i]?=Dn x,fun i H=>∃ xs,JR K H a xs/\xs.length<=i,true⟩
def Itt (K:Bl)(a:Addr):It:=
 ⟨fun i H=>∃ xs x,Jh K H a xs/\xs[i]?=Dn x,fun i H x H'=>H'=H/\∀ xs,Jh K H a xs->xs[i]?=Dn x,fun i H=>∃ xs,Jh K H a xs/\xs.length<=i,true⟩
def Itr (lo:Int)(n:Nat):It:=⟨fun i _=>i<n,fun i H x H'=>H'=H/\x=.int (lo+i),fun i _=>n<=i,false⟩
theorem zbj (a it:Addr):Turn P w K tg (Itl K a) [it] it (fun i h=>h.IsListIter it a i) where
 mem:=by simp
 obj:=fun i h st b hb=>by
  have e:b=it:=by simpa using hb
  subst e;obtain ⟨o,e,c,d⟩:=st;exact ⟨o,e,fun v z=>by rw [d] at z;cases z⟩
 keep:=fun i h h' st k=>st.at fun o e=>k it (by simp) o e
 item:=by
  intro X hP hw hK hc i alP s σ H E I hf st hg;subst hP hw hK;obtain ⟨xs,x,hq,hx⟩:=hg;obtain ⟨its,rv,p,hz⟩:=I.list hq;obtain ⟨u,hu,ru⟩:=rv.get hx;obtain ⟨f0,f1,f2,f3,f4,f5⟩:=hf it (by simp);refine wpAny_pyNext_list_item st p.isList (x:=u) (by simpa using hu) fun h' st' sb=>?_;have I1:BR X alP σ H { s with heap:=h' }:=I.turned (t':=s.toks) (fun b o hb e=>(sb.2 b hb).trans e) f0 f1 f3 f4 f5;obtain ⟨o,e,c,d⟩:=id st';exact ⟨u,rfl,MK (s:={ s with heap:=h' }) e c d (by decide) ⟨x,H,I1,ru,⟨rfl,fun ys hy=>by rw [I.list_inj hy hq];exact hx⟩,st',fun b hb=>(hf b hb).1⟩⟩
 done:=by
  intro X hP hw hK hc i alP s σ H E I hf st hg;subst hP hw hK;obtain ⟨xs,hq,hx⟩:=hg;obtain ⟨its,rv,p,hz⟩:=I.list hq;obtain ⟨f0,f1,f2,f3,f4,f5⟩:=hf it (by simp);have hl:=rv.length;exact wpAny_pyNext_list_end (I.ok.hd<|hc rfl) st p.isList (by simp;lia) fun h' eb=>⟨rfl,I.turned (t':=s.toks) (fun b o hb e=>eb b o hb e) f0 f1 f3 f4 f5⟩
 self:=fun _ _ _ _ _ st h=>wpAny_pyIter_listiter st h
theorem zaA (a it:Addr):Turn P w K tg (Itt K a) [it] it (fun i h=>h.IsTupleIter it a i) where
 mem:=by simp
 obj:=fun i h st b hb=>by
  have e:b=it:=by simpa using hb
  subst e;obtain ⟨o,e,c,d⟩:=st;exact ⟨o,e,fun v z=>by rw [d] at z;cases z⟩
 keep:=fun i h h' st k=>st.at fun o e=>k it (by simp) o e
 item:=by
  intro X hP hw hK hc i alP s σ H E I hf st hg;subst hP hw hK;obtain ⟨xs,x,hq,hx⟩:=hg;obtain ⟨its,rv,p,hz⟩:=I.tuple hq;obtain ⟨u,hu,ru⟩:=rv.get hx;obtain ⟨f0,f1,f2,f3,f4,f5⟩:=hf it (by simp);refine wpAny_pyNext_tuple_item st (show s.heap.IsTuple a its.toArray from p) (x:=u) (by simpa using hu) fun h' st' sb=>?_;have I1:BR X alP σ H { s with heap:=h' }:=I.turned (t':=s.toks) (fun b o hb e=>(sb.2 b hb).trans e) f0 f1 f3 f4 f5;obtain ⟨o,e,c,d⟩:=id st';exact ⟨u,rfl,MK (s:={ s with heap:=h' }) e c d (by decide) ⟨x,H,I1,ru,⟨rfl,fun ys hy=>by rw [I.tuple_inj hy hq];exact hx⟩,st',fun b hb=>(hf b hb).1⟩⟩
 done:=by
  intro X hP hw hK hc i alP s σ H E I hf st hg;subst hP hw hK;obtain ⟨xs,hq,hx⟩:=hg;obtain ⟨its,rv,p,hz⟩:=I.tuple hq;obtain ⟨f0,f1,f2,f3,f4,f5⟩:=hf it (by simp);have hl:=rv.length;exact wpAny_pyNext_tuple_end (I.ok.hd<|hc rfl) st (show s.heap.IsTuple a its.toArray from p) (by simp;lia) fun h' eb=>⟨rfl,I.turned (t':=s.toks) (fun b o hb e=>eb b o hb e) f0 f1 f3 f4 f5⟩
 self:=fun _ _ _ _ _ st h=>wpAny_pyIter_tupleiter st h
theorem zaE (it:Addr)(lo:Int)(n:Nat):Turn P w K tg (Itr lo n) [it] it (fun i h=>IsRangeIter h it (lo+(i:Nat)*1) ((n:Int) - (i:Nat)) 1) where
 mem:=by simp
 obj:=fun i h st b hb=>by
  have e:b=it:=by simpa using hb
  subst e;exact ⟨_,st,fun v z=>by
   have z':Data.fields _=Data.cell v:=z;cases z'⟩
 keep:=fun i h h' st k=>k it (by simp) _ st
 item:=by
  intro X hP hw hK hc i alP s σ H E I hf st hg;subst hP hw hK;obtain ⟨f0,f1,f2,f3,f4,f5⟩:=hf it (by simp);refine wpAny_pyNext_range_item st (by have:i<n:=hg;lia) fun h' st' kk=>?_;have I1:BR X alP σ H { s with heap:=h',toks:=s.toks+1 }:=I.turned (fun b o hb e=>(kk.2 b hb).trans e) f0 f1 f3 f4 f5;have st2:IsRangeIter h' it (lo+((i+1:Nat):Int)*1) ((n:Int) - ((i+1:Nat):Int)) 1:=by
   have e1:lo+((i+1:Nat):Int)*1=lo+((i:Nat):Int)*1+1:=by lia
   have e2:(n:Int) - ((i+1:Nat):Int)=(n:Int) - ((i:Nat):Int) - 1:=by lia
   rw [e1,e2];exact st'
  refine ⟨_,rfl,MK (s:={ s with heap:=h',toks:=s.toks+1 }) (n := "range_iterator") st' rfl rfl (by decide) ⟨.int<|lo+i,H,I1,⟨s.toks,?_⟩,⟨rfl,rfl⟩,st2,fun b hb=>(hf b hb).1⟩⟩;rw [Int.mul_one]
 done:=by
  intro X hP hw hK hc i alP s σ H E I hf st hg;subst hP hw hK;obtain ⟨f0,f1,f2,f3,f4,f5⟩:=hf it (by simp);exact ahl (ahU I.qt0 I.hok) st (by have:n<=i:=hg;lia) fun h' eb=>⟨rfl,I.turned (t':=s.toks) (fun b o hb e=>eb b o hb e) f0 f1 f3 f4 f5⟩
 self:=fun _ _ _ _ _ st h=>wpAny_pyIter_rangeiter st h
section
theorem Er {s:Af}{R:It->Hp->Prop}{lo hi:Int}{t u v:Tok}{tk:Nat}(I:BR X alP σ H s)(h1:-(2^62)<=lo)(h2:lo<2^62)(h3:-(2^62)<=hi)(h4:hi<2^62)
  (q:R (Itr lo (hi - lo).toNat) H):Bm (CN X.prog X.w) X.A (pyIter (.ref s.heap.objs.size)) (PIE X alP σ tg R) E { s with heap:=s.heap.push { cls:=.type "range",data:=.fields #[.int lo t,.int hi u,.int 1 v] },toks:=tk }:=by
 refine wpAny_pyIter_range (IsRange.new ..) (small_one h1 h2 h3 h4) ?_;have I1:BR X alP σ H { s with heap:=s.heap.push { cls:=.type "range",data:=.fields #[.int lo t,.int hi u,.int 1 v] },toks:=tk }:=I.kept fun b o e=>IV _ e
 refine ⟨(s.heap.push { cls:=.type "range",data:=.fields #[.int lo t,.int hi u,.int 1 v] }).objs.size,[(s.heap.push { cls:=.type "range",data:=.fields #[.int lo t,.int hi u,.int 1 v] }).objs.size],_,_,H,rfl,
  I1.kept (t':=tk) fun b o e=>IV _ e,zaE _ lo (hi - lo).toNat,?_,fun b hb=>?_,q⟩
 ·have e1:lo+((0:Nat):Int)*1=lo:=by simp
  have e2:(((hi - lo).toNat:Nat):Int) - ((0:Nat):Int)=Builtin.Range.rangeSize lo hi 1:=by rw [rangeSize_one];split <;> lia
  show IsRangeIter _ _ (lo+((0:Nat):Int)*1) ((((hi - lo).toNat:Nat):Int) - ((0:Nat):Int)) 1;rw [e1,e2];exact Kg _ rfl
 ·have e:b=(s.heap.push { cls:=.type "range",data:=.fields #[.int lo t,.int hi u,.int 1 v] }).objs.size:=by simpa using hb
  subst e;exact I1.fpOk (Ig _)<|I1.hok.fresh<|Ig _
def ZJ (ta:TA):TI:=fun σ H R=>ta σ H fun vs H1=>∃ j:Int,vs=[.int j]/\-(2^62)<=j/\j<2^62/\R (Itr 0 j.toNat) H1
def adf (ta:TA):TI:=fun σ H R=>ta σ H fun vs H1=>∃ i j:Int,vs=[.int i,.int j]/\(-(2^62)<=i/\i<2^62/\-(2^62)<=j/\j<2^62)/\R (Itr i (j - i).toNat) H1
theorem za {a:Expr}{ta:TA}{p:Pos}(hg:Gl X "range")(hm:X.mg "range" = JI)(ha:PA X [a] ta)(hs:Cy [a] X.env=[(false,eval a X.env)]:=by rfl):PI X tg (.Call (.Name "range" p) [a] [] pos) (ZJ ta):=by
 intro alP s σ H R I h;refine Call_<|sW I hg hm boot_range<|Xi (HJ (ha pos alP s σ H _ I h) fun us s1 ⟨vs,H1,I1,r1,q1⟩=>?_) hs rfl
 obtain ⟨j,e,q1,q2,q⟩:=q1;subst e;cases r1 with
 | cons r rr=>
  cases rr;obtain ⟨t,rfl⟩:=r;exact call_range_1<|Er I1 (by lia) (by lia) q1 q2<|by simpa using q
theorem zaV {a b:Expr}{ta:TA}{p:Pos}(hg:Gl X "range")(hm:X.mg "range" = JI)(ha:PA X [a,b] ta)(hs:Cy [a,b] X.env=[(false,eval a X.env),(false,eval b X.env)]:=by rfl)(hs2:Cy [b] X.env=[(false,eval b X.env)]:=by rfl):
  PI X tg (.Call (.Name "range" p) [a,b] [] pos) (adf ta):=by
 intro alP s σ H R I h;refine Call_<|sW I hg hm boot_range<|Xi (HJ (ha pos alP s σ H _ I h) fun us s1 ⟨vs,H1,I1,r1,q1⟩=>?_) (by rw [hs,hs2]) (by rw [hs2];rfl)
 obtain ⟨i,j,e,⟨q1,q2,q3,q4⟩,q⟩:=q1;subst e;cases r1 with
 | cons r rr=>
  cases rr with
  | cons r' rr=>
   cases rr;obtain ⟨t,rfl⟩:=r;obtain ⟨t',rfl⟩:=r';exact call_range_2<|Er I1 q1 q2 q3 q4 q
def afO (wi:TI)(g:TG)(tb:TS):TS:=fun D σ H=>wi σ H fun J H1=>∃ W:Nat->Nat->St->Hp->Prop,(∃ m,W 0 m σ H1)/\∀ i m σ H,W i m σ H ->
 (J.stop i H/\D.nx σ H)\/(J.go i H/\∃ N:St->Hp->Prop,(∀ σ' H',N σ' H'->∃ m',m'<m/\W (i+1) m' σ' H')/\∀ x H',J.yld i H x H'->g x σ H' fun σ2 H2=>tb { D with nx:=N,ct:=N,bk:=D.nx } σ2 H2)
def Bw (fp:List Addr)(h:Heap):List (Addr×Obj):=fp.filterMap fun b=>(h.get? b).map fun o=>(b,o)
theorem j5 {fp:List Addr}{o:Obj}(hb:b∈fp)(e:h.get? b=Dn o):(b,o)∈Bw fp h:=List.mem_filterMap.mpr ⟨b,hb,by rw [e];rfl⟩
theorem agT {fp:List Addr}{p:Addr×Obj}(hp:p∈Bw fp h):p.1∈fp/\h.get? p.1=Dn p.2:=by
 obtain ⟨b,hb,e⟩:=List.mem_filterMap.mp hp;cases q:h.get? b with
 | none=>rw [q] at e;cases e
 | some o=>
  rw [q] at e;have e':(b,o)=p:=JD e;subst e';exact ⟨hb,q⟩
theorem BR.pinned {s:Af}{fp:List Addr}(I:BR X alP σ H s)(hf:∀ b∈fp,Ju X alP H b)(ho:∀ b∈fp,∃ o,s.heap.get? b=Dn o/\∀ v,o.data≠.cell v):BR X (alP++Bw fp s.heap) σ H s:=
 I.pins_of fun p hp=>(Py.mp hp).elim (fun z=>I.pin p (Qu _ z)) fun z=>by
  obtain ⟨hb,e⟩:=agT z;obtain ⟨f0,f1,f2,_⟩:=hf p.1 hb;obtain ⟨o,e',d⟩:=ho p.1 hb;rw [e] at e';cases e';exact ⟨e,f0,f1,f2,d⟩
theorem BR.unpinned {pl:List (Addr×Obj)}{s:Af}(I:BR X (alP++pl) σ H s):BR X alP σ H s:=I.pins_of fun p hp=>I.pin p (Qu _ (XQ _ hp))
theorem abG {iter:Expr}{wi:TI}{g:TG}{tb:TS}(hp:YJ (CN X.prog X.w) X.A X.env X.xe)(hc:X.calm=true)(hi:PI X tg iter wi)(hg:PG X tg g)(hb:Nv X body tb)
  (hs:∀ x,Rn iter X.env x=pure x:=by intro _;rfl):PS X (.For tg iter body [] pos) (afO wi g tb):=by
 intro alP s σ H D I h;refine wpAny_For (HJ (hi alP s σ H _ I h) fun v s1 h1=>HJ h1 fun itv s2 h2=>?_) hs;obtain ⟨it,fp,tn,J,H2,e,I2,T,st2,f2,W,⟨m0,w0⟩,turn⟩:=h2;subst e
 -- what stays true of the iterator's objects through the loop
 have stat:∀ {H':Hp},(∀ b∈fp,H' b=JI)->∀ b∈fp,Ju X alP H' b:=fun hn b hb=>⟨hn b hb,(f2 b hb).2⟩
 refine codeAny_forLoop_any (fun n s'=>∃ i σ' H',BR X alP σ' H' s'/\tn i s'.heap/\(∀ b∈fp,H' b=JI)/\W i n σ' H') ?_ m0 ⟨0,σ,H2,I2,st2,fun b hb=>(f2 b hb).1,w0⟩;rintro n s3 ⟨i,σ3,H3,I3,st3,fr3,w3⟩;rcases turn i n σ3 H3 w3 with ⟨stop,qn⟩ | ⟨go,N,hN,step⟩
 ·refine Vu hp<|HJ (T.done X rfl rfl rfl (fun _=>hc) i alP s3 σ3 H3 X.xe I3 (stat fr3) st3 stop) fun r s4 ⟨hr,I4⟩=>?_
  subst hr;exact W8 ⟨σ3,H3,I4,qn⟩
 ·refine Vu hp<|HJ (T.item X rfl rfl rfl (fun _=>hc) i alP s3 σ3 H3 X.xe I3 (stat fr3) st3 go) fun r s4 ⟨u,hr,h4⟩=>?_
  subst hr;refine Vu hp<|HJ h4 fun _ s5 ⟨x,H5,I5,r5,y5,st5,fr5⟩=>?_
  have I5':=I5.pinned (stat fr5) (T.obj _ _ st5);refine Vu hp<|HJ (hg _ s5 σ3 H5 x u _ I5' r5<|step x H5 y5) fun _ s6 ⟨σ6,H6,I6,q6⟩=>?_
  refine Vu hp<|HJ (hb _ s6 σ6 H6 _ I6 q6) fun f s7 q7=>?_
  have again:∀ {σ7:St} {H7:Hp},BR X (alP++Bw fp s5.heap) σ7 H7 s7->N σ7 H7->∃ m,m<n/\∃ i σ' H',BR X alP σ' H' s7/\tn i s7.heap/\(∀ b∈fp,H' b=JI)/\W i m σ' H':=fun {σ7 H7} I7 n7=>by
   obtain ⟨m',hm,w7⟩:=hN σ7 H7 n7;refine ⟨m',hm,i+1,σ7,H7,I7.unpinned,T.keep _ _ _ st5 fun b hb o e=>(I7.pin (b,o)<|Qu _<|Qu _<|j5 hb e).1,fun b hb=>?_,w7⟩;obtain ⟨o,e,d⟩:=T.obj _ _ st5 b hb;exact (I7.pin (b,o)<|Qu _<|Qu _<|j5 hb e).2.1
  cases f with
  | next=>obtain ⟨σ7,H7,I7,n7⟩:=q7;exact again I7 n7
  | cont=>obtain ⟨σ7,H7,I7,n7⟩:=q7;exact again I7 n7
  | brk=>obtain ⟨σ7,H7,I7,q7⟩:=q7;exact ⟨σ7,H7,I7.unpinned,q7⟩
  | ret v=>obtain ⟨x7,σ7,H7,I7,r7,q7⟩:=q7;exact ⟨x7,σ7,H7,I7.unpinned,r7,q7⟩
end
abbrev R2:=V->V->Hp->VK->Prop
def Jz (X:Cx)(f:Mk->Mk->Sem Mk)(r:R2):Prop:=
 ∀ (alP:List (Addr×Obj)) (s:Af) (σ : St) (H:Hp) (x y:V) (v u:Mk) (Q:VK),BR X alP σ H s->RelV x v->RelV y u->r x y H Q ->
  Bm (CN X.prog X.w) X.A (f v u) (EP X alP σ Q) X.xe s
def UnR (X:Cx)(f:Mk->Sem Mk)(r:V->Hp->VK->Prop):Prop:=
 ∀ (alP:List (Addr×Obj)) (s:Af) (σ : St) (H:Hp) (x:V) (v:Mk) (Q:VK),BR X alP σ H s->RelV x v->r x H Q ->
  Bm (CN X.prog X.w) X.A (f v) (EP X alP σ Q) X.xe s
def gM (X:Cx)(f:Mk)(r:List V->Hp->VK->Prop):Prop:=
 ∀ (alP:List (Addr×Obj)) (s:Af) (σ : St) (H:Hp) (xs:List V) (us:List Mk) (Q:VK),BR X alP σ H s->Bp xs us->r xs H Q ->
  Bm (CN X.prog X.w) X.A (call f us) (EP X alP σ Q) X.xe s
def afq (X:Cx)(r:V->Hp->(Bool->Hp->Prop)->Prop):Prop:=
 ∀ (alP:List (Addr×Obj)) (s:Af) (σ : St) (H:Hp) (x:V) (v:Mk) (Q:Bool->Hp->Prop),BR X alP σ H s->RelV x v->r x H Q ->
  Bm (CN X.prog X.w) X.A (truthy v) (TP X alP σ Q) X.xe s
def tOp (r:R2)(ta tb:TE):TE:=fun σ H Q=>ta σ H fun x H1=>tb σ H1 fun y H2=>r x y H2 Q
def tUn (r:V->Hp->VK->Prop)(ta:TE):TE:=fun σ H Q=>ta σ H fun x H1=>r x H1 Q
def rI (C:Int->Int->Prop)(g:Int->Int->V):R2:=fun x y H Q=>∃ i j,x=.int i/\y=.int j/\C i j/\Q (g i j) H
def rI0 (g:Int->Int->V):R2:=fun x y H Q=>∃ i j,x=.int i/\y=.int j/\Q (g i j) H
def rU (g:Int->V):V->Hp->VK->Prop:=fun x H Q=>∃ i,x=.int i/\Q (g i) H
section
variable {a b c:Expr}{tb tc:TE}
theorem adW (ha:PE X a ta)(hb:PE X b tb){s:Af}{R:V->V->Hp->Prop}(I:BR X alP σ H s)
  (h:ta σ H fun x H1=>tb σ H1 fun y H2=>R x y H2) {Q:Mk->Af->Prop} {f:Mk->Mk->Sem Mk}
  (hf:∀ v u s2 x y H2,BR X alP σ H2 s2->RelV x v->RelV y u->R x y H2->Bm (CN X.prog X.w) X.A (f v u) Q X.xe s2) :
  Bm (CN X.prog X.w) X.A (eval a X.env) (fun v s₁=>Bm (CN X.prog X.w) X.A (eval b X.env) (fun u s₂=>Bm (CN X.prog X.w) X.A (f v u) Q X.xe s₂) X.xe s₁) X.xe s:=by
 refine HJ (ha alP s σ H _ I h) fun v s1 ⟨x,H1,I1,r1,q1⟩=>?_;refine HJ (hb alP s1 σ H1 _ I1 q1) fun u s2 ⟨y,H2,I2,r2,q2⟩=>?_;exact hf v u s2 x y H2 I2 r1 r2 q2
theorem adv {op:Operator}{r:R2}(ho:Jz X (O5 op) r)(ha:PE X a ta)(hb:PE X b tb):PE X (.BinOp a op b pos) (tOp r ta tb):=by
 intro alP s σ H Q I h;exact wpAny_BinOp<|adW ha hb I h fun v u s2 x y H2 I2 rx ry q=>ho alP s2 σ H2 x y v u Q I2 rx ry q
theorem acR {op:UnaryOp}{r:V->Hp->VK->Prop}(ho:UnR X (unaryOp op) r)(ha:PE X a ta):PE X (.UnaryOp op a pos) (tUn r ta):=by
 intro alP s σ H Q I h;exact UnaryOp_<|HJ (ha alP s σ H _ I h) fun v s1 ⟨x,H1,I1,r1,q1⟩=>ho alP s1 σ H1 x v Q I1 r1 q1
theorem opI {f:Mk->Mk->Sem Mk}{C:Int->Int->Prop}{g:Int->Int->Int}
  (rule:∀ (i j:Int) (t u:Tok) (s:Af) (Q:Mk->Af->Prop) (E:Mk->Af->Prop),C i j->Q (.int (g i j) s.toks) { s with toks:=s.toks+1 }->Bm (CN X.prog X.w) X.A (f (.int i t) (.int j u)) Q E s) :
  Jz X f (rI C fun i j=>.int (g i j)):=by
 intro alP s σ H x y v u Q I rx ry h;obtain ⟨i,j,rfl,rfl,hc,q⟩:=h;obtain ⟨t,rfl⟩:=rx;obtain ⟨t',rfl⟩:=ry;exact rule i j t t' s _ _ hc ⟨.int<|g i j,H,I.tok _,⟨_,rfl⟩,q⟩
theorem aeU {f:Mk->Mk->Sem Mk}{g:Int->Int->Int}
  (rule:∀ (i j:Int) (t u:Tok) (s:Af) (Q:Mk->Af->Prop) (E:Mk->Af->Prop),Q (.int (g i j) s.toks) { s with toks:=s.toks+1 }->Bm (CN X.prog X.w) X.A (f (.int i t) (.int j u)) Q E s) :
  Jz X f (rI0 fun i j=>.int (g i j)):=by
 intro alP s σ H x y v u Q I rx ry h;obtain ⟨i,j,rfl,rfl,q⟩:=h;obtain ⟨t,rfl⟩:=rx;obtain ⟨t',rfl⟩:=ry;exact rule i j t t' s _ _ ⟨.int<|g i j,H,I.tok _,⟨_,rfl⟩,q⟩
theorem aeH {f:Mk->Mk->Sem Mk}{g:Int->Int->Bool}
  (rule:∀ (i j:Int) (t u:Tok) (s:Af) (Q:Mk->Af->Prop) (E:Mk->Af->Prop),Q (.bool (g i j)) s->Bm (CN X.prog X.w) X.A (f (.int i t) (.int j u)) Q E s) :
  Jz X f (rI0 fun i j=>.bl (g i j)):=by
 intro alP s σ H x y v u Q I rx ry h;obtain ⟨i,j,rfl,rfl,q⟩:=h;obtain ⟨t,rfl⟩:=rx;obtain ⟨t',rfl⟩:=ry;exact rule i j t t' s _ _ ⟨.bl<|g i j,H,I,rfl,q⟩
def adp (i j:Int):Prop:=0<=j/\j<=1000000/\i.natAbs<2^64
theorem abX:Jz X (O5 .Add) (rI0 fun i j=>.int (i+j)):=aeU fun _ _ _ _ _ _ _ q=>add_int q
theorem ahT:Jz X (O5 .Sub) (rI0 fun i j=>.int (i - j)):=aeU fun _ _ _ _ _ _ _ q=>sub_int q
theorem aiu:Jz X (O5 .Mod) (rI (fun _ j=>j≠0) fun i j=>.int (i.fmod j)):=opI fun _ _ _ _ _ _ _ hc q=>mod_int' hc q
theorem abL:Jz X (O5 .Pow) (rI adp fun i j=>.int (i^j.toNat)):=opI fun _ _ _ _ _ _ _ hc q=>pow_int_small hc.1 hc.2.1 hc.2.2 q
theorem unI {f:Mk->Sem Mk}{g:Int->Int}
  (rule:∀ (i:Int) (t:Tok) (s:Af) (Q:Mk->Af->Prop) (E:Mk->Af->Prop),Q (.int (g i) s.toks) { s with toks:=s.toks+1 }->Bm (CN X.prog X.w) X.A (f (.int i t)) Q E s) :
  UnR X f (rU fun i=>.int (g i)):=by
 intro alP s σ H x v Q I rx h;obtain ⟨i,rfl,q⟩:=h;obtain ⟨t,rfl⟩:=rx;exact rule i t s _ _ ⟨.int<|g i,H,I.tok _,⟨_,rfl⟩,q⟩
theorem aah:UnR X (unaryOp .USub) (rU fun i=>.int (-i)):=unI fun _ _ _ _ _ q=>neg_int q
theorem wH {s:Af}{Q:VK}{k k':Bool}(I:BR X alP σ H s)(q:Q (.bl k) H)(e:k=k'):EP X alP σ Q (.bool k') s:=by
 subst e;exact ⟨.bl k,H,I,rfl,q⟩
theorem ac8:Jz X (Ly .Lt) (rI0 fun i j=>.bl (decide (i<j))):=aeH fun _ _ _ _ _ _ _ q=>lt_int q
theorem acU:Jz X (Ly .Gt) (rI0 fun i j=>.bl (decide (j<i))):=aeH fun _ _ _ _ _ _ _ q=>gt_int q
theorem Zg:Jz X (Ly .Is) (fun x y H Q=>y=.non/\Q (.bl (decide (x=.non))) H):=by
 intro alP s σ H x y v u Q I rx ry h;obtain ⟨rfl,q⟩:=h;cases ry;refine is_none_gen<|wH I q ?_
 cases x <;> first
  | (cases rx;rfl)
  | (obtain ⟨t,rfl⟩:=rx;rfl)
theorem Yp:Jz X (Ly .IsNot) (fun x y H Q=>y=.non/\Q (.bl (!decide (x=.non))) H):=by
 intro alP s σ H x y v u Q I rx ry h;obtain ⟨rfl,q⟩:=h;cases ry;refine isnot_none_gen<|wH I q ?_
 cases x <;> first
  | (cases rx;rfl)
  | (obtain ⟨t,rfl⟩:=rx;rfl)
theorem Jz.or {f:Mk->Mk->Sem Mk}{r r':R2}(h:Jz X f r)(h':Jz X f r'):Jz X f (fun x y H Q=>r x y H Q\/r' x y H Q):=by
 intro alP s σ H x y v u Q I rx ry q;rcases q with q | q
 ·exact h alP s σ H x y v u Q I rx ry q
 ·exact h' alP s σ H x y v u Q I rx ry q
theorem qg (b:Expr){op:CmpOp}(h:op≠.In:=by decide)(h2:op≠.NotIn:=by decide):VR op b=false:=by
 have e1:(op==CmpOp.In)=false:=by cases op <;> first | rfl | exact absurd rfl h
 have e2:(op==CmpOp.NotIn)=false:=by cases op <;> first | rfl | exact absurd rfl h2
 cases b <;> simp [VR,e1,e2]
theorem ajr {op:CmpOp}{r:R2}(ho:Jz X (Ly op) r)(ha:PE X a ta)(hb:PE X b tb)(hm:VR op b=false):PE X (.Compare a [op] [b] pos) (tOp r ta tb):=by
 intro alP s σ H Q I h;exact wpAny_Compare1 (adW ha hb I h fun v u s2 x y H2 I2 rx ry q=>ho alP s2 σ H2 x y v u Q I2 rx ry q) hm
def adY (t:TE):TT:=fun σ H Q=>t σ H fun x H'=>∃ k,x=.bl k/\Q k H'
theorem ajW {op:CmpOp}{r:R2}(ho:Jz X (Ly op) r)(ha:PE X a ta)(hb:PE X b tb)(hm:VR op b=false):PT X (.Compare a [op] [b] pos) (adY (tOp r ta tb)):=by
 intro alP s σ H Q I h;refine wpAny_isTrue_Compare1 (HJ (ha alP s σ H _ I h) fun v s1 ⟨x,H1,I1,r1,q1⟩=>HJ (hb alP s1 σ H1 _ I1 q1) fun u s2 ⟨y,H2,I2,r2,q2⟩=>
  HJ (ho alP s2 σ H2 x y v u _ I2 r1 r2 q2) fun c s3 ⟨z,H3,I3,r3,k,e,q3⟩=>?_) hm
 subst e;cases r3;exact Wg ⟨H3,I3,q3⟩
def afa (K:Bl)(x:V)(H:Hp)(k:Bool):Prop:=
 match x with
 | .non=>k=false
 | .bl b=>k=b
 | .int i=>k=(i != 0)
 | .str y=>y.length<=Ht/\k=((y.length:Int) != 0)
 | .byt y=>y.size<=Ht/\k=((y.size:Int) != 0)
 | .ref p=>(∃ xs,JR K H p xs/\k = !xs.isEmpty)\/(∃ xs,Jh K H p xs/\k = !xs.isEmpty)\/∃ kvs,H p=Dn (.dK kvs)/\k = !kvs.isEmpty
 | _=>False
theorem zaM {kvs:List (κ×V)}{vs:List (κ×Mk)}(r:KV kvs vs):(!vs.isEmpty) = !kvs.isEmpty:=by
 cases r <;> rfl
theorem wK {its:List Mk}(r:Bp xs its):(!its.toArray.isEmpty) = !xs.isEmpty:=by
 cases r <;> simp
theorem qb:(Ht:Nat)<2^63:=by rw [Vy];decide
theorem aii:afq X (fun x H Q=>∃ k,afa X.K x H k/\Q k H):=by
 intro alP s σ H x v Q I rx h;obtain ⟨k,e,q⟩:=h;have hl:=qb;have hs:Ht=16777216:=Vy;cases x with
 | non=>
  cases rx;have e':k=false:=e;subst e';exact truthy_none ⟨H,I,q⟩
 | bl b=>
  cases rx;have e':k=b:=e;subst e';exact Wg ⟨H,I,q⟩
 | int i=>
  obtain ⟨t,rfl⟩:=rx;have e':k=(i != 0):=e;subst e';exact PySem.P.truthy_int ⟨H,I,q⟩
 | str y=>
  obtain ⟨t,rfl⟩:=rx;obtain ⟨hy,e'⟩:y.length<=Ht/\k=((y.length:Int) != 0):=e;subst e';exact PySem.P.truthy_str (by lia) ⟨H,I.tok _,q⟩
 | byt y=>
  obtain ⟨t,rfl⟩:=rx;obtain ⟨hy,e'⟩:y.size<=Ht/\k=((y.size:Int) != 0):=e;subst e';exact PySem.W.truthy_bytes (by lia) ⟨H,I.tok _,q⟩
 | ref p=>
  cases rx;have e':(∃ xs,JR X.K H p xs/\k = !xs.isEmpty)\/(∃ xs,Jh X.K H p xs/\k = !xs.isEmpty)\/∃ kvs,H p=Dn (.dK kvs)/\k = !kvs.isEmpty:=e
  rcases e' with ⟨xs,hx,e'⟩ | ⟨xs,hx,e'⟩ | ⟨kvs,hx,e'⟩
  ·subst e';obtain ⟨its,r,pl,hz⟩:=I.list hx;have alQ:=r.length;exact wpAny_truthy_list pl.isList (by simp only [Jf];lia) ⟨H,I.tok _,by rw [wK r];exact q⟩
  ·subst e';obtain ⟨its,r,pl,hz⟩:=I.tuple hx;have alQ:=r.length;exact truthy_tuple pl (by simp only [Jf];lia) ⟨H,I.tok _,by rw [wK r];exact q⟩
  ·subst e';obtain ⟨hz,hS,vs,r,m⟩:kvs.length<=Ht/\(p==sysModules)=false/\∃ vs,KV kvs vs/\s.heap.DictOf (BP X.prog X.w) p vs:=I.hok p _ hx
   have alQ:kvs.length=vs.length:=Paired.length r;exact wpAny_truthy_dict hS m (by lia) ⟨H,I.tok _,by rw [zaM r];exact q⟩
 | _=>exact (show False from e).elim
theorem ahs (ha:PE X a ta)(he:∀ whole,isTrue a X.env whole=(do let v <-whole;standAt a.pos;holding [v] (truthy v))):
  PT X a (fun σ H Q=>ta σ H fun x H'=>∃ k,afa X.K x H' k/\Q k H'):=by
 intro alP s σ H Q I h;exact isTrue_plain (HJ (ha alP s σ H _ I h) fun v s1 ⟨x,H1,I1,r1,q1⟩=>aii alP s1 σ H1 x v Q I1 r1 q1)<|he _
theorem vals1 {x:V}(r:Bp [x] us):∃ u,us=[u]/\RelV x u:=by
 cases r with
 | cons r1 r2=>cases r2;exact ⟨_,rfl,r1⟩
theorem vals2 {x y:V}(r:Bp [x,y] us):∃ u w',us=[u,w']/\RelV x u/\RelV y w':=by
 cases r with
 | cons r1 r2=>
  cases r2 with
  | cons r3 r4=>cases r4;exact ⟨_,_,rfl,r1,r3⟩
theorem ahd:gM X (.builtin "abs") (fun xs H Q=>∃ i,xs=[.int i]/\Q (.int (if i<0 then -i else i)) H):=by
 intro alP s σ H xs us Q I r h;obtain ⟨i,rfl,q⟩:=h;obtain ⟨u,rfl,t,rfl⟩:=vals1 r;exact call_abs_int fun u tk=>⟨.int<|if i<0 then -i else i,H,I.tok _,⟨_,rfl⟩,q⟩
theorem yX (hc:X.calm=true):gM X (.builtin "max") (fun xs H Q=>∃ i j,xs=[.int i,.int j]/\Q (.int (if j>i then j else i)) H):=by
 intro alP s σ H xs us Q I r h;obtain ⟨i,j,rfl,q⟩:=h;obtain ⟨u,w',rfl,⟨t,rfl⟩,⟨t',rfl⟩⟩:=vals2 r;refine max_two_ints (I.ok.hd hc) fun h' tk k=>⟨_,H,I.kept k,?_,q⟩;by_cases hj:j>i
 ·rw [if_pos hj,if_pos hj];exact ⟨_,rfl⟩
 ·rw [if_neg hj,if_neg hj];exact ⟨_,rfl⟩
theorem zaL (hc:X.calm=true):gM X (.builtin "min") (fun xs H Q=>∃ i j,xs=[.int i,.int j]/\Q (.int (if j<i then j else i)) H):=by
 intro alP s σ H xs us Q I r h;obtain ⟨i,j,rfl,q⟩:=h;obtain ⟨u,w',rfl,⟨t,rfl⟩,⟨t',rfl⟩⟩:=vals2 r;refine min_two_ints (I.ok.hd hc) fun h' tk k=>⟨_,H,I.kept k,?_,q⟩;by_cases hj:j<i
 ·rw [if_pos hj,if_pos hj];exact ⟨_,rfl⟩
 ·rw [if_neg hj,if_neg hj];exact ⟨_,rfl⟩
end
structure af8 (h:Heap) (x dx C:Addr) (mA:Str->Option Mk):Prop where
 obj:h.get? x=Dn (PySem.W.instObj C dx)
 ns:h.Ns1 dx mA
 ne:dx≠x
variable {dx : Addr}{mA : Str->Option Mk}
theorem Br (n:h.Ns1 dx mA):∃ od,h.get? dx=Dn od/\∀ name,PySem.W.lookIn name od=Dn (mA name):=by
 obtain ⟨o,es,ep,ho,hd,hk,_,hm⟩:=n;refine ⟨o,ho,fun name=>?_⟩;have e:=hm name;unfold nsFind findBy at e;rw [<-Array.find?_toList] at e;unfold PySem.W.lookIn;rw [hd];dsimp only;split
 ·rename_i y q;rw [q] at e;exact congrArg Dn e
 ·rename_i q;rw [q] at e;have a:es.toList.any (·.refKey)=false:=by
   rw [List.any_eq_false];intro y hy;obtain ⟨z,t,hkey⟩:=hk y (Array.mem_toList_iff.mp hy);simp [DictEntry.refKey,hkey]
  have a':¬ es.toList.any (·.refKey)=true:=by rw [a];exact Ky
  rw [if_neg a'];exact congrArg Dn e
section
variable {s:Af}{x C f:Addr}{name:Str}{v:Mk}
end
variable {C f : Addr}{name : Str}
theorem W5.none_of {o:Option Mk}(r:W5 JI o):o=JI:=by
 cases o with
 | none=>rfl
 | some u=>exact (show False from r).elim
theorem agM {v:V}(r:RelV v u):PySem.W.handedIn u=true:=by
 cases v with
 | non=>cases (show u=Value.none from r);rfl
 | bl b=>cases (show u=Value.bool b from r);rfl
 | int i=>obtain ⟨t,e⟩:=(show ∃ t,u=Value.int i t from r);cases e;rfl
 | str x=>obtain ⟨t,e⟩:=(show ∃ t,u=Value.str x t from r);cases e;rfl
 | byt b=>obtain ⟨t,e⟩:=(show ∃ t,u=Value.bytes b t from r);cases e;rfl
 | flt b=>obtain ⟨t,e⟩:=(show ∃ t,u=Value.float b t from r);cases e;rfl
 | ref a=>cases (show u=Value.ref a from r);rfl
 | ty n=>cases (show u=Value.type n from r);rfl
section
variable {fs fs':List (Str×V)}
end
structure Cls (K:Bl) (C:Addr):Prop where
 pg:PySem.W.plainGet K C Str.empty=true
 hd:Wx K C=true
 po:PySem.W.plainOver K C=true
 sa:M6 K (.ref C) "__setattr__" = Dn (Dn (.builtin "object.__setattr__"))
structure Con (K:Bl) (C:Addr) (f:Str) (v:V) (u:Mk):Prop where
 at_:M6 K (.ref C) f=Dn (Dn u)
 rel:RelV v u
 get:PySem.W.specialIn K u "__get__" = Dn JI
 cp:PySem.W.copiedNames.contains f=false
structure Meth (K:Bl) (C:Addr) (m:Str) (f:Addr):Prop where
 at_:M6 K (.ref C) m=Dn (Dn (.ref f))
 fn:WW K (.ref f)=true
 kp:Og K (.ref f)=true
section
variable {s:Af}{fs:List (Str×V)}{f:Str}{v:V}
theorem Yk {env:Env}{f:Str}{s:Af}(hb:Rf e f env (eval e env)=eval e env)
  (h:Bm (CN prog w) A (eval e env) (fun o s₁=>Bm (CN prog w) A (getAttr o f true) Q E s₁) E s):Bm (CN prog w) A (eval (.Attribute e f pos) env) Q E s:=
 Attribute_any_ h (by rw [arm_eval_Attribute,hb])
end
section
variable {value:Expr}{f:Str}{tpos:Pos}{tv:TE}
end
section
variable {s:Af}{c:Mk}{b:Bool}
inductive K1 (K:Bl) (H:Hp):V->Mk->Prop where
 | non:K1 K H .non (.type "NoneType")
 | bl (x:Bool):K1 K H (.bl x) (.type "bool")
 | int (i:Int):K1 K H (.int i) (.type "int")
 | str (x:Str):K1 K H (.str x) (.type "str")
 | flt (x:UInt64):K1 K H (.flt x) (.type "float")
 | lst {a:Addr} {xs:List V} (e:H a=Dn (.lst xs)):K1 K H (.ref a) (.type "list")
 | frz {a:Addr} {o:Obj} {xs:List V} (e:H a=Dn (.frz o (.lst xs))):K1 K H (.ref a) (.type "list")
 | tup {a:Addr} {xs:List V} (e:H a=Dn (.tup xs)):K1 K H (.ref a) (.type "tuple")
 | dK {a:Addr} {kvs:List (Key×V)} (e:H a=Dn (.dK kvs)):K1 K H (.ref a) (.type "dict")
 | dT {a:Addr} {kvs:List (List Key×V)} (e:H a=Dn (.dT kvs)):K1 K H (.ref a) (.type "dict")
 | ins {a C dx:Addr} {fs:List (Str×V)} (e:H a=Dn (.ins C dx fs)) (cl:Cls K C) (ha:M6 K (.ref C) "__class__" = Dn (Dn (.builtin "object.__class__")))
   (hn:PySem.W.specialIn K (.builtin "object.__class__") "__get__" = Dn (Dn (.builtin "getset_descriptor.__get__"))) (htk:PySem.W.takesIn K (.builtin "object.__class__")=Dn true)
   (hm:Pb K C (.type "object")=Dn true):K1 K H (.ref a) (.ref C)
end
structure eO (k:Nat) (A:Dl):Prop where
 hd:9<=k->A.handled=JI
 dp:A.depth+3*k+5<recursionLimit
 un:A.units+16*k+200<Lk
theorem eO.mono (r:eO k A)(h:j<=k):eO j A:=⟨fun z=>r.hd (J4 z h),by have:=r.dp;lia,by have:=r.un;lia⟩
theorem eO.deeper {k:Nat}{A:Dl}(r:eO (k+1) A)(env:Env):eO k (A.deeper env):=
 ⟨fun z=>r.hd (Nat.le_succ_of_le z),by have:=r.dp;show A.depth+1+3*k+5<_;lia,by have:=r.un;show A.units+3+16*k+200<_;lia⟩
variable {kw : List (Str×Mk)}
theorem zaF:(A.under (.builtin "type.__call__" ⟨.ref C::us,kw⟩)).depth=A.depth+1:=by
 first | rfl | simp [Around.under,Code.weight,Code.isCreation,Code.isGuard,Code.isCaller,Code.frames,Code.isFrame,guardIds]
theorem zaw:(A.under (.builtin "type.__call__" ⟨.ref C::us,kw⟩)).units=A.units+1:=by
 first | rfl | simp [Around.under,Code.cUnits,Code.frames,Code.isFrame]
theorem eO.make (r:eO (k+1) A)(C:Addr)(us:List Mk)(kw:List (Str×Mk)):eO k (A.under (.builtin "type.__call__" ⟨.ref C::us,kw⟩)):=
 ⟨fun z=>r.hd (Nat.le_succ_of_le z),by have:=r.dp;rw [zaF];lia,by have:=r.un;rw [zaw];lia⟩
theorem eO.calm (r:eO k A)(h:9<=k):A.handled.isNone=true:=by rw [r.hd h];rfl
theorem eO.depth {k:Nat}{A:Dl}(r:eO k A):A.depth<recursionLimit:=by have:=r.dp;lia
theorem eO.units {k:Nat}{A:Dl}(r:eO k A):A.units+64<Lk:=by have:=r.un;lia
def afd:TA:=fun _ H Q=>Q [] H
def adJ (ta:TE)(tr:TA):TA:=fun σ H Q=>ta σ H fun x H1=>tr σ H1 fun xs H2=>Q (x::xs) H2
section
variable {te:TE}{t:TA}
theorem G5:PA X [] afd:=fun _ _ _ _ H Q I h=>Calls.spliced_nil ⟨[],H,I,.nil,h⟩
theorem n6 (ha:PE X e te)(hr:PA X es t)(hs:Cy (e::es) X.env=(false,eval e X.env)::Cy es X.env:=by rfl):PA X (e::es) (adJ te t):=by
 intro pos alP s σ H Q I h;rw [hs];show Bm _ _ (spliced ((false,eval e X.env)::Jd pos (Cy es X.env))) _ _ s;refine Calls.spliced_cons<|HJ (ha alP s σ H _ I h) fun u s1 ⟨x,H1,I1,r1,q1⟩=>?_
 exact HJ (hr pos alP s1 σ H1 _ I1 q1) fun us s2 ⟨xs,H2,I2,r2,q2⟩=>⟨x::xs,H2,I2,.cons r1 r2,q2⟩
def afJ (t:TA):TE:=fun σ H Q=>t σ H fun xs H1=>xs.length<=Ht/\∀ p,H1 p=JI->Q (.ref p) (Dv H1 p (.tup xs))
def afE (t:TA):TE:=fun σ H Q=>t σ H fun xs H1=>xs.length<=Ht/\∀ p,H1 p=JI->Q (.ref p) (Dv H1 p (.lst xs))
theorem R0 {x1}(h:PA X es t):PE X (.Tuple es x1 pos) (afJ t):=by
 intro alP s σ H Q I hq;refine wpAny_Tuple_spliced<|HJ (h pos alP s σ H _ I hq) fun us s1 ⟨xs,H1,I1,r,z,q⟩=>⟨by rw [<-r.length];exact z,?_⟩
 have hf:H1 s1.heap.objs.size=JI:=I1.hok.fresh (Ig _);refine ⟨.ref s1.heap.objs.size,Dv H1 s1.heap.objs.size<|.tup xs,I1.laid (t':=s1.toks) (fun b u e=>IV _ e) (Ig _) ?_,rfl,q _ hf⟩;exact ⟨z,us,r,⟨_,Kg _ rfl,rfl,⟨_,rfl⟩,rfl⟩⟩
theorem Uq (h:PA X es t):PE X (.List es pos) (afE t):=by
 intro alP s σ H Q I hq;refine wpAny_List_spliced<|HJ (h pos alP s σ H _ I hq) fun us s1 ⟨xs,H1,I1,r,z,q⟩=>⟨by rw [<-r.length];exact z,?_⟩
 have hf:H1 s1.heap.objs.size=JI:=I1.hok.fresh (Ig _);refine ⟨.ref s1.heap.objs.size,Dv H1 s1.heap.objs.size<|.lst xs,I1.laid (t':=s1.toks) (fun b u e=>IV _ e) (Ig _) ?_,rfl,q _ hf⟩;exact ⟨z,us,0,r,Kg _ rfl⟩
end
variable {t : TA}
abbrev Sp:=List V->Hp->VK->XK->Prop
abbrev RN:=Option Mk->List Env->Hp->Af->XK->Mk->Af->Prop
structure Wo (P:Dz) (w:Cw) (K:Bl) (mg:Str->Option Mk) (base:Heap) (A:Dl) (outer:List Env) (s:Af) (H:Hp):Prop where
 frames:A.frames=Dn outer
 mod:Mod K mg base
 bs:∀ b o,base.get? b=Dn o->s.heap.get? b=Dn o/\H b=JI
 bsz:base.objs.size<=s.heap.objs.size
 funs:s.heap.FunFrames base outer
 frf:∀ b∈frs outer,H b=JI
 hok:K7 P w H s.heap
 bare:Qp s.gens
 qt:Quiet A H
def CE (outer:List Env)(P:Dz)(w:Cw)(H:Hp)(s:Af)(Q:VK)(u:Mk)(s':Af):Prop:=
 ∃ v H',s'.os=s.os/\Qp s'.gens/\Un (frs outer) [] H H' s.heap s'.heap/\K7 P w H' s'.heap/\RelV v u/\Q v H'
def zak (CX:RN)(hd:Option Mk)(outer:List Env)(P:Dz)(w:Cw)(H:Hp)(s:Af)(Q:VK)(E:XK)(r:Result)(s':Af):Prop:=
 match r with
 | .ok (.ret u)=>CE outer P w H s Q u s'
 | .ok _=>False
 | .error e=>CX hd outer H s E e s'
structure jE (P:Dz) (w:Cw) (K:Bl) (mg:Str->Option Mk) (base:Heap) (CX:RN) (k:Nat) (f:Addr) (fd:Ln) (ps:List Str) (sp:Sp):Prop where
 len:∀ vs H Q E,sp vs H Q E->vs.length=ps.length
 run:∀ (A:Dl) (outer:List Env) (s:Af) (H:Hp) (args:Args) (us:List Mk) (vs:List V) (Q:VK) (E:XK),eO k A->Wo P w K mg base A outer s H->BindsTo s fd args (ps.zip us)->Bp vs us->sp vs H Q E ->
  RT (CN P w) A (.call (.ref f) args) (zak CX A.handled outer P w H s Q E) s
variable {CX : RN}{base : Heap}{sp : Sp}{mg : Str->Option Mk}{fd : Ln}
theorem jE.mono {P:Dz}{w:Cw}{K:Bl}{mg:Str->Option Mk}{base:Heap}{CX:RN}{j k:Nat}{f:Addr}{fd:Ln}{ps:List Str}{sp:Sp}(F:jE P w K mg base CX j f fd ps sp)(h:j<=k) :
  jE P w K mg base CX k f fd ps sp:=⟨F.len,fun A outer s H args us vs Q E hr=>F.run A outer s H args us vs Q E (hr.mono h)⟩
theorem jE.imp {ps:List Str}{sp':Sp}(F:jE P w K mg base CX k f fd ps sp)
  (h:∀ vs H Q E,sp' vs H Q E->sp vs H Q E):jE P w K mg base CX k f fd ps sp':=
 ⟨fun vs H Q E q=>F.len vs H Q E (h _ _ _ _ q),fun A outer s H args us vs Q E hr he hb hv hs=>F.run A outer s H args us vs Q E hr he hb hv (h _ _ _ _ hs)⟩
variable {outer : List Env}
theorem Wo.make {s:Af}(e:Wo P w K mg base A outer s H)(C:Addr)(us:List Mk)(kw:List (Str×Mk)):
  Wo P w K mg base (A.under (.builtin "type.__call__" ⟨.ref C::us,kw⟩)) outer s H:=⟨by first | exact e.frames | (simpa [Around.under,Code.envs,Code.isFrame,pushEnvs] using e.frames),e.mod,e.bs,e.bsz,e.funs,e.frf,e.hok,e.bare,e.qt⟩
section
variable {s:Af}
theorem BR.env0 (I:BR X alP σ H s):Wo X.prog X.w X.K X.mg X.base X.A X.stack s H:=
 ⟨I.ok.frames,I.ok.mod,I.bs,J4 I.ok.bsz I.sz,I.stack,I.stkFree,I.hok,I.bare,I.qt0⟩
theorem BR.after {Q:VK}(I:BR X alP σ H s)(h:CE X.stack X.prog X.w H s Q u s'):EP X alP σ Q u s':=by
 obtain ⟨v,H',os,bare,un,hok,r,q⟩:=h;obtain ⟨hh,g,d,t,os'⟩:=s';obtain rfl:os'=s.os:=os;exact ⟨v,H',I.call (h':=hh) (g':=g) (d':=d) (t':=t) (ch:=[]) un hok bare<|fun b z=>absurd z<|by simp,r,q⟩
end
def Xb (sp:Sp)(dvs:List V)(E:XK)(t:TA):TE:=fun σ H Q=>t σ H fun vs H1=>sp (vs++dvs) H1 Q E
def Binds (K:Bl)(fd:Ln)(ps:List Str)(ds:List Mk):Prop:=
 ∀ (s:Af) (us:List Mk),K.In s.heap->(us++ds).length=ps.length->BindsTo s fd ⟨us,[]⟩ (ps.zip (us++ds))
theorem Binds.all {ps:List Str}(h:∀ us:List Mk,us.length=ps.length->bindArgs fd ⟨us,[]⟩=pure (ps.zip us)):Binds K fd ps []:=fun s us _ hl=>by
 rw [Vv] at hl |-
 exact .of_eq<|h us hl
def Passes (CX:RN)(X:Cx)(E:XK):Prop:=∀ (alP:List (Addr×Obj)) (σ : St) (H:Hp) (s:Af) (e:Mk) (s':Af),BR X alP σ H s->CX X.A.handled X.stack H s E e s'->X.xe e s'
section
variable {ps:List Str}{dvs:List V}{ds:List Mk}{E:XK}{x m:Str}{p apos:Pos}
theorem Mi {s:Af}{Q:VK}{vs:List V}(F:jE X.prog X.w X.K X.mg X.base CX k f fd ps sp)(hr:eO k X.A)(hb:Binds X.K fd ps ds)(hd:Bp dvs ds)(hx:Passes CX X E)
  (I:BR X alP σ H s) (r:Bp vs us) (h:sp (vs++dvs) H Q E):Bm (CN X.prog X.w) X.A (call (.ref f) us) (EP X alP σ Q) X.xe s:=by
 have r2:Bp (vs++dvs) (us++ds):=r.append hd;have hl:(us++ds).length=ps.length:=by rw [<-r2.length];exact F.len _ _ _ _ h
 refine wpAny_call<|W6 (F.run X.A X.stack s H ⟨us,[]⟩ (us++ds) (vs++dvs) Q E hr I.env0 (hb s us I.kIn hl) r2 h) fun r s' hq=>?_
 cases r with
 | error e=>exact hx alP σ H s e s' I hq
 | ok fl=>
  cases fl with
  | ret u=>exact I.after hq
  | next=>exact Ov hq
  | brk=>exact Ov hq
  | cont=>exact Ov hq
theorem ais (F:jE X.prog X.w X.K X.mg X.base CX k f fd ps sp)(hr:eO k X.A)(hg:Gl X x)(hm:X.mg x=Dn (.ref f))(hk:Og X.K (.ref f)=true)(hb:Binds X.K fd ps ds)(hd:Bp dvs ds)(hx:Passes CX X E)
  (ha:PA X (e::es) t) (hdb:(x==("__debug__" : Str))=false:=by decide) (he:Cy (e::es) X.env=(false,eval e X.env)::Cy es X.env:=by rfl) (hpl:(Jd pos (Cy es X.env)).any (·.1)=false:=by rfl) :
  PE X (.Call (.Name x p) (e::es) [] pos) (Xb sp dvs E t):=by
 intro alP s σ H Q I h;refine VN<|oZ I hg hm ?_ hdb
 refine PySem.W.callWith_K (h₀:=X.base) I.ok.mod.kin hk (HJ (ha pos alP s σ H _ I h) fun us s1 ⟨vs,H1,I1,r,q⟩=>⟨I1.kIn,?_⟩) he hpl;exact Mi F hr hb hd hx I1 r q
theorem ajx (F:jE X.prog X.w X.K X.mg X.base CX k f fd ps sp)(hr:eO k X.A)(hg:Gl X x)(hm:X.mg x=Dn (.ref f))(hk:Og X.K (.ref f)=true)(hb:Binds X.K fd ps ds)(hd:Bp dvs ds)(hx:Passes CX X E)
  (hdb:(x==("__debug__" : Str))=false:=by decide):PE X (.Call (.Name x p) [] [] pos) (Xb sp dvs E afd):=by
 intro alP s σ H Q I h;refine VN<|oZ I hg hm ?_ hdb
 exact PySem.W.callWith_K0 I.kIn hk<|Mi (us:=[]) F hr hb hd hx I .nil h
structure agf (K:Bl) (C f:Addr):Prop where
 makes:PySem.W.makesIn K C=true
 init:M6 K (.ref C) "__init__" = Dn (Dn (.ref f))
 fn:WW K (.ref f)=true
 kp:Og K (.ref C)=true
end
variable {vs : List V}{apos : Pos}
section
variable {ps ks:List Str}{E:XK}{x m:Str}{p kpos:Pos}{kws:List QM}{te:TE}{tk:TA}{nm:Option Str}
structure aeZ (K:Bl) (fd:Ln) (ps ks:List Str) (g:List Mk->List Mk->List Mk) (gV:List V->List V->List V):Prop where
 to:∀ (s:Af) (us ws:List Mk),K.In s.heap->(g us ws).length=ps.length->BindsTo s fd ⟨us,ks.zip ws⟩ (ps.zip (g us ws))
 rel:∀ {vs:List V} {us:List Mk} {zs:List V} {ws:List Mk},Bp vs us->Bp zs ws->Bp (gV vs zs) (g us ws)
variable {g:List Mk->List Mk->List Mk}{gV:List V->List V->List V}
end
structure eE (N P:List Str) (sc:Scope):Prop where
 kind:sc.kind=.function
 co:sc.isCoroutine=false
 gen:sc.isGenerator=false
 nd:N.Nodup
 pre:N.take P.length=P
 par:∀ x∈P,sc.names.lookup x=Dn .local\/sc.names.lookup x=Dn .cell
 nofree:∀ y∈sc.names,y.2≠.free
theorem zu {O4:Str->Option ML}{x:Str}:∀ {binds:List (Str×Mk)} {m:Str->Option Mk},(∀ v,(x,v)∉binds)->bindL O4 binds m x=m x
 | [],_,_=>rfl
 | (n,v)::r,m,h=>by
  unfold bindL;rw [zu fun w hw=>h w (Ph _ hw)];split
  ·have:x≠n:=by rintro rfl;exact h v Ow
   simp [this]
  ·rfl
theorem zX {O4:Str->Option ML}{x:Str}:∀ {binds:List (Str×Mk)} {m:Str->Option Mk},(∀ v,(x,v)∉binds)->bindC O4 binds m x=m x
 | [],_,_=>rfl
 | (n,v)::r,m,h=>by
  unfold bindC;rw [zX fun w hw=>h w (Ph _ hw)];split
  ·rfl
  ·have:x≠n:=by rintro rfl;exact h v Ow
   simp [this]
theorem yU {O4:Str->Option ML}{x:Str}{v:Mk}:∀ {P:List Str} {vs:List Mk} {i:Nat} {m:Str->Option Mk},P.Nodup->P[i]?=Dn x->vs[i]?=Dn v->O4 x=Dn .local ->
  bindL O4 (P.zip vs) m x=Dn v
 | [],_,_,_,_,h,_,_=>by simp at h
 | _::_,[],_,_,_,_,h,_=>by simp at h
 | p::P,w::vs,0,m,nd,h1,h2,hk=>by
  simp at h1 h2;subst h1;subst h2;show bindL O4 ((p,w)::P.zip vs) m p=_;unfold bindL;rw [zu fun v hv=>(WQ.mp nd).1 (List.of_mem_zip hv).1,if_pos hk];simp
 | p::P,w::vs,i+1,m,nd,h1,h2,hk=>by
  show bindL O4 ((p,w)::P.zip vs) m x=_;unfold bindL;exact yU (i:=i) (WQ.mp nd).2 (by simpa using h1) (by simpa using h2) hk
theorem Bj {O4:Str->Option ML}{x:Str}{v:Mk}:∀ {P:List Str} {vs:List Mk} {i:Nat} {m:Str->Option Mk},P.Nodup->P[i]?=Dn x->vs[i]?=Dn v->O4 x≠Dn .local ->
  bindC O4 (P.zip vs) m x=Dn v
 | [],_,_,_,_,h,_,_=>by simp at h
 | _::_,[],_,_,_,_,h,_=>by simp at h
 | p::P,w::vs,0,m,nd,h1,h2,hk=>by
  simp at h1 h2;subst h1;subst h2;show bindC O4 ((p,w)::P.zip vs) m p=_;unfold bindC;rw [zX fun v hv=>(WQ.mp nd).1 (List.of_mem_zip hv).1,if_neg hk];simp
 | p::P,w::vs,i+1,m,nd,h1,h2,hk=>by
  show bindC O4 ((p,w)::P.zip vs) m x=_;unfold bindC;exact Bj (i:=i) (WQ.mp nd).2 (by simpa using h1) (by simpa using h2) hk
def start (N:List Str)(vs:List V):St:=vs.map Dn++Qf (N.length - vs.length) JI
def Dg (CX:RN)(P:Dz)(w:Cw)(K:Bl)(mg:Str->Option Mk)(base:Heap)(N:List Str)(qual:Str)(scope:Scope)(f:Addr)(cd:Mk)(A:Dl)(outer:List Env)(s:Af)(H:Hp)(E:XK):Cx where
 prog:=P
 w:=w
 K:=K
 mg:=mg
 base:=base
 A:=A.deeper (PN qual scope s.heap.objs.size f cd)
 N:=N
 s₀:=s
 H₀:=H
 env:=PN qual scope s.heap.objs.size f cd
 outer:=outer
 stack:=PN qual scope s.heap.objs.size f cd::outer
 ex:=[]
 calm:=A.handled.isNone
 fn:=fun _=>true
 pn:=[]
 xe:=fun e s'=>Bm (CN P w) (A.deeper (PN qual scope s.heap.objs.size f cd)) (leaving (PN qual scope s.heap.objs.size f cd) e) (fun _ s''=>CX A.handled outer H s E e s'') (fun e' s''=>CX A.handled outer H s E e' s'') s'
theorem EY {sc:Scope}{x:Str}(h:sc.names.lookup x=Dn .cell):∃ c,(KN n sc.names []).lookup x=Dn c:=by
 have q:=PySem.W.cellsFrom_some sc.names n [] (.inl h);exact Option.isSome_iff_exists.mp q
variable {scope : Scope}{qual : Str}
theorem ahD {N ps:List Str}{cd:Mk}{s s1:Af}{E:XK}
  (S:eE N ps scope) (e0:Wo P w K mg base A outer s H) (hl:vs.length=ps.length) (r:Bp vs us)
  (x:InCallC s s.heap.objs.size (bindL (PN qual scope s.heap.objs.size f cd).kindOf (ps.zip us) fun _=>JI) (KN (s.heap.objs.size+1) scope.names []) (bindC (PN qual scope s.heap.objs.size f cd).kindOf (ps.zip us) fun _=>JI) s1) :
  BR (Dg CX P w K mg base N qual scope f cd A outer s H E) [] (start N vs) H s1:=by
 have hpl:ps.length<=N.length:=by have:=congrArg List.length S.pre;rw [Q8] at this;lia
 obtain ⟨h1,tk,rfl,hk⟩:=x.done;have noA:∀ b:Addr,b∉(Dg CX P w K mg base N qual scope f cd A outer s H E).ex:=fun b z=>absurd (show b∈([]:List Addr) from z) (by simp)
 refine ⟨⟨e0.mod,S.kind,rfl,rfl,Ig _,fun y z c h1 h2=>?_,fun y hy=>?_,fun y c _ h=>?_,fun z=>Option.isNone_iff_eq_none.mp (show A.handled.isNone=true from z),e0.qt,Around.frames_deeper e0.frames,.inr ⟨rfl,rfl⟩,fun b z=>absurd z (noA b),e0.bs,e0.bsz,fun b _ _=>noA b,fun b z=>absurd z (noA b),e0.funs,e0.frf⟩,
  rfl,e0.bare,Un.kept hk,⟨_,x.toInCall.ns,fun i y v h1 h2 h3=>?_⟩,fun y c h=>⟨_,x.cell y c h⟩,e0.hok.fresh (Ig _),fun y c h=>?_,fun p hp=>absurd (show p∈([]:List (Addr×Obj)) from hp) (by simp),e0.hok.kept hk,?_⟩
 ·exact name_of_addr x.apart (Rt h1)<|Rt h2
 ·have hy:scope.names.lookup y=Dn .cell\/scope.names.lookup y=Dn .free:=hy;rcases hy with hy | hy
  ·exact EY hy
  ·exact absurd rfl<|S.nofree _<|Rt hy
 ·exact Nat.le_of_lt<|x.above y c<|Rt h
 ·have hi:i<vs.length:=by
   unfold start at h2;by_cases hi:i<vs.length
   ·exact hi
   ·rw [V0 (by simpa using hi)] at h2;rw [Xp] at h2;split at h2 <;> cases h2
  have ha:vs[i]?=Dn v:=by
   unfold start at h2;rw [Vf (by simpa using hi),N7] at h2;cases e:vs[i]? with
   | none=>rw [e] at h2;cases h2
   | some a=>rw [e] at h2;cases h2;rfl
  obtain ⟨u,hu,rv⟩:=r.get ha;have hp:ps[i]?=Dn y:=by
   rw [<-S.pre,List.getElem?_take_of_lt (by lia)];exact h1
  have ndP:ps.Nodup:=by rw [<-S.pre];exact S.nd.sublist (List.take_sublist _ _)
  refine ⟨u,rv,?_⟩;rcases S.par y (Q0 hp) with k | k
  ·exact .inl ⟨k,yU ndP hp hu k⟩
  ·obtain ⟨c,e⟩:=EY (n:=s.heap.objs.size+1) k;refine .inr ⟨.inl k,c,e,?_⟩;have q:=x.cell y c e;rw [Bj ndP hp hu (by show scope.names.lookup y≠_;rw [k];decide)] at q;exact q
 ·exact e0.hok.fresh<|Nat.le_of_lt<|x.above y c<|Rt h
 ·unfold start;show _=N.length;rw [Mf,Hu,List.length_replicate];lia
variable {od : Option Addr}
theorem ZW {params:Arguments}{dV kV doc pm cdv ct oc:Mk}{an:Option Addr}
  {osl:Array (Option Mk)} {N ps:List Str} {sp:Sp} (lk:K.lookup f=Dn ⟨oc,od,.func (U8 name qual params body scope dV kV doc pm an cdv ct),osl⟩) (hcd:W9 K cdv qual=true) (S:eE N ps scope)
  (len:∀ vs H Q E,sp vs H Q E->vs.length=ps.length)
  (hbody:∀ (A:Dl) (outer:List Env) (s:Af) (H:Hp) (vs:List V) (Q:VK) (E:XK),eO k (A.deeper (PN qual scope s.heap.objs.size f cdv))->sp vs H Q E ->
   ∃ t,Nv (Dg CX P w K mg base N qual scope f cdv A outer s H E) body t/\t { nx:=fun _ H'=>Q .non H',rt:=Q } (start N vs) H) :
  jE P w K mg base CX (k+1) f (U8 name qual params body scope dV kV doc pm an cdv ct) ps sp:=by
 refine ⟨len,fun A outer s H args us vs Q E hr e0 hb r hsp=>?_⟩;have hl:=len _ _ _ _ hsp;have KX:K.In s.heap:=e0.mod.kin.keeps fun b o e=>(e0.bs b o e).1
 have lim:s.heap.NoLimit:=e0.mod.nolimit.keeps fun b o e=>(e0.bs b o e).1
 have hkind:∀ y∈ps.zip us,scope.names.lookup y.1=Dn .local\/(scope.names.lookup y.1=Dn .cell/\((KN (s.heap.objs.size+1) scope.names []).lookup y.1).isSome=true):=fun ⟨n,v⟩ hy=>by
  rcases S.par n (List.of_mem_zip hy).1 with q | q
  ·exact .inl q
  ·exact .inr ⟨q,PySem.W.cellsFrom_some _ _ _<|.inl q⟩
 refine codeAny_call_function hr.depth (KX _ _ lk) rfl S.co S.gen rfl (PySem.W.codeRec_of KX hcd)<|hb _ _ _ _ ?_
 refine wpAny_newFunctionEnv_cells S.kind hkind fun env he s1 x=>?_;subst he;refine ⟨lim.keeps x.toInCall.keep,codeAny_func ?_⟩;obtain ⟨t,ht,hq⟩:=hbody A outer s H vs Q E (hr.deeper _) hsp;have I:BR (Dg CX P w K mg base N qual scope f cdv A outer s H E) [] (start N vs) H s1:=ahD S e0 hl r x;refine K3 (ht [] s1 (start N vs) H _ I hq) (fun fl s' hs=>?_) fun e s' hs=>hs;have fin:∀ {σ':St} {H':Hp} {v:V} {u:Mk},BR (Dg CX P w K mg base N qual scope f cdv A outer s H E) [] σ' H' s'->RelV v u->Q v H'->CE outer P w H s Q u s':=
  fun {σ' H' v u} J rv q=>⟨v,H',J.os,J.bare,J.base,J.hok,rv,q⟩
 cases fl with
 | ret u=>
  obtain ⟨v,σ',H',J,rv,q⟩:=hs;exact fin J rv q
 | next=>
  obtain ⟨σ',H',J,q⟩:=hs;exact fin (v:=V.non) (u:=Value.none) J rfl q
 | brk=>
  obtain ⟨_,_,_,q⟩:=hs;exact Ov q
 | cont=>
  obtain ⟨_,_,_,q⟩:=hs;exact Ov q
section
variable {x:Str}{p:Pos}{id T:String}{r:List V->Hp->VK->Prop}
def tCB (r:List V->Hp->VK->Prop)(t:TA):TE:=fun σ H Q=>t σ H fun vs H1=>r vs H1 Q
theorem xH (hc:gM X (.builtin id) r)(hg:Gl X x)(hm:X.mg x=JI)(hv:Ra x=Dn (.builtin id))(ha:PA X (e::es) t)(hn:x ≠ "__name__":=by decide)(hdb:(x==("__debug__" : Str))=false:=by decide)
  (he:Cy (e::es) X.env=(false,eval e X.env)::Cy es X.env:=by rfl) (hpl:(Jd pos (Cy es X.env)).any (·.1)=false:=by rfl):PE X (.Call (.Name x p) (e::es) [] pos) (tCB r t):=by
 intro alP s σ H Q I h;refine VN<|sW I hg hm hv ?_ hn hdb
 exact PyProof.Rows.callWith_builtin1 (HJ (ha pos alP s σ H _ I h) fun us s1 ⟨vs,H1,I1,r1,q1⟩=>hc alP s1 σ H1 vs us Q I1 r1 q1) he hpl
theorem agI (hc:gM X (.type T) r)(hg:Gl X x)(hm:X.mg x=JI)(hv:Ra x=Dn (.type T))(ha:PA X (e::es) t)(hn:x ≠ "__name__":=by decide)(hdb:(x==("__debug__" : Str))=false:=by decide)
  (he:Cy (e::es) X.env=(false,eval e X.env)::Cy es X.env:=by rfl) (hpl:(Jd pos (Cy es X.env)).any (·.1)=false:=by rfl):PE X (.Call (.Name x p) (e::es) [] pos) (tCB r t):=by
 intro alP s σ H Q I h;refine VN<|sW I hg hm hv ?_ hn hdb
 exact Xi (HJ (ha pos alP s σ H _ I h) fun us s1 ⟨vs,H1,I1,r1,q1⟩=>hc alP s1 σ H1 vs us Q I1 r1 q1) he hpl
end
end L2
namespace HT
open PySem PyProof.Rows
section
open PySem.SeqAt
open PySem.AutoSeq1 (wpAny_loadPart')
open PySem.MeetsSeq PySem.MeetsSeq2 PySem.MeetsSeq3
end
section
variable {prog:Dz}{w:Cw}{A:Dl}{E:Mk->Af->Prop}{s:Af}
theorem U4 {t b:Addr}{vs ws:List Mk}{Q:Mk->Af->Prop}(ht:IsTup s.heap t vs.toArray)(hb:IsTup s.heap b ws.toArray)(hv:vs≠[])
  (h1:ws=[]->Q (.ref t) s) (h2:ws≠[]->Q (.ref s.heap.objs.size) { s with heap:=s.heap.push { cls:=.type "tuple",data:=.seq (vs++ws).toArray } })
  (hsz:vs.length+ws.length<=Ht):Bm (CN prog w) A (O5 .Add (.ref t) (.ref b)) Q E s:=by
 obtain ⟨⟨cls,dd,data,sl⟩,ho,hc,n,hd⟩:=id ht;obtain ⟨⟨cls2,dd2,data2,sl2⟩,ho2,hc2,n2,hd2⟩:=id hb;simp only at hc hd hc2 hd2;subst hc hd hc2 hd2;have e:vs.toArray++ws.toArray=(vs++ws).toArray:=by simp
 by_cases hw:ws=[]
 ·exact concat_meets ⟨_,ho,rfl⟩ ⟨_,ho2,rfl⟩ noFill_tuple_add seq_tuple_add PySem.F.slot_tuple_add PySem.F.entry_tuple_add (PySem.F.args_tuple_add_2 _ _)
   (tuple_addW1 t b vs.toArray ws.toArray n n2 dd dd2 sl sl2 (by simpa using hv) (by simp [hw])) ⟨ho,ho2,h1 hw⟩
 ·refine concat_meets ⟨_,ho,rfl⟩ ⟨_,ho2,rfl⟩ noFill_tuple_add seq_tuple_add PySem.F.slot_tuple_add PySem.F.entry_tuple_add (PySem.F.args_tuple_add_2 _ _)
   (tuple_addW2 t b vs.toArray ws.toArray n n2 dd dd2 sl sl2 (by simpa using hv) (by simpa using hw) (by rw [Jf,Jf];exact hsz)) ⟨ho,ho2,?_⟩
  rw [e];exact h2 hw
def sIx (n d:Nat):Option Int->Nat
 | none=>d
 | some v=>if v<0 then (v+(n:Int)).toNat else min v.toNat n
theorem G4 (n d:Nat):sIx n d JI=d:=rfl
theorem JQ (n d k:Nat):sIx n d (Dn (k:Int))=min k n:=by
 show (if (k:Int)<0 then ((k:Int)+(n:Int)).toNat else min (k:Int).toNat n)=min k n;rw [if_neg (by lia),Int.toNat_natCast]
theorem aaz (n d:Nat)(hd:d<=n)(o:Option Int):sIx n d o<=n:=by
 cases o with
 | none=>exact hd
 | some v=>
  show (if v<0 then (v+(n:Int)).toNat else min v.toNat n)<=n;by_cases hv:v<0
  ·rw [if_pos hv];lia
  ·rw [if_neg hv];exact Nat.min_le_right _ _
theorem Lx (v:Int)(n d:Nat):(if v<0 then max (v+(n:Int)) 0 else min v (n:Int))=((sIx n d (Dn v):Nat):Int):=by
 show (if v<0 then max (v+(n:Int)) 0 else min v (n:Int))=(((if v<0 then (v+(n:Int)).toNat else min v.toNat n):Nat):Int);by_cases hv:v<0
 ·simp only [if_pos hv];lia
 ·simp only [if_neg hv];lia
theorem zaH (lo hi:Option Int)(n:Nat):Builtin.Slice.sliceAdjust lo hi 1 (n:Int)=(((sIx n 0 lo:Nat):Int),((sIx n n hi:Nat):Int)):=by
 have h1:¬ ((1:Int)<0):=by lia
 unfold Builtin.Slice.sliceAdjust;simp only [h1,if_false];refine J7 ?_ ?_
 ·cases lo with
  | none=>rfl
  | some v=>exact Lx v n 0
 ·cases hi with
  | none=>rfl
  | some v=>exact Lx v n n
theorem zaz (i j:Nat):YG (i:Int) (j:Int) 1=j - i:=by
 unfold YG;have h1:(1:Int)>0:=by lia
 simp only [h1,if_true,Int.ediv_one];split <;> lia
theorem wN {v:Mk}{o:Option Int}{Q:Option Int->Af->Prop}(p:IsPart v o)(h:Q o s):Bm (CN prog w) A (Builtin.Slice.slicePartIndex v) Q E s:=by
 cases p with
 | none=>exact slicePart_none h
 | int i t=>exact slicePart_int h
theorem jr {sl:Addr}{vl vu:Mk}{lo hi:Option Int}{n:Nat}{Q:Int×Int×Nat->Af->Prop}(hs:s.heap.IsSliceOf sl vl vu .none)(pl:IsPart vl lo)(pu:IsPart vu hi)
  (h:Q (((sIx n 0 lo:Nat):Int),1,sIx n n hi - sIx n 0 lo) s):Bm (CN prog w) A (Builtin.Slice.sliceApplied (.ref sl) (pure (n:Int))) Q E s:=by
 obtain ⟨os,hos,hcs,hds⟩:=id hs;unfold Builtin.Slice.sliceApplied Builtin.Slice.sliceFields;refine Al<|Al<|Kc hos hds (x:=vl) rfl<|Al<|Kc hos hds (x:=vu) rfl<|Al<|Kc hos hds (x:=.none) rfl<|Ck ?_
 refine Al<|slicePart_none ?_
 show Bm _ _ (if ((1:Int)==0)=true then _ else _) _ _ s;rw [if_neg (by decide)];refine Al<|wN pl<|Al<|wN pu<|Al<|Ck ?_
 show Bm _ _ (match Builtin.Slice.sliceAdjust lo hi 1 (n:Int) with | (lo,hi)=>pure (lo,(1:Int),YG lo hi 1)) _ _ s;rw [zaH lo hi n];show Bm _ _ (pure (((sIx n 0 lo:Nat):Int),(1:Int),YG ((sIx n 0 lo:Nat):Int) ((sIx n n hi:Nat):Int) 1)) _ _ s;rw [zaz];exact Ck h
theorem zbo (xs:Array Mk)(i k:Nat):((Ni k).filterMap fun (m:Nat)=>xs[((i:Int)+(m:Int)*1).toNat]?).toArray=((xs.toList.drop i).take k).toArray:=by
 have e:(fun (m:Nat)=>xs[((i:Int)+(m:Int)*1).toNat]?)=fun m=>xs[i+m]?:=by
  funext m;have:((i:Int)+(m:Int)*1).toNat=i+m:=by lia
  rw [this]
 rw [e];have:=pick_run xs i k
 rw [List.filterMap_map] at this;have e2:((fun x=>xs[x]?) ∘ fun x=>i+x)=fun m=>xs[i+m]?:=rfl
 rw [e2] at this;rw [this]
theorem oU {t sl:Addr}{items:Array Mk}{vl vu:Mk}{lo hi:Option Int}{Q:Mk->Af->Prop}(ht:IsTup s.heap t items)(hs:s.heap.IsSliceOf sl vl vu .none)(pl:IsPart vl lo)(pu:IsPart vu hi)
  (hw:¬ (sIx items.size 0 lo=0/\sIx items.size items.size hi=items.size))
  (h:Q (.ref s.heap.objs.size) { s with heap:=s.heap.push { cls:=.type "tuple",data:=.seq ((items.toList.drop (sIx items.size 0 lo)).take (sIx items.size items.size hi - sIx items.size 0 lo)).toArray } })
  (hsz:items.size<=Ht):Bm (CN prog w) A (getItem (.ref t) (.ref sl)) Q E s:=by
 have htake:sizeOk (.seq ((items.toList.drop (sIx items.size 0 lo)).take (sIx items.size items.size hi - sIx items.size 0 lo)).toArray):=by
  show ((items.toList.drop (sIx items.size 0 lo)).take (sIx items.size items.size hi - sIx items.size 0 lo)).toArray.size<=Ht;rw [Jf,Q8,Vo,Array.length_toList];lia
 have hj:sIx items.size items.size hi<=items.size:=aaz _ _ (Ig _) hi;obtain ⟨os,hos,hcs,hds⟩:=id hs;have hTs:s.TypeIs (.ref sl) "slice":=⟨os,hos,hcs⟩
 unfold getItem;try with_reducible refine Nb ?_
 first | refine Al (Ck ?_) | skip
 refine Al<|wpAny_sequenceKey ht.typeIs (by decide) ?_
 refine Al (UG (name:=Rb "__getitem__") ht.typeIs Vg
  (Rm Vg ht.typeIs entry_tuple_getitem ?_ (args_tuple_getitem _ _)))
 show Bm _ _ (Builtin.Tuple.tupleItemsOf (.ref t) >>= _) _ _ s;refine Al<|tupleItemsOf_ ht ?_
 refine Al<|wpAny_typeOf hTs ?_
 rw [if_pos (by decide)];refine Al<|jr hs pl pu ?_
 have hno:¬ ((((sIx items.size 0 lo:Nat):Int)==0&&(1:Int)==1&&(sIx items.size items.size hi - sIx items.size 0 lo)==items.size)=true):=by
  intro q;rw [Jw,Jw] at q;have q1:((sIx items.size 0 lo:Nat):Int)=0:=eq_of_beq q.1.1;have q2:sIx items.size items.size hi - sIx items.size 0 lo=items.size:=eq_of_beq q.2;exact hw ⟨by lia,by lia⟩
 show Bm _ _ (if (((sIx items.size 0 lo:Nat):Int)==0&&(1:Int)==1&&(sIx items.size items.size hi - sIx items.size 0 lo)==items.size)=true then _ else _) _ _ s;rw [if_neg hno,zbo];first
  | exact Al (m:=Y7 _) (Q9 (Ck ⟨_,rfl,Ck h⟩) htake)
  | exact Al (m:=Y7 _) (Q9 (Al (Ck (Ck ⟨_,rfl,Ck h⟩))) htake)
  | exact Al (Al (m:=Y7 _) (Q9 (Ck (Ck ⟨_,rfl,Ck h⟩)) htake))
  | exact Al (Al (m:=Y7 _) (Q9 (Ck ⟨_,rfl,Ck h⟩) htake))
end
end HT
namespace L2
open PySem PySem.Spec PyProof.Rows
abbrev TO:=St->Hp->(Option Int->Hp->Prop)->Prop
def PO (X:Cx)(e:Option Expr)(t:TO):Prop:=
 ∀ (alP:List (Addr×Obj)) (s:Af) (σ : St) (H:Hp) (Q:Option Int->Hp->Prop),BR X alP σ H s->t σ H Q ->
  Bm (CN X.prog X.w) X.A (evalPart e X.env) (fun u s'=>∃ o H',BR X alP σ H' s'/\IsPart u o/\Q o H') X.xe s
def aju:TO:=fun _ H Q=>Q JI H
def adB (t:TE):TO:=fun σ H Q=>t σ H fun x H1=>∃ i,x=.int i/\Q (Dn i) H1
section
variable {X:Cx}{e:Expr}{te:TE}{lo hi:Option Expr}{tl th:TO}{pos p2:Pos}
theorem aiS:PO X JI aju:=by
 intro alP s σ H Q I h;rw [evalPart_none];exact Ck ⟨JI,H,I,.none,h⟩
theorem Yo (h:PE X e te):PO X (Dn e) (adB te):=by
 intro alP s σ H Q I hw;rw [evalPart_some];refine HJ (h alP s σ H _ I hw) fun u s1 ⟨x,H1,I1,r1,q1⟩=>?_;obtain ⟨i,rfl,q⟩:=q1;obtain ⟨t,rfl⟩:=r1;exact ⟨Dn i,H1,I1,.int i t,q⟩
def RK (X:Cx)(r:V->Option Int->Option Int->Hp->VK->Prop):Prop:=
 ∀ (alP:List (Addr×Obj)) (s:Af) (σ : St) (H:Hp) (x:V) (v vl vu:Mk) (lo hi:Option Int) (sl:Addr) (Q:VK),BR X alP σ H s->RelV x v->s.heap.IsSliceOf sl vl vu .none->IsPart vl lo->IsPart vu hi->r x lo hi H Q ->
  ∃ T id,typeLookup (.type T) "__getitem__" = pure (Dn (.builtin id))/\s.TypeIs v T/\Bm (CN X.prog X.w) X.A (getItem v (.ref sl)) (EP X alP σ Q) X.xe s
theorem RK.or {r r':V->Option Int->Option Int->Hp->VK->Prop}(h:RK X r)(h':RK X r'):RK X (fun x lo hi H Q=>r x lo hi H Q\/r' x lo hi H Q):=by
 intro alP s σ H x v vl vu lo hi sl Q I rx hs pl pu q;rcases q with q | q
 ·exact h alP s σ H x v vl vu lo hi sl Q I rx hs pl pu q
 ·exact h' alP s σ H x v vl vu lo hi sl Q I rx hs pl pu q
def tSl (r:V->Option Int->Option Int->Hp->VK->Prop)(te:TE)(tl th:TO):TE:=fun σ H Q=>te σ H fun x H1=>tl σ H1 fun l H2=>th σ H2 fun u H3=>r x l u H3 Q
theorem ahB {r:V->Option Int->Option Int->Hp->VK->Prop}(hr:RK X r)(he:PE X e te)(hl:PO X lo tl)(hu:PO X hi th):PE X (.Subscript e (.Slice lo hi JI p2) pos) (tSl r te tl th):=by
 intro alP s σ H Q I h;refine Subscript_<|HJ (he alP s σ H _ I h) fun v s1 ⟨x,H1,I1,r1,q1⟩=>?_
 refine wpAny_Slice<|HJ (hl alP s1 σ H1 _ I1 q1) fun vl s2 ⟨l,H2,I2,pl,q2⟩=>HJ (hu alP s2 σ H2 _ I2 q2) fun vu s3 ⟨u,H3,I3,pu,q3⟩=>?_
 rw [evalPart_none];refine Ck ?_;have I4:BR X alP σ H3 { s3 with heap:=s3.heap.push { cls:=.type "slice",data:=.fields #[vl,vu,.none] } }:=I3.kept (t':=s3.toks) fun b ob q=>IV _ q
 obtain ⟨T,id,hT,ht,hg⟩:=hr alP { s3 with heap:=s3.heap.push { cls:=.type "slice",data:=.fields #[vl,vu,.none] } } σ H3 x v vl vu l u s3.heap.objs.size Q I4 r1 (Heap.IsSliceOf.new ..) pl pu q3;show Bm (CN X.prog X.w) X.A (subscriptTail e (.Slice lo hi JI p2) v (.ref s3.heap.objs.size)) (EP X alP σ Q) X.xe { s3 with heap:=s3.heap.push { cls:=.type "slice",data:=.fields #[vl,vu,.none] } };exact tail_any (ops:=[.ref s3.heap.objs.size,v]) ht hT hg<|by with_unfolding_all rfl
def Pk (xs:List V)(lo hi:Option Int):List V:=(xs.drop (HT.sIx xs.length 0 lo)).take (HT.sIx xs.length xs.length hi - HT.sIx xs.length 0 lo)
theorem uW (xs:List V)(lo hi:Option Int):(Pk xs lo hi).length<=xs.length:=by
 unfold Pk;rw [Q8,Vo];lia
def afs (K:Bl):V->Option Int->Option Int->Hp->VK->Prop:=fun x lo hi H Q=>∃ a xs,x=.ref a/\Jh K H a xs /\
 ¬ (HT.sIx xs.length 0 lo=0/\HT.sIx xs.length xs.length hi=xs.length)/\∀ p,H p=JI->Q (.ref p) (Dv H p (.tup (Pk xs lo hi)))
theorem aiK:RK X (afs X.K):=by
 intro alP s σ H x v vl vu lo hi sl Q I rx hs pl pu h;obtain ⟨a,xs,rfl,hx,hw,q⟩:=h;cases rx;obtain ⟨its,r,ht,hz⟩:=I.tuple hx;have alQ:its.toArray.size=xs.length:=by rw [Jf];exact r.length.symm
 refine ⟨"tuple",_,Vg.lookup,ht.typeIs,?_⟩;refine HT.oU ht hs pl pu (by rw [alQ];exact hw) ?_ (by rw [alQ];exact hz);rw [alQ];refine ⟨.ref s.heap.objs.size,_,I.laid (t':=s.toks) (o:=.tup (Pk xs lo hi)) (fun b ob q=>IV _ q) (Ig _) ?_,rfl,q _<|I.hok.fresh<|Ig _⟩;exact ⟨J4 (uW xs lo hi) hz,_,(r.drop<|HT.sIx xs.length 0 lo).take (HT.sIx xs.length xs.length hi - HT.sIx xs.length 0 lo),RG.new _ _⟩
def ael (K:Bl):R2:=fun x y H Q=>∃ a b xs ys,x=.ref a/\y=.ref b/\Jh K H a xs/\Jh K H b ys/\xs≠[]/\xs.length+ys.length<=Ht /\
 (ys=[]->Q (.ref a) H)/\(ys≠[]->∀ p,H p=JI->Q (.ref p) (Dv H p (.tup (xs++ys))))
theorem Bp.nil_iff {xs:List V}{us:List Mk}(r:Bp xs us):us=[]↔xs=[]:=by
 cases r with
 | nil=>simp
 | cons _ _=>simp
theorem ajb:Jz X (O5 .Add) (ael X.K):=by
 intro alP s σ H x y v u Q I rx ry h;obtain ⟨a,b,xs,ys,rfl,rfl,ha,hb,hx,hz,q1,q2⟩:=h;cases rx;cases ry;obtain ⟨its,r1,p1,_⟩:=I.tuple ha;obtain ⟨its2,r2,p2,_⟩:=I.tuple hb;refine HT.U4 p1 p2 (fun z=>hx<|r1.nil_iff.mp z) (fun z=>⟨.ref a,H,I,rfl,q1<|r2.nil_iff.mp z⟩) (fun z=>?_) (by rw [<-r1.length,<-r2.length];exact hz);refine ⟨.ref s.heap.objs.size,_,I.laid (t':=s.toks) (o:=.tup (xs++ys)) (fun b ob q=>IV _ q) (Ig _) ?_,rfl,q2 (fun w=>z<|r2.nil_iff.mpr w) _<|I.hok.fresh<|Ig _⟩;exact ⟨by rw [Mf];exact hz,_,r1.append r2,RG.new _ _⟩
end
def QK (n:Nat)(i:Int):Option Nat:=if 0<=i then (if i<n then Dn i.toNat else JI) else if -(n:Int)<=i then Dn (i+n).toNat else JI
def Lg {α : Type}(xs:List α)(i:Int):Option α:=(QK xs.length i).bind fun j=>xs[j]?
theorem Ml {n:Nat}{i:Int}{j:Nat}(h:QK n i=Dn j):seqIndex? i n=Dn j/\j<n/\-(n:Int)<=i/\i<n:=by
 unfold QK at h;by_cases h0:0<=i
 ·rw [if_pos h0] at h;by_cases h1:i<n
  ·rw [if_pos h1] at h;have e:i.toNat=j:=JD h;exact ⟨by rw [seqIndex_of h0 h1,e],by lia,by lia,h1⟩
  ·rw [if_neg h1] at h;cases h
 ·rw [if_neg h0] at h;by_cases h1:-(n:Int)<=i
  ·rw [if_pos h1] at h;have e:(i+n).toNat=j:=JD h;exact ⟨by rw [seqIndex_neg (by lia) h1,e],by lia,h1,by lia⟩
  ·rw [if_neg h1] at h;cases h
theorem Ed {α : Type}{xs:List α}{i:Int}{v:α}(h:Lg xs i=Dn v):∃ j,seqIndex? i xs.length=Dn j/\xs[j]?=Dn v/\j<xs.length/\-(xs.length:Int)<=i/\i<xs.length:=by
 unfold Lg at h;cases e:QK xs.length i with
 | none=>rw [e] at h;cases h
 | some j=>
  rw [e] at h;obtain ⟨h1,h2,h3,h4⟩:=Ml e;exact ⟨j,h1,h,h2,h3,h4⟩
theorem uo {α : Type}{xs:List α}{j:Nat}{v:α}(h:xs[j]?=Dn v):Lg xs (j:Int)=Dn v:=by
 have hj:j<xs.length:=(Pn.mp h).1;have e:QK xs.length (j:Int)=Dn j:=by
  unfold QK;rw [if_pos (by lia),if_pos (by lia)];simp
 unfold Lg;rw [e];exact h
theorem aht {α : Type}(xs:List α)(v:α):Lg (xs++[v]) (-1)=Dn v:=by
 have hl:(xs++[v]).length=xs.length+1:=by simp
 have e:QK (xs++[v]).length (-1)=Dn xs.length:=by
  unfold QK;rw [hl,if_neg (by decide),if_pos (by lia)];congr 1
  lia
 unfold Lg;rw [e];show (xs++[v])[xs.length]?=Dn v;simp
def DP (b:Expr):Prop:=∀ o i,subscripted b false o i=operate [o,i] (getItem o i)
def Ry (X:Cx)(r:R2):Prop:=
 ∀ (value slice:Expr) (alP:List (Addr×Obj)) (s:Af) (σ : St) (H:Hp) (x y:V) (v u:Mk) (Q:VK),BR X alP σ H s->RelV x v->RelV y u->r x y H Q ->
  subscripted slice false v u=operate [v,u] (getItem v u)->Bm (CN X.prog X.w) X.A (subscriptTail value slice v u) (EP X alP σ Q) X.xe s
def MtR (X:Cx)(id:String)(r:V->List V->Hp->VK->Prop):Prop:=
 ∀ (alP:List (Addr×Obj)) (s:Af) (σ : St) (H:Hp) (x:V) (xs:List V) (v:Mk) (us:List Mk) (Q:VK),BR X alP σ H s->RelV x v->Bp xs us->r x xs H Q ->
  Bm (CN X.prog X.w) X.A (call (.builtin id) (v::us)) (EP X alP σ Q) X.xe s
section
variable {X:Cx}{a b:Expr}{ta tb:TE}{pos:Pos}
theorem Ry.or {r r':R2}(h:Ry X r)(h':Ry X r'):Ry X (fun x y H Q=>r x y H Q\/r' x y H Q):=by
 intro value slice alP s σ H x y v u Q I rx ry q hs;rcases q with q | q
 ·exact h value slice alP s σ H x y v u Q I rx ry q hs
 ·exact h' value slice alP s σ H x y v u Q I rx ry q hs
theorem acY {r:R2}(hr:Ry X r)(ha:PE X a ta)(hb:PE X b tb)(hs:DP b):PE X (.Subscript a b pos) (tOp r ta tb):=by
 intro alP s σ H Q I h;exact Subscript_<|adW ha hb I h fun v u s2 x y H2 I2 rx ry q=>hr a b alP s2 σ H2 x y v u Q I2 rx ry q<|hs _ _
def ae7 (K:Bl):R2:=fun x y H Q=>∃ p xs i v,x=.ref p/\y=.int i/\JR K H p xs/\Lg xs i=Dn v/\Q v H
def aeL (K:Bl):R2:=fun x y H Q=>∃ p xs i v,x=.ref p/\y=.int i/\Jh K H p xs/\Lg xs i=Dn v/\Q v H
def aeJ:R2:=fun x y H Q=>∃ z i c,x=.str z/\y=.int i/\z.length<=Ht/\Lg z.cps.toList i=Dn c/\Q (.str ⟨#[c]⟩) H
theorem Ys:Ry X (ae7 X.K):=by
 intro value slice alP s σ H x y v u Q I rx ry h hs;obtain ⟨p,xs,i,z,rfl,rfl,hq,he,q⟩:=h;cases rx;obtain ⟨t,rfl⟩:=ry;obtain ⟨its,r,pl,hz⟩:=I.list hq;obtain ⟨j,h1,h2,h3,h4,h5⟩:=Ed he;obtain ⟨w,ew,rw'⟩:=r.get h2;have hl:=r.length;have hn:=qb;have fin:EP X alP σ Q w s:=⟨z,H,I,rw',q⟩
 by_cases h0:0<=i
 ·have hj:i.toNat=j:=by
   rw [seqIndex_of h0 h5] at h1;exact JD h1
  exact item_listR pl.isList h0 (by lia) (by rw [hj];simpa using ew) fin hs
 ·have hj:(i+(its.toArray.size:Int)).toNat=j:=by
   rw [seqIndex_neg (by lia) h4] at h1;rw [Jf,<-hl];exact JD h1
  exact subscriptTail_builtinR (x:=w) pl.isList.typeIs slot_list_getitem.lookup
   (wpAny_getItem_list_neg (Q:=fun r s'=>r=w/\EP X alP σ Q r s') pl.isList (by lia) (by rw [Jf] <;> lia) (by lia) (by rw [hj];simpa using ew) ⟨rfl,fin⟩) hs
theorem abB:Ry X (aeL X.K):=by
 intro value slice alP s σ H x y v u Q I rx ry h hs;obtain ⟨p,xs,i,z,rfl,rfl,hq,he,q⟩:=h;cases rx;obtain ⟨t,rfl⟩:=ry;obtain ⟨its,r,pl,hz⟩:=I.tuple hq;obtain ⟨j,h1,h2,h3,h4,h5⟩:=Ed he;obtain ⟨w,ew,rw'⟩:=r.get h2;have hl:=r.length;have hn:=qb;have fin:EP X alP σ Q w s:=⟨z,H,I,rw',q⟩
 exact subscriptTail_builtinR (x:=w) pl.typeIs slot_tuple_getitem.lookup
  (getItem_tuple (j:=j) (Q:=fun r s'=>r=w/\EP X alP σ Q r s') pl (by lia) (by lia) (by rw [Jf,<-hl];exact h1) (by simpa using ew) ⟨rfl,fin⟩) hs
theorem abm:Ry X aeJ:=by
 intro value slice alP s σ H x y v u Q I rx ry h hs;obtain ⟨z,i,c,rfl,rfl,hz,he,q⟩:=h;obtain ⟨t,rfl⟩:=rx;obtain ⟨t',rfl⟩:=ry;obtain ⟨j,h1,h2,h3,h4,h5⟩:=Ed he;have hl:z.cps.toList.length=z.length:=by simp [Str.length]
 rw [hl] at h1 h4 h5;have hn:=qb;exact tail_any (typeIs_str s z t) slot_str_getitem.lookup (getItem_str (c:=c) (by
  have e1:decide (i < -(2^63:Int))=false:=decide_eq_false (by lia);have e2:decide (i>=2^63)=false:=decide_eq_false (by lia);rw [e1,e2,Bool.or_false]) (by rw [h1];simpa using h2) ⟨.str ⟨#[c]⟩,H,I.tok _,⟨_,rfl⟩,q⟩) hs
def rIx (K:Bl):R2:=fun x y H Q=>ae7 K x y H Q\/aeL K x y H Q\/aeJ x y H Q
theorem aiG:Ry X (rIx X.K):=Ys.or (abB.or abm)
theorem agu (its:List Mk)(n j:Nat)(u:Mk):Obj.mapSeq (·.setIfInBounds j u) { cls:=.type "list",data:=.seq its.toArray n } = { cls:=.type "list",data:=.seq (its.set j u).toArray n }:=by
 simp [Obj.mapSeq]
theorem BR.lst {alP:List (Addr×Obj)}{σ : St}{H:Hp}{s:Af}{p:Addr}{xs:List V}(I:BR X alP σ H s)(h:H p=Dn (.lst xs)) :
  ∃ (its:List Mk) (n:Nat),Bp xs its/\s.heap.get? p=Dn { cls:=.type "list",data:=.seq its.toArray n }/\xs.length<=Ht:=by
 obtain ⟨z,its,n,r,e⟩:=I.hok p _ h;exact ⟨its,n,r,e,z⟩
theorem BR.lstUpd {alP:List (Addr×Obj)}{σ : St}{H:Hp}{s:Af}{p:Addr}{xs ys:List V}{its its':List Mk}{n n':Nat}{f:Obj->Obj}(I:BR X alP σ H s)(h:H p=Dn (.lst xs))
  (ho:s.heap.get? p=Dn { cls:=.type "list",data:=.seq its.toArray n }) (hf:f { cls:=.type "list",data:=.seq its.toArray n } = { cls:=.type "list",data:=.seq its'.toArray n' }) (r:Bp ys its') (hz:ys.length<=Ht) (t:Nat) :
  BR X alP σ (Dv H p (.lst ys)) { s with heap:=s.heap.update p f,toks:=t }:=by
 have e:(s.heap.update p f).get? p=Dn { cls:=.type "list",data:=.seq its'.toArray n' }:=by
  rw [QW f ho (by rw [hf] <;> rfl),hf]
 refine I.write (x:=p) (e:=p) (by rw [h];trivial) (.inl rfl) (fun b u hb q=>(Pj _ _<|Jo hb).trans q) ⟨_,e⟩ ?_;exact ⟨hz,its',n',r,e⟩
def abM:V->V->V->Hp->(Hp->Prop)->Prop:=fun o i v H Q=>∃ p xs k j,o=.ref p/\i=.int k/\H p=Dn (.lst xs)/\QK xs.length k=Dn j/\Q (Dv H p (.lst (xs.set j v)))
theorem set_list:ada X abM:=by
 intro alP s σ H o i v ov iv u Q I ro ri rv h;obtain ⟨p,xs,k,j,rfl,rfl,hp,hj,q⟩:=h;cases ro;obtain ⟨t,rfl⟩:=ri;obtain ⟨its,n,r,ho,hz⟩:=I.lst hp;obtain ⟨h1,h2,h3,h4⟩:=Ml hj;have hl:=r.length;have hn:=qb;have I':BR X alP σ (Dv H p (.lst (xs.set j v))) { s with heap:=s.heap.update p (Obj.mapSeq (·.setIfInBounds j u)) }:=
  I.lstUpd hp ho (agu its n j u) (r.set rv j) (by rw [WL];exact hz) s.toks
 by_cases h0:0<=k
 ·have hk:k.toNat=j:=by
   rw [seqIndex_of h0 h4] at h1;exact JD h1
  exact PySem.W.ki_setAt ho h0 (by lia) (by rw [Jf,<-hl];exact h4) (by rw [hk];exact ⟨_,I',q⟩)
 ·have hk:(k+(its.toArray.size:Int)).toNat=j:=by
   rw [seqIndex_neg (by lia) h3] at h1;rw [Jf,<-hl];exact JD h1
  exact PySem.W.ki_setBack ho (by lia) (by rw [Jf,<-hl];exact h3) (by lia) (by rw [hk];exact ⟨_,I',q⟩)
theorem zaf (lo hi:Option Int)(n:Nat):(Vm lo hi JI n).1=((HT.sIx n 0 lo:Nat):Int)/\(Vm lo hi JI n).2.1=((HT.sIx n n hi:Nat):Int)/\(Vm lo hi JI n).2.2=1:=by
 refine ⟨?_,?_,rfl⟩
 ·cases lo with
  | none=>simp [Vm,HT.sIx]
  | some i=>
   simp only [Vm,HT.sIx,Option.getD_none,show (1:Int)>0 by decide,if_true];by_cases h:i<0
   ·simp only [h,if_true] <;> lia
   ·simp only [h,if_false] <;> lia
 ·cases hi with
  | none=>simp [Vm,HT.sIx]
  | some i=>
   simp only [Vm,HT.sIx,Option.getD_none,show (1:Int)>0 by decide,if_true];by_cases h:i<0
   ·simp only [h,if_true] <;> lia
   ·simp only [h,if_false] <;> lia
theorem yg (its:List Mk)(lo hi:Option Int):slicePick its.toArray lo hi JI=((its.drop (HT.sIx its.length 0 lo)).take (HT.sIx its.length its.length hi - HT.sIx its.length 0 lo)).toArray:=by
 obtain ⟨h1,h2,h3⟩:=zaf lo hi its.toArray.size;unfold slicePick;rw [h1,h2,h3];simp only [sliceRange_one,pick_run,Jf] <;> rfl
def afL (K:Bl):V->Option Int->Option Int->Hp->VK->Prop:=fun x lo hi H Q=>∃ a xs,x=.ref a/\JR K H a xs/\∀ p,H p=JI->Q (.ref p) (Dv H p (.lst (Pk xs lo hi)))
theorem ait:RK X (afL X.K):=by
 intro alP s σ H x v vl vu lo hi sl Q I rx hs pl pu h;obtain ⟨a,xs,rfl,hx,q⟩:=h;cases rx;obtain ⟨its,r,ht,hz⟩:=I.list hx;have alQ:=r.length;refine ⟨"list",_,slot_list_getitem.lookup,ht.isList.typeIs,?_⟩;refine wpAny_getItem_list_slice ht.isList hs pl pu .none (by simp) ?_ (by rw [Jf] <;> lia);rw [yg,<-alQ];refine ⟨.ref s.heap.objs.size,_,I.laid (t':=s.toks) (o:=.lst (Pk xs lo hi)) (fun b ob q=>IV _ q) (Ig _) ?_,rfl,q _<|I.hok.fresh<|Ig _⟩;exact ⟨J4 (uW xs lo hi) hz,_,0,(r.drop<|HT.sIx xs.length 0 lo).take (HT.sIx xs.length xs.length hi - HT.sIx xs.length 0 lo),Kg _ rfl⟩
def o9:V->Bool
 | .non=>true
 | .bl _=>true
 | .int _=>true
 | .str _=>true
 | _=>false
def Qo:V->V->Bool
 | .non,.non=>true
 | .bl a,.bl b=>a==b
 | .bl a,.int b=>(if a then 1 else 0)==b
 | .int a,.bl b=>a==(if b then 1 else 0)
 | .int a,.int b=>a==b
 | .str a,.str b=>a==b
 | _,_=>false
theorem Ul {A:Dl}{s:Af}{y x:V}{u v:Mk}(ry:RelV y u)(rx:RelV x v)(fy:o9 y=true)(fx:o9 x=true):V2 A s u v (Qo y x):=by
 cases y with
 | non=>
  cases ry;cases x with
  | non=>cases rx;exact SeqAt.EqAt.same _
  | bl b=>cases rx;exact SeqAt.EqAt.none_bool b
  | int b=>obtain ⟨t,rfl⟩:=rx;exact SeqAt.EqAt.none_int b t
  | str b=>obtain ⟨t,rfl⟩:=rx;exact SeqAt.EqAt.none_str b t
  | _=>exact absurd (show false=true from fx) Ky
 | bl a=>
  cases ry;cases x with
  | non=>cases rx;exact SeqAt.EqAt.bool_none a
  | bl b=>cases rx;exact SeqAt.EqAt.bool_bool a b
  | int b=>obtain ⟨t,rfl⟩:=rx;exact SeqAt.EqAt.bool_int a b t
  | str b=>obtain ⟨t,rfl⟩:=rx;exact SeqAt.EqAt.bool_str a b t
  | _=>exact absurd (show false=true from fx) Ky
 | int a=>
  obtain ⟨t',rfl⟩:=ry;cases x with
  | non=>cases rx;exact SeqAt.EqAt.int_none a t'
  | bl b=>cases rx;exact SeqAt.EqAt.int_bool a t' b
  | int b=>obtain ⟨t,rfl⟩:=rx;exact SeqAt.EqAt.int_int a t' b t
  | str b=>obtain ⟨t,rfl⟩:=rx;exact SeqAt.EqAt.int_str a t' b t
  | _=>exact absurd (show false=true from fx) Ky
 | str a=>
  obtain ⟨t',rfl⟩:=ry;cases x with
  | non=>cases rx;exact SeqAt.EqAt.str_none a t'
  | bl b=>cases rx;exact SeqAt.EqAt.str_bool a t' b
  | int b=>obtain ⟨t,rfl⟩:=rx;exact SeqAt.EqAt.str_int a t' b t
  | str b=>obtain ⟨t,rfl⟩:=rx;exact SeqAt.EqAt.str_str a t' b t
  | _=>exact absurd (show false=true from fx) Ky
 | _=>exact absurd (show false=true from fy) Ky
def RQ (x:V)(u:Mk):Bool:=match u with
 | .none=>Qo .non x
 | .bool b=>Qo (.bl b) x
 | .int i _=>Qo (.int i) x
 | .str z _=>Qo (.str z) x
 | _=>false
theorem TV {x y:V}{u:Mk}(r:RelV y u)(f:o9 y=true):RQ x u=Qo y x:=by
 cases y with
 | non=>cases r;rfl
 | bl b=>cases r;rfl
 | int i=>obtain ⟨t,rfl⟩:=r;rfl
 | str z=>obtain ⟨t,rfl⟩:=r;rfl
 | _=>exact absurd (show false=true from f) Ky
theorem Ci {x:V}:∀ {xs:List V} {us:List Mk},Bp xs us->xs.all o9=true->us.any (RQ x)=xs.any fun y=>Qo y x
 | _,_,.nil,_=>rfl
 | y::xs,u::us,.cons r t,f=>by
  rw [Rh,Jw] at f;rw [Vi,Vi,TV r f.1,Ci t f.2]
theorem xG {A:Dl}{s:Af}{x:V}{v:Mk}(rx:RelV x v)(fx:o9 x=true):∀ {xs:List V} {us:List Mk},Bp xs us->xs.all o9=true->∀ u∈us,V2 A s u v (RQ x u)
 | _,_,.nil,_=>fun u hu=>by cases hu
 | y::xs,u::us,.cons r t,f=>fun u' hu=>by
  rw [Rh,Jw] at f;rcases JN.mp hu with rfl | hu
  ·rw [TV r f.1];exact Ul r rx f.1 fx
  ·exact xG rx fx t f.2 u' hu
def inV (x:V)(xs:List V):Bool:=xs.any fun y=>Qo y x
def rIn (K:Bl)(neg:Bool):R2:=fun x y H Q=>∃ p xs,y=.ref p/\(JR K H p xs\/Jh K H p xs)/\o9 x=true/\xs.all o9=true/\Q (.bl (if neg then !inV x xs else inV x xs)) H
theorem zaj:Jz X (Ly .NotIn) (rIn X.K true):=by
 intro alP s σ H x y v u Q I rx ry h;obtain ⟨p,xs,rfl,hq,fx,fs,q⟩:=h;cases ry;rcases hq with hq | hq
 ·obtain ⟨its,r,pl,hz⟩:=I.list hq;refine SeqAt.notIn_listAt (RQ x) pl.isList (fun w hw=>xG rx fx r fs w<|by simpa using hw) ⟨.bl _,H,I,rfl,?_⟩;rw [show its.toArray.any (RQ x)=its.any (RQ x) by simp,Ci r fs];exact q
 ·obtain ⟨its,r,pl,hz⟩:=I.tuple hq;refine SeqAt.notIn_tupleAt (RQ x) pl (fun w hw=>xG rx fx r fs w<|by simpa using hw) ⟨.bl _,H,I,rfl,?_⟩;rw [show its.toArray.any (RQ x)=its.any (RQ x) by simp,Ci r fs];exact q
theorem zah:gM X (.builtin "len") (fun xs H Q=>∃ p ys,xs=[.ref p]/\(JR X.K H p ys\/Jh X.K H p ys)/\Q (.int ys.length) H):=by
 intro alP s σ H xs us Q I r h;obtain ⟨p,ys,rfl,hq,q⟩:=h;obtain ⟨u,rfl,rx⟩:=vals1 r;cases rx;have hn:=qb;rcases hq with hq | hq
 ·obtain ⟨its,r',pl,hz⟩:=I.list hq;have alQ:=r'.length;exact Calls.call_len_list pl.isList (by simp only [Jf] <;> lia) ⟨.int ys.length,H,I.tok _,⟨s.toks+1,by rw [Jf,alQ]⟩,q⟩
 ·obtain ⟨its,r',pl,hz⟩:=I.tuple hq;have alQ:=r'.length;exact len_tuple pl (by simp only [Jf] <;> lia) ⟨.int ys.length,H,I.tok _,⟨s.toks+1,by rw [Jf,alQ]⟩,q⟩
theorem gM.or {f:Mk}{r r':List V->Hp->VK->Prop}(h:gM X f r)(h':gM X f r'):gM X f (fun xs H Q=>r xs H Q\/r' xs H Q):=by
 intro alP s σ H xs us Q I rs q;rcases q with q | q
 ·exact h alP s σ H xs us Q I rs q
 ·exact h' alP s σ H xs us Q I rs q
theorem qd:gM X (.type "list") (fun xs H Q=>∃ p ys,xs=[.ref p]/\(JR X.K H p ys\/Jh X.K H p ys)/\∀ l,H l=JI->Q (.ref l) (Dv H l (.lst ys))):=by
 intro alP s σ H xs us Q I r h;obtain ⟨p,ys,rfl,hq,q⟩:=h;obtain ⟨u,rfl,rx⟩:=vals1 r;cases rx;have fin:∀ (its:List Mk),Bp ys its->ys.length<=Ht->∀ (h':Heap) (c':Nat),(∀ b o',s.heap.get? b=Dn o'->h'.get? b=Dn o') ->
   h'.get? s.heap.objs.size=Dn { cls:=.type "list",dict:=JI,data:=.seq its.toArray c',slots:=#[] }->EP X alP σ Q (.ref s.heap.objs.size) { s with heap:=h' }:=fun its r' hz h' c' kp e=>
  ⟨.ref s.heap.objs.size,_,I.laid (t':=s.toks) kp (Ig _) (show iW X.prog X.w _ h' _ (.lst ys) from ⟨hz,its,c',r',e⟩),rfl,q _ (I.hok.fresh (Ig _))⟩
 rcases hq with hq | hq
 ·obtain ⟨its,r',pl,hz⟩:=I.list hq;have alQ:=r'.length;obtain ⟨o,ho,hc,n,hd⟩:=pl.isList;exact call_list_seq p (.inl rfl) ho hc hd (fun h' c' kp e=>fin its r' hz h' c' kp e) (by simp only [Jf] <;> lia)
 ·obtain ⟨its,r',pl,hz⟩:=I.tuple hq;have alQ:=r'.length;obtain ⟨o,ho,hc,n,hd⟩:=pl;exact call_list_seq p (.inr rfl) ho hc hd (fun h' c' kp e=>fin its r' hz h' c' kp e) (by simp only [Jf] <;> lia)
theorem xT:gM X (.type "tuple") (fun xs H Q=>∃ p ys,xs=[.ref p]/\((JR X.K H p ys/\∀ l,H l=JI->Q (.ref l) (Dv H l (.tup ys)))\/(Jh X.K H p ys/\Q (.ref p) H))):=by
 intro alP s σ H xs us Q I r h;obtain ⟨p,ys,rfl,h⟩:=h;obtain ⟨u,rfl,rx⟩:=vals1 r;cases rx;rcases h with ⟨hq,q⟩ | ⟨hq,q⟩
 ·obtain ⟨its,r',pl,hz⟩:=I.list hq;have alQ:=r'.length;refine call_tuple_list pl.isList (fun h' kp=>?_) (by simp only [Jf] <;> lia);have I1:BR X alP σ H { s with heap:=h' }:=I.kept (t':=s.toks) kp;have I2:BR X alP σ (Dv H h'.objs.size (.tup ys)) { s with heap:=h'.push { cls:=.type "tuple",data:=.seq its.toArray } }:=
   I1.laid (t':=s.toks) (fun b o e=>IV _ e) (Ig _) (show iW X.prog X.w _ _ _ (.tup ys) from ⟨hz,its,r',RG.new _ _⟩)
  exact ⟨.ref h'.objs.size,_,I2,rfl,q _<|I1.hok.fresh<|Ig _⟩
 ·obtain ⟨its,r',pl,hz⟩:=I.tuple hq;exact call_tuple_same pl ⟨.ref p,H,I,rfl,q⟩
def tyV (K:Bl)(T:String)(x:V)(H:Hp):Prop:=match x with
 | .str _=>T = "str"
 | .int _=>T = "int"
 | .ref p=>(T = "list"/\∃ xs,JR K H p xs)\/(T = "tuple"/\∃ o,K.lookup p=Dn o/\o.cls=.type "tuple"/\o.dict=JI) \/
   (T = "dict"/\((∃ kvs,H p=Dn (.dK kvs))\/∃ kvs,H p=Dn (.dT kvs)))\/(T = "set"/\∃ S n,H p=Dn (.set S n))
 | _=>False
theorem Ua {alP:List (Addr×Obj)}{σ : St}{H:Hp}{s:Af}{T:String}{x:V}{v:Mk}(I:BR X alP σ H s)(r:RelV x v)(ty:tyV X.K T x H):
  s.TypeIs v T/\∀ a,v=.ref a->∃ ob,s.heap.get? a=Dn ob/\ob.dict=JI:=by
 cases x with
 | str z=>
  obtain ⟨t,rfl⟩:=r;cases (show T = "str" from ty)
  exact ⟨typeIs_str s z t,fun _ e=>nomatch e⟩
 | int i=>
  obtain ⟨t,rfl⟩:=r;cases (show T = "int" from ty)
  exact ⟨typeIs_int s i t,fun _ e=>nomatch e⟩
 | ref p=>
  cases r;rcases ty with ⟨rfl,xs,hq⟩ | ⟨rfl,o,hk,hc,hd⟩ | ⟨rfl,hk⟩ | ⟨rfl,S,n,hk⟩
  ·obtain ⟨its,_,pl,_⟩:=I.list hq;refine ⟨pl.isList.typeIs,fun a e=>?_⟩;cases e;obtain ⟨o,n,e,c,hd,_⟩:=pl;exact ⟨o,e,hd⟩
  ·refine ⟨⟨o,I.kIn p o hk,hc⟩,fun a e=>?_⟩;cases e;exact ⟨o,I.kIn _ o hk,hd⟩
  ·have z:∃ o,s.heap.get? p=Dn o/\o.ExactDict:=by
    rcases hk with ⟨kvs,hk⟩ | ⟨kvs,hk⟩
    ·obtain ⟨_,_,_,_,o,_,_,e,ex,_⟩:=I.hok p _ hk;exact ⟨o,e,ex⟩
    ·obtain ⟨_,_,_,_,o,_,_,e,ex,_⟩:=I.hok p _ hk;exact ⟨o,e,ex⟩
   obtain ⟨o,e,ex⟩:=z;refine ⟨⟨o,e,ex.1⟩,fun a e2=>?_⟩;cases e2;exact ⟨o,e,ex.2.1⟩
  ·obtain ⟨o,_,_,_,e,ex,_⟩:=I.hok p _ hk;refine ⟨⟨o,e,ex.1⟩,fun a e2=>?_⟩;cases e2;exact ⟨o,e,ex.2.1⟩
 | _=>exact Ov ty
def afQ (K:Bl)(T:String)(r:V->List V->Hp->VK->Prop)(to:TE):TE:=fun σ H Q=>to σ H fun x H1=>tyV K T x H1/\r x [] H1 Q
def tBM (K:Bl)(T:String)(r:V->List V->Hp->VK->Prop)(to:TE)(t:TA):TE:=fun σ H Q=>to σ H fun x H1=>tyV K T x H1/\t σ H1 fun xs H2=>r x xs H2 Q
variable {o e:Expr}{es:List Expr}{to:TE}{t:TA}{name:Str}{apos alR:Pos}{T id:String}{r:V->List V->Hp->VK->Prop}
theorem aad (pa:PlainAttrs T)(slot:Slot T name id)(hty:typeOf (.builtin id)=pure (.type "method_descriptor"))(hm:MtR X id r)(ho:PE X o to)
  (hbase:Rf o name X.env (eval o X.env)=eval o X.env:=by rfl) (hline:(apos.endLine==alR.line)=true:=by rfl):PE X (.Call (.Attribute o name apos) [] [] alR) (afQ X.K T r to):=by
 intro alP s σ H Q I h;refine wpAny_Call_method0_late hbase hline<|HJ (ho alP s σ H _ I h) fun v s1 ⟨x,H1,I1,r1,ty,q1⟩=>?_
 obtain ⟨h1,h2⟩:=Ua I1 r1 ty;exact ⟨T,id,pa,slot,hty,h1,h2,Calls.callWith_builtin rfl<|PySem.evalArgs_none<|hm alP s1 σ H1 x [] v [] Q I1 r1 .nil q1⟩
theorem aaQ (pa:PlainAttrs T)(slot:Slot T name id)(hty:typeOf (.builtin id)=pure (.type "method_descriptor"))(hm:MtR X id r)(ho:PE X o to)(ha:PA X (e::es) t)
  (hbase:Rf o name X.env (eval o X.env)=eval o X.env:=by rfl)
  (hfew:((Jd alR (Cy (e::es) X.env)).all (fun x=>!x.1)&&(backToKw alR (Vx [] X.env)).all (fun x=>x.1.isSome)
   && decide ((e::es).length+([]:List QM).length+(if ([]:List QM).isEmpty then 0 else 1)<30))=true:=by rfl)
  (hline:(apos.endLine==alR.line)=true:=by rfl) (hs:Cy (e::es) X.env=(false,eval e X.env)::Cy es X.env:=by rfl) (hplain:(Jd alR (Cy es X.env)).any (·.1)=false:=by rfl) :
  PE X (.Call (.Attribute o name apos) (e::es) [] alR) (tBM X.K T r to t):=by
 intro alP s σ H Q I h;refine wpAny_Call_method_late hbase hfew hline rfl<|HJ (ho alP s σ H _ I h) fun v s1 ⟨x,H1,I1,r1,ty,q1⟩=>?_
 obtain ⟨h1,h2⟩:=Ua I1 r1 ty;refine ⟨T,id,pa,slot,hty,h1,h2,?_⟩;have hA:=ha alR alP s1 σ H1 _ I1 q1;rw [hs] at hA |-
 refine Calls.callWith_builtin (by show (false||(Jd alR<|Cy es X.env).any (·.1))=false;rw [hplain] <;> rfl)<|Calls.evalArgs_plain ?_
 exact HJ hA fun us s2 ⟨vs,H2,I2,r2,q2⟩=>hm alP s2 σ H2 x vs v us Q I2 r1 r2 q2
/- xs.append(e), list.index on a module's tuple .. are MtR facts of 06m -/
end
def MtM (X:Cx)(id:String)(r:V->List V->Hp->VK->Prop):Prop:=
 ∀ (alP:List (Addr×Obj)) (s:Af) (σ : St) (H:Hp) (x:V) (xs:List V) (v:Mk) (us:List Mk) (Q:VK),BR X alP σ H s->RelV x v->Bp xs us->r x xs H Q ->
  Bm (CN X.prog X.w) X.A (call (.builtin id) (v::us)) (EP X alP σ Q) X.xe s
theorem Bp.one:∀ {x:V} {us:List Mk},Bp [x] us->∃ u,us=[u]/\RelV x u
 | _,_,.cons r .nil=>⟨_,rfl,r⟩
theorem Bp.zero:∀ {us:List Mk},Bp [] us->us=[]
 | _,.nil=>rfl
theorem Bp.dropLast {xs:List V}{us:List Mk}(h:Bp xs us):Bp xs.dropLast us.dropLast:=by
 induction h with
 | nil=>exact .nil
 | cons r t ih=>
  cases t with
  | nil=>exact .nil
  | cons q t'=>exact .cons r ih
theorem zaC {α : Type}(l:List α):l.eraseIdx (l.length - 1)=l.dropLast:=by
 induction l with
 | nil=>rfl
 | cons a r ih=>
  cases r with
  | nil=>rfl
  | cons b r=>
   have e:(a::b::r).length - 1=((b::r).length - 1)+1:=by
    have h1:(a::b::r).length=r.length+2:=rfl;have h2:(b::r).length=r.length+1:=rfl;lia
   rw [e,List.eraseIdx_cons_succ,ih];all_goals rfl
section
variable {X:Cx}{alP:List (Addr×Obj)}{σ : St}{H:Hp}{s:Af}{l b:Addr}{xs ys zs:List V}
theorem BR.lset {its its':List Mk}{n:Nat}{f:Array Mk->Array Mk}{t':Nat}(I:BR X alP σ H s)(hH:H l=Dn (.lst xs))
  (e:s.heap.get? l=Dn { cls:=.type "list",data:=.seq its.toArray n }) (hf:f its.toArray=its'.toArray) (hv:Bp ys its') (hz:ys.length<=Ht) :
  BR X alP σ (Dv H l (.lst ys)) { s with heap:=s.heap.update l (Obj.mapSeq f),toks:=t' }:=by
 have q:=PySem.IsL.update e f;rw [hf] at q;refine I.write (x:=l) (e:=l) (by rw [hH];exact trivial) (.inl rfl) (fun b' u hb hu=>(Pj s.heap (Obj.mapSeq f)<|Jo hb).trans hu) ⟨_,q⟩ ?_;exact ⟨hz,its',_,hv,q⟩
theorem BR.lnew {its:List Mk}{t':Nat}(I:BR X alP σ H s)(hv:Bp ys its)(hz:ys.length<=Ht):
  BR X alP σ (Dv H s.heap.objs.size (.lst ys)) { s with heap:=s.heap.push { cls:=.type "list",data:=.seq its.toArray },toks:=t' }:=
 I.laid (fun _ _ q=>IV _ q) (Ig _) ⟨hz,its,0,hv,Kg _ rfl⟩
theorem BR.fresh (I:BR X alP σ H s):H s.heap.objs.size=JI:=I.hok.fresh (Ig _)
theorem BR.lstM (I:BR X alP σ H s)(hH:H l=Dn (.lst xs)):xs.length<=Ht/\∃ (its:List Mk) (n:Nat),Bp xs its/\xs.length=its.length/\s.heap.get? l=Dn { cls:=.type "list",data:=.seq its.toArray n }:=by
 obtain ⟨z,its,n,r,e⟩:=I.hok l _ hH;exact ⟨z,its,n,r,r.length,e⟩
theorem ahC {n:Nat}(h:n<=Ht):Builtin.List.listTooLong n=false:=by
 unfold Builtin.List.listTooLong;exact decide_eq_false<|by lia
end
section
variable {X:Cx}
def JF:V->List V->Hp->VK->Prop:=fun x vs H Q=>∃ l xs y,x=.ref l/\vs=[y]/\H l=Dn (.lst xs)/\xs.length<Ht/\Q .non (Dv H l (.lst (xs++[y])))
theorem Bk:MtM X "list.append" JF:=by
 intro alP s σ H x vs v us Q I rx rv h;obtain ⟨l,xs,y,rfl,rfl,hH,hz,q⟩:=h;cases rx;obtain ⟨u,rfl,ru⟩:=rv.one;obtain ⟨z,its,n,r,hl,e⟩:=I.lstM hH;refine call_meets F.slot_list_append ⟨_,e,rfl⟩ F.entry_list_append (F.args_list_append_2 _ _) (PySem.list_append l its.toArray n u (by rw [Jf];lia)) ⟨e,?_⟩;refine ⟨.non,_,I.lset (its':=its++[u]) hH e (by simp) (r.append<|.cons ru .nil) ?_,rfl,q⟩;rw [Mf,List.length_singleton];lia
def Kf:V->List V->Hp->VK->Prop:=fun x vs H Q=>∃ l b xs zs,x=.ref l/\vs=[.ref b]/\H l=Dn (.lst xs)/\H b=Dn (.lst zs)/\xs.length+zs.length<=Ht/\Q .non (Dv H l (.lst (xs++zs)))
theorem ajw:MtM X "list.extend" Kf:=by
 intro alP s σ H x vs v us Q I rx rv h;obtain ⟨l,b,xs,zs,rfl,rfl,hH,hB,hz,q⟩:=h;cases rx;obtain ⟨u,rfl,ru⟩:=rv.one;cases ru;obtain ⟨z,its,n,r,hl,e⟩:=I.lstM hH;obtain ⟨z2,its2,n2,r2,hl2,e2⟩:=I.lstM hB;have hsz:its.toArray.size+its2.toArray.size<=Ht:=by rw [Jf,Jf];lia
 have hlong:¬ (!its.toArray.isEmpty&&Builtin.List.listTooLong (its.toArray.size+its2.toArray.size))=true:=by
  rw [ahC hsz,Wb];exact Ky
 refine call_meets F.slot_list_extend ⟨_,e,rfl⟩ F.entry_list_extend (F.args_list_extend_2 _ _)
  (AutoSeq1.list_extend_list_list_0 l its.toArray n b its2.toArray n2 hlong (by rw [Jf];lia) (by lia)) ⟨e,e2,?_⟩
 refine ⟨.non,_,I.lset (its':=its++its2) hH e (by simp) (r.append r2) ?_,rfl,q⟩;rw [Mf];lia
def aez:V->List V->Hp->VK->Prop:=fun x vs H Q=>∃ l xs y,x=.ref l/\vs=[]/\H l=Dn (.lst xs)/\xs[xs.length - 1]?=Dn y/\Q y (Dv H l (.lst xs.dropLast))
theorem Za:MtM X "list.pop" aez:=by
 intro alP s σ H x vs v us Q I rx rv h;obtain ⟨l,xs,y,rfl,rfl,hH,hy,q⟩:=h;cases rx;have hus:=rv.zero;subst hus;obtain ⟨z,its,n,r,hl,e⟩:=I.lstM hH;obtain ⟨u,hu,ru⟩:=r.get hy;have hy':its.toArray[its.toArray.size - 1]?=Dn u:=by
  show its.toArray[its.length - 1]?=Dn u;rw [<-Array.getElem?_toList,<-hl];exact hu
 refine call_meets F.slot_list_pop ⟨_,e,rfl⟩ F.entry_list_pop (F.args_list_pop_1 _) (MeetsSeq.list_pop_last l its.toArray n u hy' (by rw [Jf];lia)) ⟨e,?_⟩;refine ⟨y,_,I.lset (its':=its.dropLast) hH e ?_ r.dropLast ?_,ru,q⟩
 ·show its.toArray.eraseIdxIfInBounds (its.toArray.size - 1)=its.dropLast.toArray;rw [Jf,List.eraseIdxIfInBounds_toArray,zaC]
 ·rw [List.length_dropLast];lia
def afV:R2:=fun x y H Q=>∃ l b xs zs,x=.ref l/\y=.ref b/\H l=Dn (.lst xs)/\H b=Dn (.lst zs)/\xs.length+zs.length<=Ht/\∀ p,H p=JI->Q (.ref p) (Dv H p (.lst (xs++zs)))
theorem abe:Jz X (O5 .Add) afV:=by
 intro alP s σ H x y v u Q I rx ry h;obtain ⟨l,b,xs,zs,rfl,rfl,hH,hB,hz,q⟩:=h;cases rx;cases ry;obtain ⟨z,its,n,r,hl,e⟩:=I.lstM hH;obtain ⟨z2,its2,n2,r2,hl2,e2⟩:=I.lstM hB;refine PySem.P.add_list e e2 ?_ (by rw [Jf,Jf];lia);have ea:its.toArray++its2.toArray=(its++its2).toArray:=by simp
 rw [ea];exact ⟨.ref _,_,I.lnew (t':=s.toks) (r.append r2) (by rw [Mf];lia),rfl,q _ I.fresh⟩
end
section
variable {prog:Dz}{w:Cw}{A:Dl}{E:Mk->Af->Prop}{s:Af}
end
section
variable {X:Cx}
end
end L2
namespace Att
open PySem PySem.W PySem.Calls PyProof.Rows
theorem ux {P:Params}{h:Heap}:∀ (ns:List Int) (vs:List Mk),WellAll P h vs (ns.map WData.int)->IntsAre vs ns:=by
 intro ns;induction ns with
 | nil=>
  intro vs w;rw [WT] at w;cases w;exact .nil
 | cons n ns ih=>
  intro vs w;rw [Lz] at w;cases w with
  | cons a b=>
   cases a;exact .cons _ _<|ih _ b
theorem ahb {l:OpenLaw}{n:Nat}(hn:l.most=Dn n){P:Params}{h:Heap}{args:List WData}{vals:List Mk}
  (hpre:l.row.toRowW.claim.pre args=true) (hwl:WellAll P h vals args) :
  ∃ a vs ns,vals=[Value.ref a]/\args=[WData.list (ns.map WData.int)]/\h.get? a=Dn { cls:=.type "list",data:=.seq vs.toArray }/\IntsAre vs ns/\ns.length<=n:=by
 have hsh:WShape.hasAll [] args [.list .int]=true:=(pre_splitW hpre).1;have hc:l.pre.holds [] { args:=args }=true:=(pre_splitW hpre).2;obtain ⟨d,r,rfl,h1,h2⟩:=hasAllW_cons hsh;obtain rfl:=hasAllW_nil h2;obtain ⟨xs,rfl,h3⟩:=hasW_list h1;obtain ⟨ns,rfl⟩:=items_int h3;have alQ:ns.length<=n:=by
  unfold OpenLaw.pre at hc;have h4:(WTm.not (.lt (.lit (.int (n:Int))) (.len (.arg 0)))).holds [] { args:=[.list (ns.map .int)] }=true:=by
   have h4:=(holds_andW hc).1;rw [hn] at h4;exact h4
  have h5:=condW_of h4 (w_not (w_lt w_lit (w_len_list (w_arg rfl))));rw [Hu] at h5;refine Nat.le_of_not_lt fun q=>?_;have q':(n:Int)<((ns.length:Nat):Int):=by lia
  first
   | (rw [decide_eq_true q'] at h5;exact absurd h5 (by decide))
   | (simp at h5;lia)
 cases hwl with
 | cons w1 w2=>
  cases w2;cases w1 with
  | list ho hall=>exact ⟨_,_,ns,rfl,rfl,ho,ux ns _ hall,alQ⟩
theorem zaX (l:OpenLaw)(args:List WData):l.row.toRowW.claim.post args (.bool true) args=true:=
 postW_of (r:=l.row.toRowW) (X:=(true==true))
  (show WShape.has [] (.bool true) .bool=true by first | rfl | decide | simp [WShape.has,WShape.arms,WShape.armsAll])
  (show (WTm.eq .res (.lit (.bool true))).value [] { args:=args,res:=Dn (.bool true),after:=args }=Dn (.bool (true==true)) from w_eq_bool (w_res rfl) w_lit) rfl
theorem Dr {l:OpenLaw}{n:Nat}{q:Dz}{loose:List Str}{XP:(Str->Option Mk)->Heap->Prop}{YP:Cw->Heap->Prop}{d:DefRec}
  (hn:l.most=Dn n) (hdf:d.params.defaults=[])
  (call:∀ (w:Cw) (s₀ s₁ : Af) (mg mb:Str->Option Mk) (fa:Addr) (o:Obj) (pm cd doc:Mk) (a:Addr) (vs:List Mk) (ns:List Int),
   Ground q loose [] XP w s₀ mg mb s₁.heap->YP w s₁.heap ->
   s₁.heap.get? fa=Dn o->o.data=.func (docDef d.name d.params d.body d.scope pm cd doc)->s₁.heap.CodeRec cd d.name->mg d.name=Dn (.ref fa) ->
   s₁.heap.get? a=Dn { cls:=.type "list",data:=.seq vs.toArray }->IntsAre vs ns->ns.length<=n->s₁.gens = #[] ->
   RT (CN l.prog w) callerA (.call (.ref fa) ⟨[.ref a],[]⟩) (fun r s'=>r=.ok (.ret (.bool true))/\OldK s₁.heap s'.heap/\s'.os=s₁.os/\Qp s'.gens) s₁) :
  WalkO q loose XP YP l.row.toRowW d [] (fun f vs=>PySem.call f vs):=by
 intro w s₀ s₁ mg mb G Y fa o pm cd doc dV kV ho hd hcd hD hmg hg args vals as hpre hlay hrd hwl hlo;obtain rfl:dV=.none:=Dflts.none hD hdf;obtain rfl:kV=.none:=Dflts.noKw hD;obtain ⟨a,vs,ns,rfl,rfl,hobj,hints,alQ⟩:=ahb hn hpre hwl;refine enter_call<|W6 (call w s₀ s₁ mg mb fa o pm cd doc a vs ns G Y ho (fd_plain hd) hcd hmg hobj hints alQ hg) fun r s' hq=>?_
 obtain ⟨rfl,h2,h3,h4⟩:=hq;exact ⟨.inl ⟨.bool true,.bool true,[],rfl,fun _=>rfl,.bool true,zaX l _,fun _=>⟨List.Pairwise.nil,fun _ hm=>(nomatch hm)⟩⟩,h2,h3,h4⟩
section
variable {prog:Dz}{w:Cw}{A:Dl}{E:Mk->Af->Prop}{s:Af}{K:Frag}
def ledger (h:Heap)(L d:Addr):List (Addr×Obj):=(Ni h.objs.size).filterMap fun a=>if a=L\/a=d then JI else (h.get? a).map fun o=>(a,o)
end
end Att
variable {XP : (Str->Option Mk)->Heap->Prop}{loose : List Str}{YP : Cw->Heap->Prop}
namespace L2
open PySem PySem.Spec PyProof.Rows
theorem zf:∀ {vs:List Mk} {ns:List Int},IntsAre vs ns->Bp (ns.map V.int) vs
 | _,_,.nil=>.nil
 | _,_,.cons n t h=>.cons ⟨t,rfl⟩ (zf h)
def Only (H:Hp):Prop:=∀ b,H b=JI\/∃ o xs,H b=Dn (.frz o (.lst xs))
variable {ns : List Int}
theorem zbw {P:Dz}{w:Cw}{K:Bl}{mg mb:Str->Option Mk}{CX:RN}{k:Nat}{fa a:Addr}{fd:Ln}{x:Str}{sp:Sp}{s₁ : Af}{vs:List Mk}
  (KX:K.In s₁.heap) (hns:s₁.heap.Ns IK mg) (hb:s₁.heap.Ns builtinsNs mb) (hbb:∀ x:Str,x ≠ "__name__"->mb x=Ra x) (hlim:s₁.heap.NoLimit) (hg:s₁.gens = #[])
  (ha:s₁.heap.get? a=Dn { cls:=.type "list",data:=.seq vs.toArray }) (hi:IntsAre vs ns) (hl:ns.length<=Ht) (hr:eO k callerA)
  (F:∀ base:Heap,K.In base->base.Ns IK mg->jE P w K mg base CX k fa fd [x] sp) (hbind:∀ (s:Af) (u:Mk),BindsTo s fd ⟨[u],[]⟩ [(x,u)])
  (hsp:∀ H:Hp,Only H->JR K H a (ns.map V.int)->sp [.ref a] H (fun v _=>v=.bl true) fun _ _ _=>False)
  (hCX:∀ H e s',CX JI [] H s₁ (fun _ _ _=>False) e s'->False) :
  RT (CN P w) callerA (.call (.ref fa) ⟨[.ref a],[]⟩) (fun r s'=>r=.ok (.ret (.bool true))/\OldK s₁.heap s'.heap/\s'.os=s₁.os/\Qp s'.gens) s₁:=by
 have rv:=zf hi;have lenV:=hi.length
 -- from an abstract heap in which nothing but the script may be tracked
 have core:∀ H:Hp,Only H->JR K H a (ns.map V.int)->K7 P w H s₁.heap->(∀ b,H b≠JI->b=a)->(H a≠JI->K.lookup a=JI) ->
   RT (CN P w) callerA (.call (.ref fa) ⟨[.ref a],[]⟩) (fun r s'=>r=.ok (.ret (.bool true))/\OldK s₁.heap s'.heap/\s'.os=s₁.os/\Qp s'.gens) s₁:=by
  intro H hO hS hok hA hK;have base_of:∀ {b:Addr} {o:Obj},s₁.heap.get? b=Dn o->H b=JI->(Qq s₁.heap H).get? b=Dn o:=fun e n=>zbN e n
  have noA:∀ {b:Addr} {o:Obj} {es:Array DictEntry} {ep:Nat},s₁.heap.get? b=Dn o->o.data=.dict es ep->H b=JI:=fun {b o es ep} e d=>by
   cases q:H b with
   | none=>rfl
   | some u=>
    have e':b=a:=hA b (by rw [q];simp);subst e';rw [ha] at e;cases e;have d':Data.seq vs.toArray _=Data.dict es ep:=d;cases d'
  have nsK:∀ {b:Addr} {m:Str->Option Mk},s₁.heap.Ns b m->(Qq s₁.heap H).Ns b m:=fun {b m} ⟨o,es,ep,e,d,r⟩=>⟨o,es,ep,base_of e (noA e d),d,r⟩
  have hKb:K.In (Qq s₁.heap H):=fun b o e=>base_of (KX b o e) (by
   cases q:H b with
   | none=>rfl
   | some u=>
    have e':b=a:=hA b (by rw [q];simp);subst e';rw [hK (by rw [q];simp)] at e;cases e)
  have hM:Mod K mg (Qq s₁.heap H):=⟨hKb,nsK hns,⟨mb,nsK hb,hbb⟩,let ⟨mc,h1,h2⟩:=hlim;⟨mc,nsK h1,h2⟩⟩
  have e0:Wo P w K mg (Qq s₁.heap H) callerA [] s₁ H:=⟨rfl,hM,fun b o e=>aiO e,Nat.le_of_eq (zaR _ _),trivial,fun b hb=>absurd (show b∈([]:List Addr) from hb) (by simp),hok,.of_eq hg,fun v e=>(nomatch e)⟩
  refine W6 ((F _ hKb<|nsK hns).run callerA [] s₁ H ⟨[.ref a],[]⟩ [.ref a] [.ref a] _ _ hr e0 (hbind s₁<|.ref a) (.cons rfl .nil) (hsp H hO hS)) fun r s' h=>?_;cases r with
  | error e=>exact (hCX H e s' h).elim
  | ok fl=>
   cases fl with
   | next=>exact Ov h
   | brk=>exact Ov h
   | cont=>exact Ov h
   | ret u=>
    obtain ⟨v,H',os,bare,un,hok',r',q⟩:=h;have q':v=.bl true:=q;subst q';obtain rfl:u=Value.bool true:=r';refine ⟨rfl,OldK.of_keep fun b o e=>?_,os,bare⟩;cases q:H b with
    | none=>exact un.keep b o e q (by intro z;exact absurd (show b∈([]:List Addr) from z) (by simp)) (by simp)
    | some u=>
     rcases hO b with z | ⟨ob,xs,z⟩
     ·rw [q] at z;cases z
     ·have z2:=un.frzs b ob _ z;obtain ⟨e1,_⟩:=hok b _ z;obtain ⟨e2,_⟩:=hok' b _ z2;rw [e] at e1;cases e1;exact e2
 cases hk:K.lookup a with
 | some o=>
  -- the script is one of the module's own objects
  have e:=KX a o hk;rw [ha] at e;cases e;refine core (fun _=>JI) (fun _=>.inl rfl) (.inr ⟨_,vs.toArray,_,hk,rfl,rfl,rfl,by rw [Jf,lenV];exact hl,by simpa using rv⟩) (fun b u z=>by have z':(JI:Option HO)=Dn u:=z;cases z') (fun b z=>absurd rfl z) fun z=>absurd rfl z
 | none=>
  refine core (fun b=>if b=a then Dn (.frz { cls:=.type "list",data:=.seq vs.toArray } (.lst<|ns.map V.int)) else JI) (fun b=>?_) (.inl<|.inr ⟨{ cls:=.type "list",data:=.seq vs.toArray },if_pos rfl⟩) (fun b u z=>?_) (fun b z=>?_) fun _=>hk
  ·by_cases hb:b=a
   ·exact .inr ⟨_,_,if_pos hb⟩
   ·exact .inl<|if_neg hb
  ·by_cases hb:b=a
   ·have z':=(if_pos hb).symm.trans z;cases z'
    subst hb;exact ⟨ha,by rw [Hu];exact hl,vs,_,rv,ha⟩
   ·have z':=(if_neg hb).symm.trans z;cases z'
  ·by_cases hb:b=a
   ·exact hb
   ·exact absurd (if_neg hb) z
theorem Ny {l:PySem.W.OpenLaw}{n k:Nat}{q:Dz}{d:DefRec}{K:Params->Bl}{CX:Cw->RN}{sp:Cw->Sp}{x:Str}
  (hn:l.most=Dn n) (hn2:n<=Ht) (hdf:d.params.defaults=[]) (hr:eO k callerA)
  (hY:∀ (w:Cw) (h:Heap),YP w h->(K w.params).In h)
  (F:∀ (w:Cw) (mg:Str->Option Mk) (fa:Addr) (h:Heap),(K w.params).In h->h.Ns IK mg->mg d.name=Dn (.ref fa) ->
   ∃ fd:Ln,(∀ (s:Af) (u:Mk),BindsTo s fd ⟨[u],[]⟩ [(x,u)]) /\
    ∀ base:Heap,(K w.params).In base->base.Ns IK mg->jE l.prog w (K w.params) mg base (CX w) k fa fd [x] (sp w))
  (hsp:∀ (w:Cw) (H:Hp) (a:Addr) (ns:List Int),ns.length<=n->Only H->JR (K w.params) H a (ns.map V.int)->sp w [.ref a] H (fun v _=>v=.bl true) fun _ _ _=>False)
  (hCX:∀ (w:Cw) (H:Hp) (s:Af) (e:Mk) (s':Af),CX w JI [] H s (fun _ _ _=>False) e s'->False) :
  PySem.W.WalkO q loose XP YP l.row.toRowW d [] (fun f vs=>PySem.call f vs):=by
 refine Att.Dr hn hdf fun w s₀ s₁ mg mb fa o pm cd doc a vs ns G Y ho hd hcd hmg hobj hints alQ hg=>?_;have KX:=hY w _ Y;obtain ⟨fd,hb,hF⟩:=F w mg fa _ KX G.T.g hmg;exact zbw KX G.T.g G.T.b G.T.builtins G.T.nolimit hg hobj hints (J4 alQ hn2) hr hF hb (fun H hO hS=>hsp w H a ns alQ hO hS) fun H e s'=>hCX w H s₁ e s'
end L2
/- THE LAST THEOREM (shape; LID, My.* are yours):
   My.Adr: a structure of the addresses that your layer names (classes,functions);My.Txt K t: a structure (Prop) of the equations over K;
   My.txt_mk:{K} {implicit addresses ..} (e1:nsIn K IK "law" = Dn (Dn (.ref f))) (e2:K.lookup f=Dn ⟨oc,od,.func (fnOf "law" "law" params body scope dV kV doc pm an cdv ct),sl⟩) (e3:codeIn K cdv "law" = true) .. : ∃ t,My.Txt K t
theorem PySem.Challenge.cw_LID_holds : PySem.Challenge.rw_LID.Holds := by
 w_on;o_law;k_head;(case hw=>w_witness2)
 k_fill
 refine L2.Ny (l:=PySem.Challenge.rw_LID) (n:=63) (k:=40) (x := "script") (CX:=fun w=>..) (sp:=fun _=>My.sp_law) rfl (by decide) rfl ⟨rfl,by decide,by decide⟩ (fun w h Y=>PySem.W.kIn_of Y) ?F ?S ?C
 case F=>
  intro w mg fa h KX G hmg;have T:∃ t,My.Txt (L2.KOf KX) t:=by
   dsimp only [L2.KOf]                          -- K must stand as «<heap const> w.params» for k_is;refine' My.txt_mk ?e1 ?e2 ?e3 ..
   (case e1=>PySem.W.k_is)                    -- in the order: a name -> its address -> its object -> its parts
   (case e2=>PySem.W.k_is)
   ..
  obtain ⟨t,T⟩:=T;have e0:=hmg.symm.trans (Ld KX G T.law);cases e0                                       -- fa is the law's own address
  exact ⟨_,fun s u=>.of_eq rfl,fun base kb nb=>My.law_fn T kb nb⟩     -- if «.of_eq rfl» comes too early: refine' ⟨_,?b,fun base kb nb=>My.law_fn T kb nb⟩;exact fun s u=>.of_eq rfl
 case S=>exact fun w H a ns hl hO hS=>..
 case C=>exact ..
(the tactic k_is has no namespace: write k_is) -/
namespace L2
open PySem PySem.Spec PyProof.Rows
def lY (s:Stmt):Arguments:=match s with
 | .FunctionDef _ a _ _ _ _ _ _ _ _=>a
 | _=>{ posonlyargs:=[],args:=[],vararg:=JI,kwonlyargs:=[],kw_defaults:=[],kwarg:=JI,defaults:=[] }
def cT (s:Stmt):List Stmt:=match s with
 | .FunctionDef _ _ b _ _ _ _ _ _ _=>b
 | _=>[]
def aQ (s:Stmt):Scope:=match s with
 | .FunctionDef _ _ _ _ _ _ sc _ _ _=>sc
 | _=>{ kind:=.function,names:=[],isGenerator:=false,isCoroutine:=false }
abbrev Lf:RN:=fun _ _ _ _ _ _ _=>False
abbrev E0:XK:=fun _ _ _=>False
theorem Qc {X:Cx}:Passes Lf X E0:=fun _ _ _ _ _ _ _ h=>h.elim
structure Qm (K:Bl) (x qual:Str) (st:Stmt) (f:Addr) (fd:Ln):Prop where
 ex:∃ (oc:Mk) (od:Option Addr) (kV doc pm:Mk) (an:Option Addr) (cdv ct:Mk) (osl:Array (Option Mk)),
  fd=U8 x qual (lY st) (cT st) (aQ st) .none kV doc pm an cdv ct/\K.lookup f=Dn ⟨oc,od,.func fd,osl⟩/\W9 K cdv qual=true
 kp:Og K (.ref f)=true
section
variable {P:Dz}{w:Cw}{K:Bl}{mg:Str->Option Mk}{base:Heap}
theorem Qm.ok {x qual:Str}{st:Stmt}{f:Addr}{fd:Ln}{N ps:List Str}{k:Nat}{sp:Sp}(F:Qm K x qual st f fd)(S:eE N ps (aQ st))(len:∀ vs H Q E,sp vs H Q E->vs.length=ps.length)
  (hbody:∀ (cdv:Mk) (A:Dl) (outer:List Env) (s:Af) (H:Hp) (vs:List V) (Q:VK) (E:XK),eO k (A.deeper (PN qual (aQ st) s.heap.objs.size f cdv))->sp vs H Q E ->
   ∃ t,Nv (Dg Lf P w K mg base N qual (aQ st) f cdv A outer s H E).nox (cT st) t/\t { nx:=fun _ H'=>Q .non H',rt:=Q } (start N vs) H):jE P w K mg base Lf (k+1) f fd ps sp:=by
 obtain ⟨oc,od,kV,doc,pm,an,cdv,ct,osl,rfl,lk,hcd⟩:=F.ex;refine ZW lk hcd S len fun A outer s H vs Q E hr hsp=>?_;obtain ⟨t,h,q⟩:=hbody cdv A outer s H vs Q E hr hsp;exact ⟨t,h.nox,q⟩
theorem Qm.binds {x qual:Str}{st:Stmt}{f:Addr}{fd:Ln}{ps:List Str}(F:Qm K x qual st f fd)
  (h:∀ (kV doc pm:Mk) (an:Option Addr) (cdv ct:Mk) (us:List Mk),us.length=ps.length->bindArgs (U8 x qual (lY st) (cT st) (aQ st) .none kV doc pm an cdv ct) ⟨us,[]⟩=pure (ps.zip us)):Binds K fd ps []:=by
 obtain ⟨oc,od,kV,doc,pm,an,cdv,ct,osl,rfl,lk,hcd⟩:=F.ex;exact .all<|h kV doc pm an cdv ct
theorem Gx {x qual:Str}{st:Stmt}{f:Addr}{oc:Mk}{od an:Option Addr}{osl:Array (Option Mk)}{kV doc pm cdv ct:Mk}(l:K.lookup f=Dn ⟨oc,od,.func (U8 x qual (lY st) (cT st) (aQ st) .none kV doc pm an cdv ct),osl⟩)
  (c:W9 K cdv qual=true) (k:Og K (.ref f)=true):Qm K x qual st f (U8 x qual (lY st) (cT st) (aQ st) .none kV doc pm an cdv ct):=⟨⟨oc,od,kV,doc,pm,an,cdv,ct,osl,rfl,l,c⟩,k⟩
end
section
variable {X:Cx}
theorem pv (i:Nat){x:Str}{pos:Pos}(hN:X.N[i]?=Dn x:=by rfl)(hv:Vis X.env.scope x:=by first | exact Or.inl rfl | exact Or.inr (Or.inl rfl) | exact Or.inr (Or.inr rfl))(hd:(x==("__debug__" : Str))=false:=by decide)
  (hcd:(x==("__classdict__" : Str))=false:=by decide):PE X (.Name x pos) (QV i):=abf hN hv hd hcd
end
def V1 (env:Env):List (Str×ML)->List (Str×Addr)->List (Str×Addr)
 | [],cs=>cs
 | (n,k)::r,cs=>V1 env r (if (k==NameKind.free)=true then (n,(env.cells.lookup n).getD 0)::cs else cs)
def Sv (scope:Scope)(env:Env):List (Str×Addr):=V1 env scope.names []
theorem yq {env:Env}{p:Str×Addr}:∀ (l:List (Str×ML)) (cs:List (Str×Addr)),p∈V1 env l cs->p∈cs\/((p.1,NameKind.free)∈l/\p.2=(env.cells.lookup p.1).getD 0)
 | [],cs,h=>.inl h
 | (n,k)::r,cs,h=>by
  rcases yq r _ h with h | ⟨h1,h2⟩
  ·by_cases hk:(k==NameKind.free)=true
   ·rw [if_pos hk] at h;rcases JN.mp h with rfl | h
    ·have e:k=NameKind.free:=by simpa using hk
     subst e;exact .inr ⟨Ow,rfl⟩
    ·exact .inl h
   ·rw [if_neg hk] at h;exact .inl h
  ·exact .inr ⟨Ph _ h1,h2⟩
theorem GF {env:Env}{x:Str}:∀ (l:List (Str×ML)) (cs:List (Str×Addr)),((x,NameKind.free)∈l\/∃ c,(x,c)∈cs)->∃ c,(x,c)∈V1 env l cs
 | [],cs,h=>by
  rcases h with h | h
  ·exact absurd h<|by simp
  ·exact h
 | (n,k)::r,cs,h=>by
  refine GF r _ ?_;rcases h with h | ⟨c,h⟩
  ·rcases JN.mp h with e | h
   ·injection e with e1 e2
    subst e1;subst e2;exact .inr ⟨_,by rw [if_pos<|by rfl];exact Ow⟩
   ·exact .inl h
  ·refine .inr ⟨c,?_⟩;by_cases hk:(k==NameKind.free)=true
   ·rw [if_pos hk];exact Ph _ h
   ·rw [if_neg hk];exact h
variable {c : Addr}
theorem iJ {x:Str}{c:Addr}:∀ {l:List (Str×Addr)},(x,c)∈l->∃ c',l.lookup x=Dn c'
 | [],h=>absurd h (by simp)
 | (n,d)::r,h=>by
  by_cases e:x=n
  ·subst e;exact ⟨d,by simp [LI]⟩
  ·rcases JN.mp h with q | q
   ·injection q with q1 _
    exact absurd q1 e
   ·obtain ⟨c',h'⟩:=iJ q;refine ⟨c',?_⟩;have e':(x==n)=false:=beq_eq_false_iff_ne.mpr e;rw [LI,e'];exact h'
theorem Dy {scope:Scope}{env:Env}(h:∀ y∈scope.names,y.2=NameKind.free->∃ c,env.cells.lookup y.1=Dn c):closureFor scope env=pure (Sv scope env):=by
 unfold closureFor Sv;have key:∀ (l:List (Str×ML)) (cs:List (Str×Addr)),(∀ y∈l,y.2=NameKind.free->∃ c,env.cells.lookup y.1=Dn c) ->
   (forIn l cs (fun (x:Str×ML) (cs:List (Str×Addr))=>(if (x.2==NameKind.free)=true then cellOf env x.1 >>= fun c=>pure (ForInStep.yield ((x.1,c)::cs)) else pure (ForInStep.yield cs):Sem (ForInStep (List (Str×Addr))))))=pure (V1 env l cs):=by
  intro l;induction l with
  | nil=>intro cs _;rfl
  | cons x r ih=>
   intro cs hl;obtain ⟨n,k⟩:=x;rw [WD];have hr:∀ y∈r,y.2=NameKind.free->∃ c,env.cells.lookup y.1=Dn c:=fun y hy=>hl y (Ph _ hy)
   by_cases hk:(k==NameKind.free)=true
   ·obtain ⟨c,hc⟩:=hl (n,k) Ow (by simpa using hk);have hc':env.cells.lookup n=Dn c:=hc;have e1:cellOf env n=pure c:=by unfold cellOf;rw [hc']
    simp only [hk,if_true,e1,pure_bind];rw [ih _ hr];simp only [V1,hk,if_true,hc',XD]
   ·simp only [hk,if_false,pure_bind,Wr];rw [ih _ hr];simp only [V1,hk,if_false,Wr]
 have q:=key scope.names [] h
 simpa using q
theorem jR {y:Str}{c:Addr}:∀ {names:List (Str×ML)} {n:Nat} {acc:List (Str×Addr)},(y,c)∈KN n names acc↔(y,c)∈acc\/(y,c)∈KN n names []
 | [],n,acc=>by simp [KN]
 | (name,kind)::r,n,acc=>by
  unfold KN;split
  ·rw [jR (acc:=(name,n)::acc),jR (acc:=[(name,n)])];simp only [JN,O7,or_false];exact ⟨fun h=>h.elim (fun h=>h.elim (fun h=>.inr<|.inl h) .inl) fun h=>.inr<|.inr h,fun h=>h.elim (fun h=>.inl<|.inr h) fun h=>h.elim (fun h=>.inl<|.inl h) .inr⟩
  ·exact jR
theorem Dc {y:Str}{c:Addr}:∀ {names:List (Str×ML)} {n:Nat},(y,c)∈KN n names []->(y,NameKind.cell)∈names
 | [],n,h=>by simp [KN] at h
 | (name,kind)::r,n,h=>by
  unfold KN at h;split at h
  ·rename_i hk;rcases jR.mp h with q | q
   ·have hk':kind=.cell:=by simpa using hk
    simp only [JN,O7,or_false,Vk] at q;rw [q.1,hk'];exact Ow
   ·exact Ph _<|Dc q
  ·exact Ph _<|Dc h
theorem K9 {y:Str}:∀ {names:List (Str×ML)} {n:Nat},(y,NameKind.cell)∈names->∃ c,(y,c)∈KN n names []
 | [],n,h=>by simp at h
 | (name,kind)::r,n,h=>by
  unfold KN;rcases JN.mp h with q | q
  ·cases q;rw [if_pos (by rfl)];exact ⟨n,jR.mpr<|.inl Ow⟩
  ·split
   ·obtain ⟨c,hc⟩:=K9 (n:=n+1) q;exact ⟨c,jR.mpr<|.inr hc⟩
   ·exact K9 q
variable {names : List (Str×ML)}
theorem abY {h:Heap}{y:Str}(e:(y,c)∈KN h.objs.size names []):(pushCells h names).IsCell c JI/\h.objs.size<=c:=
 (cellsFrom_ok names h h.objs.size [] ⟨fun _ _ z=>by simp at z,List.Pairwise.nil⟩ (Ig _)).empty y c e
theorem zbF {n:Nat}{y z:Str}(e:(y,c)∈KN n names [])(e':(z,c)∈KN n names []):y=z:=by
 have key:∀ (k:Nat),∃ h:Heap,h.objs.size=k:=fun k=>by
  induction k with
  | zero=>exact ⟨{ (default:Heap) with objs:=#[] },rfl⟩
  | succ k ih=>
   obtain ⟨h,e⟩:=ih;exact ⟨h.push { cls:=.type "cell",data:=.cell JI },by rw [Qd,e]⟩
 obtain ⟨h,rfl⟩:=key n;exact name_of_addr (cellsFrom_ok names h h.objs.size [] ⟨fun _ _ z=>by simp at z,List.Pairwise.nil⟩<|Ig _).apart e e'
variable {closure : List (Str×Addr)}
theorem ajP {M:Model}{A:Dl}{E:Mk->Af->Prop}{s:Af}{scope:Scope}{globals:Addr}{qual:Str}{func:Option Addr}{code:Mk}{ar:Env}{builtins:Addr}{Q:Env->Af->Prop}
  (hQ:Q { scope:=scope,locals:=s.heap.objs.size,globals:=globals,cells:=KN (s.heap.objs.size+1) scope.names closure,qual:=qual,func:=func,code:=ar.code,frame:=ar.frame,builtins:=ar.builtins } { s with heap:=pushCells (s.heap.push { cls:=.type "dict",data:=.dict #[] }) scope.names }) :
  Bm M A (newFunctionEnv scope globals closure [] qual func code (Dn ar) builtins) Q E s:=by
 simp only [newFunctionEnv,Option.isSome_some,if_true];refine Al<|wpAny_alloc ?_
 refine Al<|wpAny_layCells _ (fun name kind cells=>by cases hkc:kind==NameKind.cell <;> simp [hkc]) _ _ _ _ ?_
 rw [show ({ s with heap:=s.heap.push { cls:=.type "dict",data:=.dict #[] } }:Af).heap.objs.size=s.heap.objs.size+1 from Qd ..];rw [X5];exact Al<|Ck<|Ck hQ
def blk (X:Cx)(scope:Scope)(N':List Str)(C:Addr)(s:Af)(H:Hp)(ex:List Addr):Cx where
 prog:=X.prog
 w:=X.w
 K:=X.K
 mg:=X.mg
 base:=X.base
 A:=X.A
 N:=N'
 s₀:=s
 H₀:=H
 env:=compEnvC scope (KN (C+1) scope.names (Sv scope X.env)) C X.env
 outer:=X.stack
 stack:=X.stack
 ex:=ex
 fn:=fun y=>decide (scope.names.lookup y=Dn .cell)
 calm:=X.calm
 pn:=[]
 xe:=fun _ _=>False
structure iQ (X:Cx) (scope:Scope) (x:List Str) (ix:List Nat):Prop where
 kind:scope.kind=.function
 own:∀ y∈x,scope.names.lookup y=Dn .local\/scope.names.lookup y=Dn .cell
 names:∀ y∈scope.names,scope.names.lookup y.1=Dn y.2
 free:∀ y∈scope.names,y.2=.free->X.env.scope.names.lookup y.1=Dn .cell\/X.env.scope.names.lookup y.1=Dn .free
 ixs:∀ i∈ix,scope.names.lookup (X.N.getD i "")=Dn .free
 nd:(x++ix.map fun i=>X.N.getD i "").Nodup
def Gv:List Str->Bool
 | []=>true
 | x::r=>!(r.contains x)&&Gv r
def aex (sc:Scope)(N:List Str)(scope:Scope)(x:List Str)(ix:List Nat):Bool:=
 decide (scope.kind=.function)&&x.all (fun y=>decide (scope.names.lookup y=Dn .local)||decide (scope.names.lookup y=Dn .cell)) &&
 scope.names.all (fun y=>decide (scope.names.lookup y.1=Dn y.2)) &&
 scope.names.all (fun y=>!decide (y.2=.free)||decide (sc.names.lookup y.1=Dn .cell)||decide (sc.names.lookup y.1=Dn .free)) &&
 ix.all (fun i=>decide (scope.names.lookup (N.getD i "")=Dn .free))&&Gv (x++ix.map fun i=>N.getD i "")
theorem zJ:∀ {l:List Str},Gv l=true->l.Nodup
 | [],_=>List.nodup_nil
 | x::r,h=>by
  unfold Gv at h;rw [Jw] at h;refine WQ.mpr ⟨fun hm=>?_,zJ h.2⟩;have:r.contains x=true:=List.contains_iff_mem.mpr hm
  rw [this] at h;exact absurd h.1<|by decide
variable {ix : List Nat}
theorem bU {X:Cx}{scope:Scope}{x:List Str}(h:aex X.env.scope X.N scope x ix=true):iQ X scope x ix:=by
 unfold aex at h;simp only [Jw,Nr,decide_eq_true_eq,Bool.or_eq_true,Ww,decide_eq_false_iff_not] at h;obtain ⟨⟨⟨⟨⟨h1,h3⟩,h4⟩,h5⟩,h6⟩,h7⟩:=h;refine ⟨h1,fun y hy=>h3 y hy,fun y hy=>h4 y hy,fun y hy hk=>?_,fun i hi=>h6 i hi,zJ h7⟩
 ·rcases h5 y hy with (q | q) | q
  ·exact absurd hk q
  ·exact .inl q
  ·exact .inr q
def Kq (ix:List Nat)(σ : St):St:=ix.map fun i=>(σ[i]?).getD JI
abbrev fX (X:Cx)(x:List Str)(ix:List Nat):List Str:=x++ix.map fun i=>X.N.getD i ""
theorem gA {scope:Scope}{env:Env}{x:Str}:∀ {names:List (Str×ML)} {k:ML},
  (names.map fun (p:Str×ML)=>if (p.2==NameKind.free&&env.scope.kind==.function&&env.kindOf p.1==Dn .cell)=true then (p.1,NameKind.cell) else (p.1,p.2)).lookup x=Dn k ->
  names.lookup x=Dn k\/(k=.cell/\names.lookup x=Dn .free)
 | [],k,h=>by simp at h
 | (n,k')::r,k,h=>by
  rw [Lz] at h;cases hx:x==n with
  | true=>
   by_cases hc:(k'==NameKind.free&&env.scope.kind==.function&&env.kindOf n==Dn .cell)=true
   ·rw [if_pos hc] at h;simp only [LI,hx] at h;have hk:k'=.free:=by
     have:=(Bool.and_eq_true_iff.mp (Bool.and_eq_true_iff.mp hc).1).1
     simpa using this
    subst hk;cases h;exact .inr ⟨rfl,by simp [LI,hx]⟩
   ·rw [if_neg hc] at h;simp only [LI,hx] at h;cases h;exact .inl<|by simp [LI,hx]
  | false=>
   have h':(r.map fun (p:Str×ML)=>if (p.2==NameKind.free&&env.scope.kind==.function&&env.kindOf p.1==Dn .cell)=true then (p.1,NameKind.cell) else (p.1,p.2)).lookup x=Dn k:=by
    by_cases hc:(k'==NameKind.free&&env.scope.kind==.function&&env.kindOf n==Dn .cell)=true
    ·rw [if_pos hc] at h;simpa only [LI,hx] using h
    ·rw [if_neg hc] at h;simpa only [LI,hx] using h
   rcases gA (scope:=scope) (env:=env) h' with q | ⟨q1,q2⟩
   ·exact .inl<|by simpa only [LI,hx] using q
   ·exact .inr ⟨q1,by simpa only [LI,hx] using q2⟩
theorem pX {env:Env}{x:Str}:∀ {names:List (Str×ML)},names.lookup x=Dn .free ->
  (names.map fun (p:Str×ML)=>if (p.2==NameKind.free&&env.scope.kind==.function&&env.kindOf p.1==Dn .cell)=true then (p.1,NameKind.cell) else (p.1,p.2)).lookup x=Dn .cell \/
  (names.map fun (p:Str×ML)=>if (p.2==NameKind.free&&env.scope.kind==.function&&env.kindOf p.1==Dn .cell)=true then (p.1,NameKind.cell) else (p.1,p.2)).lookup x=Dn .free
 | [],h=>by simp at h
 | (n,k')::r,h=>by
  rw [Lz];cases hx:x==n with
  | true=>
   simp only [LI,hx] at h;cases h;by_cases hc:(NameKind.free==NameKind.free&&env.scope.kind==.function&&env.kindOf n==Dn .cell)=true
   ·rw [if_pos hc];exact .inl (by simp [LI,hx])
   ·rw [if_neg hc];exact .inr (by simp [LI,hx])
  | false=>
   have h':r.lookup x=Dn .free:=by simpa only [LI,hx] using h
   have ih:=pX (env:=env) h';by_cases hc:(k'==NameKind.free&&env.scope.kind==.function&&env.kindOf n==Dn .cell)=true
   ·rw [if_pos hc];simpa only [LI,hx] using ih
   ·rw [if_neg hc];simpa only [LI,hx] using ih
theorem pO {env:Env}{x:Str}:∀ {names:List (Str×ML)},names.lookup x=Dn .cell ->
  (names.map fun (p:Str×ML)=>if (p.2==NameKind.free&&env.scope.kind==.function&&env.kindOf p.1==Dn .cell)=true then (p.1,NameKind.cell) else (p.1,p.2)).lookup x=Dn .cell
 | [],h=>by simp at h
 | (n,k')::r,h=>by
  rw [Lz];cases hx:x==n with
  | true=>
   simp only [LI,hx] at h;cases h;rw [if_neg (by simp)];simp [LI,hx]
  | false=>
   have ih:=pO (env:=env) (show r.lookup x=Dn .cell by simpa only [LI,hx] using h);split
   ·simpa only [LI,hx] using ih
   ·simpa only [LI,hx] using ih
section
variable {X:Cx}{alP:List (Addr×Obj)}{σ : St}{H:Hp}{s:Af}{scope:Scope}{x:List Str}{C:Addr}{fp:List Addr}
theorem J8 (B:iQ X scope x ix){y:Str}(hy:y∈x):Loc (relabel scope X.env) y/\(decide (scope.names.lookup y=Dn .cell)=true\/(relabel scope X.env).names.lookup y=Dn .local):=by
 rcases B.own y hy with q | q
 ·have:=lookup_relabel_local (env:=X.env) q
  exact ⟨.inl this,.inr this⟩
 ·exact ⟨.inr<|pO (env:=X.env) q,.inl<|decide_eq_true q⟩
theorem qW (I:BR X alP σ H s)(B:iQ X scope x ix):∀ y∈scope.names,y.2=NameKind.free->∃ c,X.env.cells.lookup y.1=Dn c:=fun y hy hk=>I.ok.has y.1 (B.free y hy hk)
theorem aiP (I:BR X alP σ H s)(B:iQ X scope x ix){y:Str}(h:(y,c)∈Sv scope X.env):X.env.cells.lookup y=Dn c:=by
 rcases yq scope.names [] h with q | ⟨q1,q2⟩
 ·exact absurd q<|by simp
 ·obtain ⟨c',e⟩:=qW I B _ q1 rfl;have e':X.env.cells.lookup y=Dn c':=e;have q2':c=(X.env.cells.lookup y).getD 0:=q2;rw [e',XD] at q2';rw [e',q2']
theorem qx (I:BR X alP σ H s)(B:iQ X scope x ix){y:Str}(h:(KN (C+1) scope.names (Sv scope X.env)).lookup y=Dn c):X.env.cells.lookup y=Dn c\/(y,c)∈KN (C+1) scope.names []:=
 (jR.mp (Rt h)).imp_left (aiP I B)
theorem JG {n:Nat}{y:Str}(e:(y,c)∈KN n names []):n<=c:=by
 have key:∀ (names:List (Str×ML)) (n:Nat),(y,c)∈KN n names []->n<=c:=by
  intro names;induction names with
  | nil=>intro n h;simp [KN] at h
  | cons a r ih=>
   intro n h;obtain ⟨name,kind⟩:=a;unfold KN at h;split at h
   ·rcases jR.mp h with q | q
    ·simp only [JN,O7,or_false,Vk] at q;exact Nat.le_of_eq q.2.symm
    ·exact J4 (V8 n)<|ih (n+1) q
   ·exact ih n h
 exact key names n e
theorem Ye (B:iQ X scope x ix){y:Str}(hf:scope.names.lookup y=Dn .free)(h:(y,c)∈KN (C+1) scope.names []):False:=by
 have:=B.names _ (Dc h)
 simp only at this;rw [hf] at this;cases this
theorem Hg {y:Str}(h:scope.names.lookup y=Dn .free\/scope.names.lookup y=Dn .cell):∃ c,(KN (C+1) scope.names (Sv scope X.env)).lookup y=Dn c:=by
 rcases h with h | h
 ·obtain ⟨c,hc⟩:=GF (env:=X.env) scope.names [] (.inl (Rt h));exact iJ<|jR.mpr<|.inl hc
 ·obtain ⟨c,hc⟩:=K9 (n:=C+1) (Rt h);exact iJ<|jR.mpr<|.inr hc
theorem aak (I:BR X alP σ H s)(B:iQ X scope x ix)(hC:s.heap.objs.size<=C)(hf:∀ b∈fp,Ju X alP H b)(ho:∀ b∈fp,∃ o,s.heap.get? b=Dn o):
  (blk X scope (fX X x ix) C s H fp).Ok where
 mod:=I.ok.mod
 kind:=B.kind
 glob:=I.ok.glob
 blt:=I.ok.blt
 above:=hC
 inj:=fun y z c h1 h2=>by
  have far:∀ {y z:Str},X.env.cells.lookup y=Dn c->(z,c)∈KN (C+1) scope.names []->False:=fun {y z} e q=>by
   obtain ⟨v,w⟩:=I.cell y c e;exact absurd (K5 w.lt<|J4 (J4 hC<|V8 C)<|JG q)<|Pa _
  rcases qx I B h1 with q1 | q1
  ·rcases qx I B h2 with q2 | q2
   ·exact I.ok.inj y z c q1 q2
   ·exact (far q1 q2).elim
  ·rcases qx I B h2 with q2 | q2
   ·exact (far q2 q1).elim
   ·exact zbF q1 q2
 has:=fun y hy=>by
  have hy':(relabel scope X.env).names.lookup y=Dn .cell\/(relabel scope X.env).names.lookup y=Dn .free:=hy;rcases hy' with q | q
  ·rcases gA (scope:=scope) (env:=X.env) q with r | ⟨_,r⟩
   ·exact Hg<|.inr r
   ·exact Hg<|.inl r
  ·rcases gA (scope:=scope) (env:=X.env) q with r | ⟨r,_⟩
   ·exact Hg<|.inl r
   ·cases r
 cab:=fun y c hf h=>by
  have hf':scope.names.lookup y=Dn .cell:=of_decide_eq_true hf;rcases jR.mp (Rt h) with q | q
  ·rcases yq scope.names [] q with q | ⟨q1,_⟩
   ·exact absurd q<|by simp
   ·have:=B.names _ q1
    simp only at this;rw [hf'] at this;cases this
  ·exact J4 (J4 hC<|V8 C)<|JG q
 hd:=I.ok.hd
 qt:=I.qt0
 frames:=I.ok.frames
 stk:=.inl rfl
 exf:=fun b hb=>by
  obtain ⟨o,e⟩:=ho b hb;refine ⟨Ko<|K5 (Hx e) hC,fun y c h=>?_⟩;rcases qx I B h with q | q
  ·exact (hf b hb).2.2.2.2.1 y c q
  ·intro z;rw [z] at q;exact absurd (K5 (Hx e)<|J4 (J4 hC<|V8 C)<|JG q)<|Pa _
 bs:=I.bs
 bsz:=J4 I.ok.bsz I.sz
 noex:=fun b o e hb=>by
  rcases (hf b hb).2.2.2.1 with q | q
  ·exact I.ok.noex b o e q
  ·exact absurd (K5 (Hx e)<|J4 I.ok.bsz q)<|Pa _
 exfs:=fun b hb z=>by
  obtain ⟨_,h1,h2,_⟩:=hf b hb;rcases JN.mp (I.stkSub b z) with e | e
  ·exact h1 e
  ·exact h2 e
 funs:=I.stack
 frf:=I.stkFree
theorem aiX {D:Addr}{h1:Heap}{tk:Nat}{m:Str->Option Mk}(I:BR X alP σ H s)(B:iQ X scope x ix)(ok:(blk X scope (fX X x ix) C s H fp).Ok)
  (hD:D=s.heap.objs.size) (k:∀ b o,s.heap.get? b=Dn o->h1.get? b=Dn o) (hl:h1.get? D=Dn { cls:=.type "list",data:=.seq #[] }) (hns:h1.Ns C m) (hCD:C≠D) (hC:s.heap.objs.size<=C) (hce:∀ y c,(y,c)∈KN (C+1) scope.names []->h1.IsCell c JI) :
  BR (blk X scope (fX X x ix) C s H fp) [] (Qf x.length JI++Kq ix σ) (Dv H D (.lst [])) { s with heap:=h1,toks:=tk } where
 ok:=ok
 os:=rfl
 bare:=I.bare
 base:=Un.laid k (by rw [hD];exact Ig _) (I.hok.fresh (by rw [hD];exact Ig _))
 loc:=by
  refine ⟨m,hns,fun i y v e1 e2 e3=>?_⟩;by_cases hix:i<x.length
  ·rw [Vf (by simpa using hix),Xp,if_pos hix] at e2;cases e2
  ·rw [V0 (by simpa using hix),List.length_replicate] at e2;have e1':(ix.map fun i=>X.N.getD i "")[i - x.length]?=Dn y:=by
    have z:(x++ix.map fun i=>X.N.getD i "")[i]?=Dn y:=e1
    rwa [V0 (by simpa using hix)] at z
   generalize i - x.length=j at e1' e2;unfold Kq at e2;rw [N7] at e1' e2;cases hj:ix[j]? with
   | none=>rw [hj] at e2;cases e2
   | some i'=>
    rw [hj] at e1' e2;simp only [Option.map_some,Option.some.injEq] at e1' e2;have hi:σ[i']?=Dn (Dn v):=by
     cases q:σ[i']? with
     | none=>rw [q] at e2;cases e2
     | some z=>rw [q] at e2;exact congrArg Dn e2
    have hlt:i'<X.N.length:=by
     have:=(Pn.mp hi).1
     rw [I.len] at this;exact this
    have hn:X.N[i']?=Dn y:=by
     rw [Pr,Jx hlt,XD] at e1';rw [Jx hlt,e1']
    have hfree:scope.names.lookup y=Dn .free:=by
     have:=B.ixs i' (Q0 hj)
     rw [e1'] at this;exact this
    have kx:=B.free _ (Rt hfree) rfl;have vis:Vis X.env.scope y:=by
     rcases kx with q | q
     ·exact .inr<|.inl q
     ·exact .inr<|.inr q
    obtain ⟨m',_,hl'⟩:=I.loc;obtain ⟨u,r,lk⟩:=hl' i' y v hn hi vis;refine ⟨u,r,?_⟩;rcases lk with ⟨q,_⟩ | ⟨_,c,hc,hcell⟩
    ·have q':X.env.scope.names.lookup y=Dn .local:=q;rcases kx with z | z <;> (rw [q'] at z;cases z)
    ·obtain ⟨c',hc'⟩:=Hg (X:=X) (C:=C) (.inl hfree);have e:=(qx I B hc').resolve_right fun z=>Ye B hfree z
     rw [hc] at e;cases e;refine .inr ⟨pX (env:=X.env) hfree,c,hc',?_⟩;obtain ⟨o,ho,hd⟩:=hcell;exact ⟨o,k c o ho,hd⟩
 cell:=fun y c h=>by
  rcases qx I B h with q | q
  ·obtain ⟨v,o,ho,hd⟩:=I.cell y c q;exact ⟨v,o,k c o ho,hd⟩
  ·exact ⟨JI,hce y c q⟩
 free:=by
  show Dv H D (.lst []) C=JI;rw [aJ hCD];exact I.hok.fresh hC
 freeC:=fun y c h=>by
  show Dv H D (.lst []) c=JI;rcases qx I B h with q | q
  ·obtain ⟨v,o,ho,hd⟩:=I.cell y c q;rw [aJ (by rw [hD];exact Ko (Hx ho))];exact I.freeC y c q
  ·have g:s.heap.objs.size<c:=K5 (Nat.lt_succ_of_le hC) (JG q);rw [aJ (by rw [hD];exact QX g)];exact I.hok.fresh<|Nat.le_of_lt g
 pin:=fun p hp=>absurd (show p∈([]:List (Addr×Obj)) from hp) (by simp)
 hok:=I.hok.laid k (by rw [hD];exact Ig _) ⟨U7 _,[],0,.nil,hl⟩
 len:=by
  show (Qf x.length JI++Kq ix σ).length=(fX X x ix).length;simp [Kq]
theorem Di {σ':St}{H':Hp}{s':Af}{h':Heap}{p':List (Addr×Obj)}(I:BR X alP σ H s)(hC:s.heap.objs.size<=C)(hf:∀ b∈fp,Ju X alP H b)(J:BR (blk X scope (fX X x ix) C s H fp) p' σ' H' s')
  (hs:Ro C s'.heap h'):BR X alP σ H' { s' with heap:=h' }:=by
 have I1:BR X alP σ H' s':=I.call' (ch:=fp) J.os J.base J.hok J.bare fun b hb=>⟨(hf b hb).2.2.2.1,(hf b hb).2.1,(hf b hb).2.2.2.2.1,(hf b hb).2.2.2.2.2⟩
 refine I1.turned (it:=C) (t':=s'.toks) (fun b o hb e=>(hs.2 b hb).trans e) J.free (QX<|K5 I.lt hC) (.inr<|J4 I.sz hC) (fun y c e z=>?_)<|fun p hp z=>?_
 ·obtain ⟨v,q⟩:=I.cell y c e;exact absurd (K5 q.lt (by rw [z];exact hC))<|Pa _
 ·exact absurd (K5 (Hx (I.pin p hp).1) (by rw [z];exact hC))<|Pa _
end
variable {D : Addr}{m : Str->Option Mk}
def Vp (X:Cx)(ifs:List Expr)(t:TT):Prop:=
 ∀ (alP:List (Addr×Obj)) (s:Af) (σ : St) (H:Hp) (Q:Bool->Hp->Prop),BR X alP σ H s->t σ H Q ->
  Bm (CN X.prog X.w) X.A (forIn ifs true fun c r=>if r=true then do let ok <-isTrue c X.env (eval c X.env);pure (ForInStep.yield ok) else pure (ForInStep.yield r)) (TP X alP σ Q) X.xe s
def af5:TT:=fun _ H Q=>Q true H
theorem ajV {X:Cx}:Vp X [] af5:=fun _ _ _ H _ I h=>Ck ⟨H,I,h⟩
theorem akb {X:Cx}{c:Expr}{t:TT}(h:PT X c t):Vp X [c] t:=fun alP s σ H Q I hq=>by
 rw [WD];refine Al ?_;rw [if_pos rfl];refine Al<|HJ (h alP s σ H Q I hq) fun b s1 q=>Ck ?_
 exact Ck q
def acP (n:Nat)(own:V->Hp->List V->Prop)(ix:List Nat)(tt:TT)(te:TE)(σ : St)(Q:VK)(J:It)(H1:Hp)(D:Addr):Prop:=∃ W:Nat->Nat->List V->Hp->Prop,(∃ m,W 0 m [] (Dv H1 D (.lst [])))/\∀ i m ys H,W i m ys H->H D=Dn (.lst ys) ->
 (J.stop i H/\Q (.ref D) H)\/(J.go i H/\ys.length<Ht/\∀ x H',J.yld i H x H'->∃ vs,own x H' vs/\vs.length=n/\tt (vs.map Dn++Kq ix σ) H' fun b H2=>
  if b=true then te (vs.map Dn++Kq ix σ) H2 (fun v H3=>H3 D=Dn (.lst ys)/\∃ m',m'<m/\W (i+1) m' (ys++[v]) (Dv H3 D (.lst (ys++[v]))))
  else H2 D=Dn (.lst ys)/\∃ m',m'<m/\W (i+1) m' ys H2)
def wLC (n:Nat)(own:V->Hp->List V->Prop)(ix:List Nat)(tt:TT)(te:TE)(σ : St)(Q:VK)(J:It)(H1:Hp):Prop:=∀ D,H1 D=JI->acP n own ix tt te σ Q J H1 D
def tLC (n:Nat)(own:V->Hp->List V->Prop)(ix:List Nat)(wi:TI)(tt:TT)(te:TE):TE:=fun σ H Q=>wi σ H fun J H1=>wLC n own ix tt te σ Q J H1
def RB (n:Nat)(own:V->Hp->List V->Prop):TG:=fun v σ H N=>∃ vs,own v H vs/\vs.length=n/\N (vs.map Dn++σ.drop n) H
variable {elt : Expr}{ifs : List Expr}
theorem zbd {P:Dz}{w:Cw}{A:Dl}{R:Result->Af->Prop}{s:Af}{target iter:Expr}{scope:Scope}{pos:Pos}{it acc:Mk}{env:Env}(Iv:Nat->Af->Prop)
  (turn:∀ n s,Iv n s->Bm (CN P w) A (Q6 it) (fun r s₁=>match r with
   | none=>R (.ok .next) s₁
   | some v=>Bm (CN P w) A (letOwnedTupleGo target it v) (fun _ t₁=>Bm (CN P w) A (assign target env v) (fun _ s₂=>
     Bm (CN P w) A (forIn ifs true fun c r=>if r=true then do let ok <-isTrue c env (eval c env);pure (ForInStep.yield ok) else pure (ForInStep.yield r)) (fun ok s₃=>
      if ok=true then Bm (CN P w) A (eval elt env) (fun x s₄=>
       Bm (CN P w) A (call (.builtin "list.append") [acc,x]) (fun _ s₅=>∃ m,m<n/\Iv m s₅) (notedBy (CN P w) A env fun e s'=>R (.error e) s') s₄) (notedBy (CN P w) A env fun e s'=>R (.error e) s') s₃
      else ∃ m,m<n/\Iv m s₃) (notedBy (CN P w) A env fun e s'=>R (.error e) s') s₂) (notedBy (CN P w) A env fun e s'=>R (.error e) s') t₁) (notedBy (CN P w) A env fun e s'=>R (.error e) s') s₁) (notedBy (CN P w) A env fun e s'=>R (.error e) s') s)
  (n:Nat) (h:Iv n s):RT (CN P w) A (.compLoop (.ListComp elt [⟨target,iter,ifs,0⟩] scope pos) 0 it acc env) R s:=by
 refine codeAny_loop rfl Iv (fun n s hI=>?_) n h;show Bm _ A ((compTurn (.ListComp elt [⟨target,iter,ifs,0⟩] scope pos) 0 it acc env).onRaise (fun x=>do noteFrame x env;theTreesLotGoes x)) _ _ s;refine wpAny_noted ?_;rw [compTurn_list];refine Al<|Qt<|Al<|K3 (turn n s hI) (fun r s₁ k₁=>?_) fun _ _ z=>z
 cases r with
 | none=>exact Ck k₁
 | some v=>
  refine Al<|K3 k₁ (fun _ t₁ k₂=>Al<|K3 k₂ (fun _ s₂ k₃=>Al<|K3 k₃ (fun ok s₃ k₄=>?_) fun _ _ z=>z) fun _ _ z=>z) fun _ _ z=>z
  cases ok with
  | false=>exact Ck ⟨rfl,k₄⟩
  | true=>exact Al (Al (K3 k₄ (fun x s₄ k₅=>Al (K3 k₅ (fun _ s₅ k₆=>Ck (Ck ⟨rfl,k₆⟩)) fun _ _ z=>z)) fun _ _ z=>z))
section
variable {X:Cx}{scope:Scope}{x:List Str}{iter tg:Expr}{px pos:Pos}{wi:TI}{tt:TT}{te:TE}{own:V->Hp->List V->Prop}
theorem CT {alP:List (Addr×Obj)}{σ : St}{s₂ : Af}{H2:Hp}{it:Addr}{fp:List Addr}{tn:Nat->Heap->Prop}{J:It}{Q:VK}{E:Mk->Af->Prop}{RR:Mk->Addr->Result->Af->Prop}
  (hc:J.cm=true->X.calm=true) (B:iQ X scope x ix) (hg:∀ C s H fp,PG (blk X scope (fX X x ix) C s H fp) tg (RB x.length own)) (ht:∀ C s H fp,Vp (blk X scope (fX X x ix) C s H fp) ifs tt) (he:∀ C s H fp,PE (blk X scope (fX X x ix) C s H fp) elt te)
  (I2:BR X alP σ H2 s₂) (T:Turn X.prog X.w X.K tg J fp it tn) (st2:tn 0 s₂.heap) (f2:∀ b∈fp,Ju X alP H2 b) (hq:wLC x.length own ix tt te σ Q J H2)
  (hRR:∀ D C s' σ' H' p',s₂.heap.objs.size<=C->BR (blk X scope (fX X x ix) C s₂ H2 fp) p' σ' H' s'->Q (.ref D) H'->RR (.ref D) C (.ok .next) s') :
  Bm (CN X.prog X.w) X.A (newList []) (fun acc s₃=>Bm (CN X.prog X.w) X.A (newFunctionEnv scope X.env.globals (Sv scope X.env) [] X.env.qual JI .none (Dn X.env)) (fun cenv s₄=>
   RT (CN X.prog X.w) X.A (.compStart (.ListComp elt [⟨tg,iter,ifs,0⟩] scope pos) 0 (.ref it) acc { cenv with scope:=relabel scope X.env }) (RR acc cenv.locals) s₄) E s₃) E s₂:=by
 refine Q9<|ajP ?_
 dsimp only;generalize hH2:s₂.heap.push { cls:=.type "list",dict:=JI,data:=.seq ([]:List Mk).toArray }=HH;generalize hh1:pushCells (HH.push { cls:=.type "dict",data:=.dict #[] }) scope.names=h₁;have hns₁ : h₁.Ns HH.objs.size (fun _=>JI):=by
  obtain ⟨o,es,ep,ho,r⟩:=Heap.Ns.new HH (.type "dict");exact ⟨o,es,ep,by rw [<-hh1];exact pushCells_keeps _ _ _ _ ho,r⟩
 have hkeep:∀ b o,HH.get? b=Dn o->h₁.get? b=Dn o:=fun b o e=>by rw [<-hh1];exact pushCells_keeps _ _ _ _ (IV _ e)
 have hce:∀ y c,(y,c)∈KN (HH.objs.size+1) scope.names []->h₁.IsCell c JI:=fun y c e=>by
  rw [<-hh1];exact (abY (h:=HH.push { cls:=.type "dict",data:=.dict #[] }) (by rw [Qd];exact e)).1
 have hC:HH.objs.size=s₂.heap.objs.size+1:=by rw [<-hH2,Qd]
 have hDC:s₂.heap.objs.size≠HH.objs.size:=by rw [hC];exact Ko (Nat.lt_succ_self _)
 have hCle:s₂.heap.objs.size<=HH.objs.size:=by rw [hC];exact V8 _
 have old:∀ b o,s₂.heap.get? b=Dn o->h₁.get? b=Dn o:=fun b o e=>hkeep b o (hH2 ▸ IV _ e)
 have hacc:h₁.get? s₂.heap.objs.size=Dn { cls:=.type "list",data:=.seq #[] }:=hkeep _ _ (hH2 ▸ Kg _ rfl);have hob:∀ b∈fp,∃ o,s₂.heap.get? b=Dn o:=fun b hb=>let ⟨o,e,_⟩:=T.obj 0 _ st2 b hb;⟨o,e⟩
 have ok:=aak (C:=HH.objs.size) I2 B hCle f2 hob;obtain ⟨W,⟨m0,w0⟩,turn⟩:=hq s₂.heap.objs.size (I2.hok.fresh (Ig _))
 -- the iterator's records, in the block
 have stat:∀ {H':Hp},(∀ b∈fp,H' b=JI)->∀ b∈fp,Ju (blk X scope (fX X x ix) HH.objs.size s₂ H2 fp) [] H' b:=fun {H'} hn b hb=>by
  obtain ⟨o,e⟩:=hob b hb;obtain ⟨_,g1,g2,g3,g4,g5⟩:=f2 b hb;refine ⟨hn b hb,Ko<|K5 (Hx e) hCle,fun z=>?_,.inl hb,fun y c h=>?_,fun p hp=>absurd (show p∈([]:List (Addr×Obj)) from hp)<|by simp⟩
  ·rcases JN.mp (I2.stkSub b z) with q | q
   ·exact g1 q
   ·exact g2 q
  ·rcases qx I2 B h with q | q
   ·exact g4 y c q
   ·intro z;rw [z] at q;exact absurd (K5 (Hx e)<|J4 (J4 hCle<|V8 _)<|JG q)<|Pa _
 have loop:∀ s₃ : Af,s₃ = { s₂ with heap:=h₁ } ->
   RT (CN X.prog X.w) X.A (.compLoop (.ListComp elt [⟨tg,iter,ifs,0⟩] scope pos) 0 (.ref it) (.ref s₂.heap.objs.size) (compEnvC scope (KN (HH.objs.size+1) scope.names (Sv scope X.env)) HH.objs.size X.env))
    (RR (.ref s₂.heap.objs.size) HH.objs.size) s₃:=by
  rintro s₃ rfl;have J0:=aiX (fp:=fp) (C:=HH.objs.size) (tk:=s₂.toks) I2 B ok rfl old hacc hns₁ (Jo hDC) hCle hce;have fr0:∀ b∈fp,Dv H2 s₂.heap.objs.size (.lst []) b=JI:=fun b hb=>by
   obtain ⟨o,e⟩:=hob b hb;rw [aJ (Ko (Hx e))];exact (f2 b hb).1
  refine zbd (fun k s'=>∃ i ys H',BR (blk X scope (fX X x ix) HH.objs.size s₂ H2 fp) [] (Qf x.length JI++Kq ix σ) H' s'/\tn i s'.heap/\(∀ b∈fp,H' b=JI)/\H' s₂.heap.objs.size=Dn (.lst ys)/\W i k ys H') ?_ m0
   ⟨0,[],_,J0,T.keep 0 _ _ st2 (fun b _ o e=>old b o e),fr0,aU,w0⟩
  rintro n s₄ ⟨i,ys,H4,I4,st4,fr4,hD4,w4⟩;rcases turn i n ys H4 w4 hD4 with ⟨stop,qn⟩ | ⟨go,hz,step⟩
  ·refine HJ (T.done (blk X scope (fX X x ix) HH.objs.size s₂ H2 fp) rfl rfl rfl hc i [] s₄ _ H4 _ I4 (stat fr4) st4 stop) fun r s5 ⟨hr,I5⟩=>?_;subst hr;exact hRR _ _ s5 _ H4 [] hCle I5 qn
  ·refine HJ (T.item (blk X scope (fX X x ix) HH.objs.size s₂ H2 fp) rfl rfl rfl hc i [] s₄ _ H4 _ I4 (stat fr4) st4 go) fun r s5 ⟨u,hr,h5⟩=>?_;subst hr;refine K3 h5 (fun _ s6 ⟨xv,H6,I6,r6,y6,st6,fr6⟩=>?_) fun _ _ z=>z;have I6':=I6.pinned (stat fr6) (T.obj _ _ st6);obtain ⟨vs,hov,hvl,q7⟩:=step xv H6 y6;have fgt:∀ {σ9:St} {H9:Hp} {s9:Af} {p9:List (Addr×Obj)},σ9.length=x.length->BR (blk X scope (fX X x ix) HH.objs.size s₂ H2 fp) p9 (σ9++Kq ix σ) H9 s9->BR (blk X scope (fX X x ix) HH.objs.size s₂ H2 fp) p9 (Qf x.length JI++Kq ix σ) H9 s9:=fun {σ9 H9 s9 p9} hl I9=>
    I9.weak (by simp [hl]) fun k v e=>by
     by_cases hk:k<x.length
     ·rw [Vf (by simpa using hk),Xp,if_pos hk] at e;cases e
     ·rw [V0 (by simpa using hk),List.length_replicate] at e;rw [V0 (by rw [hl];lia),hl];exact e
   refine K3 (hg _ _ _ _ _ s6 _ H6 xv u (fun σ9 H9=>σ9=vs.map Dn++(Qf x.length (JI:Option V)++Kq ix σ).drop x.length/\H9=H6) I6' r6 ⟨vs,hov,hvl,rfl,rfl⟩) (fun _ s7 ⟨σ7,H7,I7,e7,e8⟩=>?_) fun _ _ z=>z.elim;subst e7 e8;rw [List.drop_left' (by simp)] at I7;have hml:(vs.map Dn).length=x.length:=by rw [Hu];exact hvl
   refine K3 (ht _ _ _ _ _ s7 _ H7 _ I7 q7) (fun b s8 ⟨H8,I8,q8⟩=>?_) fun _ _ z=>z.elim;have pinned:∀ {H9:Hp} {s9:Af} {σ9:St},BR (blk X scope (fX X x ix) HH.objs.size s₂ H2 fp) ([]++Bw fp s6.heap) σ9 H9 s9->tn (i+1) s9.heap/\∀ b∈fp,H9 b=JI:=fun {H9 s9 σ9} I9=>by
    refine ⟨T.keep _ _ _ st6 fun b hb o e=>(I9.pin (b,o)<|Qu _<|Qu _<|j5 hb e).1,fun b hb=>?_⟩;obtain ⟨o,e,d⟩:=T.obj _ _ st6 b hb;exact (I9.pin (b,o)<|Qu _<|Qu _<|j5 hb e).2.1
   cases b with
   | false=>
    rw [if_neg Ky] at q8 |-
    obtain ⟨hD8,m',hm,w8⟩:=q8;obtain ⟨t8,f8⟩:=pinned I8;exact ⟨m',hm,i+1,ys,H8,fgt hml I8.unpinned,t8,f8,hD8,w8⟩
   | true=>
    rw [if_pos rfl] at q8 |-
    refine K3 (he _ _ _ _ _ s8 _ H8 _ I8 q8) (fun u9 s9 ⟨v9,H9,I9,r9,hD9,m',hm,w9⟩=>?_) fun _ _ z=>z.elim;refine K3 (Bk (X:=blk X scope (fX X x ix) HH.objs.size s₂ H2 fp) _ s9 _ H9 (.ref s₂.heap.objs.size) [v9] _ [u9] (fun _ H'=>H'=Dv H9 s₂.heap.objs.size (.lst<|ys++[v9])) I9 rfl (.cons r9 .nil) ⟨_,ys,v9,rfl,rfl,hD9,hz,rfl⟩) (fun _ s10 ⟨_,H10,I10,_,e10⟩=>?_) fun _ _ z=>z.elim;subst e10;obtain ⟨t10,f10⟩:=pinned I10;exact ⟨m',hm,i+1,ys++[v9],_,fgt hml I10.unpinned,t10,f10,aU,w9⟩
 exact codeAny_compStart_list (loop _ rfl)<|T.self _ 0 _ _ _ (T.keep 0 _ _ st2<|fun b _ o e=>old b o e)<|loop _ rfl
theorem adl (ix:List Nat)(hc:X.calm=true)(B:iQ X scope x ix)(hg:∀ C s H fp,PG (blk X scope (fX X x ix) C s H fp) tg (RB x.length own))(hi:PI X tg iter wi)(ht:∀ C s H fp,Vp (blk X scope (fX X x ix) C s H fp) ifs tt)(he:∀ C s H fp,PE (blk X scope (fX X x ix) C s H fp) elt te)
  (hs:∀ v,Rn iter X.env v=pure v:=by intro _;rfl):PE X (.ListComp elt [⟨tg,iter,ifs,0⟩] scope pos) (tLC x.length own ix wi tt te):=by
 intro alP s σ H Q I h;rw [eval_ListComp];refine wpAny_comprehension_free (use:=JI) rfl hs (Dy<|qW I B) B.kind (fun y hy hk=>by rw [B.names y hy,hk]) ?_;refine HJ (hi alP s σ H _ I h) fun v s1 h1=>HJ h1 fun itv s2 h2=>?_;obtain ⟨it,fp,tn,J,H2,e,I2,T,st2,f2,hq⟩:=h2;subst e;refine CT (RR:=fun acc C=>compPost (CN X.prog X.w) X.A X.xe JI (EP X alP σ Q) acc C) (fun _=>hc) B hg ht he I2 T st2 f2 hq fun D C s' σ' H' p' hC I' q'=>?_;obtain ⟨m,hn,_⟩:=I'.loc;exact ⟨m,hn,fun h' hs'=>⟨.ref D,H',Di I2 hC f2 I' hs',rfl,q'⟩⟩
def aeD (n:Nat)(own:V->Hp->List V->Prop)(ix:List Nat)(wi:TI)(tt:TT)(te:TE):TE:=fun σ H Q=>wi σ H fun J H1=>J.cm=false/\wLC n own ix tt te σ Q J H1
theorem aaY (ix:List Nat)(B:iQ X scope x ix)(hg:∀ C s H fp,PG (blk X scope (fX X x ix) C s H fp) tg (RB x.length own))(hi:PI X tg iter wi)(ht:∀ C s H fp,Vp (blk X scope (fX X x ix) C s H fp) ifs tt)(he:∀ C s H fp,PE (blk X scope (fX X x ix) C s H fp) elt te)
  (hs:∀ v,Rn iter X.env v=pure v:=by intro _;rfl):PE X (.ListComp elt [⟨tg,iter,ifs,0⟩] scope pos) (aeD x.length own ix wi tt te):=by
 intro alP s σ H Q I h;rw [eval_ListComp];refine wpAny_comprehension_free (use:=JI) rfl hs (Dy<|qW I B) B.kind (fun y hy hk=>by rw [B.names y hy,hk]) ?_;refine HJ (hi alP s σ H _ I h) fun v s1 h1=>HJ h1 fun itv s2 h2=>?_;obtain ⟨it,fp,tn,J,H2,e,I2,T,st2,f2,hcm,hq⟩:=h2;subst e;refine CT (RR:=fun acc C=>compPost (CN X.prog X.w) X.A X.xe JI (EP X alP σ Q) acc C) (fun z=>by rw [hcm] at z;cases z) B hg ht he I2 T st2 f2 hq fun D C s' σ' H' p' hC I' q'=>?_;obtain ⟨m,hn,_⟩:=I'.loc;exact ⟨m,hn,fun h' hs'=>⟨.ref D,H',Di I2 hC f2 I' hs',rfl,q'⟩⟩
theorem adA (ix:List Nat){i:Nat}{y:Str}{py spos:Pos}(hN:X.N.Nodup)(hi':X.N[i]?=Dn y)(hy:Loc X.env.scope y)(hc:X.calm=true)(B:iQ X scope x ix)(hg:∀ C s H fp,PG (blk X scope (fX X x ix) C s H fp) tg (RB x.length own))(hi:PI X tg iter wi)
  (ht:∀ C s H fp,Vp (blk X scope (fX X x ix) C s H fp) ifs tt) (he:∀ C s H fp,PE (blk X scope (fX X x ix) C s H fp) elt te)
  (hsw:Qs (.ListComp elt [⟨tg,iter,ifs,0⟩] scope pos) (Dn (.Name y py)) spos.line X.env=pure true:=by rfl)
  (hf:X.fn y=true\/X.env.scope.names.lookup y=Dn .local:=by first | exact .inl rfl | exact .inr rfl | assumption)
  (hs:∀ v,Rn iter X.env v=pure v:=by intro _;rfl):PS X (.Assign [.Name y py] (.ListComp elt [⟨tg,iter,ifs,0⟩] scope pos) spos) (Y8 (tLC x.length own ix wi tt te) (Li i)):=by
 intro alP s σ H D I h;rw [exec_Assign_Name_used _ _ _ _ hsw];refine Al<|Qt<|Al ?_
 show Bm _ X.A (do let _ <-comprehension (.ListComp elt [⟨tg,iter,ifs,0⟩] scope pos) scope X.env _ (newList []) false (eval iter X.env) (Dn (assign (.Name y py) X.env))) _ _ s;refine Al<|K3 (wpAny_comprehension_free (use:=Dn (assign (.Name y py) X.env)) (Q:=fun _ s'=>SP X alP D .next s') rfl hs (Dy<|qW I B) B.kind (fun y hy hk=>by rw [B.names y hy,hk]) ?_) (fun _ s' hq=>Ck<|Ck hq) fun _ _ e=>e
 refine HJ (hi alP s σ H _ I h) fun v s1 h1=>HJ h1 fun itv s2 h2=>?_;obtain ⟨it,fp,tn,J,H2,e,I2,T,st2,f2,hq⟩:=h2;subst e;refine CT (RR:=fun acc C=>compPost (CN X.prog X.w) X.A X.xe (Dn<|assign (.Name y py) X.env) (fun _ s'=>SP X alP D .next s') acc C) (fun _=>hc) B hg ht he I2 T st2 f2 hq fun D' C s' σ' H' p' hC I' q'=>?_;obtain ⟨m,hn,_⟩:=I'.loc;have I3:BR X alP σ H' s':=Di (h':=s'.heap) I2 hC f2 I' (.refl ..);show Bm _ X.A (assign (.Name y py) X.env (.ref D')) _ _ s';have cneC:∀ z c,X.env.cells.lookup z=Dn c->c≠C:=fun z c e q=>by
  obtain ⟨v,w⟩:=I2.cell z c e;exact absurd (K5 w.lt (by rw [q];exact hC))<|Pa _
 have lneC:X.env.locals≠C:=Ko (K5 I2.lt hC);refine wpAny_assign_Name<|Ba (v:=.ref D') I3 hN hi' hy rfl (fun s'' I'' hsb=>?_) hf
 obtain ⟨a,hsb,ha⟩:=hsb;have haC:C≠a:=by
  rcases ha with rfl | ha
  ·exact Jo lneC
  ·exact Jo<|cneC _ _ ha
 refine ⟨m,hn.sameBut hsb haC,fun h' hs'=>⟨_,H',?_,q'⟩⟩;refine I''.turned (it:=C) (t':=s''.toks) (fun b o hb e=>(hs'.2 b hb).trans e) I'.free (Jo lneC) (.inr<|J4 I2.sz hC) cneC<|fun p hp z=>?_
 exact absurd (K5 (Hx (I2.pin p hp).1) (by rw [z];exact hC))<|Pa _
end
def Sm (n:Nat)(i:Int):Prop:=i.natAbs<2^n
theorem Sm.bits {n:Nat}{i:Int}(h:Sm n i):Builtin.Int.intBits i<=n:=by
 unfold Builtin.Int.intBits;by_cases e:i=0
 ·subst e;exact U7 _
 ·have e':(i==0)=false:=beq_eq_false_iff_ne.mpr e;rw [e'];have h0:i.natAbs≠0:=by lia
  have:=(Nat.log2_lt h0).mpr h
  simp only [Wr,if_false];lia
theorem Sm.mono {m n:Nat}{i:Int}(h:Sm m i)(hmn:m<=n):Sm n i:=K5 h (Nat.pow_le_pow_right (by decide) hmn)
theorem Sm.mul {m n:Nat}{i j:Int}(h:Sm m i)(h':Sm n j):Sm (m+n) (i*j):=by
 unfold Sm at *;rw [Int.natAbs_mul,Nat.pow_add];by_cases e:j.natAbs=0
 ·rw [e,Nat.mul_zero];exact Nat.mul_pos (Nat.pow_pos<|by decide)<|Nat.pow_pos<|by decide
 ·exact K5 (Nat.mul_lt_mul_of_pos_right h<|Nat.pos_of_ne_zero e)<|Nat.mul_le_mul_left _<|Nat.le_of_lt h'
theorem Sm.add {m n:Nat}{i j:Int}(h:Sm m i)(h':Sm n j):Sm (max m n+1) (i+j):=by
 have h1:=h.mono (Nat.le_max_left m n);have h2:=h'.mono (Nat.le_max_right m n);unfold Sm at *;rw [Nat.pow_succ];lia
theorem Sm.neg {n:Nat}{i:Int}(h:Sm n i):Sm n (-i):=by unfold Sm at *;rw [Int.natAbs_neg];exact h
theorem Sm.sub {m n:Nat}{i j:Int}(h:Sm m i)(h':Sm n j):Sm (max m n+1) (i - j):=by
 rw [Int.sub_eq_add_neg];exact h.add h'.neg
theorem Sm.zero {n:Nat}:Sm n 0:=Nat.pow_pos (by decide)
theorem vB {n:Nat}{i:Int}(h1:-(2^n:Int)<i)(h2:i<(2^n:Int)):Sm n i:=by
 unfold Sm;have e:((2^n:Nat):Int)=(2:Int)^n:=by simp
 lia
theorem Sm.le {n:Nat}{i j:Int}(h:Sm n i)(hj:j.natAbs<=i.natAbs):Sm n j:=Vh hj h
def eV (i j:Int):Prop:=∃ m n,m<=1000000/\n<=1000000/\Sm m i/\Sm n j
theorem eV.ok {i j:Int}(h:eV i j):IntMulOk i j:=by
 obtain ⟨m,n,hm,hn,h1,h2⟩:=h;have e:(2:Nat)^20=1048576:=by decide
 exact .of_bits (by have:=h1.bits;lia) (by have:=h2.bits;lia)
def Hi (_ j:Int):Prop:=j≠0/\∃ n,n<=8000/\Sm n j
theorem Yc {n:Nat}{j:Int}(hn:n<=8000)(h:Sm n j):j.natAbs.log2<9000:=by
 by_cases e:j.natAbs=0
 ·rw [e];decide
 ·have:=(Nat.log2_lt e).mpr h
  lia
section
variable {X:Cx}
theorem ajB:Jz X (O5 .Mult) (rI eV fun i j=>.int (i*j)):=opI fun _ _ _ _ _ _ _ hc q=>mul_int q hc.ok
theorem zbe:Jz X (O5 .FloorDiv) (rI Hi fun i j=>.int (i.fdiv j)):=opI fun i j _ _ _ _ _ hc q=>by
 obtain ⟨h1,n,hn,h2⟩:=hc;exact floordiv_int h1 q<|.inl<|PyProof.noPylong_of_log2<|Yc hn h2
theorem uL:∀ {bs:List Bool} {its:List Mk} {i:Nat} {v:Mk},Bp (bs.map V.bl) its->its[i]?=Dn v->∃ b,bs[i]?=Dn b/\v=.bool b
 | [],_,_,_,.nil,e=>by simp at e
 | b::bs,_,0,_,.cons r _,e=>by simp at e;subst e;exact ⟨b,rfl,r⟩
 | _::bs,_,i+1,v,.cons _ t,e=>by
  obtain ⟨b,h1,h2⟩:=uL (i:=i) (v:=v) t (by simpa using e);exact ⟨b,by simpa using h1,h2⟩
theorem zaQ:∀ (bs:List Bool),((Ni bs.length).all fun i=>(bs[i]?).getD true)=bs.all id:=fun bs=>by
 rw [X8,Nr,Nr];constructor
 ·intro h b hb;obtain ⟨i,hi,rfl⟩:=Vt.mp hb;have:=h i (Px.mpr hi)
  simpa [hi] using this
 ·intro h i hi;have hi':=Px.mp hi;have:=h bs[i] (Wc hi')
  simpa [hi'] using this
theorem ahc (hc:X.calm=true):gM X (.builtin "all") (fun xs H Q=>∃ (p:Addr) (bs:List Bool),xs=[.ref p]/\JR X.K H p (bs.map V.bl)/\Q (.bl (bs.all id)) H):=by
 intro alP s σ H xs us Q I r h;obtain ⟨p,bs,rfl,hS,q⟩:=h;obtain ⟨u,rfl,ru⟩:=vals1 r;cases ru;obtain ⟨its,rv,pl,hz⟩:=I.list hS;have alQ:its.length=bs.length:=by rw [<-rv.length,Hu]
 have hl:=pl.isList;have hlt:p<s.heap.objs.size:=by obtain ⟨_,e,_⟩:=hl;exact Hx e
 refine call_all_walk<|Wd hl ?_
 refine ⟨s.heap.objs.size,[s.heap.objs.size,p],[s.heap.objs.size],its.toArray.size,_,_,fun i=>(bs[i]?).getD true,rfl,Walks.list (A:=X.A.in1) (I.ok.hd hc) _ p (Ko hlt) its.toArray,
  ⟨⟨_,Kg _ rfl,rfl,rfl⟩,hl.push _⟩,fun i v s' Q' E' hP hQ=>?_,fun h' tk hk=>?_⟩
 ·obtain ⟨b,e,rfl⟩:=uL rv (by simpa using hP);simp only [e,XD] at hQ;exact Wg hQ
 ·have e:((Ni its.toArray.size).all fun i=>(bs[i]?).getD true)=bs.all id:=by
   rw [Jf,alQ];exact zaQ bs
  rw [e];refine ⟨.bl<|bs.all id,H,I.kept (h':=h') (t':=tk)<|fun b x e=>?_,rfl,q⟩;exact hk b x (fun hm=>by rw [Nz.mp hm] at e;exact Pa _ (Hx e))<|IV _ e
def aeF (K:Bl)(H:Hp):V->String->Bool->Prop
 | .int _,T,b=>(T = "int"/\b=true)\/(T = "bool"/\b=false)\/(T = "tuple"/\b=false)\/(T = "list"/\b=false)
 | .bl _,T,b=>(T = "int"/\b=true)\/(T = "bool"/\b=true)\/(T = "tuple"/\b=false)\/(T = "list"/\b=false)
 | .str _,T,b=>(T = "int"/\b=false)\/(T = "bool"/\b=false)\/(T = "tuple"/\b=false)\/(T = "list"/\b=false)
 | .non,T,b=>(T = "int"/\b=false)\/(T = "bool"/\b=false)\/(T = "tuple"/\b=false)\/(T = "list"/\b=false)
 | .ref p,T,b=>(∃ xs,Jh K H p xs/\((T = "int"/\b=false)\/(T = "bool"/\b=false)\/(T = "tuple"/\b=true)\/(T = "list"/\b=false))) \/
   (∃ xs,JR K H p xs/\((T = "int"/\b=false)\/(T = "bool"/\b=false)\/(T = "tuple"/\b=false)\/(T = "list"/\b=true)))
 | _,_,_=>False
theorem ahR:gM X (.builtin "isinstance") (fun xs H Q=>∃ x T b,xs=[x,.ty T]/\aeF X.K H x T b/\Q (.bl b) H):=by
 intro alP s σ H xs us Q I r h;obtain ⟨x,T,b,rfl,hi,q⟩:=h;obtain ⟨u,w',rfl,rx,ru⟩:=vals2 r;cases ru;have k0:EP X alP σ Q (.bool b) s:=⟨.bl b,H,I,rfl,q⟩
 have k1:EP X alP σ Q (.bool b) { s with toks:=s.toks+1 }:=⟨.bl b,H,I.tok _,rfl,q⟩
 cases x with
 | int i=>
  obtain ⟨t,rfl⟩:=rx;rcases hi with ⟨rfl,rfl⟩ | ⟨rfl,rfl⟩ | ⟨rfl,rfl⟩ | ⟨rfl,rfl⟩
  ·exact IsiPair.int_int k0
  ·exact IsiPair.int_bool k1
  ·exact IsiPair.int_tuple k1
  ·exact IsiPair.int_list k1
 | bl i=>
  cases rx;rcases hi with ⟨rfl,rfl⟩ | ⟨rfl,rfl⟩ | ⟨rfl,rfl⟩ | ⟨rfl,rfl⟩
  ·first | exact IsiPair.bool_int k0 | exact IsiPair.bool_int k1
  ·first | exact IsiPair.bool_bool k0 | exact IsiPair.bool_bool k1
  ·exact IsiPair.bool_tuple k1
  ·exact IsiPair.bool_list k1
 | str i=>
  obtain ⟨t,rfl⟩:=rx;rcases hi with ⟨rfl,rfl⟩ | ⟨rfl,rfl⟩ | ⟨rfl,rfl⟩ | ⟨rfl,rfl⟩
  ·exact IsiPair.str_int k1
  ·exact IsiPair.str_bool k1
  ·exact IsiPair.str_tuple k1
  ·exact IsiPair.str_list k1
 | non=>
  cases rx;rcases hi with ⟨rfl,rfl⟩ | ⟨rfl,rfl⟩ | ⟨rfl,rfl⟩ | ⟨rfl,rfl⟩
  ·exact IsiPair.NoneType_int k1
  ·exact IsiPair.NoneType_bool k1
  ·exact IsiPair.NoneType_tuple k1
  ·exact IsiPair.NoneType_list k1
 | ref p=>
  cases rx;rcases hi with ⟨xs,hS,hi⟩ | ⟨xs,hS,hi⟩
  ·obtain ⟨its,_,⟨o,e,c,_⟩,_⟩:=I.tuple hS;rcases hi with ⟨rfl,rfl⟩ | ⟨rfl,rfl⟩ | ⟨rfl,rfl⟩ | ⟨rfl,rfl⟩
   ·exact IsiPair.tuple_int e c k1
   ·exact IsiPair.tuple_bool e c k1
   ·exact IsiPair.tuple_tuple e c k0
   ·exact IsiPair.tuple_list e c k1
  ·obtain ⟨its,_,pl,_⟩:=I.list hS;obtain ⟨o,e,c,_⟩:=pl.isList;rcases hi with ⟨rfl,rfl⟩ | ⟨rfl,rfl⟩ | ⟨rfl,rfl⟩ | ⟨rfl,rfl⟩
   ·exact IsiPair.list_int e c k1
   ·exact IsiPair.list_bool e c k1
   ·exact IsiPair.list_tuple e c k1
   ·exact IsiPair.list_list e c k0
 | _=>exact (show False from hi).elim
end
inductive W where
 | non | bl (b:Bool) | int (i:Int) | str (x:Str) | ty (n:String) | tup (ws:List W) | lst (ws:List W) | loc (n:Nat) | kls (ws:List W) | exc (n:Str)
 | exa (n:Str) (ws:List W)
 | fnv (f:Addr) (i:Nat)
inductive Cell where
 | lst (ws:List W) | obj (C:Addr) (fs:List (Str×W)) | dct (kvs:List (Key×W))
 | dtt (kvs:List (List Int×W))
structure Gh where
 nx:Nat
 c:Nat->Option Cell
structure Mu where
 f:Nat->Option Addr
 hid:Addr->Prop
def afG (K:Bl)(p:Addr)(xs:List V):Prop:=
 ∃ (o:Obj) (its:Array Mk) (n:Nat),K.lookup p=Dn o/\o.cls=.type "list"/\o.dict=JI/\o.data=.seq its n/\its.size<=Ht/\Bp xs its.toList
def Frz (H:Hp)(μ : Mu)(p:Addr)(xs:List V):Prop:=H p=Dn (.lst xs)/\(∀ n,μ.f n≠Dn p)/\¬ μ.hid p
def Frk (K:Bl)(H:Hp)(p:Addr)(xs:List V):Prop:=(∃ o,H p=Dn (.frz o (.lst xs)))\/afG K p xs
variable {μ : Mu}
theorem Frz.sq {K:Bl}{H:Hp}{p:Addr}{xs:List V}(h:Frz H μ p xs):JR K H p xs:=.inl (.inl h.1)
theorem Frk.sq {K:Bl}{H:Hp}{p:Addr}{xs:List V}(h:Frk K H p xs):JR K H p xs:=by
 rcases h with h | h
 ·exact .inl<|.inr h
 ·exact .inr h
def QF:List Mk:=[.type "ValueError",.type "Exception",.type "BaseException",.type "object"]
def cW (K:Bl)(C:Addr)(n:Str):Bool:=Iw K IK n==Dn (Dn (.ref C))&&X6 K (.ref C)==Dn (.type "type")&&match U9 K C with
 | some cd=>cd.name==n&&cd.mro.contains (.type "BaseException")
 | none=>false
def u0 (K:Bl)(C:Addr)(n:Str):Bool:=cW K C n&&(match U9 K C with
 | some cd=>(match cd.mro with
  | [.ref C',.ref R,a,b,c,d]=>C'==C&&[a,b,c,d]==QF&&Iw K IK "EaselError"==Dn (Dn (.ref R))&&(U9 K R).any (fun c=>c.name==("EaselError" : Str))
  | _=>false)
 | none=>false)&&M6 K (.ref C) "__getattribute__"==Dn (Dn (.builtin "BaseException.__getattribute__"))&&M6 K (.ref C) "__getattr__"==Dn JI&&M6 K (.ref C) "__class__"==Dn (Dn (.builtin "object.__class__"))&&PySem.W.specialIn K (.builtin "object.__class__") "__get__"==Dn (Dn (.builtin "getset_descriptor.__get__"))
 && PySem.W.takesIn K (.builtin "object.__class__")==Dn true
def BJ (n:Str):List Str:=if n = "Apart" then ["word", "places"] else ["at"]
def T9 (K:Bl)(C:Addr)(n:Str):Bool:=u0 K C n&&Wx K C&&(BJ n).all fun f=>M6 K (.ref C) f==Dn JI
def Xoa (K:Bl)(o:Obj)(n:Str)(dd:Addr):Prop:=∃ C,o.cls=.ref C/\o.dict=Dn dd/\PySem.W.notCls o=true/\T9 K C n=true
def Xob (K:Bl)(o:Obj)(n:Str):Prop:=∃ C,o.cls=.ref C/\o.dict=JI/\PySem.W.notCls o=true/\u0 K C n=true
mutual
def Aj (K:Bl)(H:Hp)(μ : Mu):W->V->Prop
 | .non,v=>v=.non
 | .bl b,v=>v=.bl b
 | .int i,v=>v=.int i
 | .str x,v=>v=.str x
 | .ty n,v=>v=.ty n
 | .tup ws,v=>∃ p xs,v=.ref p/\Jh K H p xs/\aM K H μ ws xs
 | .lst ws,v=>∃ p xs,v=.ref p/\Frz H μ p xs/\aM K H μ ws xs
 | .kls ws,v=>∃ p xs,v=.ref p/\Frk K H p xs/\aM K H μ ws xs
 | .loc n,v=>∃ p,v=.ref p/\μ.f n=Dn p
 | .exc n,v=>∃ p o u,v=.ref p/\H p=Dn (.frz o u)/\Xob K o n
 | .exa n ws,v=>∃ p o u dd ns xs,v=.ref p/\H p=Dn (.frz o u)/\Xoa K o n dd/\H dd=Dn (.xd (List.zip ns xs))/\ns=BJ n/\ns.length=xs.length/\aM K H μ ws xs
 | .fnv f _,v=>v=.ref f
def aM (K:Bl)(H:Hp)(μ : Mu):List W->List V->Prop
 | [],xs=>xs=[]
 | w::ws,xs=>∃ v vs,xs=v::vs/\Aj K H μ w v/\aM K H μ ws vs
end
section
variable {K:Bl}{H H' H1 H2:Hp}{μ' μ1 μ2 : Mu}{h h':Gh}{w:W}{ws:List W}{v:V}{xs:List V}
theorem aM.len:∀ {ws:List W} {xs:List V},aM K H μ ws xs->ws.length=xs.length
 | [],xs,h=>by
  have e:xs=[]:=by rw [aM] at h;exact h
  rw [e];rfl
 | w::ws,xs,h=>by
  rw [aM] at h;obtain ⟨v,vs,e,_,h⟩:=h;rw [e,Qy,Qy,aM.len h]
theorem aM.get:∀ {ws:List W} {xs:List V} {i:Nat} {w:W},aM K H μ ws xs->ws[i]?=Dn w->∃ v,xs[i]?=Dn v/\Aj K H μ w v
 | [],_,_,_,_,e=>by simp at e
 | a::ws,xs,0,w,h,e=>by
  rw [aM] at h;obtain ⟨v,vs,e1,r,_⟩:=h;simp at e;subst e;subst e1;exact ⟨v,rfl,r⟩
 | a::ws,xs,i+1,w,h,e=>by
  rw [aM] at h;obtain ⟨v,vs,e1,_,h⟩:=h;subst e1;obtain ⟨u,h1,h2⟩:=aM.get (i:=i) (w:=w) h (by simpa using e);exact ⟨u,by simpa using h1,h2⟩
theorem aM.nil:aM K H μ [] []:=by rw [aM]
theorem aM.cons (r:Aj K H μ w v)(h:aM K H μ ws xs):aM K H μ (w::ws) (v::xs):=by
 rw [aM];exact ⟨v,xs,rfl,r,h⟩
theorem aM.append:∀ {ws:List W} {xs:List V} {us:List W} {ys:List V},aM K H μ ws xs->aM K H μ us ys->aM K H μ (ws++us) (xs++ys)
 | [],xs,us,ys,h,g=>by
  rw [aM] at h;subst h;exact g
 | w::ws,xs,us,ys,h,g=>by
  rw [aM] at h;obtain ⟨v,vs,e,r,h⟩:=h;subst e;exact aM.cons r<|aM.append h g
theorem aM.one (r:Aj K H μ w v):aM K H μ [w] [v]:=aM.cons r aM.nil
theorem aM.set (r:Aj K H μ w v):∀ {ws:List W} {xs:List V} (i:Nat),aM K H μ ws xs->aM K H μ (ws.set i w) (xs.set i v)
 | [],xs,i,h=>by rw [aM] at h;subst h;exact aM.nil
 | a::ws,xs,0,h=>by
  rw [aM] at h;obtain ⟨u,vs,e,_,h⟩:=h;subst e;exact aM.cons r h
 | a::ws,xs,i+1,h=>by
  rw [aM] at h;obtain ⟨u,vs,e,q,h⟩:=h;subst e;exact aM.cons q<|aM.set r i h
theorem aM.take:∀ {ws:List W} {xs:List V} (n:Nat),aM K H μ ws xs->aM K H μ (ws.take n) (xs.take n)
 | _,_,0,_=>by simp only [List.take_zero];exact aM.nil
 | [],xs,n+1,h=>by rw [aM] at h;subst h;exact aM.nil
 | a::ws,xs,n+1,h=>by
  rw [aM] at h;obtain ⟨u,vs,e,q,h⟩:=h;subst e;exact aM.cons q<|aM.take n h
theorem aM.drop:∀ {ws:List W} {xs:List V} (n:Nat),aM K H μ ws xs->aM K H μ (ws.drop n) (xs.drop n)
 | _,_,0,h=>h
 | [],xs,n+1,h=>by rw [aM] at h;subst h;exact aM.nil
 | a::ws,xs,n+1,h=>by
  rw [aM] at h;obtain ⟨u,vs,e,q,h⟩:=h;subst e;exact aM.drop n h
structure Ex0 (K:Bl) (H:Hp) (μ : Mu) (H':Hp) (μ':Mu):Prop where
 t:∀ p xs,Jh K H p xs->Jh K H' p xs
 l:∀ p xs,Frz H μ p xs->Frz H' μ' p xs
 k:∀ p xs,Frk K H p xs->Frk K H' p xs
 m:∀ n p,μ.f n=Dn p->μ'.f n=Dn p
 x:∀ p o u,H p=Dn (.frz o u)->H' p=Dn (.frz o u)
 y:∀ p fs,H p=Dn (.xd fs)->H' p=Dn (.xd fs)
structure Ex (K:Bl) (H:Hp) (μ : Mu) (H':Hp) (μ':Mu):Prop extends Ex0 K H μ H' μ' where
 o:∀ p u,μ.hid p->H p=Dn u->μ'.hid p/\H' p=Dn u
mutual
theorem Aj.ex (e:Ex0 K H μ H' μ'):∀ {w:W} {v:V},Aj K H μ w v->Aj K H' μ' w v
 | .non,_,h=>by rw [Aj] at h |-;exact h
 | .bl _,_,h=>by rw [Aj] at h |-;exact h
 | .int _,_,h=>by rw [Aj] at h |-;exact h
 | .str _,_,h=>by rw [Aj] at h |-;exact h
 | .ty _,_,h=>by rw [Aj] at h |-;exact h
 | .tup ws,_,h=>by
  rw [Aj] at h |-
  obtain ⟨p,xs,e1,hs,hr⟩:=h;exact ⟨p,xs,e1,e.t _ _ hs,aM.ex e hr⟩
 | .lst ws,_,h=>by
  rw [Aj] at h |-
  obtain ⟨p,xs,e1,hs,hr⟩:=h;exact ⟨p,xs,e1,e.l _ _ hs,aM.ex e hr⟩
 | .kls ws,_,h=>by
  rw [Aj] at h |-
  obtain ⟨p,xs,e1,hs,hr⟩:=h;exact ⟨p,xs,e1,e.k _ _ hs,aM.ex e hr⟩
 | .loc n,_,h=>by
  rw [Aj] at h |-
  obtain ⟨p,e1,hm⟩:=h;exact ⟨p,e1,e.m _ _ hm⟩
 | .exc n,_,h=>by
  rw [Aj] at h |-
  obtain ⟨p,o,u,e1,hm,hx⟩:=h;exact ⟨p,o,u,e1,e.x _ _ _ hm,hx⟩
 | .exa n ws,_,h=>by
  rw [Aj] at h |-
  obtain ⟨p,o,u,dd,ns,xs,e1,hm,hx,hd,e2,e3,hr⟩:=h;exact ⟨p,o,u,dd,ns,xs,e1,e.x _ _ _ hm,hx,e.y _ _ hd,e2,e3,aM.ex e hr⟩
 | .fnv _ _,_,h=>by rw [Aj] at h |-;exact h
theorem aM.ex (e:Ex0 K H μ H' μ'):∀ {ws:List W} {xs:List V},aM K H μ ws xs->aM K H' μ' ws xs
 | [],_,h=>by rw [aM] at h |-;exact h
 | w::ws,_,h=>by
  rw [aM] at h |-
  obtain ⟨v,vs,e1,r,h⟩:=h;exact ⟨v,vs,e1,Aj.ex e r,aM.ex e h⟩
end
structure Ip (K:Bl) (H:Hp) (μ : Mu) (H':Hp) (μ':Mu):Prop where
 r:∀ w v,Aj K H μ w v->Aj K H' μ' w v
 o:∀ p u,μ.hid p->H p=Dn u->μ'.hid p/\H' p=Dn u
theorem Ip.refl:Ip K H μ H μ:=⟨fun _ _ h=>h,fun _ _ h g=>⟨h,g⟩⟩
theorem Ip.trans (a:Ip K H μ H1 μ1)(b:Ip K H1 μ1 H2 μ2):Ip K H μ H2 μ2:=
 ⟨fun w v h=>b.r w v (a.r w v h),fun p u h g=>let ⟨h1,g1⟩:=a.o p u h g;b.o p u h1 g1⟩
theorem Ex.ext (e:Ex K H μ H' μ'):Ip K H μ H' μ':=⟨fun _ _ h=>Aj.ex e.toEx0 h,e.o⟩
theorem Ip.s (e:Ip K H μ H' μ'):∀ {ws:List W} {xs:List V},aM K H μ ws xs->aM K H' μ' ws xs
 | [],_,h=>by rw [aM] at h |-;exact h
 | w::ws,_,h=>by
  rw [aM] at h |-
  obtain ⟨v,vs,e1,r,h⟩:=h;exact ⟨v,vs,e1,e.r _ _ r,Ip.s e h⟩
def acy:Option HO->Prop
 | some (.lst _)=>True
 | some (.dK _)=>True
 | some (.ins _ _ _)=>True
 | some (.ext _)=>True
 | _=>False
def aar {κ : Type}(K:Bl)(H:Hp)(μ : Mu):List (κ×W)->List (κ×V)->Prop:=Vn fun (p:κ×W) (q:κ×V)=>p.1=q.1/\Aj K H μ p.2 q.2
def afA (x:List Int×Addr×Mk):DictEntry:=⟨reduceHash (Builtin.Tuple.tupleHashOf (x.1.map hashInt)),.ref x.2.1,x.2.2⟩
def afM (a:Addr)(xs:List (List Int×Addr×Mk))(h:Heap):Prop:=xs.length<=Ht/\(a==sysModules)=false/\(xs.map (·.1)).Nodup/\∃ o es ep,h.get? a=Dn o/\o.ExactDict/\o.data=.dict es ep/\es.toList=xs.map afA
def wg (K:Bl)(H:Hp)(μ : Mu)(p:Addr):Cell->Prop
 | .lst ws=>∃ xs,H p=Dn (.lst xs)/\aM K H μ ws xs
 | .obj C fs=>∃ dx fvs,H p=Dn (.ins C dx fvs)/\aar K H μ fs fvs
 | .dct kvs=>∃ kvv,H p=Dn (.dK kvv)/\aar K H μ kvs kvv
 | .dtt kvs=>∃ xs vs,H p=Dn (.ext (afM p xs))/\kvs.map (·.1)=xs.map (·.1)/\Bp vs (xs.map (·.2.2))/\aM K H μ (kvs.map fun x=>W.tup (x.1.map W.int)) (xs.map fun x=>V.ref x.2.1)/\aM K H μ (kvs.map (·.2)) vs
structure HD (K:Bl) (μ : Mu) (H:Hp) (h:Gh):Prop where
 inj:∀ m n p,μ.f m=Dn p->μ.f n=Dn p->m=n
 dom:∀ n p,μ.f n=Dn p->n<h.nx
 trk:∀ n p,μ.f n=Dn p->acy (H p)
 cel:∀ n c,h.c n=Dn c->∃ p,μ.f n=Dn p/\wg K H μ p c
 hd:∀ p,μ.hid p->(∃ xs,H p=Dn (.lst xs))/\∀ n,μ.f n≠Dn p
theorem wg.ext {p:Addr}{c:Cell}(e:Ip K H μ H' μ')(hp:H' p=H p)(x:wg K H μ p c):wg K H' μ' p c:=by
 cases c with
 | lst ws=>obtain ⟨xs,a,b⟩:=x;exact ⟨xs,hp.trans a,e.s b⟩
 | obj C fs=>obtain ⟨dx,fvs,a,b⟩:=x;exact ⟨dx,fvs,hp.trans a,Paired.mapP b fun _ _ z=>⟨z.1,e.r _ _ z.2⟩⟩
 | dct kvs=>obtain ⟨kvv,a,b⟩:=x;exact ⟨kvv,hp.trans a,Paired.mapP b fun _ _ z=>⟨z.1,e.r _ _ z.2⟩⟩
 | dtt kvs=>obtain ⟨xs,vs,a,b,c,d,f⟩:=x;exact ⟨xs,vs,hp.trans a,b,c,e.s d,e.s f⟩
theorem Rd.laid {p q:Addr}{o u:HO}(hp:H p=JI)(r:Rd H q u):Rd (Dv H p o) q u:=by
 have ne:q≠p:=by
  rcases r with r | ⟨_,r⟩
  ·exact aN r hp
  ·exact aN r hp
 unfold Rd;rw [aJ ne];exact r
theorem Ex.laid {p:Addr}{o:HO}(hp:H p=JI):Ex K H μ (Dv H p o) μ where
 t:=fun q xs h=>by
  rcases h with h | h
  ·exact .inl<|h.laid hp
  ·exact .inr h
 l:=fun q xs h=>⟨by rw [aJ (aN h.1 hp)];exact h.1,h.2⟩
 k:=fun q xs h=>by
  rcases h with ⟨o',h⟩ | h
  ·exact .inl ⟨o',by rw [aJ<|aN h hp];exact h⟩
  ·exact .inr h
 m:=fun _ _ h=>h
 x:=fun q o' u e=>by rw [aJ (aN e hp)];exact e
 y:=fun q fs e=>by rw [aJ (aN e hp)];exact e
 o:=fun q u z e=>⟨z,by rw [aJ (aN e hp)];exact e⟩
theorem HD.laid {p:Addr}{o:HO}(R:HD K μ H h)(hp:H p=JI):HD K μ (Dv H p o) h where
 inj:=R.inj
 dom:=R.dom
 trk:=fun n q e=>by
  have:=R.trk n q e
  have ne:q≠p:=fun z=>by subst z;rw [hp] at this;exact this
  rw [aJ ne];exact this
 cel:=fun n c e=>by
  obtain ⟨q,e1,x⟩:=R.cel n c e;have:=R.trk n q e1
  have ne:q≠p:=fun z=>by subst z;rw [hp] at this;exact this
  exact ⟨q,e1,x.ext (Ex.laid hp).ext (aJ ne)⟩
 hd:=fun q z=>by
  obtain ⟨⟨xs,e⟩,g⟩:=R.hd q z;exact ⟨⟨xs,by rw [aJ<|aN e hp];exact e⟩,g⟩
theorem Aj.tupNew {p:Addr}(hp:H p=JI)(r:aM K H μ ws xs):Aj K (Dv H p (.tup xs)) μ (.tup ws) (.ref p):=by
 rw [Aj];exact ⟨p,xs,rfl,Jh.of aU,(Ex.laid hp).ext.s r⟩
theorem Aj.lstNew {p:Addr}(R:HD K μ H h)(hp:H p=JI)(r:aM K H μ ws xs):Aj K (Dv H p (.lst xs)) μ (.lst ws) (.ref p):=by
 rw [Aj];refine ⟨p,xs,rfl,⟨aU,fun n e=>?_,fun z=>?_⟩,(Ex.laid hp).ext.s r⟩
 ·have:=R.trk n p e
  rw [hp] at this;exact this
 ·obtain ⟨⟨xs,e⟩,_⟩:=R.hd p z;rw [hp] at e;cases e
def Mu.put (μ : Mu)(n:Nat)(p:Addr):Mu:=⟨fun m=>if m=n then Dn p else μ.f m,μ.hid⟩
theorem Mu.put_same {n:Nat}{p:Addr}:(μ.put n p).f n=Dn p:=by show (if n=n then Dn p else μ.f n)=_;rw [if_pos rfl]
theorem Mu.put_ne {m n:Nat}{p:Addr}(e:m≠n):(μ.put n p).f m = μ.f m:=by show (if m=n then Dn p else μ.f m)=_;rw [if_neg e]
def Gh.new (h:Gh)(c:Cell):Gh:=⟨h.nx+1,fun m=>if m=h.nx then Dn c else h.c m⟩
def Gh.set (h:Gh)(n:Nat)(c:Cell):Gh:=⟨h.nx,fun m=>if m=n then Dn c else h.c m⟩
theorem HD.dead (R:HD K μ H h){n:Nat}(hn:h.nx<=n):μ.f n=JI:=by
 cases e:μ.f n with
 | none=>rfl
 | some p=>exact absurd (R.dom n p e) (by lia)
theorem Ex.newCell {p:Addr}{o:HO}(R:HD K μ H h)(hp:H p=JI):Ex K H μ (Dv H p o) (μ.put h.nx p) where
 t:=fun q xs z=>(Ex.laid (μ:=μ) hp).t q xs z
 l:=fun q xs z=>by
  have nq:=aN z.1 hp;refine ⟨by rw [aJ nq];exact z.1,fun n e=>?_,z.2.2⟩;by_cases hn:n=h.nx
  ·subst hn;rw [Mu.put_same] at e;exact nq (JD e).symm
  ·rw [Mu.put_ne hn] at e;exact z.2.1 n e
 k:=fun q xs z=>(Ex.laid (μ:=μ) hp).k q xs z
 m:=fun n q e=>by
  have hn:n≠h.nx:=fun z=>by subst z;rw [R.dead (Ig _)] at e;cases e
  rw [Mu.put_ne hn];exact e
 x:=fun q o' u e=>by rw [aJ (aN e hp)];exact e
 y:=fun q fs e=>by rw [aJ (aN e hp)];exact e
 o:=fun q u z e=>⟨z,by rw [aJ (aN e hp)];exact e⟩
theorem HD.newCell {p:Addr}{o:HO}{c:Cell}(R:HD K μ H h)(hp:H p=JI)(mo:acy (Dn o))(ck:wg K (Dv H p o) (μ.put h.nx p) p c):HD K (μ.put h.nx p) (Dv H p o) (h.new c) where
 inj:=fun m n q em en=>by
  by_cases hm:m=h.nx
  ·by_cases hn:n=h.nx
   ·rw [hm,hn]
   ·rw [hm,Mu.put_same] at em;rw [Mu.put_ne hn] at en;have e:p=q:=JD em;subst e;have:=R.trk n _ en
    rw [hp] at this;exact this.elim
  ·rw [Mu.put_ne hm] at em;by_cases hn:n=h.nx
   ·rw [hn,Mu.put_same] at en;have e:p=q:=JD en;subst e;have:=R.trk m _ em
    rw [hp] at this;exact this.elim
   ·rw [Mu.put_ne hn] at en;exact R.inj m n q em en
 dom:=fun n q e=>by
  show n<h.nx+1;by_cases hn:n=h.nx
  ·lia
  ·rw [Mu.put_ne hn] at e;have:=R.dom n q e
   lia
 trk:=fun n q e=>by
  by_cases hn:n=h.nx
  ·rw [hn,Mu.put_same] at e;have e:p=q:=JD e;subst e;rw [aU];exact mo
  ·rw [Mu.put_ne hn] at e;have:=R.trk n q e
   have ne:q≠p:=fun z=>by subst z;rw [hp] at this;exact this
   rw [aJ ne];exact this
 cel:=fun n d e=>by
  have e:(if n=h.nx then Dn c else h.c n)=Dn d:=e;by_cases hn:n=h.nx
  ·rw [if_pos hn] at e;have e:c=d:=JD e;subst e;exact ⟨p,by rw [hn,Mu.put_same],ck⟩
  ·rw [if_neg hn] at e;obtain ⟨q,e1,x⟩:=R.cel n d e;have:=R.trk n q e1
   have ne:q≠p:=fun z=>by subst z;rw [hp] at this;exact this
   exact ⟨q,by rw [Mu.put_ne hn];exact e1,x.ext (Ex.newCell R hp).ext (aJ ne)⟩
 hd:=fun q z=>by
  obtain ⟨⟨xs,e⟩,g⟩:=R.hd q z;have ne:=aN e hp;refine ⟨⟨xs,by rw [aJ ne];exact e⟩,fun n en=>?_⟩;by_cases hn:n=h.nx
  ·rw [hn,Mu.put_same] at en;exact ne (JD en).symm
  ·rw [Mu.put_ne hn] at en;exact g n en
theorem Rd.kept {p q:Addr}{o u:HO}(mo:acy (H p))(r:Rd H q u)(hn:q≠p):Rd (Dv H p o) q u:=by
 unfold Rd;rw [aJ hn];exact r
theorem Ex.write {n:Nat}{p:Addr}{o:HO}(R:HD K μ H h)(hn:μ.f n=Dn p):Ex K H μ (Dv H p o) μ where
 t:=fun q xs z=>by
  rcases z with z | z
  ·refine .inl<|z.kept (R.trk n p hn) fun e=>?_
   subst e;have:=R.trk n q hn
   rcases z with r | ⟨_,r⟩ <;> rw [r] at this <;> exact this
  ·exact .inr z
 l:=fun q xs z=>⟨by rw [aJ (fun e=>z.2.1 n (by rw [e];exact hn))];exact z.1,z.2⟩
 k:=fun q xs z=>by
  rcases z with ⟨o',z⟩ | z
  ·refine .inl ⟨o',?_⟩;rw [aJ (fun e=>?_)]
   ·exact z
   ·subst e;have:=R.trk n q hn
    rw [z] at this;exact this
  ·exact .inr z
 m:=fun _ _ e=>e
 x:=fun q o' u e=>by
  rw [aJ (fun y=>?_)]
  ·exact e
  ·subst y;have:=R.trk n q hn
   rw [e] at this;exact this
 y:=fun q fs e=>by
  rw [aJ (fun y=>?_)]
  ·exact e
  ·subst y;have:=R.trk n q hn
   rw [e] at this;exact this
 o:=fun q u z e=>⟨z,by rw [aJ (fun y=>(R.hd q z).2 n (by rw [y];exact hn))];exact e⟩
theorem HD.write {n:Nat}{p:Addr}{o:HO}{c:Cell}(R:HD K μ H h)(hn:μ.f n=Dn p)(mo:acy (Dn o))(ck:wg K (Dv H p o) μ p c):HD K μ (Dv H p o) (h.set n c) where
 inj:=R.inj
 dom:=R.dom
 trk:=fun m q e=>by
  by_cases z:q=p
  ·subst z;rw [aU];exact mo
  ·rw [aJ z];exact R.trk m q e
 cel:=fun m d e=>by
  have e:(if m=n then Dn c else h.c m)=Dn d:=e;by_cases hm:m=n
  ·rw [if_pos hm] at e;have e:c=d:=JD e;subst e;exact ⟨p,by rw [hm];exact hn,ck⟩
  ·rw [if_neg hm] at e;obtain ⟨q,e1,x⟩:=R.cel m d e;have ne:q≠p:=fun z=>by subst z;exact hm (R.inj m n q e1 hn)
   exact ⟨q,e1,x.ext (Ex.write R hn).ext (aJ ne)⟩
 hd:=fun q z=>by
  obtain ⟨⟨xs,e⟩,g⟩:=R.hd q z;exact ⟨⟨xs,by rw [aJ<|fun y=>g n (by rw [y];exact hn)];exact e⟩,g⟩
mutual
def Lo (k:Nat):W->Prop
 | .tup ws=>Le k ws
 | .lst ws=>Le k ws
 | .kls ws=>Le k ws
 | .exa _ ws=>Le k ws
 | .loc n=>n<k
 | _=>True
def Le (k:Nat):List W->Prop
 | []=>True
 | w::ws=>Lo k w/\Le k ws
end
mutual
theorem Aj.lo {k:Nat}(hd:∀ n p,μ.f n=Dn p->n<k):∀ {w:W} {v:V},Aj K H μ w v->Lo k w
 | .non,_,_=>by rw [Lo] <;> first | trivial | (intros;contradiction)
 | .bl _,_,_=>by rw [Lo] <;> first | trivial | (intros;contradiction)
 | .int _,_,_=>by rw [Lo] <;> first | trivial | (intros;contradiction)
 | .str _,_,_=>by rw [Lo] <;> first | trivial | (intros;contradiction)
 | .ty _,_,_=>by rw [Lo] <;> first | trivial | (intros;contradiction)
 | .exc _,_,_=>by rw [Lo] <;> first | trivial | (intros;contradiction)
 | .fnv _ _,_,_=>by rw [Lo] <;> first | trivial | (intros;contradiction)
 | .exa _ ws,_,h=>by
  rw [Aj] at h;obtain ⟨_,_,_,_,_,_,_,_,_,_,_,_,hr⟩:=h;rw [Lo];exact aM.lo hd hr
 | .tup ws,_,h=>by
  rw [Aj] at h;obtain ⟨p,xs,_,_,hr⟩:=h;rw [Lo];exact aM.lo hd hr
 | .lst ws,_,h=>by
  rw [Aj] at h;obtain ⟨p,xs,_,_,hr⟩:=h;rw [Lo];exact aM.lo hd hr
 | .kls ws,_,h=>by
  rw [Aj] at h;obtain ⟨p,xs,_,_,hr⟩:=h;rw [Lo];exact aM.lo hd hr
 | .loc n,_,h=>by
  rw [Aj] at h;obtain ⟨p,_,hm⟩:=h;rw [Lo];exact hd n p hm
theorem aM.lo {k:Nat}(hd:∀ n p,μ.f n=Dn p->n<k):∀ {ws:List W} {xs:List V},aM K H μ ws xs->Le k ws
 | [],_,_=>by rw [Le];trivial
 | w::ws,_,h=>by
  rw [aM] at h;obtain ⟨v,vs,_,r,h⟩:=h;rw [Le];exact ⟨Aj.lo hd r,aM.lo hd h⟩
end
def Mu.cut (μ : Mu)(k:Nat):Mu:=⟨fun n=>if n<k then μ.f n else JI,μ.hid⟩
theorem Mu.cut_some {k n:Nat}{p:Addr}(e:(μ.cut k).f n=Dn p):n<k/\μ.f n=Dn p:=by
 have e:(if n<k then μ.f n else JI)=Dn p:=e;by_cases hn:n<k
 ·rw [if_pos hn] at e;exact ⟨hn,e⟩
 ·rw [if_neg hn] at e;cases e
mutual
theorem Aj.cut {k:Nat}:∀ {w:W} {v:V},Aj K H μ w v->Lo k w->Aj K H (μ.cut k) w v
 | .non,_,h,_=>by rw [Aj] at h |-;exact h
 | .bl _,_,h,_=>by rw [Aj] at h |-;exact h
 | .int _,_,h,_=>by rw [Aj] at h |-;exact h
 | .str _,_,h,_=>by rw [Aj] at h |-;exact h
 | .ty _,_,h,_=>by rw [Aj] at h |-;exact h
 | .exc _,_,h,_=>by rw [Aj] at h |-;exact h
 | .fnv _ _,_,h,_=>by rw [Aj] at h |-;exact h
 | .exa _ ws,_,h,l=>by
  rw [Aj] at h |-
  rw [Lo] at l;obtain ⟨p,o,u,dd,ns,xs,e1,hm,hx,hd,e2,e3,hr⟩:=h;exact ⟨p,o,u,dd,ns,xs,e1,hm,hx,hd,e2,e3,aM.cut hr l⟩
 | .tup ws,_,h,l=>by
  rw [Aj] at h |-
  rw [Lo] at l;obtain ⟨p,xs,e1,hs,hr⟩:=h;exact ⟨p,xs,e1,hs,aM.cut hr l⟩
 | .lst ws,_,h,l=>by
  rw [Aj] at h |-
  rw [Lo] at l;obtain ⟨p,xs,e1,hs,hr⟩:=h;exact ⟨p,xs,e1,⟨hs.1,fun n e=>hs.2.1 n (Mu.cut_some e).2,hs.2.2⟩,aM.cut hr l⟩
 | .kls ws,_,h,l=>by
  rw [Aj] at h |-
  rw [Lo] at l;obtain ⟨p,xs,e1,hs,hr⟩:=h;exact ⟨p,xs,e1,hs,aM.cut hr l⟩
 | .loc n,_,h,l=>by
  rw [Aj] at h |-
  rw [Lo] at l;obtain ⟨p,e1,hm⟩:=h;refine ⟨p,e1,?_⟩;show (if n<k then μ.f n else JI)=Dn p;rw [if_pos l];exact hm
theorem aM.cut {k:Nat}:∀ {ws:List W} {xs:List V},aM K H μ ws xs->Le k ws->aM K H (μ.cut k) ws xs
 | [],_,h,_=>by rw [aM] at h |-;exact h
 | w::ws,_,h,l=>by
  rw [aM] at h |-
  rw [Le] at l;obtain ⟨v,vs,e1,r,h⟩:=h;exact ⟨v,vs,e1,Aj.cut r l.1,aM.cut h l.2⟩
end
end
variable {ws : List W}{μ' μ1 : Mu}
section
variable {K:Bl}{H H' H1 H2:Hp}{μ2 : Mu}{h h':Gh}{w:W}{v:V}{xs ys:List V}{p:Addr}
def Mu.hide (μ : Mu)(p:Addr):Mu:=⟨μ.f,fun q=>q=p\/μ.hid q⟩
def Mu.unhide (μ : Mu)(p:Addr):Mu:=⟨μ.f,fun q=>q≠p/\μ.hid q⟩
structure Yt (p:Addr) (K:Bl) (H:Hp) (μ : Mu) (H':Hp) (μ':Mu):Prop where
 r:∀ w v,Aj K H μ w v->Aj K H' μ' w v
 o:∀ q u,q≠p->μ.hid q->H q=Dn u->μ'.hid q/\H' q=Dn u
theorem Ip.x (a:Ip K H μ H1 μ1)(hp:¬ μ.hid p)(b:Yt p K H1 μ1 H2 μ2):Ip K H μ H2 μ2:=
 ⟨fun w v z=>b.r w v (a.r w v z),fun q u z e=>let ⟨z1,e1⟩:=a.o q u z e;b.o q u (fun y=>hp (by rw [<-y];exact z)) z1 e1⟩
theorem Ip.hide {o:HO}(hp:H p=JI):Ip K H μ (Dv H p o) (μ.hide p):=Ex.ext {
 t:=fun q xs z=>(Ex.laid (μ:=μ) hp).t q xs z
 l:=fun q xs z=>by
  have nq:=aN z.1 hp;refine ⟨by rw [aJ nq];exact z.1,z.2.1,fun y=>?_⟩;rcases y with y | y
  ·exact nq y
  ·exact z.2.2 y
 k:=fun q xs z=>(Ex.laid (μ:=μ) hp).k q xs z
 m:=fun _ _ e=>e
 x:=fun q o' u e=>by rw [aJ (aN e hp)];exact e
 y:=fun q fs e=>by rw [aJ (aN e hp)];exact e
 o:=fun q u z e=>⟨.inr z,by rw [aJ (aN e hp)];exact e⟩ }
theorem HD.nohid (R:HD K μ H h)(hp:H p=JI):¬ μ.hid p:=fun z=>by
 obtain ⟨⟨xs,e⟩,_⟩:=R.hd p z;rw [hp] at e;cases e
theorem HD.hide (R:HD K μ H h)(hp:H p=JI):HD K (μ.hide p) (Dv H p (.lst xs)) h where
 inj:=R.inj
 dom:=R.dom
 trk:=(R.laid hp).trk
 cel:=fun n c e=>by
  obtain ⟨q,e1,x⟩:=R.cel n c e;have:=R.trk n q e1
  have ne:q≠p:=fun z=>by subst z;rw [hp] at this;exact this
  exact ⟨q,e1,x.ext (Ip.hide hp)<|aJ ne⟩
 hd:=fun q z=>by
  rcases z with z | z
  ·subst z;refine ⟨⟨xs,aU⟩,fun n e=>?_⟩;have:=R.trk n q e
   rw [hp] at this;exact this
  ·exact (R.laid (o:=.lst xs) hp).hd q z
theorem Ex0.grow (R:HD K μ H h)(hp:μ.hid p):Ex0 K H μ (Dv H p (.lst ys)) μ where
 t:=fun q xs z=>by
  rcases z with z | z
  ·refine .inl ?_;unfold Rd;rw [aJ (fun y=>?_)]
   ·exact z
   ·subst y;obtain ⟨⟨xs',e⟩,_⟩:=R.hd q hp;rcases z with r | ⟨_,r⟩ <;> rw [e] at r <;> cases r
  ·exact .inr z
 l:=fun q xs z=>⟨by rw [aJ (fun y=>z.2.2 (by rw [y];exact hp))];exact z.1,z.2⟩
 k:=fun q xs z=>by
  rcases z with ⟨o',z⟩ | z
  ·refine .inl ⟨o',?_⟩;rw [aJ (fun y=>?_)]
   ·exact z
   ·subst y;obtain ⟨⟨xs',e⟩,_⟩:=R.hd q hp;rw [e] at z;cases z
  ·exact .inr z
 m:=fun _ _ e=>e
 x:=fun q o' u e=>by
  rw [aJ (fun y=>?_)]
  ·exact e
  ·subst y;obtain ⟨⟨xs',e'⟩,_⟩:=R.hd q hp;rw [e'] at e;cases e
 y:=fun q fs e=>by
  rw [aJ (fun y=>?_)]
  ·exact e
  ·subst y;obtain ⟨⟨xs',e'⟩,_⟩:=R.hd q hp;rw [e'] at e;cases e
theorem Yt.grow (R:HD K μ H h)(hp:μ.hid p):Yt p K H μ (Dv H p (.lst ys)) μ:=
 ⟨fun _ _ z=>Aj.ex (Ex0.grow R hp) z,fun q u ne z e=>⟨z,by rw [aJ ne];exact e⟩⟩
theorem HD.grow (R:HD K μ H h)(hp:μ.hid p):HD K μ (Dv H p (.lst ys)) h where
 inj:=R.inj
 dom:=R.dom
 trk:=fun n q e=>by
  have ne:q≠p:=fun z=>(R.hd p hp).2 n (by rw [<-z];exact e)
  rw [aJ ne];exact R.trk n q e
 cel:=fun n c e=>by
  obtain ⟨q,e1,x⟩:=R.cel n c e;have ne:q≠p:=fun z=>(R.hd p hp).2 n (by rw [<-z];exact e1)
  refine ⟨q,e1,?_⟩;cases c with
  | lst ws=>obtain ⟨xs,a,b⟩:=x;exact ⟨xs,(aJ ne).trans a,aM.ex (Ex0.grow R hp) b⟩
  | obj C fs=>obtain ⟨dx,fvs,a,b⟩:=x;exact ⟨dx,fvs,(aJ ne).trans a,Paired.mapP b fun _ _ z=>⟨z.1,Aj.ex (Ex0.grow R hp) z.2⟩⟩
  | dct kvs=>obtain ⟨kvv,a,b⟩:=x;exact ⟨kvv,(aJ ne).trans a,Paired.mapP b fun _ _ z=>⟨z.1,Aj.ex (Ex0.grow R hp) z.2⟩⟩
  | dtt kvs=>obtain ⟨xs,vs,a,b,c,d,f⟩:=x;exact ⟨xs,vs,(aJ ne).trans a,b,c,aM.ex (Ex0.grow R hp) d,aM.ex (Ex0.grow R hp) f⟩
 hd:=fun q z=>by
  by_cases e:q=p
  ·subst e;exact ⟨⟨ys,aU⟩,(R.hd q hp).2⟩
  ·rw [aJ e];exact R.hd q z
theorem Ex0.unhide:Ex0 K H μ H (μ.unhide p) where
 t:=fun _ _ z=>z
 l:=fun q xs z=>⟨z.1,z.2.1,fun y=>z.2.2 y.2⟩
 k:=fun _ _ z=>z
 m:=fun _ _ e=>e
 x:=fun _ _ _ e=>e
 y:=fun _ _ e=>e
theorem Yt.unhide:Yt p K H μ H (μ.unhide p):=⟨fun _ _ z=>Aj.ex Ex0.unhide z,fun q u ne z e=>⟨⟨ne,z⟩,e⟩⟩
theorem HD.unhide (R:HD K μ H h):HD K (μ.unhide p) H h where
 inj:=R.inj
 dom:=R.dom
 trk:=R.trk
 cel:=fun n c e=>by
  obtain ⟨q,e1,x⟩:=R.cel n c e;refine ⟨q,e1,?_⟩;cases c with
  | lst ws=>obtain ⟨xs,a,b⟩:=x;exact ⟨xs,a,aM.ex Ex0.unhide b⟩
  | obj C fs=>obtain ⟨dx,fvs,a,b⟩:=x;exact ⟨dx,fvs,a,Paired.mapP b fun _ _ z=>⟨z.1,Aj.ex Ex0.unhide z.2⟩⟩
  | dct kvs=>obtain ⟨kvv,a,b⟩:=x;exact ⟨kvv,a,Paired.mapP b fun _ _ z=>⟨z.1,Aj.ex Ex0.unhide z.2⟩⟩
  | dtt kvs=>obtain ⟨xs,vs,a,b,c,d,f⟩:=x;exact ⟨xs,vs,a,b,c,aM.ex Ex0.unhide d,aM.ex Ex0.unhide f⟩
 hd:=fun q z=>R.hd q z.2
theorem Aj.built (R:HD K μ H h)(hp:μ.hid p)(e:H p=Dn (.lst xs))(r:aM K H μ ws xs):Aj K H (μ.unhide p) (.lst ws) (.ref p):=by
 rw [Aj];exact ⟨p,xs,rfl,⟨e,(R.hd p hp).2,fun z=>z.1 rfl⟩,aM.ex Ex0.unhide r⟩
end
abbrev Sw:=List (Option W)
abbrev WK:=W->Gh->Prop
abbrev ME:=Sw->Gh->WK->Prop
abbrev MT:=Sw->Gh->(Bool->Gh->Prop)->Prop
abbrev MA:=Sw->Gh->(List W->Gh->Prop)->Prop
structure bI where
 nx:Sw->Gh->Prop
 rt:WK
 bk:Sw->Gh->Prop:=fun _ _=>False
 ct:Sw->Gh->Prop:=fun _ _=>False
abbrev MS:=bI->Sw->Gh->Prop
abbrev MG:=W->Sw->Gh->(Sw->Gh->Prop)->Prop
abbrev QC:=List W->Sw->Gh->(Sw->Gh->Prop)->Prop
structure Xw where
 cls:Str
 fs:List (Str×W)
abbrev Bo:=Xw->Gh->Prop
abbrev AP:=List W->Gh->WK->Bo->Prop
def EF:Bo:=fun _ _=>False
structure Slots (K:Bl) (H:Hp) (μ : Mu) (σw:Sw) (σ : St):Prop where
 len:σw.length = σ.length
 get:∀ (i:Nat) (w:W),σw[i]?=Dn (Dn w)->∃ v,σ[i]?=Dn (Dn v)/\Aj K H μ w v
inductive DQ (K:Bl) (H:Hp) (μ : Mu) (Q:WK) (v:V) (H':Hp):Prop where
 | mk (μ':Mu) (w:W) (h':Gh) (e:Ip K H μ H' μ') (R:HD K μ' H' h') (r:Aj K H' μ' w v) (q:Q w h'):DQ K H μ Q v H'
inductive DB (K:Bl) (H:Hp) (μ : Mu) (Q:Bool->Gh->Prop) (b:Bool) (H':Hp):Prop where
 | mk (μ':Mu) (h':Gh) (e:Ip K H μ H' μ') (R:HD K μ' H' h') (q:Q b h'):DB K H μ Q b H'
inductive DA (K:Bl) (H:Hp) (μ : Mu) (Q:List W->Gh->Prop) (vs:List V) (H':Hp):Prop where
 | mk (μ':Mu) (ws:List W) (h':Gh) (e:Ip K H μ H' μ') (R:HD K μ' H' h') (r:aM K H' μ' ws vs) (q:Q ws h'):DA K H μ Q vs H'
inductive DN (K:Bl) (H:Hp) (μ : Mu) (N:Sw->Gh->Prop) (σ':St) (H':Hp):Prop where
 | mk (μ':Mu) (σw':Sw) (h':Gh) (e:Ip K H μ H' μ') (R:HD K μ' H' h') (S:Slots K H' μ' σw' σ') (q:N σw' h'):DN K H μ N σ' H'
section
variable {K:Bl}{H H' H1 H2:Hp}{μ2 : Mu}{h h' h1:Gh}{w:W}{v:V}{σ : St}{σw:Sw}
theorem Slots.ext (S:Slots K H μ σw σ)(e:Ip K H μ H' μ'):Slots K H' μ' σw σ:=⟨S.len,fun i w q=>let ⟨v,a,b⟩:=S.get i w q;⟨v,a,e.r _ _ b⟩⟩
theorem Slots.set (S:Slots K H μ σw σ)(r:Aj K H μ w v)(i:Nat):Slots K H μ (σw.set i (Dn w)) (σ.set i (Dn v)):=by
 refine ⟨by rw [WL,WL,S.len],fun j u q=>?_⟩;rw [List.getElem?_set] at q |-
 by_cases hij:i=j
 ·rw [if_pos hij] at q |-
  by_cases hl:i < σw.length
  ·rw [if_pos hl] at q;rw [if_pos (by rw [<-S.len];exact hl)];have e:w=u:=by injection q with q;injection q
   subst e;exact ⟨v,rfl,r⟩
  ·rw [if_neg hl] at q;cases q
 ·rw [if_neg hij] at q |-
  exact S.get j u q
theorem DQ.trans {Q:WK}(e:Ip K H μ H1 μ1)(q:DQ K H1 μ1 Q v H'):DQ K H μ Q v H':=let ⟨μ',w,h',a,b,c,d⟩:=q;⟨μ',w,h',e.trans a,b,c,d⟩
theorem DB.trans {Q:Bool->Gh->Prop}{b:Bool}(e:Ip K H μ H1 μ1)(q:DB K H1 μ1 Q b H'):DB K H μ Q b H':=let ⟨μ',h',a,b,c⟩:=q;⟨μ',h',e.trans a,b,c⟩
theorem DN.trans {N:Sw->Gh->Prop}{σ':St}(e:Ip K H μ H1 μ1)(q:DN K H1 μ1 N σ' H'):DN K H μ N σ' H':=let ⟨μ',w,h',a,b,c,d⟩:=q;⟨μ',w,h',e.trans a,b,c,d⟩
end
variable {σw : Sw}
inductive tD (K:Bl) (m:ME) (σ : St) (H:Hp) (Q:VK):Prop where
 | mk (μ : Mu) (h:Gh) (σw:Sw) (Qw:WK) (R:HD K μ H h) (S:Slots K H μ σw σ) (x:m σw h Qw) (k:∀ v H',DQ K H μ Qw v H'->Q v H'):tD K m σ H Q
inductive tDT (K:Bl) (m:MT) (σ : St) (H:Hp) (Q:Bool->Hp->Prop):Prop where
 | mk (μ : Mu) (h:Gh) (σw:Sw) (Qw:Bool->Gh->Prop) (R:HD K μ H h) (S:Slots K H μ σw σ) (x:m σw h Qw) (k:∀ b H',DB K H μ Qw b H'->Q b H'):tDT K m σ H Q
inductive tDA (K:Bl) (m:MA) (σ : St) (H:Hp) (Q:List V->Hp->Prop):Prop where
 | mk (μ : Mu) (h:Gh) (σw:Sw) (Qw:List W->Gh->Prop) (R:HD K μ H h) (S:Slots K H μ σw σ) (x:m σw h Qw) (k:∀ vs H',DA K H μ Qw vs H'->Q vs H'):tDA K m σ H Q
inductive tDG (K:Bl) (g:MG) (v:V) (σ : St) (H:Hp) (N:St->Hp->Prop):Prop where
 | mk (μ : Mu) (h:Gh) (σw:Sw) (w:W) (Nw:Sw->Gh->Prop) (R:HD K μ H h) (S:Slots K H μ σw σ) (r:Aj K H μ w v) (x:g w σw h Nw) (k:∀ σ' H',DN K H μ Nw σ' H'->N σ' H'):tDG K g v σ H N
inductive aeY (K:Bl) (g:QC) (vs:List V) (σ : St) (H:Hp) (N:St->Hp->Prop):Prop where
 | mk (μ : Mu) (h:Gh) (σw:Sw) (ws:List W) (Nw:Sw->Gh->Prop) (R:HD K μ H h) (S:Slots K H μ σw σ) (r:aM K H μ ws vs) (x:g ws σw h Nw) (k:∀ σ' H',DN K H μ Nw σ' H'->N σ' H'):aeY K g vs σ H N
structure wD (K:Bl) (H:Hp) (μ : Mu) (Dw:bI) (D:Ends):Prop where
 nx:∀ σ' H',DN K H μ Dw.nx σ' H'->D.nx σ' H'
 rt:∀ v H',DQ K H μ Dw.rt v H'->D.rt v H'
 bk:∀ σ' H',DN K H μ Dw.bk σ' H'->D.bk σ' H'
 ct:∀ σ' H',DN K H μ Dw.ct σ' H'->D.ct σ' H'
inductive tDS (K:Bl) (m:MS) (D:Ends) (σ : St) (H:Hp):Prop where
 | mk (μ : Mu) (h:Gh) (σw:Sw) (Dw:bI) (R:HD K μ H h) (S:Slots K H μ σw σ) (x:m Dw σw h) (k:wD K H μ Dw D):tDS K m D σ H
theorem wD.trans {K:Bl}{H H1:Hp}{μ μ1:Mu}{Dw:bI}{D:Ends}(k:wD K H μ Dw D)(e:Ip K H μ H1 μ1):wD K H1 μ1 Dw D:=
 ⟨fun _ _ q=>k.nx _ _ (q.trans e),fun _ _ q=>k.rt _ _ (q.trans e),fun _ _ q=>k.bk _ _ (q.trans e),fun _ _ q=>k.ct _ _ (q.trans e)⟩
section
variable {X:Cx}{e:Expr}{es:List Expr}{st:Stmt}{sts:List Stmt}
theorem PE.of {t t':TE}(h:PE X e t)(k:∀ σ H Q,t' σ H Q->t σ H Q):PE X e t':=fun alP s σ H Q I q=>h alP s σ H Q I (k σ H Q q)
theorem PT.of {t t':TT}(h:PT X e t)(k:∀ σ H Q,t' σ H Q->t σ H Q):PT X e t':=fun alP s σ H Q I q=>h alP s σ H Q I (k σ H Q q)
theorem PW.of {t t':TT}(h:PW X e t)(k:∀ σ H Q,t' σ H Q->t σ H Q):PW X e t':=fun wh alP s σ H Q I q=>h wh alP s σ H Q I (k σ H Q q)
theorem PA.of {t t':TA}(h:PA X es t)(k:∀ σ H Q,t' σ H Q->t σ H Q):PA X es t':=fun pos alP s σ H Q I q=>h pos alP s σ H Q I (k σ H Q q)
theorem PG.of {t t':TG}(h:PG X e t)(k:∀ v σ H Q,t' v σ H Q->t v σ H Q):PG X e t':=fun alP s σ H v u Q I r q=>h alP s σ H v u Q I r (k v σ H Q q)
theorem Ru.of {t t':RJ}(h:Ru X es t)(k:∀ v σ H Q,t' v σ H Q->t v σ H Q):Ru X es t':=fun alP s σ H v u Q I r q=>h alP s σ H v u Q I r (k v σ H Q q)
theorem PS.of {t t':TS}(h:PS X st t)(k:∀ D σ H,t' D σ H->t D σ H):PS X st t':=fun alP s σ H D I q=>h alP s σ H D I (k D σ H q)
theorem Nv.of {t t':TS}(h:Nv X sts t)(k:∀ D σ H,t' D σ H->t D σ H):Nv X sts t':=fun alP s σ H D I q=>h alP s σ H D I (k D σ H q)
end
abbrev DE (X:Cx)(e:Expr)(m:ME):Prop:=PE X e (tD X.K m)
abbrev DT (X:Cx)(e:Expr)(m:MT):Prop:=PT X e (tDT X.K m)
abbrev DWt (X:Cx)(e:Expr)(m:MT):Prop:=PW X e (tDT X.K m)
abbrev Jm (X:Cx)(es:List Expr)(m:MA):Prop:=PA X es (tDA X.K m)
abbrev DG (X:Cx)(e:Expr)(m:MG):Prop:=PG X e (tDG X.K m)
abbrev acf (X:Cx)(es:List Expr)(m:QC):Prop:=Ru X es (aeY X.K m)
abbrev DS (X:Cx)(st:Stmt)(m:MS):Prop:=PS X st (tDS X.K m)
abbrev P0 (X:Cx)(st:List Stmt)(m:MS):Prop:=Nv X st (tDS X.K m)
section
variable {X:Cx}{e a b c:Expr}{ma mb mc:ME}{pos:Pos}
def ao (i:Nat):ME:=fun σ h Q=>match σ[i]? with
 | some (Dn w)=>Q w h
 | _=>False
def mC (w:W):ME:=fun _ h Q=>Q w h
theorem dv (i:Nat)(he:PE X e (QV i)):DE X e (ao i):=he.of fun σ H Q ⟨μ,h,σw,Qw,R,S,m,k⟩=>by
 unfold ao at m;cases q:σw[i]? with
 | none=>rw [q] at m;exact m.elim
 | some o=>
  rw [q] at m;cases o with
  | none=>exact m.elim
  | some w=>
   obtain ⟨v,h1,h2⟩:=S.get i w q;exact ⟨v,h1,k _ _ ⟨μ,w,h,.refl,R,h2,m⟩⟩
theorem dc {w:W}{v:V}(he:PE X e (tC v))(r:∀ H μ,Aj X.K H μ w v):DE X e (mC w):=he.of fun σ H Q ⟨μ,h,σw,Qw,R,S,m,k⟩=>k _ _ ⟨μ,w,h,.refl,R,r H μ,m⟩
theorem aA {i:Int}{j pos}:DE X (.Constant (.int i) j pos) (mC (.int i)):=dc abK fun _ _=>by rw [Aj]
theorem Cq {i:Bool}{j pos}:DE X (.Constant (.bool i) j pos) (mC (.bl i)):=dc ac5 fun _ _=>by rw [Aj]
theorem lZ {j pos}:DE X (.Constant .none j pos) (mC .non):=dc aaf fun _ _=>by rw [Aj]
theorem nM {i:Str}{j pos}:DE X (.Constant (.str i) j pos) (mC (.str i)):=dc aby fun _ _=>by rw [Aj]
abbrev M2:=W->W->Gh->WK->Prop
def Ae (r:M2)(ma mb:ME):ME:=fun σ h Q=>ma σ h fun x h1=>mb σ h1 fun y h2=>r x y h2 Q
def ae9 (K:Bl)(r:R2)(mr:M2):Prop:=∀ {H:Hp} {μ : Mu} {h:Gh} {x y:V} {wx wy:W} {Qw:WK} {Q:VK},HD K μ H h->Aj K H μ wx x->Aj K H μ wy y->mr wx wy h Qw ->
 (∀ v H',DQ K H μ Qw v H'->Q v H')->r x y H Q
theorem two {K:Bl}{σ : St}{H:Hp}{Q:VK}{mr:M2}{R2':V->V->Hp->Prop}(h:tD K (Ae mr ma mb) σ H Q)
  (k:∀ {H2:Hp} {μ2:Mu} {h2:Gh} {x y:V} {wx wy:W} {Qw:WK},HD K μ2 H2 h2->Aj K H2 μ2 wx x->Aj K H2 μ2 wy y->mr wx wy h2 Qw->(∀ v H',DQ K H2 μ2 Qw v H'->Q v H')->R2' x y H2) :
  tD K ma σ H fun x H1=>tD K mb σ H1 fun y H2=>R2' x y H2:=by
 obtain ⟨μ,g,σw,Qw,R,S,m,q⟩:=h;refine ⟨μ,g,σw,_,R,S,m,fun x H1 ⟨μ1,wx,h1,e1,R1,r1,m1⟩=>?_⟩;refine ⟨μ1,h1,σw,_,R1,S.ext e1,m1,fun y H2 ⟨μ2,wy,h2,e2,R2,r2,m2⟩=>?_⟩;exact k R2 (e2.r _ _ r1) r2 m2 fun v H' z=>q _ _<|(z.trans e2).trans e1
def Nj (X:Cx)(f:Mk->Mk->Sem Mk)(mr:M2):Prop:=∃ r,Jz X f r/\ae9 X.K r mr
theorem bC {op:Operator}{mr:M2}(ho:Nj X (O5 op) mr)(ha:DE X a ma)(hb:DE X b mb):DE X (.BinOp a op b pos) (Ae mr ma mb):=by
 obtain ⟨r,o,s⟩:=ho;exact (adv o ha hb).of fun σ H Q h=>two h fun R r1 r2 m k=>s R r1 r2 m k
theorem adC {op:CmpOp}{mr:M2}(ho:Nj X (Ly op) mr)(ha:DE X a ma)(hb:DE X b mb)(hm:VR op b=false):DE X (.Compare a [op] [b] pos) (Ae mr ma mb):=by
 obtain ⟨r,o,s⟩:=ho;exact (ajr o ha hb hm).of fun σ H Q h=>two h fun R r1 r2 m k=>s R r1 r2 m k
def aZ (m:ME):MT:=fun σ h Q=>m σ h fun w h1=>match w with
 | .bl c=>Q c h1
 | _=>False
theorem ahw {K:Bl}{σ : St}{H:Hp}{m:ME}{Q:Bool->Hp->Prop}(h:tDT K (aZ m) σ H Q):tD K m σ H fun x H'=>∃ k,x=.bl k/\Q k H':=by
 obtain ⟨μ,g,σw,Qw,R,S,mm,q⟩:=h;refine ⟨μ,g,σw,_,R,S,mm,fun v H' ⟨μ1,w,h1,e1,R1,r1,m1⟩=>?_⟩;cases w with
 | bl c=>rw [Aj] at r1;exact ⟨c,r1,q _ _ ⟨μ1,h1,e1,R1,m1⟩⟩
 | _=>exact m1.elim
theorem rG {op:CmpOp}{mr:M2}(ho:Nj X (Ly op) mr)(ha:DE X a ma)(hb:DE X b mb)(hm:VR op b=false):DT X (.Compare a [op] [b] pos) (aZ (Ae mr ma mb)):=by
 obtain ⟨r,o,s⟩:=ho;exact (ajW o ha hb hm).of fun σ H Q h=>two (ahw h) fun R r1 r2 m k=>s R r1 r2 m k
def Ib (c:Bool)(a b:Prop):Prop:=match c with
 | true=>a
 | false=>b
def br (c:Bool)(a b:Prop):Prop:=(c=true->a)/\(c=false->b)
theorem vo {c:Bool}{a b:Prop}(e:c=true)(x:a):br c a b:=⟨fun _=>x,fun z=>by rw [e] at z;cases z⟩
theorem jY {c:Bool}{a b:Prop}(e:c=false)(x:b):br c a b:=⟨fun z=>(by rw [e] at z;cases z),fun _=>x⟩
theorem nH {c:Prop}[Decidable c]{a b:Prop}(x:c->a)(y:¬ c->b):br (decide c) a b:=⟨fun e=>x (of_decide_eq_true e),fun e=>y (of_decide_eq_false e)⟩
def TJ (t u:MT):MT:=fun σ h Q=>t σ h fun c h1=>br c (u σ h1 Q) (Q false h1)
def QG (t u:MT):MT:=fun σ h Q=>t σ h fun c h1=>br c (Q true h1) (u σ h1 Q)
def Ji (t:MT):MT:=fun σ h Q=>t σ h fun c h1=>Q (!c) h1
variable {tA tB':MT}{rest:List Expr}
theorem uO (ha:DT X a tA):DWt X (.BoolOp .And [a] pos) tA:=ajK ha
theorem qj (ha:DT X a tA):DWt X (.BoolOp .Or [a] pos) tA:=aaB ha
theorem wJ (ha:DT X a tA)(hb:DWt X (.BoolOp .And (b::rest) pos) tB'):DWt X (.BoolOp .And (a::b::rest) pos) (TJ tA tB'):=(abo ha hb).of fun σ H Q ⟨μ,g,σw,Qw,R,S,m,q⟩=>by
 refine ⟨μ,g,σw,_,R,S,m,fun c H1 ⟨μ1,h1,e1,R1,m1⟩=>?_⟩;cases c with
 | true=>
  rw [if_pos rfl];exact ⟨μ1,h1,σw,_,R1,S.ext e1,m1.1 rfl,fun b H' z=>q _ _<|z.trans e1⟩
 | false=>
  rw [if_neg Ky];exact q _ _ ⟨μ1,h1,e1,R1,m1.2 rfl⟩
theorem vA (ha:DT X a tA)(hb:DWt X (.BoolOp .Or (b::rest) pos) tB'):DWt X (.BoolOp .Or (a::b::rest) pos) (QG tA tB'):=(acG ha hb).of fun σ H Q ⟨μ,g,σw,Qw,R,S,m,q⟩=>by
 refine ⟨μ,g,σw,_,R,S,m,fun c H1 ⟨μ1,h1,e1,R1,m1⟩=>?_⟩;cases c with
 | true=>
  rw [if_pos rfl];exact q _ _ ⟨μ1,h1,e1,R1,m1.1 rfl⟩
 | false=>
  rw [if_neg Ky];exact ⟨μ1,h1,σw,_,R1,S.ext e1,m1.2 rfl,fun b H' z=>q _ _<|z.trans e1⟩
theorem jT (ha:DT X a tA):DT X (.UnaryOp .Not a pos) (Ji tA):=(ZR ha).of fun σ H Q ⟨μ,g,σw,Qw,R,S,m,q⟩=>
 ⟨μ,g,σw,_,R,S,m,fun c H1 ⟨μ1,h1,e1,R1,m1⟩=>q _ _ ⟨μ1,h1,e1,R1,m1⟩⟩
def xX (a b:ME):ME:=fun σ h Q=>a σ h fun x h1=>match x with
 | .bl true=>b σ h1 Q
 | .bl false=>Q (.bl false) h1
 | _=>False
def afF (a b:ME):ME:=fun σ h Q=>a σ h fun x h1=>match x with
 | .bl false=>b σ h1 Q
 | .bl true=>Q (.bl true) h1
 | _=>False
def KD (a:ME):ME:=fun σ h Q=>a σ h fun x h1=>match x with
 | .bl c=>Q (.bl (!c)) h1
 | _=>False
theorem BZ {op}(h:DE X a ma):DE X (.BoolOp op [a] pos) ma:=ZQ h
theorem Ca (ha:DE X a ma)(hb:DE X (.BoolOp .And (b::rest) pos) mb):DE X (.BoolOp .And (a::b::rest) pos) (xX ma mb):=(abC ha hb).of fun σ H Q ⟨μ,g,σw,Qw,R,S,m,q⟩=>by
 refine ⟨μ,g,σw,_,R,S,m,fun v H1 ⟨μ1,w,h1,e1,R1,r1,m1⟩=>?_⟩;cases w with
 | bl c=>
  rw [Aj] at r1;refine ⟨c,r1,?_⟩;cases c with
  | true=>rw [if_pos rfl];exact ⟨μ1,h1,σw,_,R1,S.ext e1,m1,fun b H' z=>q _ _ (z.trans e1)⟩
  | false=>rw [if_neg Ky];exact q _ _ ⟨μ1,.bl false,h1,e1,R1,by rw [Aj],m1⟩
 | _=>exact m1.elim
theorem Yi (ha:DE X a ma):DE X (.UnaryOp .Not a pos) (KD ma):=(aaD ha).of fun σ H Q ⟨μ,g,σw,Qw,R,S,m,q⟩=>by
 refine ⟨μ,g,σw,_,R,S,m,fun v H1 ⟨μ1,w,h1,e1,R1,r1,m1⟩=>?_⟩;cases w with
 | bl c=>rw [Aj] at r1;exact ⟨c,r1,q _ _ ⟨μ1,.bl (!c),h1,e1,R1,by rw [Aj],m1⟩⟩
 | _=>exact m1.elim
def mIf (t:MT)(a b:ME):ME:=fun σ h Q=>t σ h fun c h1=>br c (a σ h1 Q) (b σ h1 Q)
theorem aeB (hc:DT X c tA)(ha:DE X a ma)(hb:DE X b mb):DE X (.IfExp c a b pos) (mIf tA ma mb):=(ajX hc ha hb).of fun σ H Q ⟨μ,g,σw,Qw,R,S,m,q⟩=>by
 refine ⟨μ,g,σw,_,R,S,m,fun c H1 ⟨μ1,h1,e1,R1,m1⟩=>?_⟩;cases c with
 | true=>
  rw [if_pos rfl];exact ⟨μ1,h1,σw,_,R1,S.ext e1,m1.1 rfl,fun b H' z=>q _ _<|z.trans e1⟩
 | false=>
  rw [if_neg Ky];exact ⟨μ1,h1,σw,_,R1,S.ext e1,m1.2 rfl,fun b H' z=>q _ _<|z.trans e1⟩
def mUn (r:W->Gh->WK->Prop)(a:ME):ME:=fun σ h Q=>a σ h fun x h1=>r x h1 Q
def aci:W->Gh->WK->Prop:=fun x h Q=>match x with
 | .int i=>Q (.int (-i)) h
 | _=>False
theorem abb (ha:DE X a ma):DE X (.UnaryOp .USub a pos) (mUn aci ma):=(acR aah ha).of fun σ H Q ⟨μ,g,σw,Qw,R,S,m,q⟩=>by
 refine ⟨μ,g,σw,_,R,S,m,fun v H1 ⟨μ1,w,h1,e1,R1,r1,m1⟩=>?_⟩;cases w with
 | int i=>rw [Aj] at r1;exact ⟨i,r1,q _ _ ⟨μ1,.int (-i),h1,e1,R1,by rw [Aj],m1⟩⟩
 | _=>exact m1.elim
def aG:MA:=fun _ h Q=>Q [] h
def aj (a:ME)(r:MA):MA:=fun σ h Q=>a σ h fun x h1=>r σ h1 fun xs h2=>Q (x::xs) h2
variable {es:List Expr}{mr:MA}
theorem dZ:Jm X [] aG:=G5.of fun σ H Q ⟨μ,g,σw,Qw,R,S,m,q⟩=>q _ _ ⟨μ,[],g,.refl,R,.nil,m⟩
theorem cL (ha:DE X e ma)(hr:Jm X es mr)(hs:Cy (e::es) X.env=(false,eval e X.env)::Cy es X.env:=by rfl):Jm X (e::es) (aj ma mr):=(n6 ha hr hs).of fun σ H Q ⟨μ,g,σw,Qw,R,S,m,q⟩=>by
 refine ⟨μ,g,σw,_,R,S,m,fun v H1 ⟨μ1,w,h1,e1,R1,r1,m1⟩=>?_⟩;refine ⟨μ1,h1,σw,_,R1,S.ext e1,m1,fun vs H2 ⟨μ2,ws,h2,e2,R2,r2,m2⟩=>?_⟩;exact q _ _ ⟨μ2,w::ws,h2,e1.trans e2,R2,.cons (e2.r _ _ r1) r2,m2⟩
def fW (n:Nat)(P:Prop):Prop:=Ib (QS n 1000) P (n<=Ht/\P)
theorem fW.ok {n:Nat}{P:Prop}(h:fW n P):n<=Ht/\P:=by
 unfold fW at h;cases e:QS n 1000 with
 | true=>rw [e] at h;exact ⟨J4 (Xx e) (by decide),h⟩
 | false=>rw [e] at h;exact h
theorem fW.mk {n:Nat}{P:Prop}(hn:n<=Ht)(h:P):fW n P:=by
 unfold fW;cases e:QS n 1000 with
 | true=>exact h
 | false=>exact ⟨hn,h⟩
def tV (t:MA):ME:=fun σ h Q=>t σ h fun ws h1=>fW ws.length (Q (.tup ws) h1)
def qD (t:MA):ME:=fun σ h Q=>t σ h fun ws h1=>fW ws.length (Q (.lst ws) h1)
def vd (t:MA):ME:=fun σ h Q=>t σ h fun ws h1=>fW ws.length (Q (.loc h1.nx) (h1.new (.lst ws)))
theorem jg {x1}(h:Jm X es mr):DE X (.Tuple es x1 pos) (tV mr):=(R0 h).of fun σ H Q ⟨μ,g,σw,Qw,R,S,m,q⟩=>
 ⟨μ,g,σw,_,R,S,m,fun vs H1 ⟨μ1,ws,h1,e1,R1,r1,sz⟩=>⟨by rw [<-r1.len];exact sz.ok.1,fun p hp=>q _ _ ⟨μ1,.tup ws,h1,e1.trans (Ex.laid hp).ext,R1.laid hp,.tupNew hp r1,sz.ok.2⟩⟩⟩
theorem fD (h:Jm X es mr):DE X (.List es pos) (qD mr):=(Uq h).of fun σ H Q ⟨μ,g,σw,Qw,R,S,m,q⟩=>
 ⟨μ,g,σw,_,R,S,m,fun vs H1 ⟨μ1,ws,h1,e1,R1,r1,sz⟩=>⟨by rw [<-r1.len];exact sz.ok.1,fun p hp=>q _ _ ⟨μ1,.lst ws,h1,e1.trans (Ex.laid hp).ext,R1.laid hp,.lstNew R1 hp r1,sz.ok.2⟩⟩⟩
theorem Uy {K:Bl}{H:Hp}{h:Gh}{p:Addr}{xs:List V}(R:HD K μ H h)(hp:H p=JI)(r:aM K H μ ws xs):
  HD K (μ.put h.nx p) (Dv H p (.lst xs)) (h.new (.lst ws)):=R.newCell hp trivial ⟨xs,aU,(Ex.newCell R hp).ext.s r⟩
theorem v8 (h:Jm X es mr):DE X (.List es pos) (vd mr):=(Uq h).of fun σ H Q ⟨μ,g,σw,Qw,R,S,m,q⟩=>
 ⟨μ,g,σw,_,R,S,m,fun vs H1 ⟨μ1,ws,h1,e1,R1,r1,sz⟩=>⟨by rw [<-r1.len];exact sz.ok.1,fun p hp=>q _ _ ⟨μ1.put h1.nx p,.loc h1.nx,h1.new (.lst ws),e1.trans (Ex.newCell R1 hp).ext,Uy R1 hp r1,by rw [Aj];exact ⟨p,rfl,Mu.put_same⟩,sz.ok.2⟩⟩⟩
inductive lift (K:Bl) (ms:AP) (vs:List V) (H:Hp) (Q:VK) (E:XK):Prop where
 | mk (μ : Mu) (h:Gh) (ws:List W) (Qw:WK) (R:HD K μ H h) (r:aM K H μ ws vs) (x:ms ws h Qw EF) (k:∀ v H',DQ K H μ Qw v H'->Q v H'):lift K ms vs H Q E
def aD (ms:AP)(E:Bo)(ma:MA):ME:=fun σ h Q=>ma σ h fun ws h1=>ms ws h1 Q E
theorem call_of {K:Bl}{σ : St}{H:Hp}{Q:VK}{E:XK}{ms:AP}{ma:MA}(h:tD K (aD ms EF ma) σ H Q):Xb (lift K ms) [] E (tDA K ma) σ H Q:=by
 obtain ⟨μ,g,σw,Qw,R,S,m,q⟩:=h;refine ⟨μ,g,σw,_,R,S,m,fun vs H1 ⟨μ1,ws,h1,e1,R1,r1,m1⟩=>?_⟩;show lift K ms (vs++[]) H1 Q E;rw [Vv];exact ⟨μ1,h1,ws,Qw,R1,r1,m1,fun v H' z=>q _ _<|z.trans e1⟩
theorem zj {k:Nat}{f:Addr}{fd:Ln}{ps:List Str}{ms:AP}{x:Str}{p:Pos}(F:jE X.prog X.w X.K X.mg X.base Lf k f fd ps (lift X.K ms))(hr:eO k X.A)(hg:Gl X x)(hm:X.mg x=Dn (.ref f))(hk:Og X.K (.ref f)=true)
  (hb:Binds X.K fd ps []) (ha:Jm X (e::es) mr) (hdb:(x==("__debug__" : Str))=false:=by decide) (he:Cy (e::es) X.env=(false,eval e X.env)::Cy es X.env:=by rfl) (hpl:(Jd pos (Cy es X.env)).any (·.1)=false:=by rfl) :
  DE X (.Call (.Name x p) (e::es) [] pos) (aD ms EF mr):=(ais F hr hg hm hk hb .nil Qc ha hdb he hpl).of fun _ _ _ h=>call_of h
theorem aij {k:Nat}{f:Addr}{fd:Ln}{ps:List Str}{ms:AP}{x:Str}{p:Pos}(F:jE X.prog X.w X.K X.mg X.base Lf k f fd ps (lift X.K ms))(hr:eO k X.A)(hg:Gl X x)(hm:X.mg x=Dn (.ref f))(hk:Og X.K (.ref f)=true)
  (hb:Binds X.K fd ps []) (hdb:(x==("__debug__" : Str))=false:=by decide):DE X (.Call (.Name x p) [] [] pos) (aD ms EF aG):=(ajx F hr hg hm hk hb .nil Qc hdb).of fun σ H Q ⟨μ,g,σw,Qw,R,S,m,q⟩=>
 ⟨μ,g,[],Qw,R,.nil,m,q⟩
def acj (h:Gh)(w:W):Option Bool:=match w with
 | .non=>Dn false
 | .bl b=>Dn b
 | .int i=>Dn (i != 0)
 | .tup ws=>Dn (!ws.isEmpty)
 | .lst ws=>Dn (!ws.isEmpty)
 | .kls ws=>Dn (!ws.isEmpty)
 | .loc n=>(match h.c n with
  | some (.lst ws)=>Dn (!ws.isEmpty)
  | _=>JI)
 | _=>JI
def vD (m:ME):MT:=fun σ h Q=>m σ h fun w h1=>match acj h1 w with
 | some b=>Q b h1
 | none=>False
theorem aM.emp {K:Bl}{H:Hp}{xs:List V}(r:aM K H μ ws xs):ws.isEmpty=xs.isEmpty:=by
 have:=r.len
 cases ws <;> cases xs <;> first | rfl | cases this
theorem c7 (he:DE X e ma)(h:∀ whole,isTrue e X.env whole=(do let v <-whole;standAt e.pos;holding [v] (truthy v)):=by intro _;rfl):DT X e (vD ma):=(ahs he h).of fun σ H Q ⟨μ,g,σw,Qw,R,S,m,q⟩=>by
 refine ⟨μ,g,σw,_,R,S,m,fun v H1 ⟨μ1,w,h1,e1,R1,r1,m1⟩=>?_⟩;split at m1
 ·rename_i b eb;refine ⟨b,?_,q _ _ ⟨μ1,h1,e1,R1,m1⟩⟩;cases w with
  | non=>rw [Aj] at r1;subst r1;cases eb;rfl
  | bl c=>rw [Aj] at r1;subst r1;cases eb;rfl
  | int c=>rw [Aj] at r1;subst r1;cases eb;rfl
  | tup ws=>
   rw [Aj] at r1;obtain ⟨p,xs,ev,hs,rs⟩:=r1;subst ev;cases eb;exact .inr<|.inl ⟨xs,hs,by rw [rs.emp]⟩
  | lst ws=>
   rw [Aj] at r1;obtain ⟨p,xs,ev,hs,rs⟩:=r1;subst ev;cases eb;exact .inl ⟨xs,hs.sq,by rw [rs.emp]⟩
  | kls ws=>
   rw [Aj] at r1;obtain ⟨p,xs,ev,hs,rs⟩:=r1;subst ev;cases eb;exact .inl ⟨xs,hs.sq,by rw [rs.emp]⟩
  | loc n=>
   rw [Aj] at r1;obtain ⟨p,ev,hm⟩:=r1;subst ev;unfold acj at eb;dsimp only at eb;cases ec:h1.c n with
   | none=>rw [ec] at eb;cases eb
   | some cl=>
    rw [ec] at eb;cases cl with
    | lst ws=>
     cases eb;obtain ⟨p',hm',xs,hx,rs⟩:=R1.cel n _ ec;have ep:p'=p:=by rw [hm] at hm';exact (JD hm').symm
     subst ep;exact .inl ⟨xs,.of hx,by rw [rs.emp]⟩
    | _=>cases eb
  | _=>cases eb
 ·exact m1.elim
abbrev MC:=List W->Gh->WK->Prop
def Hv (r:MC)(ma:MA):ME:=fun σ h Q=>ma σ h fun ws h1=>r ws h1 Q
def ae8 (K:Bl)(r:List V->Hp->VK->Prop)(mr:MC):Prop:=∀ {H:Hp} {μ : Mu} {h:Gh} {vs:List V} {ws:List W} {Qw:WK} {Q:VK},HD K μ H h->aM K H μ ws vs->mr ws h Qw->(∀ v H',DQ K H μ Qw v H'->Q v H')->r vs H Q
def kE (X:Cx)(f:Mk)(mr:MC):Prop:=∃ r,gM X f r/\ae8 X.K r mr
theorem ZM {K:Bl}{σ : St}{H:Hp}{Q:VK}{r:List V->Hp->VK->Prop}{mc:MC}{ma:MA}(s:ae8 K r mc)(h:tD K (Hv mc ma) σ H Q):tCB r (tDA K ma) σ H Q:=by
 obtain ⟨μ,g,σw,Qw,R,S,m,q⟩:=h;exact ⟨μ,g,σw,_,R,S,m,fun vs H1 ⟨μ1,ws,h1,e1,R1,r1,m1⟩=>s R1 r1 m1 fun v H' z=>q _ _<|z.trans e1⟩
theorem wU {x:Str}{p:Pos}{id:String}{mc:MC}(hc:kE X (.builtin id) mc)(hg:Gl X x)(hm:X.mg x=JI)(hv:Ra x=Dn (.builtin id))(ha:Jm X (e::es) mr)(hn:x ≠ "__name__":=by decide)(hdb:(x==("__debug__" : Str))=false:=by decide)
  (he:Cy (e::es) X.env=(false,eval e X.env)::Cy es X.env:=by rfl) (hpl:(Jd pos (Cy es X.env)).any (·.1)=false:=by rfl):DE X (.Call (.Name x p) (e::es) [] pos) (Hv mc mr):=by
 obtain ⟨r,c,s⟩:=hc;exact (xH c hg hm hv ha hn hdb he hpl).of fun _ _ _ h=>ZM s h
theorem ail {x:Str}{p:Pos}{T:String}{mc:MC}(hc:kE X (.type T) mc)(hg:Gl X x)(hm:X.mg x=JI)(hv:Ra x=Dn (.type T))(ha:Jm X (e::es) mr)(hn:x ≠ "__name__":=by decide)(hdb:(x==("__debug__" : Str))=false:=by decide)
  (he:Cy (e::es) X.env=(false,eval e X.env)::Cy es X.env:=by rfl) (hpl:(Jd pos (Cy es X.env)).any (·.1)=false:=by rfl):DE X (.Call (.Name x p) (e::es) [] pos) (Hv mc mr):=by
 obtain ⟨r,c,s⟩:=hc;exact (agI c hg hm hv ha hn hdb he hpl).of fun _ _ _ h=>ZM s h
end
variable {mr : MA}{ma : ME}{ms : AP}
section
variable {X:Cx}{e a b c tg:Expr}{mb mc:ME}{pos:Pos}{es:List Expr}
def kI (i:Nat):MG:=fun w σ h N=>N (σ.set i (Dn w)) h
theorem ajo {i:Nat}(hg:PG X e (Li i)):DG X e (kI i):=hg.of fun v σ H N ⟨μ,h,σw,w,Nw,R,S,r,m,k⟩=>k _ _ ⟨μ,σw.set i (Dn w),h,.refl,R,S.set r i,m⟩
def UW:QC:=fun ws σ h N=>match ws with
 | []=>N σ h
 | _=>False
def kY (g:MG)(r:QC):QC:=fun ws σ h N=>match ws with
 | w::ws'=>g w σ h fun σ1 h1=>r ws' σ1 h1 N
 | []=>False
theorem tO:acf X [] UW:=JK.of fun vs σ H N ⟨μ,h,σw,ws,Nw,R,S,r,m,k⟩=>by
 cases ws with
 | nil=>rw [aM] at r;exact ⟨r,k _ _ ⟨μ,σw,h,.refl,R,S,m⟩⟩
 | cons w ws=>exact m.elim
theorem cD {g:MG}{u:QC}(h1:DG X e g)(h2:acf X es u)(hs:(Mz (e::es) X.env).map (·.2)=assign e X.env::(Mz es X.env).map (·.2):=by rfl):acf X (e::es) (kY g u):=(yx h1 h2 hs).of fun vs σ H N ⟨μ,h,σw,ws,Nw,R,S,r,m,k⟩=>by
 cases ws with
 | nil=>exact m.elim
 | cons w ws=>
  rw [aM] at r;obtain ⟨v,vr,ev,r1,r2⟩:=r;refine ⟨v,vr,ev,μ,h,σw,w,_,R,S,r1,m,fun σ1 H1 ⟨μ1,σw1,h1,e1,R1,S1,m1⟩=>?_⟩;exact ⟨μ1,h1,σw1,ws,_,R1,S1,e1.s r2,m1,fun σ2 H2 z=>k _ _<|z.trans e1⟩
def aeM (n:Nat)(g:QC):MG:=fun w σ h N=>match w with
 | .tup ws=>Ib (Nq ws.length n) (g ws σ h N) False
 | _=>False
abbrev Zi:=W->W->W->Gh->(Gh->Prop)->Prop
def Tg (K:Bl)(t:Zb)(ms:Zi):Prop:=∀ {H:Hp} {μ : Mu} {h:Gh} {o i v:V} {wo wi w:W} {Nw:Gh->Prop} {N:Hp->Prop},HD K μ H h->Aj K H μ wo o->Aj K H μ wi i->Aj K H μ w v->ms wo wi w h Nw ->
 (∀ H',(∃ μ' h',Ip K H μ H' μ'/\HD K μ' H' h'/\Nw h')->N H')->t o i v H N
def aaT (mo mi:ME)(ms:Zi):MG:=fun w σ h N=>mo σ h fun o h1=>mi σ h1 fun i h2=>ms o i w h2 fun h3=>N σ h3
theorem TX {o i:Expr}{mo mi:ME}{t:Zb}{ms:Zi}(ho:DE X o mo)(hi:DE X i mi)(hs:ada X t)(hm:Tg X.K t ms)
  (ha:∀ v,assign (.Subscript o i pos) X.env v=(do
   let ov <-holding [v] (eval o X.env)
   let iv <-holding [v,ov] (eval i X.env)
   standAt pos
   holding [v,ov,iv] (setItem ov iv v)
   release [v,ov,iv] []):=by intro _;rfl):DG X (.Subscript o i pos) (aaT mo mi ms):=
 (abW ho hi hs ha).of fun v σ H N ⟨μ,h,σw,w,Nw,R,S,r,m,k⟩=>by
  refine ⟨μ,h,σw,_,R,S,m,fun o H1 ⟨μ1,wo,h1,e1,R1,r1,m1⟩=>?_⟩;refine ⟨μ1,h1,σw,_,R1,S.ext e1,m1,fun i H2 ⟨μ2,wi,h2,e2,R2,r2,m2⟩=>?_⟩;refine hm R2 (e2.r _ _ r1) r2 (e2.r _ _<|e1.r _ _ r) m2 fun H3 ⟨μ3,h3,e3,R3,m3⟩=>?_;exact k _ _ ⟨μ3,σw,h3,(e1.trans e2).trans e3,R3,S.ext<|(e1.trans e2).trans e3,m3⟩
def JM:Zi:=fun o i w h N=>match o,i with
 | .loc n,.int k=>(match h.c n with
  | some (.lst ws)=>(match QK ws.length k with
   | some j=>N (h.set n (.lst (ws.set j w)))
   | none=>False)
  | _=>False)
 | _,_=>False
theorem HD.lstAt {K:Bl}{H:Hp}{h:Gh}{n:Nat}(R:HD K μ H h)(e:h.c n=Dn (.lst ws)):∃ p xs,μ.f n=Dn p/\H p=Dn (.lst xs)/\aM K H μ ws xs:=by
 obtain ⟨p,e1,xs,e2,r⟩:=R.cel n _ e;exact ⟨p,xs,e1,e2,r⟩
theorem Hf {K:Bl}:Tg K abM JM:=by
 intro H μ h o i v wo wi w Nw N R ro ri r m k;cases wo with
 | loc n=>
  cases wi with
  | int z=>
   rw [Aj] at ro;rw [Aj] at ri;obtain ⟨p,eo,hp⟩:=ro;unfold JM at m;dsimp only at m;cases ec:h.c n with
   | none=>rw [ec] at m;exact m.elim
   | some cl=>
    rw [ec] at m;cases cl with
    | lst ws=>
     dsimp only at m;obtain ⟨p',xs,hp',hx,rs⟩:=R.lstAt ec;have ep:p'=p:=by rw [hp] at hp';exact (JD hp').symm
     subst ep;cases ej:QK ws.length z with
     | none=>rw [ej] at m;exact m.elim
     | some j=>
      rw [ej] at m;refine ⟨p',xs,z,j,eo,ri,hx,by rw [<-rs.len];exact ej,k _ ⟨μ,_,(Ex.write R hp).ext,R.write hp trivial ?_,m⟩⟩;exact ⟨_,aU,aM.set ((Ex.write R hp).ext.r _ _ r) j<|(Ex.write R hp).ext.s rs⟩
    | _=>exact m.elim
  | _=>exact m.elim
 | _=>exact m.elim
variable {st:Stmt}{rest body:List Stmt}{m1 m2:MS}{t:MT}
def bK:MS:=fun D σ h=>D.nx σ h
def aV (m u:MS):MS:=fun D σ h=>m { D with nx:=u D } σ h
theorem aP:P0 X [] bK:=Yn.of fun D σ H ⟨μ,h,σw,Dw,R,S,m,k⟩=>k.nx _ _ ⟨μ,σw,h,.refl,R,S,m⟩
theorem au (h1:DS X st m1):P0 X [st] m1:=BW h1
theorem aq (h1:DS X st m1)(h2:P0 X rest m2):P0 X (st::rest) (aV m1 m2):=(xP h1 h2).of fun D σ H ⟨μ,h,σw,Dw,R,S,m,k⟩=>by
 refine ⟨μ,h,σw,_,R,S,m,?_,k.rt,k.bk,k.ct⟩;intro σ' H' ⟨μ1,σw1,h1,e1,R1,S1,m1⟩;exact ⟨μ1,h1,σw1,Dw,R1,S1,m1,k.trans e1⟩
def kZ (m:ME):MS:=fun D σ h=>m σ h fun _ h1=>D.nx σ h1
theorem lM (he:DE X e ma)(hs:Qs e JI pos.line X.env=pure false:=by rfl):DS X (.Expr e pos) (kZ ma):=(Lh he hs).of fun D σ H ⟨μ,h,σw,Dw,R,S,m,k⟩=>
 ⟨μ,h,σw,_,R,S,m,fun v H1 ⟨μ1,w,h1,e1,R1,_,m1⟩=>k.nx _ _ ⟨μ1,σw,h1,e1,R1,S.ext e1,m1⟩⟩
def bD (m:ME):MS:=fun D σ h=>m σ h D.rt
theorem aH (he:DE X e ma):DS X (.Return (Dn e) pos) (bD ma):=(aaS he).of fun D σ H ⟨μ,h,σw,Dw,R,S,m,k⟩=>⟨μ,h,σw,_,R,S,m,k.rt⟩
def d7 (t:MT)(a b:MS):MS:=fun D σ h=>t σ h fun c h1=>br c (a D σ h1) (b D σ h1)
theorem bQ {a b:List Stmt}(hc:DT X c t)(ha:P0 X a m1)(hb:P0 X b m2):DS X (.If c a b pos) (d7 t m1 m2):=(aaV hc ha hb).of fun D σ H ⟨μ,h,σw,Dw,R,S,m,k⟩=>by
 refine ⟨μ,h,σw,_,R,S,m,fun b H1 ⟨μ1,h1,e1,R1,q⟩=>?_⟩;cases b with
 | true=>rw [if_pos rfl];exact ⟨μ1,h1,σw,Dw,R1,S.ext e1,q.1 rfl,k.trans e1⟩
 | false=>rw [if_neg Ky];exact ⟨μ1,h1,σw,Dw,R1,S.ext e1,q.2 rfl,k.trans e1⟩
def rP (x:Str)(E:Bo):MS:=fun _ _ h=>E ⟨x,[]⟩ h
theorem yG {x:Str}:DS X st (rP x EF):=zbG.of fun _ _ _ ⟨_,_,_,_,_,_,m,_⟩=>m.elim
def bx (m:ME)(g:MG):MS:=fun D σ h=>m σ h fun w h1=>g w σ h1 D.nx
theorem abV {K:Bl}{σ : St}{H:Hp}{D:Ends}{m:ME}{g:MG}(q:tDS K (bx m g) D σ H):Y8 (tD K m) (tDG K g) D σ H:=by
 obtain ⟨μ,h,σw,Dw,R,S,m,k⟩:=q;exact ⟨μ,h,σw,_,R,S,m,fun v H1 ⟨μ1,w,h1,e1,R1,r1,m1⟩=>⟨μ1,h1,σw,w,_,R1,S.ext e1,r1,m1,fun σ' H' z=>k.nx _ _<|z.trans e1⟩⟩
theorem vR {g:MG}(he:DE X e ma)(hg:DG X tg g)(hs:swapsWithSole [tg] e pos.line X.env=pure false:=by rfl)(hw:swappedStores [tg] e X.env=pure JI:=by rfl)
  (h1:(Mz [tg] X.env).map (·.2)=[assign tg X.env]:=by rfl):DS X (.Assign [tg] e pos) (bx ma g):=(aa1 he hg hs hw h1).of fun _ _ _ q=>abV q
theorem Sy {K:Bl}{σ : St}{H:Hp}{D:Ends}{m:ME}{t:TE}{i:Nat}(ht:∀ σ H Q,tD K m σ H Q->t σ H Q)(q:tDS K (bx m (kI i)) D σ H):Y8 t (Li i) D σ H:=by
 obtain ⟨μ,h,σw,Dw,R,S,m,k⟩:=q;exact ht _ _ _ ⟨μ,h,σw,_,R,S,m,fun v H1 ⟨μ1,w,h1,e1,R1,r1,m1⟩=>k.nx _ _ ⟨μ1,σw.set i<|some w,h1,e1,R1,(S.ext e1).set r1 i,m1⟩⟩
theorem abA {i:Nat}{x:Str}{pos':Pos}(hN:X.N.Nodup)(hi:X.N[i]?=Dn x)(hx:Loc X.env.scope x)(he:DE X e ma)(hs:Qs e (Dn (.Name x pos')) pos.line X.env=pure false:=by rfl)
  (hf:X.fn x=true\/X.env.scope.names.lookup x=Dn .local:=by first | exact .inl rfl | exact .inr rfl | assumption) :
  DS X (.Assign [.Name x pos'] e pos) (bx ma (kI i)):=(Te hN hi hx he hs hf).of fun _ _ _ q=>Sy (fun _ _ _ z=>z) q
def adT (i j:Nat)(ta:MA):MS:=fun D σ h=>ta σ h fun ws h1=>match ws with
 | [v,w]=>D.nx ((σ.set i (Dn v)).set j (Dn w)) h1
 | _=>False
theorem ahj {i j:Nat}{ta:MA}(hp:PS X st (aeE i j (tDA X.K ta))):DS X st (adT i j ta):=hp.of fun D σ H ⟨μ,h,σw,Dw,R,S,m,k⟩=>by
 refine ⟨μ,h,σw,_,R,S,m,fun vs H1 ⟨μ1,ws,h1,e1,R1,r1,m1⟩=>?_⟩;split at m1
 ·rename_i a b;rw [aM] at r1;obtain ⟨v,vr,ev,ra,r2⟩:=r1;rw [aM] at r2;obtain ⟨v',vr',ev',rb,r3⟩:=r2;rw [aM] at r3;subst r3;subst ev';subst ev;exact ⟨v,v',rfl,k.nx _ _ ⟨μ1,_,h1,e1,R1,((S.ext e1).set ra i).set rb j,m1⟩⟩
 ·exact m1.elim
def Et (t:MT)(b:MS):MS:=fun D σ h=>∃ Wm:Nat->Sw->Gh->Prop,(∃ m,Wm m σ h)/\∀ m σ h,Wm m σ h ->
 t σ h fun c h1=>br c (b { D with nx:=fun σ' h'=>∃ m',m'<m/\Wm m' σ' h',ct:=fun σ' h'=>∃ m',m'<m/\Wm m' σ' h',bk:=D.nx } σ h1) (D.nx σ h1)
theorem Fz {body:List Stmt}{pos:Pos}(hp:YJ (CN X.prog X.w) X.A X.env X.xe)(hc:DT X c t)(hb:P0 X body m1):DS X (.While c body [] pos) (Et t m1):=(agZ hp hc hb).of fun D σ H ⟨μ,h,σw,Dw,R,S,m,k⟩=>by
 obtain ⟨Wm,⟨m0,w0⟩,turn⟩:=m;refine ⟨fun n σ' H'=>DN X.K H μ (Wm n) σ' H',⟨m0,μ,σw,h,.refl,R,S,w0⟩,fun n σ1 H1 ⟨μ1,σw1,h1,e1,R1,S1,w1⟩=>?_⟩;refine ⟨μ1,h1,σw1,_,R1,S1,turn n σw1 h1 w1,fun b H2 ⟨μ2,h2,e2,R2,q⟩=>?_⟩;have e12:=e1.trans e2;cases b with
 | true=>
  dsimp only;rw [if_pos rfl];refine ⟨fun σ' H'=>∃ m',m'<n/\DN X.K H μ (Wm m') σ' H',fun _ _ z=>z,μ2,h2,σw1,_,R2,S1.ext e2,q.1 rfl,?_⟩;have again:∀ (σ':St) (H':Hp),DN X.K H2 μ2 (fun σ' h'=>∃ m',m'<n/\Wm m' σ' h') σ' H'->∃ m',m'<n/\DN X.K H μ (Wm m') σ' H':=fun σ' H' ⟨μ3,σw3,h3,e3,R3,S3,m',hm,w3⟩=>
   ⟨m',hm,μ3,σw3,h3,e12.trans e3,R3,S3,w3⟩
  exact ⟨again,fun v H' z=>k.rt _ _<|z.trans e12,fun σ' H' z=>k.nx _ _<|z.trans e12,again⟩
 | false=>
  dsimp only;rw [if_neg Ky];exact k.nx _ _ ⟨μ2,σw1,h2,e12,R2,S1.ext e2,q.2 rfl⟩
structure Src where
 ws:List W
 cell:Option (Nat×List W)
def Src.chk (s:Src)(h:Gh):Prop:=match s.cell with
 | none=>True
 | some n=>h.c n.1=Dn (.lst n.2)
abbrev MI:=Sw->Gh->(Src->Gh->Prop)->Prop
def Yw (K:Bl)(J:It)(src:Src)(H:Hp)(μ : Mu):Prop:=∀ {H2:Hp} {μ2:Mu} {h2:Gh} {i:Nat},Ip K H μ H2 μ2->HD K μ2 H2 h2->src.chk h2 ->
 (∀ w,src.ws[i]?=Dn w->J.go i H2/\∀ x H3,J.yld i H2 x H3->∃ μ3,Ip K H2 μ2 H3 μ3/\HD K μ3 H3 h2/\Aj K H3 μ3 w x)/\(src.ws.length<=i->J.stop i H2)
inductive DI (K:Bl) (H:Hp) (μ : Mu) (Rw:Src->Gh->Prop) (J:It) (H':Hp):Prop where
 | mk (μ':Mu) (src:Src) (h':Gh) (e:Ip K H μ H' μ') (R:HD K μ' H' h') (o:Yw K J src H' μ') (q:Rw src h'):DI K H μ Rw J H'
inductive tDI (K:Bl) (mi:MI) (σ : St) (H:Hp) (R:It->Hp->Prop):Prop where
 | mk (μ : Mu) (h:Gh) (σw:Sw) (Rw:Src->Gh->Prop) (q:HD K μ H h) (S:Slots K H μ σw σ) (x:mi σw h Rw) (k:∀ J H',DI K H μ Rw J H'->R J H'):tDI K mi σ H R
abbrev Qn (X:Cx)(tg iter:Expr)(mi:MI):Prop:=PI X tg iter (tDI X.K mi)
theorem PI.of {iter:Expr}{t t':TI}(h:PI X tg iter t)(k:∀ σ H R,t' σ H R->t σ H R):PI X tg iter t':=fun alP s σ H R I q=>h alP s σ H R I (k σ H R q)
def cZ (h:Gh):W->Option (List W)
 | .lst ws=>Dn ws
 | .kls ws=>Dn ws
 | .loc n=>(match h.c n with
  | some (.lst ws)=>Dn ws
  | _=>JI)
 | _=>JI
def view (h:Gh):W->Option (List W)
 | .tup ws=>Dn ws
 | .lst ws=>Dn ws
 | .kls ws=>Dn ws
 | .loc n=>cZ h (.loc n)
 | _=>JI
def qY (h:Gh):W->Option Src
 | .tup ws=>Dn ⟨ws,JI⟩
 | .lst ws=>Dn ⟨ws,JI⟩
 | .kls ws=>Dn ⟨ws,JI⟩
 | .loc n=>(match h.c n with
  | some (.lst ws)=>Dn ⟨ws,Dn (n,ws)⟩
  | _=>JI)
 | _=>JI
theorem ahP {K:Bl}{H:Hp}{p:Addr}(r:Aj K H μ (.lst ws) (.ref p)):Yw K (Itl K p) ⟨ws,JI⟩ H μ:=by
 intro H2 μ2 h2 i e R2 _;have r2:=e.r _ _ r;rw [Aj] at r2;obtain ⟨q,xs,eq,hf,rs⟩:=r2;cases eq;refine ⟨fun w ew=>?_,fun hl=>⟨xs,hf.sq,by rw [<-rs.len];exact hl⟩⟩;obtain ⟨v,ev,rv⟩:=rs.get ew;refine ⟨⟨xs,v,hf.sq,ev⟩,fun x H3 ⟨e3,y⟩=>?_⟩;subst e3;have:=y xs hf.sq
 rw [ev] at this;cases this;exact ⟨μ2,.refl,R2,rv⟩
theorem aji {K:Bl}{H:Hp}{p:Addr}(r:Aj K H μ (.kls ws) (.ref p)):Yw K (Itl K p) ⟨ws,JI⟩ H μ:=by
 intro H2 μ2 h2 i e R2 _;have r2:=e.r _ _ r;rw [Aj] at r2;obtain ⟨q,xs,eq,hf,rs⟩:=r2;cases eq;refine ⟨fun w ew=>?_,fun hl=>⟨xs,hf.sq,by rw [<-rs.len];exact hl⟩⟩;obtain ⟨v,ev,rv⟩:=rs.get ew;refine ⟨⟨xs,v,hf.sq,ev⟩,fun x H3 ⟨e3,y⟩=>?_⟩;subst e3;have:=y xs hf.sq
 rw [ev] at this;cases this;exact ⟨μ2,.refl,R2,rv⟩
theorem ahN {K:Bl}{H:Hp}{p:Addr}{n:Nat}(r:Aj K H μ (.loc n) (.ref p)):Yw K (Itl K p) ⟨ws,Dn (n,ws)⟩ H μ:=by
 intro H2 μ2 h2 i e R2 ck;have r2:=e.r _ _ r;rw [Aj] at r2;obtain ⟨q,eq,hm⟩:=r2;cases eq;obtain ⟨p',xs,hm',hx,rs⟩:=R2.lstAt (show h2.c n=Dn (.lst ws) from ck);have ep:p'=p:=by rw [hm] at hm';exact (JD hm').symm
 subst ep;refine ⟨fun w ew=>?_,fun hl=>⟨xs,.of hx,by rw [<-rs.len];exact hl⟩⟩;obtain ⟨v,ev,rv⟩:=rs.get ew;refine ⟨⟨xs,v,.of hx,ev⟩,fun x H3 ⟨e3,y⟩=>?_⟩;subst e3;have:=y xs (.of hx)
 rw [ev] at this;cases this;exact ⟨μ2,.refl,R2,rv⟩
theorem aia {K:Bl}{H:Hp}{p:Addr}(r:Aj K H μ (.tup ws) (.ref p)):Yw K (Itt K p) ⟨ws,JI⟩ H μ:=by
 intro H2 μ2 h2 i e R2 _;have r2:=e.r _ _ r;rw [Aj] at r2;obtain ⟨q,xs,eq,hf,rs⟩:=r2;cases eq;refine ⟨fun w ew=>?_,fun hl=>⟨xs,hf,by rw [<-rs.len];exact hl⟩⟩;obtain ⟨v,ev,rv⟩:=rs.get ew;refine ⟨⟨xs,v,hf,ev⟩,fun x H3 ⟨e3,y⟩=>?_⟩;subst e3;have:=y xs hf
 rw [ev] at this;cases this;exact ⟨μ2,.refl,R2,rv⟩
def af2 (K:Bl)(tl:TE):TI:=fun σ H R=>tl σ H fun x H1=>(∃ a,x=.ref a/\(∃ xs,JR K H1 a xs)/\R (Itl K a) H1)\/(∃ a,x=.ref a/\(∃ xs,Jh K H1 a xs)/\R (Itt K a) H1)
theorem aaj {l:Expr}{tl:TE}(hl:PE X l tl):PI X tg l (af2 X.K tl):=by
 intro alP s σ H R I h;refine HJ (hl alP s σ H _ I h) fun v s1 ⟨x,H1,I1,r1,q1⟩=>?_;rcases q1 with ⟨a,e,⟨xs,hq⟩,q⟩ | ⟨a,e,⟨xs,hq⟩,q⟩
 ·subst e;cases r1;obtain ⟨its,rv,p,hz⟩:=I1.list hq;refine Wd p.isList ?_;refine ⟨s1.heap.objs.size,[s1.heap.objs.size],_,_,H1,rfl,I1.kept (t':=s1.toks) fun b o e=>IV _ e,zbj a _,⟨_,Kg _ rfl,rfl,rfl⟩,fun b hb=>?_,q⟩;have e:b=s1.heap.objs.size:=by simpa using hb
  subst e;exact I1.fpOk (Ig _)<|I1.hok.fresh<|Ig _
 ·subst e;cases r1;obtain ⟨its,rv,p,hz⟩:=I1.tuple hq;refine wpAny_pyIter_tuple (show s1.heap.IsTuple a its.toArray from p) ?_;refine ⟨s1.heap.objs.size,[s1.heap.objs.size],_,_,H1,rfl,I1.kept (t':=s1.toks) fun b o e=>IV _ e,zaA a _,⟨_,Kg _ rfl,rfl,rfl⟩,fun b hb=>?_,q⟩;have e:b=s1.heap.objs.size:=by simpa using hb
  subst e;exact I1.fpOk (Ig _)<|I1.hok.fresh<|Ig _
def Ik (m:ME):MI:=fun σ h R=>m σ h fun w h1=>match qY h1 w with
 | some s=>R s h1
 | none=>False
theorem bV {l:Expr}(hl:DE X l ma):Qn X tg l (Ik ma):=PI.of (aaj hl) fun σ H Q ⟨μ,h,σw,Rw,R,S,m,k⟩=>by
 refine ⟨μ,h,σw,_,R,S,m,fun v H1 ⟨μ1,w,h1,e1,R1,r1,m1⟩=>?_⟩;cases w with
 | tup ws=>
  have r1':=r1;rw [Aj] at r1;obtain ⟨p,xs,ev,hs,_⟩:=r1;subst ev;exact .inr ⟨p,rfl,⟨xs,hs⟩,k _ _ ⟨μ1,⟨ws,JI⟩,h1,e1,R1,aia r1',m1⟩⟩
 | lst ws=>
  have r1':=r1;rw [Aj] at r1;obtain ⟨p,xs,ev,hs,_⟩:=r1;subst ev;exact .inl ⟨p,rfl,⟨xs,hs.sq⟩,k _ _ ⟨μ1,⟨ws,JI⟩,h1,e1,R1,ahP r1',m1⟩⟩
 | kls ws=>
  have r1':=r1;rw [Aj] at r1;obtain ⟨p,xs,ev,hs,_⟩:=r1;subst ev;exact .inl ⟨p,rfl,⟨xs,hs.sq⟩,k _ _ ⟨μ1,⟨ws,JI⟩,h1,e1,R1,aji r1',m1⟩⟩
 | loc n=>
  have r1':=r1;rw [Aj] at r1;obtain ⟨p,ev,hm⟩:=r1;subst ev;unfold qY at m1;dsimp only at m1;cases ec:h1.c n with
  | none=>rw [ec] at m1;exact m1.elim
  | some cl=>
   rw [ec] at m1;cases cl with
   | lst ws=>
    obtain ⟨p',xs,hm',hx,rs⟩:=R1.lstAt ec;have ep:p'=p:=by rw [hm] at hm';exact (JD hm').symm
    subst ep;exact .inl ⟨p',rfl,⟨xs,.of hx⟩,k _ _ ⟨μ1,⟨ws,Dn (n,ws)⟩,h1,e1,R1,ahN r1',m1⟩⟩
   | _=>exact m1.elim
 | _=>exact m1.elim
def BL (lo:Int)(n:Nat):List W:=(Ni n).map fun (k:Nat)=>.int (lo+(k:Int))
theorem JT {K:Bl}{H:Hp}{lo:Int}{n:Nat}:Yw K (Itr lo n) ⟨BL lo n,JI⟩ H μ:=by
 intro H2 μ2 h2 i e R2 _;refine ⟨fun w ew=>?_,fun hl=>?_⟩
 ·have hi:i<n:=by
   have:=(Pn.mp ew).1
   simpa [BL] using this
  have ew':w=.int (lo+(i:Int)):=by
   unfold BL at ew;rw [N7,List.getElem?_range hi] at ew;exact (JD ew).symm
  subst ew';refine ⟨hi,fun x H3 ⟨e3,y⟩=>?_⟩;subst e3;exact ⟨μ2,.refl,R2,by rw [Aj];exact y⟩
 ·have:n<=i:=by simpa [BL] using hl
  exact this
def Ao (j:Int)(P:Prop):Prop:=Ib (decide (-1000<=j)&&decide (j<=1000)) P ((-(2^62)<=j/\j<2^62)/\P)
theorem Ao.ok {j:Int}{P:Prop}(h:Ao j P):(-(2^62)<=j/\j<2^62)/\P:=by
 unfold Ao at h;cases e:(decide (-1000<=j)&&decide (j<=1000)) with
 | true=>
  rw [e] at h;rw [Jw,decide_eq_true_iff,decide_eq_true_iff] at e;exact ⟨⟨by lia,by lia⟩,h⟩
 | false=>rw [e] at h;exact h
theorem Ao.mk {j:Int}{P:Prop}(h1:-(2^62)<=j)(h2:j<2^62)(h:P):Ao j P:=by
 unfold Ao;cases e:(decide (-1000<=j)&&decide (j<=1000)) with
 | true=>exact h
 | false=>exact ⟨⟨h1,h2⟩,h⟩
def dh (ma:MA):MI:=fun σ h R=>ma σ h fun ws h1=>match ws with
 | [.int j]=>Ao j (R ⟨BL 0 j.toNat,JI⟩ h1)
 | _=>False
def KY (ma:MA):MI:=fun σ h R=>ma σ h fun ws h1=>match ws with
 | [.int i,.int j]=>Ao i (Ao j (R ⟨BL i (j - i).toNat,JI⟩ h1))
 | _=>False
theorem agw {a:Expr}{p pos:Pos}(hg:Gl X "range")(hm:X.mg "range" = JI)(ha:Jm X [a] mr)(hs:Cy [a] X.env=[(false,eval a X.env)]:=by rfl):Qn X tg (.Call (.Name "range" p) [a] [] pos) (dh mr):=
 PI.of (za hg hm ha hs) fun σ H Q ⟨μ,h,σw,Rw,R,S,m,k⟩=>by
  refine ⟨μ,h,σw,_,R,S,m,fun vs H1 ⟨μ1,ws,h1,e1,R1,r1,m1⟩=>?_⟩;split at m1
  ·rename_i j;rw [aM] at r1;obtain ⟨v,vr,ev,ra,r1⟩:=r1;rw [aM] at r1;rw [Aj] at ra;subst ev r1 ra;exact ⟨j,rfl,m1.ok.1.1,m1.ok.1.2,k _ _ ⟨μ1,_,h1,e1,R1,JT,m1.ok.2⟩⟩
  ·exact m1.elim
theorem zaT {a b:Expr}{p pos:Pos}(hg:Gl X "range")(hm:X.mg "range" = JI)(ha:Jm X [a,b] mr)(hs:Cy [a,b] X.env=[(false,eval a X.env),(false,eval b X.env)]:=by rfl)(hs2:Cy [b] X.env=[(false,eval b X.env)]:=by rfl):
  Qn X tg (.Call (.Name "range" p) [a,b] [] pos) (KY mr):=
 PI.of (zaV hg hm ha hs hs2) fun σ H Q ⟨μ,h,σw,Rw,R,S,m,k⟩=>by
  refine ⟨μ,h,σw,_,R,S,m,fun vs H1 ⟨μ1,ws,h1,e1,R1,r1,m1⟩=>?_⟩;split at m1
  ·rename_i i j;rw [aM] at r1;obtain ⟨v,vr,ev,ra,r1⟩:=r1;rw [aM] at r1;obtain ⟨v',vr',ev',rb,r1⟩:=r1;rw [aM] at r1;rw [Aj] at ra rb;subst ev ev' r1 ra rb;exact ⟨i,j,rfl,⟨m1.ok.1.1,m1.ok.1.2,m1.ok.2.ok.1.1,m1.ok.2.ok.1.2⟩,k _ _ ⟨μ1,_,h1,e1,R1,JT,m1.ok.2.ok.2⟩⟩
  ·exact m1.elim
def Src.go (s:Src)(h:Gh)(P:Prop):Prop:=match s.cell with
 | none=>P
 | some n=>h.c n.1=Dn (.lst n.2)/\P
theorem Src.go_ok {s:Src}{h:Gh}{P:Prop}(x:s.go h P):s.chk h/\P:=by
 unfold Src.go at x;unfold Src.chk;cases e:s.cell with
 | none=>rw [e] at x;exact ⟨trivial,x⟩
 | some n=>rw [e] at x;exact x
def dR (s:Src)(g:MG)(b:MS)(D:bI):List W->Sw->Gh->Prop
 | [],σ,h=>s.go h (D.nx σ h)
 | w::r,σ,h=>s.go h (g w σ h fun σ1 h1=>b { D with nx:=dR s g b D r,ct:=dR s g b D r,bk:=D.nx } σ1 h1)
def rK (mi:MI)(g:MG)(b:MS):MS:=fun D σ h=>mi σ h fun s h1=>dR s g b D s.ws σ h1
theorem fH {iter:Expr}{body:List Stmt}{mi:MI}{g:MG}{mb0:MS}{pos:Pos}(hp:YJ (CN X.prog X.w) X.A X.env X.xe)(hc:X.calm=true)(hi:Qn X tg iter mi)(hg:DG X tg g)(hb:P0 X body mb0)
  (hs:∀ x,Rn iter X.env x=pure x:=by intro _;rfl):DS X (.For tg iter body [] pos) (rK mi g mb0):=(abG hp hc hi hg hb hs).of fun D σ H ⟨μ,h,σw,Dw,R,S,m,k⟩=>by
 refine ⟨μ,h,σw,_,R,S,m,fun J H1 ⟨μ1,src,h1,e1,R1,ok,m1⟩=>?_⟩;refine ⟨fun i n σ' H'=>n=src.ws.length - i/\i<=src.ws.length/\DN X.K H1 μ1 (dR src g mb0 Dw<|src.ws.drop i) σ' H',⟨src.ws.length,by simp,U7 _,μ1,σw,h1,.refl,R1,S.ext e1,by rw [X4];exact m1⟩,?_⟩;rintro i n σ2 H2 ⟨hn,hle,μ2,σw2,h2,e2,R2,S2,m2⟩;by_cases hlt:i<src.ws.length
 ·rw [List.drop_eq_getElem_cons hlt] at m2;obtain ⟨ck,m2⟩:=Src.go_ok m2;obtain ⟨hgo,hy⟩:=(ok e2 R2 ck).1 src.ws[i] (Jx hlt);refine .inr ⟨hgo,fun σ' H'=>DN X.K H2 μ2 (dR src g mb0 Dw<|src.ws.drop<|i+1) σ' H',fun σ' H' z=>⟨src.ws.length - (i+1),by lia,rfl,hlt,z.trans e2⟩,fun x H3 y=>?_⟩;obtain ⟨μ3,e3,R3,rx⟩:=hy x H3 y;refine ⟨μ3,h2,σw2,src.ws[i],_,R3,S2.ext e3,rx,m2,fun σ4 H4 ⟨μ4,σw4,h4,e4,R4,S4,m4⟩=>?_⟩;have e24:=e3.trans e4;have e14:=(e1.trans e2).trans e24;exact ⟨μ4,h4,σw4,_,R4,S4,m4,fun σ' H' z=>z.trans e24,fun v H' z=>k.rt _ _<|z.trans e14,fun σ' H' z=>k.nx _ _<|z.trans e14,fun σ' H' z=>z.trans e24⟩
 ·have ei:i=src.ws.length:=by lia
  subst ei;rw [List.drop_length] at m2;obtain ⟨ck,m2⟩:=Src.go_ok m2;exact .inl ⟨(ok e2 R2 ck).2 (Ig _),k.nx _ _ ⟨μ2,σw2,h2,e1.trans e2,R2,S2,m2⟩⟩
def qO (ix:List Nat)(σ : Sw):Sw:=ix.map fun i=>(σ[i]?).getD JI
theorem Slots.blk {K:Bl}{H:Hp}{σ : St}(S:Slots K H μ σw σ):∀ {ws:List W} {vs:List V},aM K H μ ws vs->Slots K H μ (ws.map Dn++qO ix σw) (vs.map Dn++Kq ix σ):=by
 intro ws vs r;have hl:=r.len;refine ⟨by simp [qO,Kq,hl],fun i u q=>?_⟩;by_cases hi:i<ws.length
 ·rw [Vf (by simpa using hi),N7] at q;have q':ws[i]?=Dn u:=by
   cases e:ws[i]? with
   | none=>rw [e] at q;cases q
   | some a=>rw [e] at q;simpa using q
  obtain ⟨v,hv,rv⟩:=r.get q';refine ⟨v,?_,rv⟩;rw [Vf (by rw [Hu];lia),N7,hv];rfl
 ·rw [V0 (by simpa using hi),Hu] at q;rw [V0 (by rw [Hu];lia),Hu,<-hl];generalize i - ws.length=i at q |-
  unfold qO at q;unfold Kq;rw [N7] at q |-
  cases e:ix[i]? with
  | none=>rw [e] at q;cases q
  | some j=>
   rw [e] at q;cases e2:σw[j]? with
   | none=>simp [e2] at q
   | some o=>
    have eo:o=Dn u:=by simpa [e2] using q
    subst eo;obtain ⟨v',h1,h2⟩:=S.get j u e2;exact ⟨v',by simp [h1],h2⟩
def eN:MT:=fun _ h Q=>Q true h
def nY (s:Src)(own:W->Option (List W))(ix:List Nat)(tt:MT)(te:ME)(σ : Sw)(Q:WK):List W->List W->Gh->Prop
 | [],acc,h=>s.go h (Q (.lst acc) h)
 | w::r,acc,h=>s.go h (match own w with
  | some vs=>tt (vs.map Dn++qO ix σ) h fun c h1=>Ib c (te (vs.map Dn++qO ix σ) h1 fun v h2=>nY s own ix tt te σ Q r (acc++[v]) h2) (nY s own ix tt te σ Q r acc h1)
  | none=>False)
def HW (own:W->Option (List W))(ix:List Nat)(mi:MI)(tt:MT)(te:ME):ME:=fun σ h Q=>mi σ h fun s h1=>fW s.ws.length (nY s own ix tt te σ Q s.ws [] h1)
def Du (K:Bl)(n:Nat)(own:V->Hp->List V->Prop)(ow:W->Option (List W)):Prop:=∀ {H:Hp} {μ : Mu} {w:W} {v:V} {ws:List W},Aj K H μ w v->ow w=Dn ws->∃ vs,own v H vs/\vs.length=n/\aM K H μ ws vs
def Hz (w:W):Option (List W):=Dn [w]
def owT (n:Nat)(w:W):Option (List W):=match w with
 | .tup ws=>(match Nq ws.length n with
  | true=>Dn ws
  | false=>JI)
 | _=>JI
def ov1:V->Hp->List V->Prop:=fun v _ vs=>vs=[v]
def ovT (K:Bl):V->Hp->List V->Prop:=fun v H vs=>∃ a,v=.ref a/\Jh K H a vs
theorem qK {K:Bl}:Du K 1 ov1 Hz:=by
 intro H μ w v ws r e;cases (show Dn [w]=Dn ws from e)
 exact ⟨[v],rfl,rfl,.one r⟩
theorem abQ {K:Bl}{n:Nat}:Du K n (ovT K) (owT n):=by
 intro H μ w v ws r e;cases w with
 | tup us=>
  unfold owT at e;dsimp only at e;cases en:Nq us.length n with
  | false=>rw [en] at e;cases e
  | true=>
   rw [en] at e;cases (show Dn us=Dn ws from e)
   rw [Aj] at r;obtain ⟨p,xs,ev,hs,rs⟩:=r;exact ⟨xs,⟨p,ev,hs⟩,by rw [<-rs.len];exact Xc en,rs⟩
 | _=>cases e
abbrev Yu (X:Cx)(ifs:List Expr)(m:MT):Prop:=Vp X ifs (tDT X.K m)
theorem gD:Yu X [] eN:=fun alP s σ H Q I ⟨μ,h,σw,Qw,R,S,m,k⟩=>ajV alP s σ H Q I (k _ _ ⟨μ,h,.refl,R,m⟩)
theorem pF (h:DT X c t):Yu X [c] t:=akb h
theorem Vj {K:Bl}{σ : St}{H:Hp}{Q:VK}{n:Nat}{own:V->Hp->List V->Prop}{ow:W->Option (List W)}{mi:MI}{tt:MT}{te:ME}(oo:Du K n own ow)(q:tD K (HW ow ix mi tt te) σ H Q):tLC n own ix (tDI K mi) (tDT K tt) (tD K te) σ H Q:=by
 obtain ⟨μ,h,σw,Qw,R,S,m,k⟩:=q;refine ⟨μ,h,σw,_,R,S,m,fun J H1 ⟨μ1,src,h1,e1,R1,ok,hz0⟩=>?_⟩;obtain ⟨hz,m1⟩:=hz0.ok;intro D hD;have nD:=R1.nohid hD;have hD1:Ip K H1 μ1 (Dv H1 D (.lst [])) (μ1.hide D):=Ip.hide hD;refine ⟨fun i n ys H'=>n=src.ws.length - i/\i<=src.ws.length/\ys.length<=i/\H' D=Dn (.lst ys)/\∃ μ' acc h',Ip K H1 μ1 H' μ'/\HD K μ' H' h'/\μ'.hid D/\aM K H' μ' acc ys/\nY src ow ix tt te σw Qw (src.ws.drop i) acc h',
  ⟨src.ws.length,by simp,U7 _,Ig _,aU,μ1.hide D,[],h1,hD1,R1.hide hD,.inl rfl,.nil,by rw [X4];exact m1⟩,?_⟩
 rintro i n' ys H2 ⟨hn,hle,hys,hH2,μ2,acc,h2,e2,R2,hid2,ra,m2⟩ _;by_cases hlt:i<src.ws.length
 ·rw [List.drop_eq_getElem_cons hlt] at m2;obtain ⟨ck,m2⟩:=Src.go_ok m2;obtain ⟨hgo,hy⟩:=(ok e2 R2 ck).1 src.ws[i] (Jx hlt);refine .inr ⟨hgo,by lia,fun x H3 y=>?_⟩;obtain ⟨μ3,e3,R3,rx⟩:=hy x H3 y;have e13:=e2.trans e3;cases eo:ow src.ws[i] with
  | none=>rw [eo] at m2;exact m2.elim
  | some us=>
   rw [eo] at m2;obtain ⟨vs,hov,hvl,rvs⟩:=oo rx eo;have S3:=(S.ext (e1.trans e13)).blk (ix:=ix) rvs;refine ⟨vs,hov,hvl,μ3,h2,_,_,R3,S3,m2,fun b H4 ⟨μ4,h4,e4,R4,m4⟩=>?_⟩;have e24:=e3.trans e4;obtain ⟨hid4,hH4⟩:=e24.o D _ hid2 hH2;cases b with
   | false=>
    dsimp only;rw [if_neg Ky];exact ⟨hH4,src.ws.length - (i+1),by lia,rfl,hlt,by lia,hH4,μ4,acc,h4,e2.trans e24,R4,hid4,e24.s ra,m4⟩
   | true=>
    dsimp only;rw [if_pos rfl];refine ⟨μ4,h4,_,_,R4,S3.ext e4,m4,fun v H5 ⟨μ5,w5,h5,e5,R5,r5,m5⟩=>?_⟩;have e25:=e24.trans e5;obtain ⟨hid5,hH5⟩:=e25.o D _ hid2 hH2;have g:=Yt.grow (ys:=ys++[v]) R5 hid5;have rs:aM K (Dv H5 D (.lst (ys++[v]))) μ5 (acc++[w5]) (ys++[v]):=aM.ex (Ex0.grow R5 hid5) (aM.append (e25.s ra) (aM.one r5));exact ⟨hH5,src.ws.length - (i+1),by lia,rfl,hlt,by rw [Mf];simp;lia,aU,μ5,acc++[w5],h5,(e2.trans e25).x nD g,R5.grow hid5,hid5,rs,m5⟩
 ·have ei:i=src.ws.length:=by lia
  subst ei;rw [List.drop_length] at m2;obtain ⟨ck,m2⟩:=Src.go_ok m2;exact .inl ⟨(ok e2 R2 ck).2 (Ig _),k _ _ ⟨μ2.unhide D,.lst acc,h2,e1.trans<|e2.x nD .unhide,R2.unhide,Aj.built R2 hid2 hH2 ra,m2⟩⟩
variable {scope:Scope}{x:Str}{xs:List Str}{iter:Expr}{px:Pos}{mi:MI}{tt:MT}{te:ME}
theorem qL (B:iQ X scope [x] ix)(C:Addr)(s:Af)(H:Hp)(fp:List Addr):PG (blk X scope (fX X [x] ix) C s H fp) (.Name x px) (RB 1 ov1):=by
 obtain ⟨o1,o2⟩:=J8 B (y:=x) (by simp);intro alP s' σ H' v u Q I r ⟨vs,hv,hl,q⟩;cases hv;refine yR (X:=blk X scope (fX X [x] ix) C s H fp) (i:=0) B.nd rfl o1 o2 alP s' σ H' v u Q I r ?_;have alQ:σ.length=(fX X [x] ix).length:=I.len;cases σ with
 | nil=>simp at alQ
 | cons o σ=>exact q
theorem YS {y:Str}{py pt:Pos}{kt:Nat}(hc:X.calm=true)(B:iQ X scope [x,y] ix)(C:Addr)(s:Af)(H:Hp)(fp:List Addr)
  (h1:∀ env,(Mz [.Name x px,.Name y py] env).map (·.2)=assign (.Name x px) env::(Mz [.Name y py] env).map (·.2):=by intro _;rfl)
  (h2:∀ env,(Mz [.Name y py] env).map (·.2)=assign (.Name y py) env::(Mz [] env).map (·.2):=by intro _;rfl)
  (h3:∀ env,(Mz [.Name x px,.Name y py] env).length=2:=by intro _;rfl) (h4:∀ env,(Mz [.Name x px,.Name y py] env).findIdx? (·.1)=JI:=by intro _;rfl) :
  PG (blk X scope (fX X [x,y] ix) C s H fp) (.Tuple [.Name x px,.Name y py] kt pt) (RB 2 (ovT X.K)):=by
 obtain ⟨o1,u1⟩:=J8 B (y:=x) (by simp);obtain ⟨o2,u2⟩:=J8 B (y:=y) (by simp);intro alP s' σ H' v u Q I r ⟨vs,⟨a,ea,ha⟩,hl,q⟩;have alQ:σ.length=(fX X [x,y] ix).length:=I.len;refine ZG (X:=blk X scope (fX X [x,y] ix) C s H fp) (n:=2) hc (yx (yR (i:=0) B.nd rfl o1 u1) (yx (yR (i:=1) B.nd rfl o2 u2) JK<|h2 _)<|h1 _) (h3 _) (h4 _) alP s' σ H' v u Q I r ?_;refine ⟨a,vs,ea,ha,hl,?_⟩;match vs,hl,q with
 | [v1,v2],_,q=>
  match σ,alQ,q with
  | [],alQ,_=>simp at alQ
  | [_],alQ,_=>simp at alQ
  | _::_::σ,_,q=>exact ⟨v1,[v2],rfl,v2,[],rfl,rfl,q⟩
theorem acB {own:V->Hp->List V->Prop}{ow:W->Option (List W)}(ix:List Nat)(hc:X.calm=true)(B:iQ X scope xs ix)(oo:Du X.K xs.length own ow)(hg:∀ C s H fp,PG (blk X scope (fX X xs ix) C s H fp) tg (RB xs.length own))(hi:Qn X tg iter mi)
  (ht:∀ C s H fp,Yu (blk X scope (fX X xs ix) C s H fp) ifs tt) (he:∀ C s H fp,DE (blk X scope (fX X xs ix) C s H fp) elt te)
  (hs:∀ v,Rn iter X.env v=pure v:=by intro _;rfl):DE X (.ListComp elt [⟨tg,iter,ifs,0⟩] scope pos) (HW ow ix mi tt te):=(adl ix hc B hg hi ht he hs).of fun _ _ _ q=>Vj oo q
theorem xJ {own:V->Hp->List V->Prop}{ow:W->Option (List W)}(ix:List Nat){i:Nat}{y:Str}{py spos:Pos}(hN:X.N.Nodup)(hi':X.N[i]?=Dn y)(hy:Loc X.env.scope y)(hc:X.calm=true)(B:iQ X scope xs ix)(oo:Du X.K xs.length own ow)
  (hg:∀ C s H fp,PG (blk X scope (fX X xs ix) C s H fp) tg (RB xs.length own)) (hi:Qn X tg iter mi)
  (ht:∀ C s H fp,Yu (blk X scope (fX X xs ix) C s H fp) ifs tt) (he:∀ C s H fp,DE (blk X scope (fX X xs ix) C s H fp) elt te)
  (hsw:Qs (.ListComp elt [⟨tg,iter,ifs,0⟩] scope pos) (Dn (.Name y py)) spos.line X.env=pure true:=by rfl)
  (hf:X.fn y=true\/X.env.scope.names.lookup y=Dn .local:=by first | exact .inl rfl | exact .inr rfl | assumption)
  (hs:∀ v,Rn iter X.env v=pure v:=by intro _;rfl):DS X (.Assign [.Name y py] (.ListComp elt [⟨tg,iter,ifs,0⟩] scope pos) spos) (bx (HW ow ix mi tt te) (kI i)):=
 (adA ix hN hi' hy hc B hg hi ht he hsw hf hs).of fun _ _ _ q=>Sy (fun _ _ _ z=>Vj oo z) q
theorem adD {κ : Type}{K:Bl}{H0 H:Hp}{μ0 μ : Mu}{k:Nat}(hd:∀ n p,μ0.f n=Dn p->n<k):∀ {fs:List (κ×W)} {f0 fv:List (κ×V)},aar K H0 μ0 fs f0->aar K H μ fs fv->aar K H (μ.cut k) fs fv
 | [],_,_,_,.nil=>.nil
 | _::_,_,_,.cons a b,.cons c d=>.cons ⟨c.1,Aj.cut c.2 (Aj.lo hd a.2)⟩ (adD hd b d)
def zV (pure:Bool)(h:Gh)(w:W)(h':Gh)(Q:WK):Prop:=match pure with
 | false=>Q w h'
 | true=>(∀ n c,n<h.nx->h.c n=Dn c->h'.c n=Dn c)/\((Lo h.nx w/\Q w h)\/∃ n ws,w=.loc n/\h.nx<=n/\h'.c n=Dn (.lst ws)/\Le h.nx ws/\Q (.lst ws) h)
def Ec (n N:Nat)(pure:Bool)(body:Bo->MS):AP:=fun ws h Q E=>Ib (Nq ws.length n)
 (body E { nx:=fun _ h'=>zV pure h .non h' Q,rt:=fun w h'=>zV pure h w h' Q } (ws.map Dn++Qf (N - ws.length) JI) h) False
theorem Ey {n N:Nat}{pure:Bool}{body:Bo->MS}{h:Gh}{Q:WK}{E:Bo}(x:Ec n N pure body ws h Q E):ws.length=n /\
  body E { nx:=fun _ h'=>zV pure h .non h' Q,rt:=fun w h'=>zV pure h w h' Q } (ws.map Dn++Qf (N - ws.length) JI) h:=by
 unfold Ec at x;cases e:Nq ws.length n with
 | true=>rw [e] at x;exact ⟨Xc e,x⟩
 | false=>rw [e] at x;exact (show False from x).elim
theorem HD.cut {K:Bl}{H H':Hp}{μ μ':Mu}{h h':Gh}(R:HD K μ H h)(R':HD K μ' H' h')(e:Ip K H μ H' μ')(hc:∀ n c,h.c n=Dn c->h'.c n=Dn c):HD K (μ'.cut h.nx) H' h where
 inj:=fun m n p a b=>R'.inj m n p (Mu.cut_some a).2 (Mu.cut_some b).2
 dom:=fun n p a=>(Mu.cut_some a).1
 trk:=fun n p a=>R'.trk n p (Mu.cut_some a).2
 cel:=fun n c a=>by
  obtain ⟨p0,m0,x0⟩:=R.cel n c a;obtain ⟨p,m,x⟩:=R'.cel n c (hc n c a);have hn:=R.dom n p0 m0;refine ⟨p,by show (if n<h.nx then μ'.f n else JI)=Dn p;rw [if_pos hn];exact m,?_⟩;cases c with
  | lst ws=>
   obtain ⟨xs0,_,r0⟩:=x0;obtain ⟨xs,hx,r⟩:=x;exact ⟨xs,hx,aM.cut r<|aM.lo R.dom r0⟩
  | obj C fs=>
   obtain ⟨dx0,f0,_,r0⟩:=x0;obtain ⟨dx,fv,hx,r⟩:=x;exact ⟨dx,fv,hx,adD R.dom r0 r⟩
  | dct kvs=>
   obtain ⟨f0,_,r0⟩:=x0;obtain ⟨fv,hx,r⟩:=x;exact ⟨fv,hx,adD R.dom r0 r⟩
  | dtt kvs=>
   obtain ⟨_,_,_,_,_,d0,f0⟩:=x0;obtain ⟨xs,vs,a,b,c,d,f⟩:=x;exact ⟨xs,vs,a,b,c,aM.cut d<|aM.lo R.dom d0,aM.cut f<|aM.lo R.dom f0⟩
 hd:=fun p z=>⟨(R'.hd p z).1,fun n a=>(R'.hd p z).2 n (Mu.cut_some a).2⟩
theorem Ip.cut {K:Bl}{H H':Hp}{μ μ':Mu}{h:Gh}(R:HD K μ H h)(e:Ip K H μ H' μ'):Ip K H μ H' (μ'.cut h.nx):=
 ⟨fun w v r=>Aj.cut (e.r w v r) (Aj.lo R.dom r),fun p u z a=>e.o p u z a⟩
theorem yD {K:Bl}{H H':Hp}{h h':Gh}{w:W}{v:V}{Q:WK}{pure:Bool}(R:HD K μ H h)(e:Ip K H μ H' μ')(R':HD K μ' H' h')(r:Aj K H' μ' w v)(x:zV pure h w h' Q):DQ K H μ Q v H':=by
 cases pure with
 | false=>exact ⟨μ',w,h',e,R',r,x⟩
 | true=>
  obtain ⟨hc0,⟨lo,q⟩ | ⟨n,ws,ew,hn,ec,lo,q⟩⟩:=x;all_goals have hc:∀ n c,h.c n=Dn c->h'.c n=Dn c:=fun n c a=>hc0 n c (let ⟨p,m,_⟩:=R.cel n c a;R.dom n p m) a
  ·exact ⟨μ'.cut h.nx,w,h,e.cut R,R.cut R' e hc,Aj.cut r lo,q⟩
  ·subst ew;refine ⟨μ'.cut h.nx,.lst ws,h,e.cut R,R.cut R' e hc,?_,q⟩;rw [Aj] at r;rw [Aj];obtain ⟨p,ev,hm⟩:=r;obtain ⟨p',xs,hm',hx,rs⟩:=R'.lstAt ec;have ep:p'=p:=by rw [hm] at hm';exact (JD hm').symm
   subst ep;refine ⟨p',xs,ev,⟨hx,fun m a=>?_,fun z=>(R'.hd p' z).2 n hm⟩,aM.cut rs lo⟩;obtain ⟨a1,a2⟩:=Mu.cut_some a;have:=R'.inj m n p' a2 hm
   lia
theorem sZ {K:Bl}{H:Hp}{N:List Str}:∀ {ws:List W} {vs:List V},aM K H μ ws vs->Slots K H μ (ws.map Dn++Qf (N.length - ws.length) JI) (start N vs):=by
 intro ws vs r;have hl:=r.len;refine ⟨by simp [start,hl],fun i w q=>?_⟩;by_cases hi:i<ws.length
 ·rw [Vf (by simpa using hi),N7] at q;have q':ws[i]?=Dn w:=by
   cases e:ws[i]? with
   | none=>rw [e] at q;cases q
   | some a=>rw [e] at q;simpa using q
  obtain ⟨v,hv,rv⟩:=r.get q';refine ⟨v,?_,rv⟩;unfold start;rw [Vf (by rw [Hu];lia),N7,hv];rfl
 ·rw [V0 (by simpa using hi),Xp] at q;split at q <;> cases q
theorem adU {P:Dz}{w:Cw}{K:Bl}{mg:Str->Option Mk}{base:Heap}{x qual:Str}{st:Stmt}{f:Addr}{fd:Ln}{N ps:List Str}{k:Nat}{pure:Bool}{body:Bo->MS}(F:Qm K x qual st f fd)(S:eE N ps (aQ st))
  (hb:∀ (cdv:Mk) (A:Dl) (outer:List Env) (s:Af) (H:Hp) (E:XK),eO k (A.deeper (PN qual (aQ st) s.heap.objs.size f cdv)) ->
   P0 (Dg Lf P w K mg base N qual (aQ st) f cdv A outer s H E).nox (cT st) (body EF)):jE P w K mg base Lf (k+1) f fd ps (lift K (Ec ps.length N.length pure body)):=by
 refine F.ok S (fun vs H Q E ⟨μ,h,ws,Qw,R,r,m,k⟩=>by rw [<-r.len];exact (Ey m).1)<|fun cdv A outer s H vs Q E hr ⟨μ,h,ws,Qw,R,r,m0,k⟩=>?_
 obtain ⟨hl,m⟩:=Ey m0;refine ⟨_,hb cdv A outer s H E hr,μ,h,_,_,R,sZ r,m,?_,?_,?_,?_⟩
 ·rintro σ' H' ⟨μ1,σw1,h1,e1,R1,S1,m1⟩;exact k _ _<|yD (w:=.non) R e1 R1 (by rw [Aj]) m1
 ·rintro v H' ⟨μ1,w1,h1,e1,R1,r1,m1⟩;exact k _ _<|yD R e1 R1 r1 m1
 ·rintro σ' H' ⟨μ1,σw1,h1,e1,R1,S1,m1⟩;exact m1.elim
 ·rintro σ' H' ⟨μ1,σw1,h1,e1,R1,S1,m1⟩;exact m1.elim
end
variable {mo te : ME}{mi : MI}{tt : MT}{kt : Nat}{ow : W->Option (List W)}
section
variable {X:Cx}{K:Bl}
theorem DQ.int {H:Hp}{μ : Mu}{h:Gh}{i:Int}{Q:WK}(R:HD K μ H h)(q:Q (.int i) h):DQ K H μ Q (.int i) H:=⟨μ,.int i,h,.refl,R,by rw [Aj],q⟩
theorem DQ.bl {H:Hp}{μ : Mu}{h:Gh}{i:Bool}{Q:WK}(R:HD K μ H h)(q:Q (.bl i) h):DQ K H μ Q (.bl i) H:=⟨μ,.bl i,h,.refl,R,by rw [Aj],q⟩
def zac (C:Int->Int->Prop)(g:Int->Int->Int):M2:=fun x y h Q=>match x,y with
 | .int i,.int j=>C i j/\Q (.int (g i j)) h
 | _,_=>False
def uD:M2:=fun x y h Q=>match x,y with
 | .int i,.int j=>Q (.int (i - j)) h
 | _,_=>False
theorem kW:Nj X (O5 .Sub) uD:=⟨_,ahT,by
 intro H μ h x y wx wy Qw Q R rx ry m k;unfold uD at m;split at m
 ·rw [Aj] at rx ry;exact ⟨_,_,rx,ry,k _ _<|.int R m⟩
 ·exact m.elim⟩
def cR:M2:=fun x y h Q=>match x,y with
 | .int i,.int j=>eV i j/\Q (.int (i*j)) h
 | _,_=>False
theorem bZ:Nj X (O5 .Mult) cR:=⟨_,ajB,by
 intro H μ h x y wx wy Qw Q R rx ry m k;unfold cR at m;split at m
 ·rw [Aj] at rx ry;exact ⟨_,_,rx,ry,m.1,k _ _<|.int R m.2⟩
 ·exact m.elim⟩
def Ar:M2:=fun x y h Q=>match x,y with
 | .int i,.int j=>Hi i j/\Q (.int (i.fdiv j)) h
 | _,_=>False
theorem Eb:Nj X (O5 .FloorDiv) Ar:=⟨_,zbe,by
 intro H μ h x y wx wy Qw Q R rx ry m k;unfold Ar at m;split at m
 ·rw [Aj] at rx ry;exact ⟨_,_,rx,ry,m.1,k _ _<|.int R m.2⟩
 ·exact m.elim⟩
def qR:M2:=fun x y h Q=>match x,y with
 | .int i,.int j=>j≠0/\Q (.int (i.fmod j)) h
 | _,_=>False
theorem oV:Nj X (O5 .Mod) qR:=⟨_,aiu,by
 intro H μ h x y wx wy Qw Q R rx ry m k;unfold qR at m;split at m
 ·rw [Aj] at rx ry;exact ⟨_,_,rx,ry,m.1,k _ _<|.int R m.2⟩
 ·exact m.elim⟩
def QD:M2:=fun x y h Q=>match x,y with
 | .int i,.int j=>adp i j/\Q (.int (i^j.toNat)) h
 | _,_=>False
theorem Je:Nj X (O5 .Pow) QD:=⟨_,abL,by
 intro H μ h x y wx wy Qw Q R rx ry m k;unfold QD at m;split at m
 ·rw [Aj] at rx ry;exact ⟨_,_,rx,ry,m.1,k _ _<|.int R m.2⟩
 ·exact m.elim⟩
def kLt:M2:=fun x y h Q=>match x,y with
 | .int i,.int j=>Q (.bl (decide (i<j))) h
 | _,_=>False
theorem YB:Nj X (Ly .Lt) kLt:=⟨_,ac8,by
 intro H μ h x y wx wy Qw Q R rx ry m k;unfold kLt at m;split at m
 ·rw [Aj] at rx ry;exact ⟨_,_,rx,ry,k _ _<|.bl R m⟩
 ·exact m.elim⟩
def QJ:M2:=fun x y h Q=>match x,y with
 | .int i,.int j=>Q (.bl (decide (j<i))) h
 | _,_=>False
theorem T7:Nj X (Ly .Gt) QJ:=⟨_,acU,by
 intro H μ h x y wx wy Qw Q R rx ry m k;unfold QJ at m;split at m
 ·rw [Aj] at rx ry;exact ⟨_,_,rx,ry,k _ _<|.bl R m⟩
 ·exact m.elim⟩
theorem aM.ne_nil {H:Hp}{xs:List V}(r:aM K H μ ws xs):xs=[]↔ws=[]:=by
 have:=r.len
 constructor
 ·intro e;subst e;exact Y0 this
 ·intro e;subst e;exact Y0 this.symm
def CR:M2:=fun x y h Q=>match y with
 | .int i=>(match view h x with
  | some ws=>(match Lg ws i with
   | some w=>Q w h
   | none=>False)
  | none=>False)
 | _=>False
theorem aM.at {H:Hp}{μ : Mu}{ws:List W}{xs:List V}{i:Int}{w:W}(r:aM K H μ ws xs)(e:Lg ws i=Dn w):∃ v,Lg xs i=Dn v/\Aj K H μ w v:=by
 unfold Lg at e |-
 rw [<-r.len];cases q:QK ws.length i with
 | none=>rw [q] at e;cases e
 | some j=>rw [q] at e;exact r.get e
theorem cB {H:Hp}{h:Gh}{w:W}{v:V}(R:HD K μ H h)(r:Aj K H μ w v)(e:cZ h w=Dn ws):∃ p xs,v=.ref p/\JR K H p xs/\aM K H μ ws xs:=by
 cases w with
 | lst us=>
  rw [Aj] at r;obtain ⟨p,xs,ev,hs,rs⟩:=r;cases (show Dn us=Dn ws from e)
  exact ⟨p,xs,ev,hs.sq,rs⟩
 | kls us=>
  rw [Aj] at r;obtain ⟨p,xs,ev,hs,rs⟩:=r;cases (show Dn us=Dn ws from e)
  exact ⟨p,xs,ev,hs.sq,rs⟩
 | loc n=>
  rw [Aj] at r;obtain ⟨p,ev,hm⟩:=r;unfold cZ at e;dsimp only at e;cases ec:h.c n with
  | none=>rw [ec] at e;cases e
  | some cl=>
   rw [ec] at e;cases cl with
   | lst us=>
    cases (show Dn us=Dn ws from e)
    obtain ⟨p',xs,hm',hx,rs⟩:=R.lstAt ec;have ep:p'=p:=by rw [hm] at hm';exact (JD hm').symm
    subst ep;exact ⟨p',xs,ev,.of hx,rs⟩
   | _=>cases e
 | _=>cases e
theorem ug {H:Hp}{h:Gh}{w:W}{v:V}(R:HD K μ H h)(r:Aj K H μ w v)(e:view h w=Dn ws):∃ p xs,v=.ref p/\(JR K H p xs\/Jh K H p xs)/\aM K H μ ws xs:=by
 cases w with
 | tup us=>
  rw [Aj] at r;obtain ⟨p,xs,ev,hs,rs⟩:=r;cases (show Dn us=Dn ws from e)
  exact ⟨p,xs,ev,.inr hs,rs⟩
 | lst us=>
  obtain ⟨p,xs,ev,hs,rs⟩:=cB (ws:=ws) R r e;exact ⟨p,xs,ev,.inl hs,rs⟩
 | kls us=>
  obtain ⟨p,xs,ev,hs,rs⟩:=cB (ws:=ws) R r e;exact ⟨p,xs,ev,.inl hs,rs⟩
 | loc n=>
  obtain ⟨p,xs,ev,hs,rs⟩:=cB (ws:=ws) R r e;exact ⟨p,xs,ev,.inl hs,rs⟩
 | _=>cases e
theorem Zz:ae9 K (rIx K) CR:=by
 intro H μ h x y wx wy Qw Q R rx ry m k;unfold CR at m;split at m
 ·rename_i i;split at m
  ·rename_i ws ev;split at m
   ·rename_i w ew;obtain ⟨p,xs,ex,hs,rs⟩:=ug R rx ev;obtain ⟨v,hv,rv⟩:=rs.at ew;rw [Aj] at ry;have fin:=k _ _ ⟨μ,w,h,.refl,R,rv,m⟩;rcases hs with hs | hs
    ·exact .inl ⟨p,xs,i,v,ex,ry,hs,hv,fin⟩
    ·exact .inr<|.inl ⟨p,xs,i,v,ex,ry,hs,hv,fin⟩
   ·exact m.elim
  ·exact m.elim
 ·exact m.elim
theorem X7 {a b:Expr}{mb:ME}{pos:Pos}(ha:DE X a ma)(hb:DE X b mb)(hs:DP b):DE X (.Subscript a b pos) (Ae CR ma mb):=(acY aiG ha hb hs).of fun σ H Q h=>two h fun R r1 r2 m k=>Zz R r1 r2 m k
abbrev MO:=Sw->Gh->(Option Int->Gh->Prop)->Prop
def tDO (K:Bl)(m:MO):TO:=fun σ H Q=>∃ μ h σw Qw,HD K μ H h/\Slots K H μ σw σ/\m σw h Qw/\∀ o H',(∃ μ' h',Ip K H μ H' μ'/\HD K μ' H' h'/\Qw o h')->Q o H'
abbrev DO (X:Cx)(e:Option Expr)(m:MO):Prop:=PO X e (tDO X.K m)
theorem PO.of {e:Option Expr}{t t':TO}(h:PO X e t)(k:∀ σ H Q,t' σ H Q->t σ H Q):PO X e t':=by
 unfold PO at h |-
 intros
 apply h <;> first | assumption | (apply k;assumption)
def gB:MO:=fun _ h Q=>Q JI h
def cP (m:ME):MO:=fun σ h Q=>m σ h fun w h1=>match w with
 | .int i=>Q (Dn i) h1
 | _=>False
theorem jy:DO X JI gB:=PO.of aiS fun σ H Q ⟨μ,h,σw,Qw,R,S,m,k⟩=>k _ _ ⟨μ,h,.refl,R,m⟩
theorem bR {e:Expr}(he:DE X e ma):DO X (Dn e) (cP ma):=PO.of (Yo he) fun σ H Q ⟨μ,h,σw,Qw,R,S,m,k⟩=>by
 refine ⟨μ,h,σw,_,R,S,m,fun v H1 ⟨μ1,w,h1,e1,R1,r1,m1⟩=>?_⟩;split at m1
 ·rw [Aj] at r1;exact ⟨_,r1,k _ _ ⟨μ1,h1,e1,R1,m1⟩⟩
 ·exact m1.elim
def BK (xs:List W)(lo hi:Option Int):List W:=(xs.drop (HT.sIx xs.length 0 lo)).take (HT.sIx xs.length xs.length hi - HT.sIx xs.length 0 lo)
def kSl (x:W)(lo hi:Option Int)(h:Gh)(Q:WK):Prop:=match x with
 | .tup ws=>¬ (HT.sIx ws.length 0 lo=0/\HT.sIx ws.length ws.length hi=ws.length)/\Q (.tup (BK ws lo hi)) h
 | x=>(match cZ h x with
  | some ws=>Q (.lst (BK ws lo hi)) h
  | none=>False)
def Mh (r:W->Option Int->Option Int->Gh->WK->Prop)(m:ME)(l u:MO):ME:=fun σ h Q=>m σ h fun x h1=>l σ h1 fun lo h2=>u σ h2 fun hi h3=>r x lo hi h3 Q
theorem aM.cutv {H:Hp}{xs:List V}(r:aM K H μ ws xs)(lo hi:Option Int):aM K H μ (BK ws lo hi) (Pk xs lo hi):=by
 unfold BK Pk;rw [<-r.len];exact (r.drop _).take _
end
mutual
def Cj:W->W->Bool
 | .non,.non=>true
 | .bl a,.bl b=>a==b
 | .bl a,.int b=>(if a then 1 else 0)==b
 | .int a,.bl b=>a==(if b then 1 else 0)
 | .int a,.int b=>a==b
 | .str a,.str b=>a==b
 | .tup a,.tup b=>lC a b
 | .lst a,.lst b=>lC a b
 | _,_=>false
def lC:List W->List W->Bool
 | [],[]=>true
 | a::as,b::bs=>Cj a b&&lC as bs
 | _,_=>false
end
def DY:Nat->W->Bool
 | _,.non=>true
 | _,.bl _=>true
 | _,.int _=>true
 | _,.str _=>true
 | n+1,.tup ws=>ws.all (DY n)
 | n+1,.lst ws=>ws.all (DY n)
 | _,_=>false
mutual
def Dt (K:Bl)(H:Hp):W->V->Prop
 | .non,v=>v=.non
 | .bl b,v=>v=.bl b
 | .int i,v=>v=.int i
 | .str x,v=>v=.str x
 | .tup ws,v=>∃ p xs,v=.ref p/\Jh K H p xs/\JH K H ws xs
 | .lst ws,v=>∃ p xs,v=.ref p/\JR K H p xs/\JH K H ws xs
 | .ty _,_=>False
 | .kls _,_=>False
 | .loc _,_=>False
 | .exc _,_=>False
 | .exa _ _,_=>False
 | .fnv _ _,_=>False
def JH (K:Bl)(H:Hp):List W->List V->Prop
 | [],xs=>xs=[]
 | w::ws,xs=>∃ v vs,xs=v::vs/\Dt K H w v/\JH K H ws vs
end
section
variable {X:Cx}{K:Bl}{H:Hp}{h:Gh}
theorem JH.len:∀ {ws:List W} {xs:List V},JH K H ws xs->ws.length=xs.length
 | [],xs,h=>by
  have e:xs=[]:=by rw [JH] at h;exact h
  rw [e];rfl
 | w::ws,xs,h=>by
  rw [JH] at h;obtain ⟨v,vs,e,_,h⟩:=h;rw [e,Qy,Qy,JH.len h]
theorem JH.get:∀ {ws:List W} {xs:List V} {i:Nat} {w:W},JH K H ws xs->ws[i]?=Dn w->∃ v,xs[i]?=Dn v/\Dt K H w v
 | [],_,_,_,_,e=>by simp at e
 | a::ws,xs,0,w,h,e=>by
  rw [JH] at h;obtain ⟨v,vs,e1,r,_⟩:=h;simp at e;subst e;subst e1;exact ⟨v,rfl,r⟩
 | a::ws,xs,i+1,w,h,e=>by
  rw [JH] at h;obtain ⟨v,vs,e1,_,h⟩:=h;subst e1;obtain ⟨u,h1,h2⟩:=JH.get (i:=i) (w:=w) h (by simpa using e);exact ⟨u,by simpa using h1,h2⟩
theorem vN {n:Nat}(one:∀ {w:W} {v:V},Aj K H μ w v->DY n w=true->Dt K H w v):∀ {ws:List W} {xs:List V},aM K H μ ws xs->ws.all (DY n)=true->JH K H ws xs
 | [],_,h,_=>by rw [aM] at h;rw [JH];exact h
 | w::ws,_,h,p=>by
  rw [aM] at h;rw [JH];obtain ⟨v,vs,e,r,h⟩:=h;rw [Rh,Jw] at p;exact ⟨v,vs,e,one r p.1,vN one h p.2⟩
theorem IW:∀ (n:Nat) {w:W} {v:V},Aj K H μ w v->DY n w=true->Dt K H w v:=by
 intro n;induction n with
 | zero=>
  intro w v r p;cases w with
  | non=>rw [Aj] at r;rw [Dt];exact r
  | bl _=>rw [Aj] at r;rw [Dt];exact r
  | int _=>rw [Aj] at r;rw [Dt];exact r
  | str _=>rw [Aj] at r;rw [Dt];exact r
  | _=>simp [DY] at p
 | succ n ih=>
  intro w v r p;cases w with
  | non=>rw [Aj] at r;rw [Dt];exact r
  | bl _=>rw [Aj] at r;rw [Dt];exact r
  | int _=>rw [Aj] at r;rw [Dt];exact r
  | str _=>rw [Aj] at r;rw [Dt];exact r
  | tup ws=>
   rw [Aj] at r;rw [Dt];obtain ⟨p',xs,e,hs,rs⟩:=r;exact ⟨p',xs,e,hs,vN ih rs<|by simpa [DY] using p⟩
  | lst ws=>
   rw [Aj] at r;rw [Dt];obtain ⟨p',xs,e,hs,rs⟩:=r;exact ⟨p',xs,e,hs.sq,vN ih rs<|by simpa [DY] using p⟩
  | _=>simp [DY] at p
theorem yF:∀ {a b:List W},a.length≠b.length->lC a b=false
 | [],[],h=>absurd rfl h
 | [],_::_,_=>by simp [lC]
 | _::_,[],_=>by simp [lC]
 | a::as,b::bs,h=>by
  rw [lC,yF (a:=as) (b:=bs) (by simpa using h),Wb]
def Zt (a b:List W)(j:Nat):Bool:=Cj (a.getD j .non) (b.getD j .non)
theorem wY:∀ {a b:List W},a.length=b.length->(Ni a.length).all (Zt a b)=lC a b
 | [],[],_=>by simp [lC]
 | [],_::_,h=>by simp at h
 | _::_,[],h=>by simp at h
 | a::as,b::bs,h=>by
  rw [lC,<-wY (a:=as) (b:=bs) (by simpa using h),Qy,List.range_succ_eq_map,Rh,List.all_map];rfl
mutual
theorem Gn {alP:List (Addr×Obj)}{s:Af}{σ : St}(I:BR X alP σ H s):∀ {w u:W} {v:V},Dt X.K H w v->Dt X.K H u v->Cj w u=true
 | .non,u,v,h,g=>by rw [Dt] at h;subst h;cases u <;> rw [Dt] at g <;> first | rfl | exact g.elim | (obtain ⟨_,_,g,_⟩:=g;cases g;done) | (cases g;done)
 | .bl b,u,v,h,g=>by rw [Dt] at h;subst h;cases u <;> rw [Dt] at g <;> first | (injection g with g;simp [Cj,g];done) | exact g.elim | (obtain ⟨_,_,g,_⟩:=g;cases g;done) | (cases g;done)
 | .int b,u,v,h,g=>by rw [Dt] at h;subst h;cases u <;> rw [Dt] at g <;> first | (injection g with g;simp [Cj,g];done) | exact g.elim | (obtain ⟨_,_,g,_⟩:=g;cases g;done) | (cases g;done)
 | .str b,u,v,h,g=>by rw [Dt] at h;subst h;cases u <;> rw [Dt] at g <;> first | (injection g with g;simp [Cj,g];done) | exact g.elim | (obtain ⟨_,_,g,_⟩:=g;cases g;done) | (cases g;done)
 | .tup ws,u,v,h,g=>by
  rw [Dt] at h;obtain ⟨p,xs,e,hs,ds⟩:=h;subst e;cases u with
  | tup us=>
   rw [Dt] at g;obtain ⟨p',xs',e',hs',ds'⟩:=g;cases e'
   have:=I.tuple_inj hs hs'
   subst this;rw [Cj];exact rZ I ds ds'
  | lst us=>
   rw [Dt] at g;obtain ⟨p',xs',e',hs',ds'⟩:=g;cases e'
   obtain ⟨_,_,t,_⟩:=I.tuple hs;obtain ⟨_,_,l,_⟩:=I.list hs';exact absurd rfl<|Xl l.isList<|show s.heap.IsTuple _ _ from t
  | ty _=>rw [Dt] at g;exact g.elim
  | loc _=>rw [Dt] at g;exact g.elim
  | kls _=>rw [Dt] at g;exact g.elim
  | _=>rw [Dt] at g;cases g
 | .lst ws,u,v,h,g=>by
  rw [Dt] at h;obtain ⟨p,xs,e,hs,ds⟩:=h;subst e;cases u with
  | lst us=>
   rw [Dt] at g;obtain ⟨p',xs',e',hs',ds'⟩:=g;cases e'
   have:=I.list_inj hs hs'
   subst this;rw [Cj];exact rZ I ds ds'
  | tup us=>
   rw [Dt] at g;obtain ⟨p',xs',e',hs',ds'⟩:=g;cases e'
   obtain ⟨_,_,t,_⟩:=I.tuple hs';obtain ⟨_,_,l,_⟩:=I.list hs;exact absurd rfl<|Xl l.isList<|show s.heap.IsTuple _ _ from t
  | ty _=>rw [Dt] at g;exact g.elim
  | loc _=>rw [Dt] at g;exact g.elim
  | kls _=>rw [Dt] at g;exact g.elim
  | _=>rw [Dt] at g;cases g
 | .ty _,_,_,h,_=>by rw [Dt] at h;exact h.elim
 | .loc _,_,_,h,_=>by rw [Dt] at h;exact h.elim
 | .exc _,_,_,h,_=>by rw [Dt] at h;exact h.elim
 | .exa _ _,_,_,h,_=>by rw [Dt] at h;exact h.elim
 | .kls _,_,_,h,_=>by rw [Dt] at h;exact h.elim
theorem rZ {alP:List (Addr×Obj)}{s:Af}{σ : St}(I:BR X alP σ H s):∀ {ws us:List W} {vs:List V},JH X.K H ws vs->JH X.K H us vs->lC ws us=true
 | [],us,vs,h,g=>by
  rw [JH] at h;subst h;cases us with
  | nil=>rfl
  | cons _ _=>rw [JH] at g;obtain ⟨_,_,g,_⟩:=g;cases g
 | w::ws,us,vs,h,g=>by
  rw [JH] at h;obtain ⟨v,vs',e,h1,h2⟩:=h;subst e;cases us with
  | nil=>rw [JH] at g;cases g
  | cons u us=>
   rw [JH] at g;obtain ⟨v',vs'',e',g1,g2⟩:=g;cases e'
   rw [lC,Gn I h1 g1,rZ I h2 g2];rfl
end
theorem in1_units {A:Dl}:A.in1.units=A.units+1:=rfl
theorem ahn {n:Nat}(h:DY n (.tup ws)=true):∃ m,n=m+1/\ws.all (DY m)=true:=by
 cases n with
 | zero=>simp [DY] at h
 | succ m=>exact ⟨m,rfl,by simpa [DY] using h⟩
theorem J5 {n:Nat}(h:DY n (.lst ws)=true):∃ m,n=m+1/\ws.all (DY m)=true:=by
 cases n with
 | zero=>simp [DY] at h
 | succ m=>exact ⟨m,rfl,by simpa [DY] using h⟩
theorem Ft {s:Af}{A:Dl}{n:Nat}{us:List W}{xs ys:List V}{its jts:List Mk}(d1:JH K H ws xs)(d2:JH K H us ys)(p1:ws.all (DY n)=true)(p2:us.all (DY n)=true)(r1:Bp xs its)(r2:Bp ys jts)
  (one:∀ {w u:W} {v x:V} {a b:Mk},Dt K H w v->Dt K H u x->DY n w=true->DY n u=true->RelV v a->RelV x b->V2 A s a b (Cj w u)) :
  ∀ j (h1:j<its.toArray.size) (h2:j<jts.toArray.size),V2 A s its.toArray[j] jts.toArray[j] (Zt ws us j):=by
 intro j h1 h2;have l1:j<ws.length:=by rw [d1.len,r1.length];simpa using h1
 have l2:j<us.length:=by rw [d2.len,r2.length];simpa using h2
 obtain ⟨v,ev,dv⟩:=d1.get (Jx l1);obtain ⟨x,ex,dx⟩:=d2.get (Jx l2);obtain ⟨a,ea,ra⟩:=r1.get ev;obtain ⟨b,eb,rb⟩:=r2.get ex;have ea':its.toArray[j]=a:=by simpa using (Pn.mp ea).2
 have eb':jts.toArray[j]=b:=by simpa using (Pn.mp eb).2
 have e:Zt ws us j=Cj ws[j] us[j]:=by
  unfold Zt;rw [Pr,Pr,Jx l1,Jx l2];rfl
 rw [ea',eb',e];exact one dv dx (Nr.mp p1 _<|Wc l1) (Nr.mp p2 _<|Wc l2) ra rb
theorem size_of {xs:List V}{its:List Mk}(d:JH K H ws xs)(r:Bp xs its):its.toArray.size=ws.length:=by
 rw [d.len,r.length];simp
theorem akf {us:List W}:((Ni (min ws.length us.length)).all (Zt ws us)&&ws.length==us.length)=lC ws us:=by
 by_cases e:ws.length=us.length
 ·rw [<-e,Nat.min_self,wY e];simp
 ·rw [yF e];have e2:(ws.length==us.length)=false:=beq_eq_false_iff_ne.mpr e;rw [e2,Wb]
inductive Kd (s:Af):W->Mk->Prop where
 | non:Kd s .non .none
 | bl (b:Bool):Kd s (.bl b) (.bool b)
 | int (i:Int) (t:Tok):Kd s (.int i) (.int i t)
 | str (x:Str) (t:Tok):Kd s (.str x) (.str x t)
 | tup (ws:List W) {p:Addr} {its:Array Mk} (q:s.heap.IsTuple p its):Kd s (.tup ws) (.ref p)
 | lst (ws:List W) {p:Addr} {its:Array Mk} (q:s.heap.IsList p its):Kd s (.lst ws) (.ref p)
theorem Bd {alP:List (Addr×Obj)}{s:Af}{σ : St}(I:BR X alP σ H s){w:W}{v:V}{a:Mk}(d:Dt X.K H w v)(r:RelV v a):Kd s w a:=by
 cases w with
 | non=>rw [Dt] at d;subst d;cases r;exact .non
 | bl b=>rw [Dt] at d;subst d;cases r;exact .bl b
 | int b=>rw [Dt] at d;subst d;obtain ⟨t,rfl⟩:=r;exact .int b t
 | str b=>rw [Dt] at d;subst d;obtain ⟨t,rfl⟩:=r;exact .str b t
 | tup ws=>rw [Dt] at d;obtain ⟨p,xs,e,hs,_⟩:=d;subst e;cases r;obtain ⟨its,_,q,_⟩:=I.tuple hs;exact .tup ws q
 | lst ws=>rw [Dt] at d;obtain ⟨p,xs,e,hs,_⟩:=d;subst e;cases r;obtain ⟨its,_,q,_⟩:=I.list hs;exact .lst ws q.isList
 | _=>rw [Dt] at d;exact d.elim
def sq1:W->Bool
 | .tup _=>true
 | .lst _=>true
 | _=>false
def rH:W->W->Bool
 | .tup _,.tup _=>true
 | .lst _,.lst _=>true
 | _,_=>false
def acC (w u:W):Bool:=!(sq1 w||sq1 u)
open SeqAt.EqAt in
theorem SQ {s:Af}{A:Dl}{w u:W}{a b:Mk}(hu:A.units<Lk)(k1:Kd s w a)(k2:Kd s u b)(h:rH w u=false)(f:acC w u=false):V2 A s a b (Cj w u):=by
 cases k1 <;> cases k2 <;> try (first | (cases h;done) | (cases f;done))
 ·apply none_tuple <;> assumption
 ·apply none_list <;> assumption
 ·apply bool_tuple <;> assumption
 ·apply bool_list <;> assumption
 ·apply int_tuple <;> assumption
 ·apply int_list <;> assumption
 ·apply str_tuple <;> assumption
 ·apply str_list <;> assumption
 ·apply tuple_none <;> assumption
 ·apply tuple_bool <;> assumption
 ·apply tuple_int <;> assumption
 ·apply tuple_str <;> assumption
 ·apply tuple_list <;> assumption
 ·apply list_none <;> assumption
 ·apply list_bool <;> assumption
 ·apply list_int <;> assumption
 ·apply list_str <;> assumption
 ·apply list_tuple <;> assumption
open SeqAt.RcAt in
theorem aat {s:Af}{A:Dl}{w u:W}{a b:Mk}(hu:A.units<Lk)(k1:Kd s w a)(k2:Kd s u b)(h:rH w u=false):SeqAt.RcAt A s a b (Cj w u):=by
 cases k1 <;> cases k2 <;> try (first | (cases h;done))
 ·apply none_none <;> assumption
 ·apply none_bool <;> assumption
 ·apply none_int <;> assumption
 ·apply none_str <;> assumption
 ·apply none_tuple <;> assumption
 ·apply none_list <;> assumption
 ·apply bool_none <;> assumption
 ·apply bool_bool <;> assumption
 ·apply bool_int <;> assumption
 ·apply bool_str <;> assumption
 ·apply bool_tuple <;> assumption
 ·apply bool_list <;> assumption
 ·apply int_none <;> assumption
 ·apply int_bool <;> assumption
 ·apply int_int <;> assumption
 ·apply int_str <;> assumption
 ·apply int_tuple <;> assumption
 ·apply int_list <;> assumption
 ·apply str_none <;> assumption
 ·apply str_bool <;> assumption
 ·apply str_int <;> assumption
 ·apply str_str <;> assumption
 ·apply str_tuple <;> assumption
 ·apply str_list <;> assumption
 ·apply tuple_none <;> assumption
 ·apply tuple_bool <;> assumption
 ·apply tuple_int <;> assumption
 ·apply tuple_str <;> assumption
 ·apply tuple_list <;> assumption
 ·apply list_none <;> assumption
 ·apply list_bool <;> assumption
 ·apply list_int <;> assumption
 ·apply list_str <;> assumption
 ·apply list_tuple <;> assumption
open SeqAt.RcNeAt in
theorem aaG {s:Af}{A:Dl}{w u:W}{a b:Mk}(hu:A.units<Lk)(k1:Kd s w a)(k2:Kd s u b)(h:rH w u=false):SeqAt.RcNeAt A s a b (!Cj w u):=by
 cases k1 <;> cases k2 <;> try (first | (cases h;done))
 ·apply none_none <;> assumption
 ·apply none_bool <;> assumption
 ·apply none_int <;> assumption
 ·apply none_str <;> assumption
 ·apply none_tuple <;> assumption
 ·apply none_list <;> assumption
 ·apply bool_none <;> assumption
 ·apply bool_bool <;> assumption
 ·apply bool_int <;> assumption
 ·apply bool_str <;> assumption
 ·apply bool_tuple <;> assumption
 ·apply bool_list <;> assumption
 ·apply int_none <;> assumption
 ·apply int_bool <;> assumption
 ·apply int_int <;> assumption
 ·apply int_str <;> assumption
 ·apply int_tuple <;> assumption
 ·apply int_list <;> assumption
 ·apply str_none <;> assumption
 ·apply str_bool <;> assumption
 ·apply str_int <;> assumption
 ·apply str_str <;> assumption
 ·apply str_tuple <;> assumption
 ·apply str_list <;> assumption
 ·apply tuple_none <;> assumption
 ·apply tuple_bool <;> assumption
 ·apply tuple_int <;> assumption
 ·apply tuple_str <;> assumption
 ·apply tuple_list <;> assumption
 ·apply list_none <;> assumption
 ·apply list_bool <;> assumption
 ·apply list_int <;> assumption
 ·apply list_str <;> assumption
 ·apply list_tuple <;> assumption
theorem Bv:∀ {w u:W},rH w u=true->(∃ ws us,w=.tup ws/\u=.tup us)\/∃ ws us,w=.lst ws/\u=.lst us
 | .tup ws,.tup us,_=>.inl ⟨ws,us,rfl,rfl⟩
 | .lst ws,.lst us,_=>.inr ⟨ws,us,rfl,rfl⟩
def wV:V->W
 | .bl b=>.bl b
 | .int b=>.int b
 | .str b=>.str b
 | _=>.non
theorem acN {v x:V}(h:o9 v=true)(g:o9 x=true):Cj (wV v) (wV x)=Qo v x:=by
 cases v <;> first | (cases h;done) | (cases x <;> first | (cases g;done) | rfl)
theorem R8 {w:W}{v:V}(d:Dt K H w v)(h:sq1 w=false):o9 v=true/\w=wV v:=by
 cases w with
 | tup _=>cases h
 | lst _=>cases h
 | non=>rw [Dt] at d;subst d;exact ⟨rfl,rfl⟩
 | bl _=>rw [Dt] at d;subst d;exact ⟨rfl,rfl⟩
 | int _=>rw [Dt] at d;subst d;exact ⟨rfl,rfl⟩
 | str _=>rw [Dt] at d;subst d;exact ⟨rfl,rfl⟩
 | _=>rw [Dt] at d;exact d.elim
theorem Tf {s:Af}{A:Dl}{w u:W}{v x:V}{a b:Mk}(dw:Dt K H w v)(du:Dt K H u x)(hf:acC w u=true)(ra:RelV v a)(rb:RelV x b):V2 A s a b (Cj w u):=by
 have hf:=Bool.or_eq_false_iff.mp (Eq.mp (Ww _) hf);have ⟨f1,e1⟩:=R8 dw hf.1;have ⟨f2,e2⟩:=R8 du hf.2;rw [e1,e2,acN f1 f2];exact Ul ra rb f1 f2
theorem Uu {alP:List (Addr×Obj)}{s:Af}{σ : St}(I:BR X alP σ H s){n:Nat}{A:Dl}{w u:W}{v x:V}{a b:Mk}(ih:∀ {w u:W} {v x:V} {a b:Mk},Dt X.K H w v->Dt X.K H u x->DY n w=true->DY n u=true->RelV v a->RelV x b->V2 A.in1 s a b (Cj w u))(hu:A.units<Lk)(h2:rH w u=true)(dw:Dt X.K H w v)(du:Dt X.K H u x)(pw:DY (n+1) w=true)(pu:DY (n+1) u=true)(ra:RelV v a)(rb:RelV x b):∃ p q,v=.ref p/\x=.ref q/\a=.ref p/\b=.ref q/\SeqAt.RcAt A s a b (Cj w u)/\SeqAt.RcNeAt A s a b (!Cj w u):=by
 rcases Bv h2 with ⟨ws,us,rfl,rfl⟩ | ⟨ws,us,rfl,rfl⟩ <;> rw [Dt] at dw du <;> obtain ⟨p,xs1,rfl,hs1,ds1⟩:=dw <;> obtain ⟨q,xs2,rfl,hs2,ds2⟩:=du <;> cases ra <;> cases rb <;> refine ⟨p,q,rfl,rfl,rfl,rfl,?_⟩ <;> rw [Cj] <;> rw [DY] at pw pu
 ·obtain ⟨its1,rv1,q1,_⟩:=I.tuple hs1;obtain ⟨its2,rv2,q2,_⟩:=I.tuple hs2;have it:=Ft ds1 ds2 pw pu rv1 rv2 ih;rw [<-akf,<-size_of ds1 rv1,<-size_of ds2 rv2];exact ⟨.tuples q1 q2 hu it,.tuples q1 q2 hu it⟩
 ·obtain ⟨its1,rv1,q1,_⟩:=I.list hs1;obtain ⟨its2,rv2,q2,_⟩:=I.list hs2;by_cases hl:ws.length=us.length
  ·have it:=Ft ds1 ds2 pw pu rv1 rv2 ih;have e:its1.toArray.size=its2.toArray.size:=by rw [size_of ds1 rv1,size_of ds2 rv2,hl]
   rw [<-wY hl,<-size_of ds1 rv1];exact ⟨.lists q1.isList q2.isList e hu it,.lists q1.isList q2.isList e hu it⟩
  ·rw [yF hl];have e:(its1.toArray.size != its2.toArray.size)=true:=by rw [size_of ds1 rv1,size_of ds2 rv2];exact bne_iff_ne.mpr hl
   exact ⟨.lists_lengths q1.isList q2.isList e hu,.lists_lengths q1.isList q2.isList e hu⟩
theorem KR {w u:W}(h:rH w u=true):∀ {n:Nat},DY n w=true->∃ m,n=m+1
 | 0,p=>by rcases Bv h with ⟨_,_,rfl,_⟩ | ⟨_,_,rfl,_⟩ <;> cases p
 | m+1,_=>⟨m,rfl⟩
theorem VL {alP:List (Addr×Obj)}{s:Af}{σ : St}(I:BR X alP σ H s):∀ (n:Nat) {A:Dl} {w u:W} {v x:V} {a b:Mk},A.units+n<Lk->Dt X.K H w v->Dt X.K H u x->DY n w=true->DY n u=true->RelV v a->RelV x b->V2 A s a b (Cj w u):=by
 intro n;induction n with
 | zero=>
  intro A w u v x a b hu dw du pw pu ra rb;by_cases hf:acC w u=true
  ·exact Tf dw du hf ra rb
  by_cases h2:rH w u=true
  ·obtain ⟨m,e⟩:=KR h2 pw;cases e
  ·exact SQ hu (Bd I dw ra) (Bd I du rb) (WR _ ▸ h2)<|WR _ ▸ hf
 | succ n ih=>
  intro A w u v x a b hu dw du pw pu ra rb;by_cases hf:acC w u=true
  ·exact Tf dw du hf ra rb
  by_cases h2:rH w u=true
  ·have hu':=Vh (Nat.le_add_right _ _) hu;obtain ⟨p,q,rfl,rfl,rfl,rfl,z,_⟩:=Uu I (ih (A:=A.in1) (by rw [in1_units,Nat.add_assoc,Nat.add_comm 1];exact hu)) hu' h2 dw du pw pu ra rb;by_cases hp:p=q
   ·subst hp;rw [Gn I dw du];exact SeqAt.EqAt.same _
   ·exact SeqAt.EqAt.of_refs hp z
  ·exact SQ (Vh (Nat.le_add_right _ _) hu) (Bd I dw ra) (Bd I du rb) (WR _ ▸ h2)<|WR _ ▸ hf
theorem rcN {alP:List (Addr×Obj)}{s:Af}{σ : St}(I:BR X alP σ H s){m:Nat}{A:Dl}{w u:W}{v x:V}{a b:Mk}{p:Prop}(hu:A.units+(m+1)<Lk)(hu':A.units<Lk)(h2:rH w u=true)(dw:Dt X.K H w v)(du:Dt X.K H u x)(pw:DY (m+1) w=true)(pu:DY (m+1) u=true)(ra:RelV v a)(rb:RelV x b)(f:SeqAt.RcAt A s a b (Cj w u)/\SeqAt.RcNeAt A s a b (!Cj w u)->p):p:=by
 obtain ⟨_,_,_,_,_,_,z⟩:=Uu I (VL I m (A:=A.in1) (by rw [in1_units,Nat.add_assoc,Nat.add_comm 1];exact hu)) hu' h2 dw du pw pu ra rb;exact f z
theorem ad3 {alP:List (Addr×Obj)}{s:Af}{σ : St}(I:BR X alP σ H s)(n:Nat){A:Dl}{w u:W}{v x:V}{a b:Mk}(hu:A.units+n<Lk)(dw:Dt X.K H w v)(du:Dt X.K H u x)(pw:DY n w=true)(pu:DY n u=true)(ra:RelV v a)(rb:RelV x b):SeqAt.RcAt A s a b (Cj w u):=by
 have hu':=Vh (Nat.le_add_right _ _) hu;by_cases h2:rH w u=true
 ·obtain ⟨m,rfl⟩:=KR h2 pw;exact rcN I hu hu' h2 dw du pw pu ra rb (·.1)
 ·exact aat hu' (Bd I dw ra) (Bd I du rb)<|WR _ ▸ h2
theorem ajI {alP:List (Addr×Obj)}{s:Af}{σ : St}(I:BR X alP σ H s)(n:Nat){A:Dl}{w u:W}{v x:V}{a b:Mk}(hu:A.units+n<Lk)(dw:Dt X.K H w v)(du:Dt X.K H u x)(pw:DY n w=true)(pu:DY n u=true)(ra:RelV v a)(rb:RelV x b):SeqAt.RcNeAt A s a b (!Cj w u):=by
 have hu':=Vh (Nat.le_add_right _ _) hu;by_cases h2:rH w u=true
 ·obtain ⟨m,rfl⟩:=KR h2 pw;exact rcN I hu hu' h2 dw du pw pu ra rb (·.2)
 ·exact aaG hu' (Bd I dw ra) (Bd I du rb)<|WR _ ▸ h2
def Cm (h:Gh):W->Option W
 | .loc n=>(match h.c n with
  | some (.lst ws)=>Dn (.lst ws)
  | _=>JI)
 | w=>Dn w
theorem pH {w d:W}{v:V}{n:Nat}(R:HD K μ H h)(r:Aj K H μ w v)(e:Cm h w=Dn d)(p:DY n d=true):Dt K H d v:=by
 have other:Cm h w=Dn w->Dt K H d v:=fun z=>by
  rw [z] at e;cases e;exact IW n r p
 cases w with
 | loc m=>
  unfold Cm at e;dsimp only at e;cases ec:h.c m with
  | none=>rw [ec] at e;cases e
  | some cl=>
   rw [ec] at e;cases cl with
   | lst us=>
    cases (show Dn (W.lst us)=Dn d from e)
    obtain ⟨p',xs,hm',hx,rs⟩:=R.lstAt ec;rw [Aj] at r;obtain ⟨q,ev,hm⟩:=r;have ep:p'=q:=by rw [hm] at hm';exact (JD hm').symm
    subst ep;obtain ⟨k,rfl,p⟩:=J5 p;rw [Dt];exact ⟨p',xs,ev,.of hx,vN (IW k) rs p⟩
   | _=>cases e
 | _=>exact other rfl
def aeQ (K:Bl)(neg:Bool):R2:=fun x y H Q=>∃ w u,Dt K H w x/\Dt K H u y/\DY 30 w=true/\DY 30 u=true/\Q (.bl (if neg then !Cj w u else Cj w u)) H
theorem aav (hu:X.A.units+30<Lk):Jz X (Ly .Eq) (aeQ X.K false):=by
 intro alP s σ H x y v u Q I rx ry ⟨w,w',d1,d2,p1,p2,q⟩;exact ad3 I 30 hu d1 d2 p1 p2 rx ry X.prog X.w X.xe _<|wH I q rfl
theorem TF (hu:X.A.units+30<Lk):Jz X (Ly .NotEq) (aeQ X.K true):=by
 intro alP s σ H x y v u Q I rx ry ⟨w,w',d1,d2,p1,p2,q⟩;exact ajI I 30 hu d1 d2 p1 p2 rx ry X.prog X.w X.xe _<|wH I q rfl
def JZ:M2:=fun x y h Q=>match Cm h x,Cm h y with
 | some a,Dn b=>Ib (DY 30 a&&DY 30 b) (Q (.bl (Cj a b)) h) False
 | _,_=>False
def Jk:M2:=fun x y h Q=>match Cm h x,Cm h y with
 | some a,Dn b=>Ib (DY 30 a&&DY 30 b) (Q (.bl (!Cj a b)) h) False
 | _,_=>False
theorem nZ (hu:X.A.units+30<Lk):Nj X (Ly .Eq) JZ:=⟨_,aav hu,by
 intro H μ h x y wx wy Qw Q R rx ry m k;unfold JZ at m;split at m
 ·rename_i a b ea eb;cases hp:(DY 30 a&&DY 30 b) with
  | true=>
   rw [hp] at m;rw [Jw] at hp;exact ⟨a,b,pH R rx ea hp.1,pH R ry eb hp.2,hp.1,hp.2,k _ _<|.bl R m⟩
  | false=>rw [hp] at m;exact (show False from m).elim
 ·exact m.elim⟩
theorem xY (hu:X.A.units+30<Lk):Nj X (Ly .NotEq) Jk:=⟨_,TF hu,by
 intro H μ h x y wx wy Qw Q R rx ry m k;unfold Jk at m;split at m
 ·rename_i a b ea eb;cases hp:(DY 30 a&&DY 30 b) with
  | true=>
   rw [hp] at m;rw [Jw] at hp;exact ⟨a,b,pH R rx ea hp.1,pH R ry eb hp.2,hp.1,hp.2,k _ _<|.bl R m⟩
  | false=>rw [hp] at m;exact (show False from m).elim
 ·exact m.elim⟩
theorem YT {A:Dl}{k:Nat}(hr:eO k A):A.units+30<Lk:=by have:=hr.units;lia
end
section
variable {X:Cx}{K:Bl}
theorem kJ {H:Hp}{w:W}{vs:List V}(r:aM K H μ [w] vs):∃ v,vs=[v]/\Aj K H μ w v:=by
 rw [aM] at r;obtain ⟨v,vr,ev,ra,r⟩:=r;rw [aM] at r;subst r;exact ⟨v,ev,ra⟩
theorem PX {H:Hp}{w u:W}{vs:List V}(r:aM K H μ [w,u] vs):∃ v x,vs=[v,x]/\Aj K H μ w v/\Aj K H μ u x:=by
 rw [aM] at r;obtain ⟨v,vr,ev,ra,r⟩:=r;obtain ⟨x,e,rb⟩:=kJ r;subst e;exact ⟨v,x,ev,ra,rb⟩
theorem eV.of {i j:Int}{m n:Nat}(hi:Sm m i)(hj:Sm n j)(hm:m<=1000000)(hn:n<=1000000):eV i j:=⟨m,n,hm,hn,hi,hj⟩
theorem Sm.lit {i:Int}(h:QS (i.natAbs+1) (2^64)=true):Sm 64 i:=by
 have:=Xx h
 unfold Sm;lia
def Il:MC:=fun ws h Q=>match ws with
 | [w]=>(match view h w with
  | some xs=>Q (.int (xs.length:Int)) h
  | none=>False)
 | _=>False
theorem fU:kE X (.builtin "len") Il:=⟨_,zah,by
 intro H μ h vs ws Qw Q R r m k;unfold Il at m;split at m
 ·split at m
  ·rename_i w _ xs ev;obtain ⟨v,e,rv⟩:=kJ r;obtain ⟨p,ys,ex,hs,rs⟩:=ug R rv ev;subst e ex;exact ⟨p,ys,rfl,hs,by rw [<-rs.len];exact k _ _ (.int R m)⟩
  ·exact m.elim
 ·exact m.elim⟩
def O9:MC:=fun ws h Q=>match ws with
 | [.int i]=>Q (.int (if i<0 then -i else i)) h
 | _=>False
theorem Qe:kE X (.builtin "abs") O9:=⟨_,ahd,by
 intro H μ h vs ws Qw Q R r m k;unfold O9 at m;split at m
 ·obtain ⟨v,e,rv⟩:=kJ r;rw [Aj] at rv;subst e rv;exact ⟨_,rfl,k _ _<|.int R m⟩
 ·exact m.elim⟩
def acp:MC:=fun ws h Q=>match ws with
 | [.int i,.int j]=>Q (.int (if j>i then j else i)) h
 | _=>False
theorem aeo (hc:X.calm=true):kE X (.builtin "max") acp:=⟨_,yX hc,by
 intro H μ h vs ws Qw Q R r m k;unfold acp at m;split at m
 ·obtain ⟨v,x,e,rv,rx⟩:=PX r;rw [Aj] at rv rx;subst e rv rx;exact ⟨_,_,rfl,k _ _<|.int R m⟩
 ·exact m.elim⟩
def acd:MC:=fun ws h Q=>match ws with
 | [.int i,.int j]=>Q (.int (if j<i then j else i)) h
 | _=>False
theorem ad8 (hc:X.calm=true):kE X (.builtin "min") acd:=⟨_,zaL hc,by
 intro H μ h vs ws Qw Q R r m k;unfold acd at m;split at m
 ·obtain ⟨v,x,e,rv,rx⟩:=PX r;rw [Aj] at rv rx;subst e rv rx;exact ⟨_,_,rfl,k _ _<|.int R m⟩
 ·exact m.elim⟩
def Jl:List W->Option (List Bool)
 | []=>Dn []
 | .bl b::ws=>(Jl ws).map (b::·)
 | _=>JI
theorem DK {H:Hp}{μ : Mu}:∀ {ws:List W} {xs:List V} {bs:List Bool},aM K H μ ws xs->Jl ws=Dn bs->xs=bs.map V.bl
 | [],xs,bs,r,e=>by
  rw [aM] at r;cases (show Dn []=Dn bs from e)
  exact r
 | w::ws,xs,bs,r,e=>by
  rw [aM] at r;obtain ⟨v,vr,ev,ra,r⟩:=r;cases w with
  | bl b=>
   rw [Aj] at ra;rw [Jl] at e;cases q:Jl ws with
   | none=>rw [q] at e;cases e
   | some cs=>
    rw [q] at e;cases (show Dn (b::cs)=Dn bs from e)
    rw [ev,ra,DK r q];rfl
  | _=>cases e
def Uc:MC:=fun ws h Q=>match ws with
 | [w]=>(match cZ h w with
  | some us=>(match Jl us with
   | some bs=>Q (.bl (bs.all id)) h
   | none=>False)
  | none=>False)
 | _=>False
theorem XR (hc:X.calm=true):kE X (.builtin "all") Uc:=⟨_,ahc hc,by
 intro H μ h vs ws Qw Q R r m k;unfold Uc at m;split at m
 ·split at m
  ·split at m
   ·rename_i w _ us ev _ bs eb;obtain ⟨v,e,rv⟩:=kJ r;obtain ⟨p,ys,ex,hs,rs⟩:=cB R rv ev;subst e ex;exact ⟨p,bs,rfl,by rw [<-DK rs eb];exact hs,k _ _<|.bl R m⟩
   ·exact m.elim
  ·exact m.elim
 ·exact m.elim⟩
def acv (h:Gh)(w:W)(T:String):Option Bool:=match w with
 | .int _=>if T = "int" then Dn true else if T = "bool"\/T = "tuple"\/T = "list" then Dn false else JI
 | .bl _=>if T = "int"\/T = "bool" then Dn true else if T = "tuple"\/T = "list" then Dn false else JI
 | .str _=>if T = "int"\/T = "bool"\/T = "tuple"\/T = "list" then Dn false else JI
 | .non=>if T = "int"\/T = "bool"\/T = "tuple"\/T = "list" then Dn false else JI
 | .tup _=>if T = "tuple" then Dn true else if T = "int"\/T = "bool"\/T = "list" then Dn false else JI
 | w=>(match cZ h w with
  | some _=>if T = "list" then Dn true else if T = "int"\/T = "bool"\/T = "tuple" then Dn false else JI
  | none=>JI)
theorem ajk {H:Hp}{h:Gh}{w:W}{v:V}{T:String}{b:Bool}(R:HD K μ H h)(r:Aj K H μ w v)(e:acv h w T=Dn b):aeF K H v T b:=by
 unfold acv at e;split at e
 ·rw [Aj] at r;subst r;split at e
  ·rename_i t;subst t;cases e;exact .inl ⟨rfl,rfl⟩
  ·split at e
   ·rename_i t;cases e;rcases t with t | t | t <;> subst t
    ·exact .inr<|.inl ⟨rfl,rfl⟩
    ·exact .inr<|.inr<|.inl ⟨rfl,rfl⟩
    ·exact .inr<|.inr<|.inr ⟨rfl,rfl⟩
   ·cases e
 ·rw [Aj] at r;subst r;split at e
  ·rename_i t;cases e;rcases t with t | t <;> subst t
   ·exact .inl ⟨rfl,rfl⟩
   ·exact .inr<|.inl ⟨rfl,rfl⟩
  ·split at e
   ·rename_i t;cases e;rcases t with t | t <;> subst t
    ·exact .inr<|.inr<|.inl ⟨rfl,rfl⟩
    ·exact .inr<|.inr<|.inr ⟨rfl,rfl⟩
   ·cases e
 ·rw [Aj] at r;subst r;split at e
  ·rename_i t;cases e;rcases t with t | t | t | t <;> subst t
   ·exact .inl ⟨rfl,rfl⟩
   ·exact .inr<|.inl ⟨rfl,rfl⟩
   ·exact .inr<|.inr<|.inl ⟨rfl,rfl⟩
   ·exact .inr<|.inr<|.inr ⟨rfl,rfl⟩
  ·cases e
 ·rw [Aj] at r;subst r;split at e
  ·rename_i t;cases e;rcases t with t | t | t | t <;> subst t
   ·exact .inl ⟨rfl,rfl⟩
   ·exact .inr<|.inl ⟨rfl,rfl⟩
   ·exact .inr<|.inr<|.inl ⟨rfl,rfl⟩
   ·exact .inr<|.inr<|.inr ⟨rfl,rfl⟩
  ·cases e
 ·rw [Aj] at r;obtain ⟨p,xs,ev,hs,_⟩:=r;subst ev;refine .inl ⟨xs,hs,?_⟩;split at e
  ·rename_i t;subst t;cases e;exact .inr (.inr (.inl ⟨rfl,rfl⟩))
  ·split at e
   ·rename_i t;cases e;rcases t with t | t | t <;> subst t
    ·exact .inl ⟨rfl,rfl⟩
    ·exact .inr<|.inl ⟨rfl,rfl⟩
    ·exact .inr<|.inr<|.inr ⟨rfl,rfl⟩
   ·cases e
 ·split at e
  ·rename_i ws ev;obtain ⟨p,xs,ex,hs,_⟩:=cB R r ev;subst ex;refine .inr ⟨xs,hs,?_⟩;split at e
   ·rename_i t;subst t;cases e;exact .inr (.inr (.inr ⟨rfl,rfl⟩))
   ·split at e
    ·rename_i t;cases e;rcases t with t | t | t <;> subst t
     ·exact .inl ⟨rfl,rfl⟩
     ·exact .inr<|.inl ⟨rfl,rfl⟩
     ·exact .inr<|.inr<|.inl ⟨rfl,rfl⟩
    ·cases e
  ·cases e
def Om:MC:=fun ws h Q=>match ws with
 | [w,.ty T]=>(match acv h w T with
  | some b=>Q (.bl b) h
  | none=>False)
 | _=>False
theorem Jc:kE X (.builtin "isinstance") Om:=⟨_,ahR,by
 intro H μ h vs ws Qw Q R r m k;unfold Om at m;split at m
 ·split at m
  ·rename_i w T _ b eb;obtain ⟨v,x,e,rv,rx⟩:=PX r;have hi:=ajk R rv eb;rw [Aj] at rx;subst e rx;exact ⟨v,T,b,rfl,hi,k _ _<|.bl R m⟩
  ·exact m.elim
 ·exact m.elim⟩
def z9:MC:=fun ws h Q=>match ws with
 | [.tup us]=>Q (.tup us) h
 | [w]=>(match cZ h w with
  | some us=>Q (.tup us) h
  | none=>False)
 | _=>False
theorem Ku:kE X (.type "tuple") z9:=⟨_,xT,by
 intro H μ h vs ws Qw Q R r m k;unfold z9 at m;split at m
 ·obtain ⟨v,e,rv⟩:=kJ r;have rv':=rv;rw [Aj] at rv;obtain ⟨p,xs,ex,hs,rs⟩:=rv;subst e ex;exact ⟨p,xs,rfl,.inr ⟨hs,k _ _ ⟨μ,_,h,.refl,R,rv',m⟩⟩⟩
 ·split at m
  ·rename_i w _ _ us ev;obtain ⟨v,e,rv⟩:=kJ r;obtain ⟨p,ys,ex,hs,rs⟩:=cB R rv ev;subst e ex;exact ⟨p,ys,rfl,.inl ⟨hs,fun l hl=>k _ _ ⟨μ,_,h,(Ex.laid hl).ext,R.laid hl,.tupNew hl rs,m⟩⟩⟩
  ·exact m.elim
 ·exact m.elim⟩
def vH:MC:=fun ws h Q=>match ws with
 | [w]=>(match view h w with
  | some us=>Q (.lst us) h
  | none=>False)
 | _=>False
def Hq:MC:=fun ws h Q=>match ws with
 | [w]=>(match view h w with
  | some us=>Q (.loc h.nx) (h.new (.lst us))
  | none=>False)
 | _=>False
theorem rB:kE X (.type "list") vH:=⟨_,qd,by
 intro H μ h vs ws Qw Q R r m k;unfold vH at m;split at m
 ·split at m
  ·rename_i w _ xs ev;obtain ⟨v,e,rv⟩:=kJ r;obtain ⟨p,ys,ex,hs,rs⟩:=ug R rv ev;subst e ex;exact ⟨p,ys,rfl,hs,fun l hl=>k _ _ ⟨μ,_,h,(Ex.laid hl).ext,R.laid hl,.lstNew R hl rs,m⟩⟩
  ·exact m.elim
 ·exact m.elim⟩
theorem aie:kE X (.type "list") Hq:=⟨_,qd,by
 intro H μ h vs ws Qw Q R r m k;unfold Hq at m;split at m
 ·split at m
  ·rename_i w _ xs ev;obtain ⟨v,e,rv⟩:=kJ r;obtain ⟨p,ys,ex,hs,rs⟩:=ug R rv ev;subst e ex;exact ⟨p,ys,rfl,hs,fun l hl=>k _ _ ⟨μ.put h.nx l,.loc h.nx,h.new<|.lst xs,(Ex.newCell R hl).ext,Uy R hl rs,by rw [Aj];exact ⟨l,rfl,Mu.put_same⟩,m⟩⟩
  ·exact m.elim
 ·exact m.elim⟩
abbrev MM:=W->List W->Gh->WK->Prop
def Yv (K:Bl)(r:V->List V->Hp->VK->Prop)(mr:MM):Prop:=∀ {H:Hp} {μ : Mu} {h:Gh} {x:V} {vs:List V} {wx:W} {ws:List W} {Qw:WK} {Q:VK},HD K μ H h->Aj K H μ wx x->aM K H μ ws vs->mr wx ws h Qw->(∀ v H',DQ K H μ Qw v H'->Q v H')->r x vs H Q
def CG (h:Gh)(w:W)(P:Prop):Prop:=match w with
 | .loc n=>(match h.c n with
  | some (.lst _)=>P
  | _=>False)
 | _=>False
theorem rm {H:Hp}{h:Gh}{w:W}{v:V}{P:Prop}(R:HD K μ H h)(r:Aj K H μ w v)(e:CG h w P):tyV K "list" v H/\P:=by
 unfold CG at e;split at e
 ·split at e
  ·rename_i n _ ws ec;rw [Aj] at r;obtain ⟨p,ev,hm⟩:=r;obtain ⟨p',xs,hm',hx,rs⟩:=R.lstAt ec;have ep:p'=p:=by rw [hm] at hm';exact (JD hm').symm
   subst ep ev;exact ⟨.inl ⟨rfl,xs,.of hx⟩,e⟩
  ·exact e.elim
 ·exact e.elim
def LC (r:MM)(mo:ME)(ma:MA):ME:=fun σ h Q=>mo σ h fun x h1=>CG h1 x (ma σ h1 fun xs h2=>r x xs h2 Q)
def UJ (r:MM)(mo:ME):ME:=fun σ h Q=>mo σ h fun x h1=>CG h1 x (r x [] h1 Q)
variable {o e:Expr}{es:List Expr}{ma:MA}{name:Str}{apos alR:Pos}{id:String}{r:V->List V->Hp->VK->Prop}{mr:MM}
theorem ae5 (slot:Slot "list" name id)(hty:typeOf (.builtin id)=pure (.type "method_descriptor"))(hm:MtR X id r)(hs:Yv X.K r mr)(ho:DE X o mo)(ha:Jm X (e::es) ma)
  (hbase:Rf o name X.env (eval o X.env)=eval o X.env:=by rfl)
  (hfew:((Jd alR (Cy (e::es) X.env)).all (fun x=>!x.1)&&(backToKw alR (Vx [] X.env)).all (fun x=>x.1.isSome)
   && decide ((e::es).length+([]:List QM).length+(if ([]:List QM).isEmpty then 0 else 1)<30))=true:=by rfl)
  (hline:(apos.endLine==alR.line)=true:=by rfl) (hst:Cy (e::es) X.env=(false,eval e X.env)::Cy es X.env:=by rfl) (hplain:(Jd alR (Cy es X.env)).any (·.1)=false:=by rfl) :
  DE X (.Call (.Attribute o name apos) (e::es) [] alR) (LC mr mo ma):=(aaQ PySem.F.plainAttrs_list slot hty hm ho ha hbase hfew hline hst hplain).of fun σ H Q ⟨μ,h,σw,Qw,R,S,m,k⟩=>by
 refine ⟨μ,h,σw,_,R,S,m,fun v H1 ⟨μ1,w,h1,e1,R1,r1,il⟩=>⟨(rm R1 r1 il).1,?_⟩⟩;have m1:=(rm R1 r1 il).2;exact ⟨μ1,h1,σw,_,R1,S.ext e1,m1,fun vs H2 ⟨μ2,ws,h2,e2,R2,r2,m2⟩=>hs R2 (e2.r _ _ r1) r2 m2 fun v H' z=>k _ _<|(z.trans e2).trans e1⟩
theorem acW (slot:Slot "list" name id)(hty:typeOf (.builtin id)=pure (.type "method_descriptor"))(hm:MtR X id r)(hs:Yv X.K r mr)(ho:DE X o mo)
  (hbase:Rf o name X.env (eval o X.env)=eval o X.env:=by rfl) (hline:(apos.endLine==alR.line)=true:=by rfl) :
  DE X (.Call (.Attribute o name apos) [] [] alR) (UJ mr mo):=(aad PySem.F.plainAttrs_list slot hty hm ho hbase hline).of fun σ H Q ⟨μ,h,σw,Qw,R,S,m,k⟩=>by
 refine ⟨μ,h,σw,_,R,S,m,fun v H1 ⟨μ1,w,h1,e1,R1,r1,il⟩=>⟨(rm R1 r1 il).1,?_⟩⟩;have m1:=(rm R1 r1 il).2;exact hs R1 r1 .nil m1 fun v H' z=>k _ _<|z.trans e1
def gG:MM:=fun x ws h Q=>match x,ws with
 | .loc n,[w]=>(match h.c n with
  | some (.lst us)=>us.length<Ht/\Q .non (h.set n (.lst (us++[w])))
  | _=>False)
 | _,_=>False
theorem Qv {H:Hp}{h:Gh}{n:Nat}{v:V}{us:List W}(R:HD K μ H h)(r:Aj K H μ (.loc n) v)(ec:h.c n=Dn (.lst us)):∃ p xs,v=.ref p/\μ.f n=Dn p/\H p=Dn (.lst xs)/\aM K H μ us xs:=by
 rw [Aj] at r;obtain ⟨p,ev,hm⟩:=r;obtain ⟨p',xs,hm',hx,rs⟩:=R.lstAt ec;have ep:p'=p:=by rw [hm] at hm';exact (JD hm').symm
 subst ep;exact ⟨p',xs,ev,hm,hx,rs⟩
theorem DQ.wrote {H:Hp}{h:Gh}{n:Nat}{p:Addr}{us:List W}{xs:List V}{Q:WK}{w:W}{v:V}(R:HD K μ H h)(hm:μ.f n=Dn p)(rs:aM K H μ us xs)(rw':Aj K H μ w v)(q:Q w (h.set n (.lst us))):DQ K H μ Q v (Dv H p (.lst xs)):=
 ⟨μ,w,h.set n (.lst us),(Ex.write R hm).ext,R.write hm trivial ⟨xs,aU,(Ex.write R hm).ext.s rs⟩,(Ex.write R hm).ext.r _ _ rw',q⟩
theorem agY:Yv K JF gG:=by
 intro H μ h x vs wx ws Qw Q R rx rs m k;unfold gG at m;split at m
 ·split at m
  ·rename_i n w _ us ec;obtain ⟨p,xs,ex,hm,hx,r1⟩:=Qv R rx ec;obtain ⟨v,ev,rv⟩:=kJ rs;exact ⟨p,xs,v,ex,ev,hx,by rw [<-r1.len];exact m.1,k _ _<|.wrote R hm (r1.append<|.one rv) (by rw [Aj]) m.2⟩
  ·exact m.elim
 ·exact m.elim
def ace:MM:=fun x ws h Q=>match x,ws with
 | .loc n,[]=>(match h.c n with
  | some (.lst us)=>(match us[us.length - 1]? with
   | some w=>Q w (h.set n (.lst us.dropLast))
   | none=>False)
  | _=>False)
 | _,_=>False
theorem aM.dropLast {H:Hp}{μ : Mu}{ws:List W}{xs:List V}(r:aM K H μ ws xs):aM K H μ ws.dropLast xs.dropLast:=by
 rw [List.dropLast_eq_take,List.dropLast_eq_take,<-r.len];exact r.take _
theorem s_pop:Yv K aez ace:=by
 intro H μ h x vs wx ws Qw Q R rx rs m k;unfold ace at m;split at m
 ·split at m
  ·split at m
   ·rename_i n _ us ec _ w ew;obtain ⟨p,xs,ex,hm,hx,r1⟩:=Qv R rx ec;rw [aM] at rs;obtain ⟨v,ev,rv⟩:=r1.get ew;exact ⟨p,xs,v,ex,rs,hx,by rw [<-r1.len];exact ev,k _ _<|.wrote R hm r1.dropLast rv m⟩
   ·exact m.elim
  ·exact m.elim
 ·exact m.elim
theorem q9 (ho:DE X o mo)(ha:Jm X [e] ma)
  (hbase:Rf o "append" X.env (eval o X.env)=eval o X.env:=by rfl)
  (hfew:((Jd alR (Cy [e] X.env)).all (fun x=>!x.1)&&(backToKw alR (Vx [] X.env)).all (fun x=>x.1.isSome)
   && decide (([e]:List Expr).length+([]:List QM).length+(if ([]:List QM).isEmpty then 0 else 1)<30))=true:=by rfl)
  (hline:(apos.endLine==alR.line)=true:=by rfl) (hst:Cy [e] X.env=(false,eval e X.env)::Cy [] X.env:=by rfl) (hplain:(Jd alR (Cy [] X.env)).any (·.1)=false:=by rfl) :
  DE X (.Call (.Attribute o "append" apos) [e] [] alR) (LC gG mo ma):=ae5 PySem.F.slot_list_append PySem.F.type_list_append Bk agY ho ha hbase hfew hline hst hplain
theorem adw (ho:DE X o mo)(hbase:Rf o "pop" X.env (eval o X.env)=eval o X.env:=by rfl)(hline:(apos.endLine==alR.line)=true:=by rfl):
  DE X (.Call (.Attribute o "pop" apos) [] [] alR) (UJ ace mo):=acW PySem.F.slot_list_pop PySem.F.type_list_pop Za s_pop ho hbase hline
end
section
variable {X:Cx}{K:Bl}
theorem aa5:Jz X (Ly .Is) (fun x y H Q=>∃ c b,x=.bl c/\y=.bl b/\Q (.bl (c==b)) H):=by
 intro alP s σ H x y v u Q I rx ry ⟨c,b,ex,ey,q⟩;subst ex ey;cases rx;cases ry;exact is_bool<|wH I q rfl
theorem zbJ:Jz X (Ly .IsNot) (fun x y H Q=>∃ c b,x=.bl c/\y=.bl b/\Q (.bl (!(c==b))) H):=by
 intro alP s σ H x y v u Q I rx ry ⟨c,b,ex,ey,q⟩;subst ex ey;cases rx;cases ry;exact Ck<|wH I q (by cases c <;> cases b <;> rfl)
def V4:W->Bool
 | .non=>true
 | _=>false
theorem Ke {H:Hp}{w:W}{v:V}(r:Aj K H μ w v):decide (v=.non)=V4 w:=by
 cases w with
 | non=>rw [Aj] at r;subst r;rfl
 | bl _=>rw [Aj] at r;subst r;rfl
 | int _=>rw [Aj] at r;subst r;rfl
 | str _=>rw [Aj] at r;subst r;rfl
 | ty _=>rw [Aj] at r;subst r;rfl
 | tup _=>rw [Aj] at r;obtain ⟨_,_,e,_⟩:=r;subst e;rfl
 | lst _=>rw [Aj] at r;obtain ⟨_,_,e,_⟩:=r;subst e;rfl
 | kls _=>rw [Aj] at r;obtain ⟨_,_,e,_⟩:=r;subst e;rfl
 | loc _=>rw [Aj] at r;obtain ⟨_,e,_⟩:=r;subst e;rfl
 | exc _=>rw [Aj] at r;obtain ⟨_,_,_,e,_⟩:=r;subst e;rfl
 | exa _ _=>rw [Aj] at r;obtain ⟨_,_,_,_,_,_,e,_⟩:=r;subst e;rfl
 | fnv _ _=>rw [Aj] at r;subst r;rfl
def kIs:M2:=fun x y h Q=>match x,y with
 | .bl c,.bl b=>Q (.bl (c==b)) h
 | w,.non=>Q (.bl (V4 w)) h
 | _,_=>False
def qJ:M2:=fun x y h Q=>match x,y with
 | .bl c,.bl b=>Q (.bl (!(c==b))) h
 | w,.non=>Q (.bl (!V4 w)) h
 | _,_=>False
theorem aeP:Nj X (Ly .Is) kIs:=⟨_,aa5.or Zg,by
 intro H μ h x y wx wy Qw Q R rx ry m k;unfold kIs at m;split at m
 ·rw [Aj] at rx ry;exact .inl ⟨_,_,rx,ry,k _ _<|.bl R m⟩
 ·rw [<-Ke rx] at m;rw [Aj] at ry;exact .inr ⟨ry,k _ _<|.bl R m⟩
 ·exact m.elim⟩
theorem wu:Nj X (Ly .IsNot) qJ:=⟨_,zbJ.or Yp,by
 intro H μ h x y wx wy Qw Q R rx ry m k;unfold qJ at m;split at m
 ·rw [Aj] at rx ry;exact .inl ⟨_,_,rx,ry,k _ _<|.bl R m⟩
 ·rw [<-Ke rx] at m;rw [Aj] at ry;exact .inr ⟨ry,k _ _<|.bl R m⟩
 ·exact m.elim⟩
theorem zas (bs:List Bool):((Ni bs.length).any fun i=>(bs[i]?).getD true)=bs.any id:=by
 rw [X8,List.any_eq_true,List.any_eq_true];constructor
 ·rintro ⟨i,hi,e⟩;have hi':=Px.mp hi;exact ⟨bs[i],Wc hi',by simpa [hi'] using e⟩
 ·rintro ⟨b,hb,e⟩;obtain ⟨i,hi,rfl⟩:=Vt.mp hb;exact ⟨i,Px.mpr hi,by simpa [hi] using e⟩
theorem ahu (hc:X.calm=true):gM X (.builtin "any") (fun xs H Q=>∃ (p:Addr) (bs:List Bool),xs=[.ref p]/\JR X.K H p (bs.map V.bl)/\Q (.bl (bs.any id)) H):=by
 intro alP s σ H xs us Q I r ⟨p,bs,e,hS,q⟩;subst e;obtain ⟨u,rfl,ru⟩:=vals1 r;cases ru;obtain ⟨its,rv,pl,hz⟩:=I.list hS;have alQ:its.length=bs.length:=by rw [<-rv.length,Hu]
 have hl:=pl.isList;have hlt:p<s.heap.objs.size:=by obtain ⟨_,e,_⟩:=hl;exact Hx e
 refine call_any_walk<|Wd hl ?_
 refine ⟨s.heap.objs.size,[s.heap.objs.size,p],[s.heap.objs.size],its.toArray.size,_,_,fun i=>(bs[i]?).getD true,rfl,Walks.list (A:=X.A.in1) (I.ok.hd hc) _ p (Ko hlt) its.toArray,
  ⟨⟨_,Kg _ rfl,rfl,rfl⟩,hl.push _⟩,fun i v s' Q' E' hP hQ=>?_,fun h' tk hk=>?_⟩
 ·obtain ⟨b,e,rfl⟩:=uL rv (by simpa using hP);simp only [e,XD] at hQ;exact Wg hQ
 ·have e:((Ni its.toArray.size).any fun i=>(bs[i]?).getD true)=bs.any id:=by
   rw [Jf,alQ];exact zas bs
  rw [e];refine ⟨.bl<|bs.any id,H,I.kept (h':=h') (t':=tk)<|fun b x e=>?_,rfl,q⟩;exact hk b x (fun hm=>by rw [Nz.mp hm] at e;exact Pa _ (Hx e))<|IV _ e
def YC:MC:=fun ws h Q=>match ws with
 | [w]=>(match cZ h w with
  | some us=>(match Jl us with
   | some bs=>Q (.bl (bs.any id)) h
   | none=>False)
  | none=>False)
 | _=>False
theorem aeu (hc:X.calm=true):kE X (.builtin "any") YC:=⟨_,ahu hc,by
 intro H μ h vs ws Qw Q R r m k;unfold YC at m;split at m
 ·split at m
  ·split at m
   ·rename_i w _ us ev _ bs eb;obtain ⟨v,e,rv⟩:=kJ r;obtain ⟨p,ys,ex,hs,rs⟩:=cB R rv ev;subst e ex;exact ⟨p,bs,rfl,by rw [<-DK rs eb];exact hs,k _ _<|.bl R m⟩
   ·exact m.elim
  ·exact m.elim
 ·exact m.elim⟩
def u6:W->Bool
 | .non=>true
 | .bl _=>true
 | .int _=>true
 | .str _=>true
 | _=>false
theorem SX {H:Hp}{w:W}{v:V}(r:Aj K H μ w v)(f:u6 w=true):o9 v=true:=by
 cases w <;> first | (rw [Aj] at r;subst r;rfl) | cases f
theorem J6 {H:Hp}{μ : Mu}:∀ {ws:List W} {vs:List V},aM K H μ ws vs->ws.all u6=true->vs.all o9=true
 | [],_,r,_=>by rw [aM] at r;subst r;rfl
 | w::ws,_,r,f=>by
  rw [aM] at r;obtain ⟨v,vs,e,r1,r2⟩:=r;subst e;rw [Rh,Jw] at f |-
  exact ⟨SX r1 f.1,J6 r2 f.2⟩
theorem afy {H:Hp}{w u:W}{v x:V}(r:Aj K H μ w v)(q:Aj K H μ u x)(f:u6 w=true)(g:u6 u=true):Qo v x=Cj w u:=by
 cases w <;> cases u <;> first
  | (rw [Aj] at r;rw [Aj] at q;subst r;subst q;rfl)
  | (cases f;done)
  | (cases g;done)
theorem abq {H:Hp}{μ : Mu}{u:W}{x:V}(q:Aj K H μ u x)(g:u6 u=true):∀ {ws:List W} {vs:List V},aM K H μ ws vs->ws.all u6=true->inV x vs=ws.any fun w=>Cj w u
 | [],_,r,_=>by rw [aM] at r;subst r;rfl
 | w::ws,_,r,f=>by
  rw [aM] at r;obtain ⟨v,vs,e,r1,r2⟩:=r;subst e;rw [Rh,Jw] at f;have:=abq q g r2 f.2
  unfold inV at this |-
  rw [Vi,Vi,this,afy r1 q f.1 g]
def ac2:M2:=fun x y h Q=>match view h y with
 | some ws=>Ib (u6 x&&ws.all u6) (Q (.bl (!(ws.any fun w=>Cj w x))) h) False
 | none=>False
theorem ad0:Nj X (Ly .NotIn) ac2:=⟨_,zaj,by
 intro H μ h x y wx wy Qw Q R rx ry m k;unfold ac2 at m;split at m
 ·rename_i ws ev;obtain ⟨p,xs,ey,hs,rs⟩:=ug R ry ev;cases hp:(u6 wx&&ws.all u6) with
  | true=>
   rw [hp] at m;rw [Jw] at hp;exact ⟨p,xs,ey,hs,SX rx hp.1,J6 rs hp.2,k _ _ (by rw [if_pos rfl,abq rx hp.1 rs hp.2];exact .bl R m)⟩
  | false=>rw [hp] at m;exact (show False from m).elim
 ·exact m.elim⟩
theorem ahq:Jz X (O5 .Add) (fun x y H Q=>∃ a b ys,x=.ref a/\y=.ref b/\Jh X.K H a []/\Jh X.K H b ys/\Q (.ref b) H):=by
 intro alP s σ H x y v u Q I rx ry ⟨a,b,ys,ex,ey,ha,hb,q⟩;subst ex ey;cases rx;cases ry;obtain ⟨its,r1,p1,_⟩:=I.tuple ha;obtain ⟨jts,r2,p2,_⟩:=I.tuple hb;cases r1;obtain ⟨⟨cls,dd,data,sl⟩,ho,hc,n,hd⟩:=id p1;obtain ⟨⟨cls2,dd2,data2,sl2⟩,ho2,hc2,n2,hd2⟩:=id p2;simp only at hc hd hc2 hd2;subst hc hd hc2 hd2;exact concat_meets ⟨_,ho,rfl⟩ ⟨_,ho2,rfl⟩ noFill_tuple_add seq_tuple_add PySem.F.slot_tuple_add PySem.F.entry_tuple_add (PySem.F.args_tuple_add_2 _ _)
  (tuple_addW0 a b _ _ n n2 dd dd2 sl sl2 (by simp)) ⟨ho,ho2,⟨.ref b,H,I,rfl,q⟩⟩
def Ij (h:Gh):W->Option (List W)
 | .lst ws=>Dn ws
 | .loc n=>(match h.c n with
  | some (.lst ws)=>Dn ws
  | _=>JI)
 | _=>JI
theorem DR {H:Hp}{h:Gh}{w:W}{v:V}(R:HD K μ H h)(r:Aj K H μ w v)(e:Ij h w=Dn ws):∃ p xs,v=.ref p/\H p=Dn (.lst xs)/\aM K H μ ws xs:=by
 cases w with
 | lst us=>
  rw [Aj] at r;obtain ⟨p,xs,ev,hs,rs⟩:=r;cases (show Dn us=Dn ws from e)
  exact ⟨p,xs,ev,hs.1,rs⟩
 | loc n=>
  unfold Ij at e;dsimp only at e;cases ec:h.c n with
  | none=>rw [ec] at e;cases e
  | some cl=>
   rw [ec] at e;cases cl with
   | lst us=>
    cases (show Dn us=Dn ws from e)
    obtain ⟨p,xs,ev,_,hx,rs⟩:=Qv R r ec;exact ⟨p,xs,ev,hx,rs⟩
   | _=>cases e
 | _=>cases e
def bG:M2:=fun x y h Q=>match x,y with
 | .int i,.int j=>Q (.int (i+j)) h
 | .tup [],.tup b=>Q (.tup b) h
 | .tup (a0::a),.tup b=>fW (a.length+1+b.length) (Q (.tup (a0::a++b)) h)
 | x,y=>(match Ij h x,Ij h y with
  | some a,Dn b=>fW (a.length+b.length) (Q (.lst (a++b)) h)
  | _,_=>False)
theorem bH:Nj X (O5 .Add) bG:=⟨_,(abX.or (ahq.or ajb)).or abe,by
 intro H μ h x y wx wy Qw Q R rx ry m k;unfold bG at m;split at m
 ·rw [Aj] at rx ry;exact .inl<|.inl ⟨_,_,rx,ry,k _ _<|.int R m⟩
 ·rename_i b;have ry':=ry;rw [Aj] at rx ry;obtain ⟨p,xs,ex,hx,r1⟩:=rx;obtain ⟨q,ys,ey,hy,r2⟩:=ry;rw [aM] at r1;subst r1;rw [ey] at ry';exact .inl<|.inr<|.inl ⟨p,q,ys,ex,ey,hx,hy,k _ _ ⟨μ,_,h,.refl,R,ry',m⟩⟩
 ·rename_i a0 a b;have rx':=rx;rw [Aj] at rx ry;obtain ⟨p,xs,ex,hx,r1⟩:=rx;obtain ⟨q,ys,ey,hy,r2⟩:=ry;have sz:=m.ok.1;refine .inl<|.inr<|.inr ⟨p,q,xs,ys,ex,ey,hx,hy,fun z=>(by have:=r1.ne_nil.mp z;cases this),by rw [<-r1.len,<-r2.len];exact sz,fun z=>?_,fun z l hl=>?_⟩
  ·have eb:b=[]:=r2.ne_nil.mp z;subst eb;refine k _ _ ⟨μ,.tup (a0::a++[]),h,.refl,R,?_,m.ok.2⟩;rw [Vv,<-ex];exact rx'
  ·exact k _ _ ⟨μ,_,h,(Ex.laid hl).ext,R.laid hl,.tupNew hl<|r1.append r2,m.ok.2⟩
 ·split at m
  ·rename_i a b ea eb;obtain ⟨p,xs,ex,hx,r1⟩:=DR R rx ea;obtain ⟨q,ys,ey,hy,r2⟩:=DR R ry eb;have sz:=m.ok.1;exact .inr ⟨p,q,xs,ys,ex,ey,hx,hy,by rw [<-r1.len,<-r2.len];exact sz,fun l hl=>k _ _ ⟨μ,_,h,(Ex.laid hl).ext,R.laid hl,.lstNew R hl<|r1.append r2,m.ok.2⟩⟩
  ·exact m.elim⟩
def iV:MM:=fun x ws h Q=>match x,ws with
 | .loc n,[w]=>(match h.c n,Ij h w with
  | some (.lst us),Dn zs=>fW (us.length+zs.length) (Q .non (h.set n (.lst (us++zs))))
  | _,_=>False)
 | _,_=>False
theorem akg:Yv K Kf iV:=by
 intro H μ h x vs wx ws Qw Q R rx rs m k;unfold iV at m;split at m
 ·split at m
  ·rename_i n w _ _ us zs ec ez;obtain ⟨p,xs,ex,hm,hx,r1⟩:=Qv R rx ec;obtain ⟨v,ev,rv⟩:=kJ rs;obtain ⟨q,ys,ey,hy,r2⟩:=DR R rv ez;subst ey;have sz:=m.ok.1;exact ⟨p,q,xs,ys,ex,ev,hx,hy,by rw [<-r1.len,<-r2.len];exact sz,k _ _<|.wrote R hm (r1.append r2) (by rw [Aj]) m.ok.2⟩
  ·exact m.elim
 ·exact m.elim
variable {o e:Expr}{ma:MA}{apos alR:Pos}
theorem Gk (ho:DE X o mo)(ha:Jm X [e] ma)
  (hbase:Rf o "extend" X.env (eval o X.env)=eval o X.env:=by rfl)
  (hfew:((Jd alR (Cy [e] X.env)).all (fun x=>!x.1)&&(backToKw alR (Vx [] X.env)).all (fun x=>x.1.isSome)
   && decide (([e]:List Expr).length+([]:List QM).length+(if ([]:List QM).isEmpty then 0 else 1)<30))=true:=by rfl)
  (hline:(apos.endLine==alR.line)=true:=by rfl) (hst:Cy [e] X.env=(false,eval e X.env)::Cy [] X.env:=by rfl) (hplain:(Jd alR (Cy [] X.env)).any (·.1)=false:=by rfl) :
  DE X (.Call (.Attribute o "extend" apos) [e] [] alR) (LC iV mo ma):=ae5 PySem.F.slot_list_extend PySem.F.type_list_extend ajw akg ho ha hbase hfew hline hst hplain
end
def Rp (K:Bl):Sp:=fun vs H Q _=>∃ (a:Addr) (ns:List Int),vs=[.ref a]/\JR K H a (ns.map V.int)/\Only H/\ns.length<=63/\∀ H',Q (.bl true) H'
def g0:Gh:=⟨0,fun _=>JI⟩
def μ0:Mu:=⟨fun _=>JI,fun _=>False⟩
theorem afR {K:Bl}{H:Hp}:HD K μ0 H g0 where
 inj:=fun m n p h=>by cases (show (JI:Option Addr)=Dn p from h)
 dom:=fun n p h=>by cases (show (JI:Option Addr)=Dn p from h)
 trk:=fun n p h=>by cases (show (JI:Option Addr)=Dn p from h)
 cel:=fun n c h=>by cases (show (JI:Option Cell)=Dn c from h)
 hd:=fun p h=>Ov h
theorem Ab {K:Bl}{H:Hp}{μ : Mu}:∀ ns:List Int,aM K H μ (ns.map W.int) (ns.map V.int)
 | []=>.nil
 | n::ns=>.cons (by rw [Aj]) (Ab ns)
theorem aiI {P:Dz}{w:Cw}{K:Bl}{mg:Str->Option Mk}{base:Heap}{k:Nat}{f:Addr}{fd:Ln}{ps:List Str}
  (hm:∀ ns:List Int,ns.length<=63->ms [.kls (ns.map W.int)] g0 (fun w _=>w=.bl true) EF) (F:jE P w K mg base Lf k f fd ps (lift K ms)):jE P w K mg base Lf k f fd ps (Rp K):=
 F.imp fun vs H Q E ⟨a,ns,e,hS,hO,hl,q⟩=>by
  subst e;refine ⟨μ0,g0,[.kls<|ns.map W.int],_,afR,.one ?_,hm ns hl,fun v H' ⟨μ',w',h',_,_,r,e⟩=>?_⟩
  ·rw [Aj];refine ⟨a,ns.map V.int,rfl,?_,Ab ns⟩;rcases hS with (hS | hS) | hS
   ·rcases hO a with z | ⟨o,xs,z⟩ <;> rw [hS] at z <;> cases z
   ·exact .inl hS
   ·exact .inr hS
  ·subst e;rw [Aj] at r;subst r;exact q H'
inductive Sk where
 | l | t
def Sk.sq (k:Sk)(h:Heap)(a:Addr)(its:Array Mk):Prop:=match k with
 | .l=>h.IsList a its
 | .t=>h.IsTuple a its
def Sk.it (k:Sk)(h:Heap)(i a:Addr)(n:Nat):Prop:=match k with
 | .l=>h.IsListIter i a n
 | .t=>h.IsTupleIter i a n
def Sk.nm:Sk->String
 | .l => "list_iterator"
 | .t => "tuple_iterator"
section
variable {P:Dz}{w:Cw}{A:Dl}{E:Mk->Af->Prop}{s:Af}{k k1 k2:Sk}
theorem Sk.it_at {h h':Heap}{i a:Addr}{n:Nat}(x:k.it h i a n)(e:∀ o,h.get? i=Dn o->h'.get? i=Dn o):k.it h' i a n:=by
 cases k with
 | l=>obtain ⟨o,ho,r⟩:=x;exact ⟨o,e o ho,r⟩
 | t=>obtain ⟨o,ho,r⟩:=x;exact ⟨o,e o ho,r⟩
theorem Sk.sq_at {h h':Heap}{a:Addr}{its:Array Mk}(x:k.sq h a its)(e:∀ o,h.get? a=Dn o->h'.get? a=Dn o):k.sq h' a its:=by
 cases k with
 | l=>obtain ⟨o,ho,r⟩:=x;exact ⟨o,e o ho,r⟩
 | t=>obtain ⟨o,ho,r⟩:=x;exact ⟨o,e o ho,r⟩
theorem Sk.it_obj {h:Heap}{i a:Addr}{n:Nat}(x:k.it h i a n):∃ o,h.get? i=Dn o/\o.cls=.type k.nm/\o.data=.fields #[.ref a,.int n 0]:=by
 cases k with
 | l=>exact x
 | t=>exact x
theorem zbH {it t:Addr}{i:Nat}{its:Array Mk}{x:Mk}{Q:Mk->Af->Prop}(hi:s.heap.IsTupleIter it t i)(ht:s.heap.IsTuple t its)(hx:its[i]?=Dn x)
  (q:∀ h',h'.IsTupleIter it t (i+1)->Ro it s.heap h'->Q x { s with heap:=h' }):Bm (CN P w) A (Rj (.ref it)) Q E s:=by
 obtain ⟨o,go,gc,gd⟩:=id hi;obtain ⟨ol,gol,_,nl,gdl⟩:=ht;unfold Rj;refine Al (UG (name:=Rb "__next__") hi.typeIs Y4
  (Rm Y4 hi.typeIs PySem.F.entry_tuple_iterator_next ?_ (PySem.F.args_tuple_iterator_next_1 _)))
 show Bm _ _ (field (.ref it) 0 >>= _) _ _ s;refine Al<|Kc go gd (x:=.ref t) rfl ?_
 show Bm _ _ (if (Value.ref t==Value.none)=true then _ else _) _ _ s;rw [if_neg (by exact Ky)];show Bm _ _ (field (.ref it) 1 >>= _) _ _ s;refine Al<|Kc go gd (x:=.int i 0) rfl ?_
 show Bm _ _ (seqItems? (.ref t) >>= _) _ _ s;refine Al<|Vb gol gdl ?_
 simp only [Int.toNat_natCast,hx];refine Al<|Vd go gd (by simp)<|Ck ⟨x,rfl,Ck<|q _ ?_<|Xg ..⟩
 exact ⟨_,QW _ go<|Ri<|QT gd _,(Wv ..).trans gc,by rw [QT gd];simp [NK]⟩
theorem agd {it t:Addr}{i:Nat}{its:Array Mk}{Q:Mk->Af->Prop}(hh:A.handled=JI)(hi:s.heap.IsTupleIter it t i)(ht:s.heap.IsTuple t its)(hx:its[i]?=JI)
  (q:∀ h' e,W0 it s.heap h'->(∃ o,h'.get? e=Dn o/\o.cls=.type "StopIteration")->E (.ref e) { s with heap:=h' }):Bm (CN P w) A (Rj (.ref it)) Q E s:=by
 obtain ⟨o,go,gc,gd⟩:=id hi;obtain ⟨ol,gol,_,nl,gdl⟩:=ht;unfold Rj;refine Al (UG (name:=Rb "__next__") hi.typeIs Y4
  (Rm Y4 hi.typeIs PySem.F.entry_tuple_iterator_next ?_ (PySem.F.args_tuple_iterator_next_1 _)))
 show Bm _ _ (field (.ref it) 0 >>= _) _ _ s;refine Al<|Kc go gd (x:=.ref t) rfl ?_
 show Bm _ _ (if (Value.ref t==Value.none)=true then _ else _) _ _ s;rw [if_neg (by exact Ky)];show Bm _ _ (field (.ref it) 1 >>= _) _ _ s;refine Al<|Kc go gd (x:=.int i 0) rfl ?_
 show Bm _ _ (seqItems? (.ref t) >>= _) _ _ s;refine Al<|Vb gol gdl ?_
 simp only [Int.toNat_natCast,hx];refine Al<|VF<|Al<|Vd go gd (by simp) ?_
 show Bm _ _ (newExc (.type "StopIteration") [] >>= _) _ _ _;refine Al ?_;simp only [newExc,newTuple];refine Al<|Q9 ?_<|by size_fits
 refine Al (m:=Wu _ _)<|U6 (a:=Value.none) (by first | rfl | (simp only [Wu];rfl)) ?_
 refine Q9 ?_<|by size_fits
 simp only [raiseNew];refine Al<|wpAny_handled ?_
 first | rw [show A.in1.handled=JI from hh] | rw [hh]
 refine Al<|Ck<|Vz ?_
 exact q _ _ (((Xg ..).extBut.push _).push _) ⟨_,Kg _ rfl,rfl⟩
theorem Sk.next {it a:Addr}{i:Nat}{its:Array Mk}{x:Mk}{Q:Mk->Af->Prop}(hi:k.it s.heap it a i)(hs:k.sq s.heap a its)(hx:its[i]?=Dn x)
  (q:∀ h',k.it h' it a (i+1)->Ro it s.heap h'->Q x { s with heap:=h' }):Bm (CN P w) A (Rj (.ref it)) Q E s:=by
 cases k with
 | l=>exact wpAny_nextOf_list_item hi hs hx q
 | t=>exact zbH hi hs hx q
theorem Sk.stop {it a:Addr}{i:Nat}{its:Array Mk}{Q:Mk->Af->Prop}(hh:A.handled=JI)(hi:k.it s.heap it a i)(hs:k.sq s.heap a its)(hx:its[i]?=JI)
  (q:∀ h' e,W0 it s.heap h'->(∃ o,h'.get? e=Dn o/\o.cls=.type "StopIteration")->E (.ref e) { s with heap:=h' }):Bm (CN P w) A (Rj (.ref it)) Q E s:=by
 cases k with
 | l=>exact wpAny_nextOf_list_end hh hi hs hx q
 | t=>exact agd hh hi hs hx q
theorem Sk.iter {a:Addr}{its:Array Mk}{Q:Mk->Af->Prop}(hs:k.sq s.heap a its)
  (q:Q (.ref s.heap.objs.size) { s with heap:=s.heap.push { cls:=.type k.nm,data:=.fields #[.ref a,.int 0 0] } }):Bm (CN P w) A (pyIter (.ref a)) Q E s:=by
 cases k with
 | l=>exact Wd hs q
 | t=>exact wpAny_pyIter_tuple hs q
structure Zap (z TI TO i1 i2:Addr):Prop where
 a1:TI≠z
 a2:TO≠z
 a3:i1≠z
 a4:i2≠z
 a5:TI≠TO
 a6:TI≠i1
 a7:TI≠i2
 a8:TO≠i1
 a9:TO≠i2
 b1:i1≠i2
structure Off (a z TO i1 i2:Addr):Prop where
 z:a≠z
 o:a≠TO
 i:a≠i1
 j:a≠i2
theorem agW {z TI TO i1 i2 l1 l2:Addr}{n1 n2:Nat}{xs ys:Array Mk}{x y a b:Mk}{Q:Option Mk->Af->Prop}(D:Zap z TI TO i1 i2)(o1:Off l1 z TO i1 i2)(o2:Off l2 z TO i1 i2)
  (gz:IsZip s.heap z TI TO .none) (gI:PL s.heap TI (.ref i1) (.ref i2)) (gO:PL s.heap TO a b) (g1:k1.it s.heap i1 l1 n1) (g2:k2.it s.heap i2 l2 n2) (gx:k1.sq s.heap l1 xs) (gy:k2.sq s.heap l2 ys)
  (hx:xs[n1]?=Dn x) (hy:ys[n2]?=Dn y)
  (q:∀ h',IsZip h' z TI TO (NK s.heap.objs.size)->PL h' TO x y->k1.it h' i1 l1 (n1+1)->k2.it h' i2 l2 (n2+1)->PL h' s.heap.objs.size x y->h'.objs.size=s.heap.objs.size+1 ->
   (∀ c o,c≠z->c≠TO->c≠i1->c≠i2->s.heap.get? c=Dn o->h'.get? c=Dn o)->Q (Dn (.ref s.heap.objs.size)) { s with heap:=h' }) :
  Bm (CN P w) A (Q6 (.ref z)) Q E s:=by
 have gT:s.TypeIs (.ref z) "zip":=⟨_,gz,rfl⟩
 unfold Q6;refine Al<|Rg<|UG (name:=Rb "__next__") gT Xj<|Rm Xj gT PySem.F.entry_zip_next ?_<|PySem.F.args_zip_next_1 _
 show Bm _ _ (field (.ref z) 2 >>= _) _ _ _;refine Al<|Kc gz rfl (x:=.bool false) rfl ?_
 show Bm _ _ (field (.ref z) 3 >>= _) _ _ _;refine Al<|Kc gz rfl (x:=.ref TI) rfl ?_
 refine Al<|Vb gI rfl ?_
 show Bm _ _ (YH (.ref z) >>= _) _ _ _;refine Al ?_;unfold YH;refine Al<|Kc gz rfl (x:=.none) rfl<|Ck ?_
 simp only [if_true];refine Al<|VF ?_
 refine Al<|Kc gz rfl (x:=.ref TO) rfl ?_
 refine Al<|Wj gz (by simp) fun h₁ z₁ s₁=>?_
 replace z₁ : IsZip h₁ z TI TO .ellipsis:=z₁;refine Al ?_;simp only [List.zipIdx_cons,List.zipIdx_nil,WD,X5]
 -- the first one
 refine Al<|Al<|wpAny_onRaise ?_
 show Bm _ _ (Rj (.ref i1) >>= _) _ _ _;refine Al<|Sk.next (k:=k1) (s:={ s with heap:=h₁ }) (Sk.it_at g1 fun o e=>s₁.extBut _ o D.a3 e) (Sk.sq_at gx fun o e=>s₁.extBut _ o o1.z e) hx fun h₂ g1₂ s₂=>Ck ?_
 have gO₂ : PL h₂ TO a b:=s₂.extBut _ _ D.a8 (s₁.extBut _ _ D.a2 gO);refine Al<|Vb gO₂ rfl ?_
 refine Al<|wpAny_updateSeq_pair gO₂ fun h₃ gO₃ s₃=>?_
 replace gO₃ : PL h₃ TO x b:=gO₃;refine Al<|wpAny_letGo<|Ck ?_
 -- the second one
 refine Al<|Al<|wpAny_onRaise ?_
 show Bm _ _ (Rj (.ref i2) >>= _) _ _ _;refine Al (Sk.next (k:=k2) (s:={ s with heap:=h₃ }) (Sk.it_at g2 fun o e=>s₃.extBut _ o D.a9.symm (s₂.extBut _ o D.b1.symm (s₁.extBut _ o D.a4 e)))
  (Sk.sq_at gy fun o e=>s₃.extBut _ o o2.o (s₂.extBut _ o o2.i (s₁.extBut _ o o2.z e))) hy fun h₄ g2₄ s₄=>Ck ?_)
 have gO₄ : PL h₄ TO x b:=s₄.extBut _ _ D.a9 gO₃;refine Al<|Vb gO₄ rfl ?_
 refine Al<|wpAny_updateSeq_pair gO₄ fun h₅ gO₅ s₅=>?_
 replace gO₅ : PL h₅ TO x y:=gO₅;refine Al<|wpAny_letGo<|Ck<|Ck ?_
 -- the pair is handed out
 refine Al<|Vb gO₅ rfl ?_
 refine Al<|wpAny_newTuple ?_
 have size:h₅.objs.size=s.heap.objs.size:=by rw [s₅.1,s₄.1,s₃.1,s₂.1,s₁.1]
 have z₅ : IsZip h₅ z TI TO .ellipsis:=s₅.extBut _ _ D.a2.symm (s₄.extBut _ _ D.a4.symm (s₃.extBut _ _ D.a2.symm (s₂.extBut _ _ D.a3.symm z₁)));have all₅ : ∀ c o,c≠z->c≠TO->c≠i1->c≠i2->s.heap.get? c=Dn o->h₅.get? c=Dn o:=fun c o c1 c2 c3 c4 e=>s₅.extBut _ _ c2 (s₄.extBut _ _ c4 (s₃.extBut _ _ c2 (s₂.extBut _ _ c3 (s₁.extBut _ _ c1 e))))
 have g1₅ : k1.it h₅ i1 l1 (n1+1):=Sk.it_at g1₂ fun o e=>s₅.extBut _ o D.a8.symm (s₄.extBut _ o D.b1 (s₃.extBut _ o D.a8.symm e))
 have g2₅ : k2.it h₅ i2 l2 (n2+1):=Sk.it_at g2₄ fun o e=>s₅.extBut _ o D.a9.symm e
 have zlt:z<h₅.objs.size:=Hx z₅;show Bm _ _ (Builtin.SmallTypes.ownedTupleHandOut (.ref z) (.ref h₅.objs.size) >>= _) _ _ _;refine Al ?_;unfold Builtin.SmallTypes.ownedTupleHandOut;have z₆ : IsZip (h₅.push { cls:=.type "tuple",data:=.seq #[x,y] }) z TI TO .ellipsis:=IV _ z₅;refine Al<|Wj z₆ (by simp) fun h₇ z₇ s₇=>?_
 replace z₇ : IsZip h₇ z TI TO (NK h₅.objs.size):=z₇;refine Wj z₇ (by simp) fun h₈ z₈ s₈=>?_;replace z₈ : IsZip h₈ z TI TO (NK h₅.objs.size):=z₈;have up:∀ c o,c≠z->h₅.get? c=Dn o->h₈.get? c=Dn o:=fun c o c1 e=>s₈.extBut _ _ c1 (s₇.extBut _ _ c1 (IV _ e))
 have T₈ : PL h₈ h₅.objs.size x y:=s₈.extBut _ _ (QX zlt) (s₇.extBut _ _ (QX zlt) (Kg _ rfl));have size8:h₈.objs.size=h₅.objs.size+1:=by rw [s₈.1,s₇.1,Qd]
 rw [size] at z₈ T₈ size8;refine Ck ⟨_,rfl,Ck ?_⟩;show Q (Dn (.ref h₅.objs.size)) _;rw [size];exact q h₈ z₈ (up _ _ D.a2 gO₅) (Sk.it_at g1₅ fun o e=>up _ o D.a3 e) (Sk.it_at g2₅ fun o e=>up _ o D.a4 e) T₈ size8 fun c o c1 c2 c3 c4 e=>up c o c1<|all₅ c o c1 c2 c3 c4 e
theorem ahr {z TI TO i1 i2 l1 l2:Addr}{n1 n2:Nat}{xs ys:Array Mk}{a b:Mk}{Q:Option Mk->Af->Prop}(hh:A.handled=JI)(D:Zap z TI TO i1 i2)(o1:Off l1 z TO i1 i2)(o2:Off l2 z TO i1 i2)
  (gz:IsZip s.heap z TI TO .none) (gI:PL s.heap TI (.ref i1) (.ref i2)) (gO:PL s.heap TO a b) (g1:k1.it s.heap i1 l1 n1) (g2:k2.it s.heap i2 l2 n2) (gx:k1.sq s.heap l1 xs) (gy:k2.sq s.heap l2 ys)
  (hend:xs[n1]?=JI\/ys[n2]?=JI)
  (q:∀ h',(∀ c o,c≠z->c≠TO->c≠i1->c≠i2->s.heap.get? c=Dn o->h'.get? c=Dn o)->Q JI { s with heap:=h' }):Bm (CN P w) A (Q6 (.ref z)) Q E s:=by
 have gT:s.TypeIs (.ref z) "zip":=⟨_,gz,rfl⟩
 have fin:∀ (h':Heap) (e:Addr),(∀ c o,c≠z->c≠TO->c≠i1->c≠i2->s.heap.get? c=Dn o->h'.get? c=Dn o)->(∃ o,h'.get? e=Dn o/\o.cls=.type "StopIteration") ->
   Bm (CN P w) A (do if <-VD (.ref e) (.type "StopIteration") then pure JI else throw (.ref e)) Q E { s with heap:=h' }:=fun h' e all ⟨o,ho,hc⟩=>
  Al (wpAny_isInstance (T := "StopIteration") (b:=true) ⟨o,ho,hc⟩ isSubtype_stop (Ck (q _ all)))
 unfold Q6;refine Al<|Rg<|UG (name:=Rb "__next__") gT Xj<|Rm Xj gT PySem.F.entry_zip_next ?_<|PySem.F.args_zip_next_1 _
 show Bm _ _ (field (.ref z) 2 >>= _) _ _ _;refine Al<|Kc gz rfl (x:=.bool false) rfl ?_
 show Bm _ _ (field (.ref z) 3 >>= _) _ _ _;refine Al<|Kc gz rfl (x:=.ref TI) rfl ?_
 refine Al<|Vb gI rfl ?_
 show Bm _ _ (YH (.ref z) >>= _) _ _ _;refine Al ?_;unfold YH;refine Al<|Kc gz rfl (x:=.none) rfl<|Ck ?_
 simp only [if_true];refine Al<|VF ?_
 refine Al<|Kc gz rfl (x:=.ref TO) rfl ?_
 refine Al<|Wj gz (by simp) fun h₁ z₁ s₁=>?_
 replace z₁ : IsZip h₁ z TI TO .ellipsis:=z₁;refine Al ?_;simp only [List.zipIdx_cons,List.zipIdx_nil,WD,X5];refine Al<|Al<|wpAny_onRaise ?_
 show Bm _ _ (Rj (.ref i1) >>= _) _ _ _;have g1₁ : k1.it h₁ i1 l1 n1:=Sk.it_at g1 fun o e=>s₁.extBut _ o D.a3 e
 have gx₁ : k1.sq h₁ l1 xs:=Sk.sq_at gx fun o e=>s₁.extBut _ o o1.z e
 cases hx:xs[n1]? with
 | none=>
  refine Al<|Sk.stop (k:=k1) (s:={ s with heap:=h₁ }) hh g1₁ gx₁ hx fun h₂ e s₂ he=>?_
  obtain ⟨oe,hoe,hce⟩:=he;have z₂ : IsZip h₂ z TI TO .ellipsis:=s₂ _ _ D.a3.symm z₁;have ez:e≠z:=fun y=>by subst y;rw [z₂] at hoe;cases hoe;simp at hce
  refine Wj z₂ (by simp) fun h₃ _ s₃=>fin h₃ e (fun c o c1 _ c3 _ y=>s₃.extBut _ _ c1<|s₂ _ _ c3<|s₁.extBut _ _ c1 y) ⟨oe,s₃.extBut _ _ ez hoe,hce⟩
 | some x=>
  have hy:ys[n2]?=JI:=by
   rcases hend with h | h
   ·rw [hx] at h;cases h
   ·exact h
  refine Al<|Sk.next (k:=k1) (s:={ s with heap:=h₁ }) g1₁ gx₁ hx fun h₂ g1₂ s₂=>Ck ?_
  have gO₂ : PL h₂ TO a b:=s₂.extBut _ _ D.a8 (s₁.extBut _ _ D.a2 gO);refine Al<|Vb gO₂ rfl ?_
  refine Al<|wpAny_updateSeq_pair gO₂ fun h₃ gO₃ s₃=>?_
  refine Al<|wpAny_letGo<|Ck ?_
  refine Al<|Al<|wpAny_onRaise ?_
  show Bm _ _ (Rj (.ref i2) >>= _) _ _ _;refine Al (Sk.stop (k:=k2) (s:={ s with heap:=h₃ }) hh (Sk.it_at g2 fun o e=>s₃.extBut _ o D.a9.symm (s₂.extBut _ o D.b1.symm (s₁.extBut _ o D.a4 e)))
   (Sk.sq_at gy fun o e=>s₃.extBut _ o o2.o (s₂.extBut _ o o2.i (s₁.extBut _ o o2.z e))) hy fun h₄ e s₄ he=>?_)
  obtain ⟨oe,hoe,hce⟩:=he;have z₄ : IsZip h₄ z TI TO .ellipsis:=s₄ _ _ D.a4.symm (s₃.extBut _ _ D.a2.symm (s₂.extBut _ _ D.a3.symm z₁));have ez:e≠z:=fun y=>by subst y;rw [z₄] at hoe;cases hoe;simp at hce
  refine Wj z₄ (by simp) fun h₅ _ s₅=>fin h₅ e (fun c o c1 c2 c3 c4 y=>s₅.extBut _ _ c1<|s₄ _ _ c4<|s₃.extBut _ _ c2<|s₂.extBut _ _ c3<|s₁.extBut _ _ c1 y) ⟨oe,s₅.extBut _ _ ez hoe,hce⟩
abbrev zh1 (k1:Sk)(h:Heap)(l1:Addr):Heap:=h.push { cls:=.type k1.nm,data:=.fields #[.ref l1,.int 0 0] }
abbrev zh2 (k1 k2:Sk)(h:Heap)(l1 l2:Addr):Heap:=(zh1 k1 h l1).push { cls:=.type k2.nm,data:=.fields #[.ref l2,.int 0 0] }
abbrev zh3 (k1 k2:Sk)(h:Heap)(l1 l2:Addr):Heap:=(zh2 k1 k2 h l1 l2).push { cls:=.type "tuple",data:=.seq #[.ref h.objs.size,.ref (zh1 k1 h l1).objs.size] }
abbrev zh4 (k1 k2:Sk)(h:Heap)(l1 l2:Addr):Heap:=(zh3 k1 k2 h l1 l2).push { cls:=.type "tuple",data:=.seq #[.none,.none] }
abbrev zh5 (k1 k2:Sk)(h:Heap)(l1 l2:Addr):Heap:=(zh4 k1 k2 h l1 l2).push { cls:=.type "zip",data:=.fields #[.none,.bool false,.bool false,.ref (zh2 k1 k2 h l1 l2).objs.size,.ref (zh3 k1 k2 h l1 l2).objs.size] }
theorem ajh (l1 l2:Addr)(xs ys:Array Mk):Meets (Qx.«zip.__new__» ⟨[.type "zip",.ref l1,.ref l2],[]⟩) (fun _ R s=>k1.sq s.heap l1 xs/\k2.sq s.heap l2 ys /\
   R (.ok (.ret (.ref (zh4 k1 k2 s.heap l1 l2).objs.size))) { s with heap:=zh5 k1 k2 s.heap l1 l2 }):=
 .of_wp fun prog w A R s h=>by
  obtain ⟨hp,g,d,tk,os⟩:=s;obtain ⟨gl1,gl2,h⟩:=h;have hsub:=sub_zip;have L1:k1.sq (Shared.heap ⟨hp,g,d,tk,os⟩) l1 xs:=gl1;have L2':k2.sq (Shared.heap ⟨hp.push { cls:=.type k1.nm,data:=.fields #[.ref l1,.int 0 0] },g,d,tk,os⟩) l2 ys:=Sk.sq_at gl2 fun o e=>IV _ e
  wp_walk using Sk.iter L1,Sk.iter L2'
  exact ⟨_,rfl,h⟩
theorem ajM {l1 l2:Addr}{xs ys:Array Mk}{Q:Mk->Af->Prop}(gl1:k1.sq s.heap l1 xs)(gl2:k2.sq s.heap l2 ys)
  (q:∀ h',IsZip h' (s.heap.objs.size+4) (s.heap.objs.size+2) (s.heap.objs.size+3) .none->PL h' (s.heap.objs.size+2) (.ref s.heap.objs.size) (.ref (s.heap.objs.size+1)) ->
   PL h' (s.heap.objs.size+3) .none .none->k1.it h' s.heap.objs.size l1 0->k2.it h' (s.heap.objs.size+1) l2 0->h'.objs.size=s.heap.objs.size+5 ->
   (∀ c o,s.heap.get? c=Dn o->h'.get? c=Dn o)->Q (.ref (s.heap.objs.size+4)) { s with heap:=h' }):Bm (CN P w) A (call (.type "zip") [.ref l1,.ref l2]) Q E s:=by
 refine callType_new PySem.F.called_zip (by decide) (PySem.F.typeCall_zip_2 _ _) (PySem.F.newCall_zip_2 _ _) (fun obj=>PySem.F.args_object_init_3 obj _ _) PySem.F.entry_zip_new (ajh (k1:=k1) (k2:=k2) l1 l2 xs ys) ⟨gl1,gl2,?_⟩;have e1:(zh1 k1 s.heap l1).objs.size=s.heap.objs.size+1:=Qd ..;have e2:(zh2 k1 k2 s.heap l1 l2).objs.size=s.heap.objs.size+2:=by rw [Qd,e1]
 have e3:(zh3 k1 k2 s.heap l1 l2).objs.size=s.heap.objs.size+3:=by rw [Qd,e2]
 have e4:(zh4 k1 k2 s.heap l1 l2).objs.size=s.heap.objs.size+4:=by rw [Qd,e3]
 have e5:(zh5 k1 k2 s.heap l1 l2).objs.size=s.heap.objs.size+5:=by rw [Qd,e4]
 have f5:(zh5 k1 k2 s.heap l1 l2).get? (zh4 k1 k2 s.heap l1 l2).objs.size=Dn _:=Kg _ rfl;have f4:(zh5 k1 k2 s.heap l1 l2).get? (zh3 k1 k2 s.heap l1 l2).objs.size=Dn _:=IV _ (Kg _ rfl);have f3:(zh5 k1 k2 s.heap l1 l2).get? (zh2 k1 k2 s.heap l1 l2).objs.size=Dn _:=IV _ (IV _ (Kg _ rfl));have f2:(zh5 k1 k2 s.heap l1 l2).get? (zh1 k1 s.heap l1).objs.size=Dn _:=IV _ (IV _ (IV _ (Kg _ rfl)));have f1:(zh5 k1 k2 s.heap l1 l2).get? s.heap.objs.size=Dn _:=IV _ (IV _ (IV _ (IV _ (Kg _ rfl))));show _/\_;rw [e2,e3,e4] at f5;rw [e1,e2] at f3;rw [e3] at f4;rw [e1] at f2;rw [e4];refine ⟨⟨_,f5,rfl⟩,q _ f5 f3 f4 ?_ ?_ e5 fun c o x=>IV _<|IV _<|IV _<|IV _<|IV _ x⟩
 ·cases k1 with
  | l=>exact ⟨_,f1,rfl,rfl⟩
  | t=>exact ⟨_,f1,rfl,rfl⟩
 ·cases k2 with
  | l=>exact ⟨_,f2,rfl,rfl⟩
  | t=>exact ⟨_,f2,rfl,rfl⟩
end
section
variable {X:Cx}{alP:List (Addr×Obj)}{σ : St}{H:Hp}{s:Af}{h':Heap}
theorem BR.turnedL {t':Nat}{ch:List Addr}(I:BR X alP σ H s)(k:∀ b o,b∉ch->s.heap.get? b=Dn o->h'.get? b=Dn o)(hf:∀ b∈ch,Ju X alP H b):BR X alP σ H { s with heap:=h',toks:=t' }:=by
 have nit:∀ b u,H b=Dn u->b∉ch:=fun b u e z=>by rw [(hf b z).1] at e;cases e
 refine I.step (g':=s.gens) (d':=s.drawn) (ch:=ch) (fun b hb=>?_) (fun b o _ _ hc e _=>k b o hc e) (fun b o _ _ hc e _=>⟨o.slots,k b o hc e⟩) (fun _ _ _ _ n=>n)
  (fun b o hc e=>⟨o,k b o hc e⟩) (fun _ _ e=>e) (fun _ _ _ e=>e) (fun b ps e=>⟨#[],by rw [e];simp⟩) (fun m hm=>?_) (fun b u e=>?_) I.bare
 ·obtain ⟨_,f1,_,f3,f4,f5⟩:=hf b hb;exact ⟨f3,f1,f4,f5⟩
 ·obtain ⟨o,es,ep,ho,r⟩:=hm;exact ⟨o,es,ep,k _ o (fun z=>(hf _ z).2.1 rfl) ho,r⟩
 ·refine (I.hok b u e).stay (fun c v hc q=>k c v ?_ q) (fun _ q=>q) fun _ _ q=>q;rcases hc with z | z
  ·rw [z];exact nit b u e
  ·exact nit c _ z
end
def Sk.v (k:Sk)(K:Bl)(H:Hp)(a:Addr)(xs:List V):Prop:=match k with
 | .l=>JR K H a xs
 | .t=>Jh K H a xs
theorem BR.sk {X:Cx}{alP:List (Addr×Obj)}{σ : St}{H:Hp}{s:Af}{k:Sk}{a:Addr}{xs:List V}(I:BR X alP σ H s)(h:k.v X.K H a xs):∃ its:List Mk,Bp xs its/\k.sq s.heap a its.toArray:=by
 cases k with
 | l=>obtain ⟨its,r,p,_⟩:=I.list h;exact ⟨its,r,p.isList⟩
 | t=>obtain ⟨its,r,p,_⟩:=I.tuple h;exact ⟨its,r,p⟩
theorem BR.sk_inj {X:Cx}{alP:List (Addr×Obj)}{σ : St}{H:Hp}{s:Af}{k:Sk}{a:Addr}{xs ys:List V}(I:BR X alP σ H s)(h:k.v X.K H a xs)(g:k.v X.K H a ys):xs=ys:=by
 cases k with
 | l=>exact I.list_inj h g
 | t=>exact I.tuple_inj h g
def Itz (K:Bl)(k1 k2:Sk)(l1 l2:Addr):It:=
  ⟨fun i H=>∃ xs ys x y,k1.v K H l1 xs/\k2.v K H l2 ys/\xs[i]?=Dn x/\ys[i]?=Dn y,
   fun i H v H'=>∃ p x y,H p=JI/\v=.ref p/\H'=Dv H p (.tup [x,y])/\(∀ xs,k1.v K H l1 xs->xs[i]?=Dn x)/\∀ ys,k2.v K H l2 ys->ys[i]?=Dn y,
   fun i H=>∃ xs ys,k1.v K H l1 xs/\k2.v K H l2 ys/\(xs.length<=i\/ys.length<=i),true⟩
def aei (k1 k2:Sk)(z TI TO i1 i2 l1 l2:Addr)(n:Nat)(h:Heap):Prop:=IsZip h z TI TO .none/\PL h TI (.ref i1) (.ref i2)/\(∃ a b,PL h TO a b)/\k1.it h i1 l1 n/\k2.it h i2 l2 n
variable {elts : List Expr}
theorem ahI {P:Dz}{w:Cw}{K:Bl}{pos:Pos}{k1 k2:Sk}{z TI TO i1 i2 l1 l2:Addr}(D:Zap z TI TO i1 i2)(o1:Off l1 z TO i1 i2)(o2:Off l2 z TO i1 i2):
  Turn P w K (.Tuple elts kt pos) (Itz K k1 k2 l1 l2) [z,TI,TO,i1,i2] z (aei k1 k2 z TI TO i1 i2 l1 l2) where
 mem:=by simp
 obj:=fun i h st b hb=>by
  obtain ⟨gz,gI,⟨a,b',gO⟩,g1,g2⟩:=st;simp only [JN,O7,or_false] at hb;rcases hb with rfl | rfl | rfl | rfl | rfl
  ·exact ⟨_,gz,fun v y=>by cases y⟩
  ·exact ⟨_,gI,fun v y=>by cases y⟩
  ·exact ⟨_,gO,fun v y=>by cases y⟩
  ·obtain ⟨o,e,_,d⟩:=Sk.it_obj g1;exact ⟨o,e,fun v y=>by rw [d] at y;cases y⟩
  ·obtain ⟨o,e,_,d⟩:=Sk.it_obj g2;exact ⟨o,e,fun v y=>by rw [d] at y;cases y⟩
 keep:=fun i h h' st k=>by
  obtain ⟨gz,gI,⟨a,b,gO⟩,g1,g2⟩:=st;exact ⟨k z (by simp) _ gz,k TI (by simp) _ gI,⟨a,b,k TO (by simp) _ gO⟩,Sk.it_at g1 fun o e=>k i1 (by simp) o e,Sk.it_at g2 fun o e=>k i2 (by simp) o e⟩
 item:=by
  intro X hP hw hK hc i alP s σ H E I hf st hg;subst hP hw hK;obtain ⟨gz,gI,⟨a,b,gO⟩,g1,g2⟩:=st;obtain ⟨xs,ys,x,y,hx,hy,ex,ey⟩:=hg;obtain ⟨its,r1,p1⟩:=I.sk hx;obtain ⟨jts,r2,p2⟩:=I.sk hy;obtain ⟨u,hu,ru⟩:=r1.get ex;obtain ⟨v,hv,rv⟩:=r2.get ey;refine agW D o1 o2 gz gI gO g1 g2 p1 p2 (x:=u) (y:=v) (by simpa using hu) (by simpa using hv) fun h1 z1 O1 g1' g2' T1 size1 all1=>⟨_,rfl,?_⟩;have pz:s.heap.objs.size≠z:=QX (Hx gz);have lt:∀ b∈[z,TI,TO,i1,i2],s.heap.objs.size≠b:=fun b hb=>by
   simp only [JN,O7,or_false] at hb;rcases hb with rfl | rfl | rfl | rfl | rfl
   ·exact pz
   ·exact QX<|Hx gI
   ·exact QX<|Hx gO
   ·obtain ⟨o,e,_⟩:=Sk.it_obj g1;exact QX (Hx e)
   ·obtain ⟨o,e,_⟩:=Sk.it_obj g2;exact QX (Hx e)
  have all:∀ c o,c∉[z,TI,TO,i1,i2]->s.heap.get? c=Dn o->h1.get? c=Dn o:=fun c o hc e=>
   all1 c o (fun q=>hc (by simp [q])) (fun q=>hc (by simp [q])) (fun q=>hc (by simp [q])) (fun q=>hc (by simp [q])) e
  refine wpAny_letOwnedTupleGo_zip (s:={ s with heap:=h1 }) z1 fun h2 z2 sb=>?_;have fr:H s.heap.objs.size=JI:=I.hok.fresh (Ig _);have I1:BR X alP σ (Dv H s.heap.objs.size (.tup [x,y])) { s with heap:=s.heap.push { cls:=.type "tuple",data:=.seq #[u,v] } }:=
   I.laid (t':=s.toks) (fun b o e=>IV _ e) (Ig _) ⟨(by show 2<=Ht;decide),[u,v],.cons ru (.cons rv .nil),⟨_,Kg _ rfl,rfl,⟨_,rfl⟩,rfl⟩⟩
  have hf1:∀ b∈[z,TI,TO,i1,i2],Ju X alP (Dv H s.heap.objs.size (.tup [x,y])) b:=fun b hb=>⟨by rw [aJ (Jo (lt b hb))];exact (hf b hb).1,(hf b hb).2⟩
  have I2:BR X alP σ (Dv H s.heap.objs.size (.tup [x,y])) { s with heap:=h2 }:=by
   refine BR.turnedL (s:={ s with heap:=s.heap.push { cls:=.type "tuple",data:=.seq #[u,v] } }) (h':=h2) (t':=s.toks) (ch:=[z,TI,TO,i1,i2]) I1 (fun b o hb e=>?_) hf1;have bz:b≠z:=fun q=>hb (by simp [q])
   rcases Heap.get?_push_cases e with ⟨rfl,rfl⟩ | e'
   ·exact sb.extBut _ _ bz T1
   ·exact sb.extBut _ _ bz<|all b o hb e'
  refine ⟨.ref s.heap.objs.size,_,I2,rfl,⟨s.heap.objs.size,x,y,fr,rfl,rfl,fun xs' q=>by rw [I.sk_inj q hx];exact ex,fun ys' q=>by rw [I.sk_inj q hy];exact ey⟩,?_,fun b hb=>(hf1 b hb).1⟩;exact ⟨z2,sb.extBut _ _ D.a1<|all1 _ _ D.a1 D.a5 D.a6 D.a7 gI,⟨u,v,sb.extBut _ _ D.a2 O1⟩,Sk.it_at g1' fun o e=>sb.extBut _ o D.a3 e,Sk.it_at g2' fun o e=>sb.extBut _ o D.a4 e⟩
 done:=by
  intro X hP hw hK hc i alP s σ H E I hf st hg;subst hP hw hK;obtain ⟨gz,gI,⟨a,b,gO⟩,g1,g2⟩:=st;obtain ⟨xs,ys,hx,hy,hend⟩:=hg;obtain ⟨its,r1,p1⟩:=I.sk hx;obtain ⟨jts,r2,p2⟩:=I.sk hy;have l1:=r1.length;have l2:=r2.length;refine ahr (I.ok.hd<|hc rfl) D o1 o2 gz gI gO g1 g2 p1 p2 (hend.imp (fun q=>by simp;lia) fun q=>by simp;lia) fun h1 all1=>⟨rfl,I.turnedL (t':=s.toks) (ch:=[z,TI,TO,i1,i2]) (fun c o hc e=>?_) hf⟩;exact all1 c o (fun q=>hc<|by simp [q]) (fun q=>hc<|by simp [q]) (fun q=>hc<|by simp [q]) (fun q=>hc<|by simp [q]) e
 self:=fun _ _ _ _ _ st h=>wpAny_pyIter_zip st.1 h
section
variable {X:Cx}{K:Bl}
def sqk (K:Bl)(H:Hp)(x:V)(k:Sk)(a:Addr):Prop:=x=.ref a/\∃ xs,k.v K H a xs
def afI (K:Bl)(ta:TA):TI:=fun σ H R=>ta σ H fun vs H1=>∃ x y k1 k2 a b,vs=[x,y]/\sqk K H1 x k1 a/\sqk K H1 y k2 b/\R (Itz K k1 k2 a b) H1
theorem Sk.sq_lt {k:Sk}{h:Heap}{a:Addr}{its:Array Mk}(x:k.sq h a its):a<h.objs.size:=by
 cases k with
 | l=>obtain ⟨o,e,_⟩:=x;exact Hx e
 | t=>obtain ⟨o,e,_⟩:=x;exact Hx e
theorem nU {a b:Nat}(h:a≠b):(show Addr from a)≠(show Addr from b):=h
theorem aaF (n:Nat):Zap (n+4) (n+2) (n+3) n (n+1) where
 a1:=nU (show n+2≠n+4 by lia)
 a2:=nU (show n+3≠n+4 by lia)
 a3:=nU (show n≠n+4 by lia)
 a4:=nU (show n+1≠n+4 by lia)
 a5:=nU (show n+2≠n+3 by lia)
 a6:=nU (show n+2≠n by lia)
 a7:=nU (show n+2≠n+1 by lia)
 a8:=nU (show n+3≠n by lia)
 a9:=nU (show n+3≠n+1 by lia)
 b1:=nU (show n≠n+1 by lia)
theorem Tq {a n:Nat}(h:a<n):Off a (n+4) (n+3) n (n+1) where
 z:=nU (show a≠n+4 by lia)
 o:=nU (show a≠n+3 by lia)
 i:=nU (show a≠n by lia)
 j:=nU (show a≠n+1 by lia)
theorem aew {n c:Nat}(h:c∈([n+4,n+2,n+3,n,n+1]:List Nat)):n<=c:=by
 simp only [JN,O7,or_false] at h;lia
theorem Z5 {e1 e2:Expr}{ta:TA}{p pos tpos:Pos}(hg:Gl X "zip")(hm:X.mg "zip" = JI)(ha:PA X [e1,e2] ta)
  (hs:Cy [e1,e2] X.env=(false,eval e1 X.env)::Cy [e2] X.env:=by rfl) (hpl:(Jd pos (Cy [e2] X.env)).any (·.1)=false:=by rfl) :
  PI X (.Tuple elts kt tpos) (.Call (.Name "zip" p) [e1,e2] [] pos) (afI X.K ta):=by
 intro alP s σ H R I h;refine VN<|sW I hg hm boot_zip ?_ (by decide)<|by decide
 refine Xi (HJ (ha pos alP s σ H _ I h) fun us s1 ⟨vs,H1,I1,r1,q1⟩=>?_) hs hpl;obtain ⟨x,y,k1,k2,a,b,ev,⟨ex,xs,hx⟩,⟨ey,ys,hy⟩,q⟩:=q1;subst ev ex ey;obtain ⟨u1,u2,eu,ru1,ru2⟩:=vals2 r1;subst eu;cases ru1;cases ru2;obtain ⟨its,r1,p1⟩:=I1.sk hx;obtain ⟨jts,r2,p2⟩:=I1.sk hy;have la:=Sk.sq_lt p1;have lb:=Sk.sq_lt p2;refine ajM p1 p2 fun h' gz gI gO g1 g2 size all=>?_;refine wpAny_pyIter_zip gz ?_;have I2:BR X alP σ H1 { s1 with heap:=h' }:=I1.kept (t':=s1.toks) all;generalize hn:s1.heap.objs.size=n at gz gI gO g1 g2 size la lb |-
 refine ⟨n+4,[n+4,n+2,n+3,n,n+1],_,_,H1,rfl,I2,ahI (aaF n) (Tq la)<|Tq lb,⟨gz,gI,⟨_,_,gO⟩,g1,g2⟩,fun c hc=>?_,q⟩;have hc':n<=c:=aew hc;exact I1.fpOk (by rw [hn];exact hc')<|I1.hok.fresh (by rw [hn];exact hc')
def uw:List W->List W->List W
 | a::as,b::bs=>.tup [a,b]::uw as bs
 | _,_=>[]
theorem G8:∀ {as bs:List W} {i:Nat} {w:W},(uw as bs)[i]?=Dn w->∃ a b,as[i]?=Dn a/\bs[i]?=Dn b/\w=.tup [a,b]
 | [],_,_,_,e=>by simp [uw] at e
 | _::_,[],_,_,e=>by simp [uw] at e
 | a::as,b::bs,0,w,e=>by
  have e:Dn (W.tup [a,b])=Dn w:=e;exact ⟨a,b,rfl,rfl,(JD e).symm⟩
 | a::as,b::bs,i+1,w,e=>by
  obtain ⟨x,y,h1,h2,h3⟩:=G8 (as:=as) (bs:=bs) (i:=i) (w:=w) (by simpa [uw] using e);exact ⟨x,y,by simpa using h1,by simpa using h2,h3⟩
theorem Fb:∀ {as bs:List W},(uw as bs).length=min as.length bs.length
 | [],bs=>by simp [uw]
 | _::_,[]=>by simp [uw]
 | a::as,b::bs=>by rw [uw,Qy,Fb,Qy,Qy];lia
def tL:W->Option (List W)
 | .tup ws=>Dn ws
 | .lst ws=>Dn ws
 | .kls ws=>Dn ws
 | _=>JI
theorem Gz {H:Hp}{w:W}{v:V}(r:Aj K H μ w v)(e:tL w=Dn ws):∃ k a,v=.ref a/\∀ {H2:Hp} {μ2:Mu},Ip K H μ H2 μ2->∃ xs,Sk.v k K H2 a xs/\aM K H2 μ2 ws xs:=by
 cases w with
 | tup us=>
  cases (show Dn us=Dn ws from e)
  have r0:=r;rw [Aj] at r;obtain ⟨p,xs,ev,hs,rs⟩:=r;subst ev;refine ⟨.t,p,rfl,fun {H2 μ2} x=>?_⟩;have r2:=x.r _ _ r0;rw [Aj] at r2;obtain ⟨q,ys,ev,hs,rs⟩:=r2;cases ev;exact ⟨ys,hs,rs⟩
 | lst us=>
  cases (show Dn us=Dn ws from e)
  have r0:=r;rw [Aj] at r;obtain ⟨p,xs,ev,hs,rs⟩:=r;subst ev;refine ⟨.l,p,rfl,fun {H2 μ2} x=>?_⟩;have r2:=x.r _ _ r0;rw [Aj] at r2;obtain ⟨q,ys,ev,hs,rs⟩:=r2;cases ev;exact ⟨ys,hs.sq,rs⟩
 | kls us=>
  cases (show Dn us=Dn ws from e)
  have r0:=r;rw [Aj] at r;obtain ⟨p,xs,ev,hs,rs⟩:=r;subst ev;refine ⟨.l,p,rfl,fun {H2 μ2} x=>?_⟩;have r2:=x.r _ _ r0;rw [Aj] at r2;obtain ⟨q,ys,ev,hs,rs⟩:=r2;cases ev;exact ⟨ys,hs.sq,rs⟩
 | _=>cases e
def Ud (h:Gh)(x y:W):Option Src:=match tL x,tL y with
 | some as,Dn bs=>Dn ⟨uw as bs,JI⟩
 | none,Dn bs=>(match x with
  | .loc n=>(match h.c n with
   | some (.lst as)=>Dn ⟨uw as bs,Dn (n,as)⟩
   | _=>JI)
  | _=>JI)
 | _,_=>JI
theorem ajy {H:Hp}{h:Gh}{w:W}{v:V}{o:Option (Nat×List W)}(R:HD K μ H h)(r:Aj K H μ w v)(e:(tL w=Dn ws/\o=JI)\/∃ n,w=.loc n/\h.c n=Dn (.lst ws)/\o=Dn (n,ws)):
  ∃ k a,v=.ref a/\∀ {H2:Hp} {μ2:Mu} {h2:Gh},Ip K H μ H2 μ2->HD K μ2 H2 h2->Src.chk ⟨ws,o⟩ h2->∃ xs,Sk.v k K H2 a xs/\aM K H2 μ2 ws xs:=by
 rcases e with ⟨e,rfl⟩ | ⟨n,rfl,ec,rfl⟩
 ·obtain ⟨k,a,ev,f⟩:=Gz r e;exact ⟨k,a,ev,fun x _ _=>f x⟩
 ·have r0:=r;rw [Aj] at r;obtain ⟨p,ev,hm⟩:=r;subst ev;refine ⟨.l,p,rfl,fun {H2 μ2 h2} x R2 ck=>?_⟩;have r2:=x.r _ _ r0;rw [Aj] at r2;obtain ⟨q,eq,hm2⟩:=r2;cases eq;obtain ⟨p',xs,hm',hx,rs⟩:=R2.lstAt (show h2.c n=Dn (.lst ws) from ck);have ep:p'=p:=by rw [hm2] at hm';exact (JD hm').symm
  subst ep;exact ⟨xs,.of hx,rs⟩
theorem ajN {h:Gh}{x y:W}{s:Src}(e:Ud h x y=Dn s):∃ as bs o,s=⟨uw as bs,o⟩/\((tL x=Dn as/\o=JI)\/∃ n,x=.loc n/\h.c n=Dn (.lst as)/\o=Dn (n,as))/\tL y=Dn bs:=by
 unfold Ud at e;split at e
 ·rename_i as bs ea eb;exact ⟨as,bs,JI,(JD e).symm,.inl ⟨ea,rfl⟩,eb⟩
 ·rename_i bs ea eb;split at e
  ·split at e
   ·rename_i n _ as ec;exact ⟨as,bs,_,(JD e).symm,.inr ⟨n,rfl,ec,rfl⟩,eb⟩
   ·cases e
  ·cases e
 ·cases e
def acu (ma:MA):MI:=fun σ h R=>ma σ h fun ws h1=>match ws with
 | [x,y]=>(match Ud h1 x y with
  | some s=>R s h1
  | none=>False)
 | _=>False
theorem Ti {e1 e2:Expr}{p pos tpos:Pos}(hg:Gl X "zip")(hm:X.mg "zip" = JI)(ha:Jm X [e1,e2] mr)
  (hs:Cy [e1,e2] X.env=(false,eval e1 X.env)::Cy [e2] X.env:=by rfl) (hpl:(Jd pos (Cy [e2] X.env)).any (·.1)=false:=by rfl) :
  Qn X (.Tuple elts kt tpos) (.Call (.Name "zip" p) [e1,e2] [] pos) (acu mr):=PI.of (Z5 hg hm ha hs hpl) fun σ H Q ⟨μ,h,σw,Rw,R,S,m,k⟩=>by
 refine ⟨μ,h,σw,_,R,S,m,fun vs H1 ⟨μ1,ws,h1,e1,R1,r1,m1⟩=>?_⟩;split at m1
 ·split at m1
  ·rename_i x y _ s es;obtain ⟨as,bs,o,rfl,ea,eb⟩:=ajN es;obtain ⟨v,u,ev,rv,ru⟩:=PX r1;obtain ⟨ka,a,e3,fa⟩:=ajy R1 rv ea;obtain ⟨kb,b,e4,fb⟩:=Gz ru eb;have ck1:Src.chk ⟨as,o⟩ h1:=by
    rcases ea with ⟨_,rfl⟩ | ⟨n,_,ec,rfl⟩
    ·exact trivial
    ·exact ec
   obtain ⟨xs,hxs,_⟩:=fa .refl R1 ck1;obtain ⟨ys,hys,_⟩:=fb .refl;refine ⟨v,u,ka,kb,a,b,ev,⟨e3,xs,hxs⟩,⟨e4,ys,hys⟩,k _ _ ⟨μ1,⟨uw as bs,o⟩,h1,e1,R1,?_,m1⟩⟩;intro H2 μ2 h2 i e2 R2 ck;obtain ⟨xs2,hxs2,rxs⟩:=fa e2 R2 ck;obtain ⟨ys2,hys2,rys⟩:=fb e2;refine ⟨fun w ew=>?_,fun hl=>⟨xs2,ys2,hxs2,hys2,?_⟩⟩
   ·obtain ⟨p1,p2,ep1,ep2,rfl⟩:=G8 ew;obtain ⟨q1,eq1,rq1⟩:=rxs.get ep1;obtain ⟨q2,eq2,rq2⟩:=rys.get ep2;refine ⟨⟨xs2,ys2,q1,q2,hxs2,hys2,eq1,eq2⟩,fun x' H3 ⟨pa,x1,x2,hp,ex',eH3,f1,f2⟩=>?_⟩;have g1:=f1 xs2 hxs2;have g2:=f2 ys2 hys2;rw [eq1] at g1;rw [eq2] at g2;cases g1;cases g2;subst ex' eH3;exact ⟨μ2,(Ex.laid hp).ext,R2.laid hp,.tupNew hp<|.cons rq1<|.one rq2⟩
   ·have l1:=rxs.len;have l2:=rys.len;have:min as.length bs.length<=i:=by rw [<-Fb];exact hl
    lia
  ·exact m1.elim
 ·exact m1.elim
theorem yJ:∀ {ns:List Int} {its:List Mk} {i:Nat} {v:Mk},Bp (ns.map V.int) its->its[i]?=Dn v->∃ t,v=.int (ns.getD i 0) t
 | [],_,_,_,.nil,e=>by simp at e
 | n::ns,_,0,_,.cons r _,e=>by
  simp at e;subst e;exact r
 | _::ns,_,i+1,v,.cons _ t,e=>by
  obtain ⟨t',h⟩:=yJ (i:=i) (v:=v) t (by simpa using e);exact ⟨t',by simpa using h⟩
theorem uJ (ns:List Int):∀ k,k<=ns.length->preSum (fun i=>ns.getD i 0) k=(ns.take k).sum
 | 0,_=>by simp [preSum]
 | k+1,h=>by
  rw [preSum,uJ ns k (by lia),Nh,List.sum_append,Jx (by lia),Pr,Jx (by lia)];show _=_+(ns[k]+0);rw [Int.add_zero];rfl
theorem zbi (hc:X.calm=true):gM X (.builtin "sum") (fun xs H Q=>∃ (p:Addr) (ns:List Int),xs=[.ref p]/\JR X.K H p (ns.map V.int)/\Q (.int ns.sum) H):=by
 intro alP s σ H xs us Q I r ⟨p,ns,e,hS,q⟩;subst e;obtain ⟨u,rfl,ru⟩:=vals1 r;cases ru;obtain ⟨its,rv,pl,hz⟩:=I.list hS;have alQ:its.length=ns.length:=by rw [<-rv.length,Hu]
 have hl:=pl.isList;have hlt:p<s.heap.objs.size:=by obtain ⟨_,e,_⟩:=hl;exact Hx e
 refine call_sum_walkAnyS<|Wd hl ?_
 refine ⟨s.heap.objs.size,[s.heap.objs.size,p],[s.heap.objs.size],_,its.toArray.size,_,_,fun i=>ns.getD i 0,rfl,(Walks.list (A:=X.A.in1) (I.ok.hd hc) _ p (Ko hlt) its.toArray).toS,
  ⟨⟨_,Kg _ rfl,rfl,rfl⟩,hl.push _⟩,fun b hb=>?_,fun i v hP=>yJ rv (by simpa using hP),fun s' t' hm=>?_⟩
 ·rw [Qd];simp only [JN,O7,or_false] at hb;rcases hb with rfl | rfl
  ·exact Nat.lt_succ_self _
  ·exact Nat.lt_succ_of_lt hlt
 ·have e:preSum (fun i=>ns.getD i 0) its.toArray.size=ns.sum:=by rw [Jf,alQ,uJ ns _ (Ig _),OJ]
  rw [e];obtain ⟨hh,gg,dd,tt,oo⟩:=s';have hg:gg=s.gens:=hm.gens;have hd:dd=s.drawn:=hm.drawn;have ho:oo=s.os:=hm.os;subst hg hd ho;refine ⟨.int ns.sum,H,I.kept (h':=hh) (t':=tt)<|fun b x e=>?_,⟨t',rfl⟩,q⟩;exact hm.heap b x (fun hm=>by rw [Nz.mp hm] at e;exact Pa _ (Hx e))<|IV _ e
def Ii:List W->Option (List Int)
 | []=>Dn []
 | .int i::ws=>(Ii ws).map (i::·)
 | _=>JI
theorem Ez {H:Hp}{μ : Mu}:∀ {ws:List W} {xs:List V} {ns:List Int},aM K H μ ws xs->Ii ws=Dn ns->xs=ns.map V.int
 | [],xs,ns,r,e=>by
  rw [aM] at r;cases (show Dn []=Dn ns from e)
  exact r
 | w::ws,xs,ns,r,e=>by
  rw [aM] at r;obtain ⟨v,vr,ev,ra,r⟩:=r;cases w with
  | int b=>
   rw [Aj] at ra;rw [Ii] at e;cases q:Ii ws with
   | none=>rw [q] at e;cases e
   | some cs=>
    rw [q] at e;cases (show Dn (b::cs)=Dn ns from e)
    rw [ev,ra,Ez r q];rfl
  | _=>cases e
def YD:MC:=fun ws h Q=>match ws with
 | [w]=>(match cZ h w with
  | some us=>(match Ii us with
   | some ns=>Q (.int ns.sum) h
   | none=>False)
  | none=>False)
 | _=>False
theorem Zx (hc:X.calm=true):kE X (.builtin "sum") YD:=⟨_,zbi hc,by
 intro H μ h vs ws Qw Q R r m k;unfold YD at m;split at m
 ·split at m
  ·split at m
   ·rename_i w _ us ev _ ns eb;obtain ⟨v,e,rv⟩:=kJ r;obtain ⟨p,ys,ex,hs,rs⟩:=cB R rv ev;subst e ex;exact ⟨p,ns,rfl,by rw [<-Ez rs eb];exact hs,k _ _<|.int R m⟩
   ·exact m.elim
  ·exact m.elim
 ·exact m.elim⟩
end
theorem Fx:Manifest.owners.lookup (String.ofList ['d','e','s','r','e','v','e','r'].reverse)=Dn Manifest.sig_reversed:=by kernel_rfl
theorem Uo:mroOf (.type "reversed")=pure [.type "reversed",.type "object"]:=by
 rw [mroOf_type]
 kernel_rfl
theorem abw:typeLookup (.type "reversed") "__new__" = pure (Dn (.builtin "reversed.__new__")):=by
 rw [X3,XJ]
 kernel_rfl
theorem dU:Slot "reversed" "__next__" "reversed.__next__":=
  .of (owner := "reversed") (n := "__next__")
    (by rw [X3,XJ]
        kernel_rfl)
    (by decide +kernel) (by decide +kernel)
    (by decide +kernel)
    (by first
        | exact .inl (by decide +kernel)
        | exact .inr (by decide +kernel))
    (by rw [WX]
        kernel_rfl)
theorem nC:entryFor table "reversed.__next__" = Dn Qx.«reversed.__next__»:=entryFor_of_tree (by kernel_rfl)
theorem pU (a:Mk):argsOk "reversed.__next__" ⟨[a],[]⟩:=by
 unfold argsOk;rw [signature?_of (id := "reversed.__next__") (n:=['_','_','t','x','e','n','_','_']) (o:=['d','e','s','r','e','v','e','r']) (by kernel_rfl) Fx]
 kernel_rfl
theorem ql:Slot "reversed" "__iter__" "reversed.__iter__":=
  .of (owner := "reversed") (n := "__iter__")
    (by rw [X3,XJ]
        kernel_rfl)
    (by decide +kernel) (by decide +kernel)
    (by decide +kernel)
    (by first
        | exact .inl (by decide +kernel)
        | exact .inr (by decide +kernel))
    (by rw [WX]
        kernel_rfl)
theorem zW (a:Mk):argsOk "reversed.__iter__" ⟨[a],[]⟩:=by
 unfold argsOk;rw [signature?_of (id := "reversed.__iter__") (n:=['_','_','r','e','t','i','_','_']) (o:=['d','e','s','r','e','v','e','r']) (by kernel_rfl) Fx]
 kernel_rfl
theorem wW:entryFor table "reversed.__iter__" = Dn Qx.«dict_keyiterator.__iter__»:=
  entryFor_alias (id' := "dict_keyiterator.__iter__") (by kernel_rfl)
    (by first
        | rfl
        | decide +kernel
        | (unfold String.splitOn;simp +decide [String.splitOnAux]))
    (by decide +kernel) (by kernel_rfl)
theorem zag (a:Mk):checkTypeCall "reversed" ⟨[a],[]⟩=pure ():=by kernel_rfl
theorem zaG (a:Mk):checkBuiltinCall "reversed.__new__" ⟨[.type "reversed",a],[]⟩=pure ():=by kernel_rfl
theorem zB:entryFor table "reversed.__new__" = Dn Qx.«reversed.__new__»:=entryFor_of_tree (by kernel_rfl)
theorem abZ:isSubtype (.type "reversed") (.type "reversed")=pure true:=by
 rw [WX]
 kernel_rfl
theorem agr:typeLookup (.type "tuple") "__reversed__" = pure JI:=by
 rw [X3,XJ]
 kernel_rfl
theorem zan:isSubtype (.type "tuple") (.type "dict")=pure false:=by
 rw [WX]
 kernel_rfl
def Xf (l:Addr)(i:Int):Obj:={ cls:=.type "reversed",data:=.fields #[.ref l,NK i] }
def Nu (h:Heap)(a l:Addr)(i:Int):Prop:=∃ o,h.get? a=Dn o/\o.cls=.type "reversed"/\o.data=.fields #[.ref l,NK i]
section
variable {P:Dz}{w:Cw}{A:Dl}{E:Mk->Af->Prop}{s:Af}
theorem Nu.typeIs {a l:Addr}{i:Int}(x:Nu s.heap a l i):s.TypeIs (.ref a) "reversed":=let ⟨o,g,c,_⟩:=x;⟨o,g,c⟩
theorem Nu.at {h h':Heap}{a l:Addr}{i:Int}(x:Nu h a l i)(e:∀ o,h.get? a=Dn o->h'.get? a=Dn o):Nu h' a l i:=let ⟨o,g,r⟩:=x;⟨o,e _ g,r⟩
theorem zbm (a:Mk):Builtin.SmallTypes.newClass "reversed" ⟨[.type "reversed",a],[]⟩=pure (.type "reversed",[a]):=by
 unfold Builtin.SmallTypes.newClass;simp only [isType,abZ,pure_bind,Bool.not_true,Wr];rfl
theorem aiF:Slot "reversed" "__init__" "object.__init__":=
  .of (owner := "object") (n := "__init__")
    (by rw [X3,XJ]
        kernel_rfl)
    (by decide +kernel) (by decide +kernel)
    (by decide +kernel)
    (by first
        | exact .inl (by decide +kernel)
        | exact .inr (by decide +kernel))
    (by rw [WX]
        kernel_rfl)
theorem ahE:TypeCalled "reversed" "reversed.__new__" "object.__init__":=
  ⟨by decide +kernel,by decide +kernel,⟨_,_,Uo⟩,madeBy_type Uo abw (by decide +kernel),by decide +kernel,
    by rw [WX]
       kernel_rfl,aiF⟩
theorem zbS (l:Addr)(xs:Array Mk):Meets (Qx.«reversed.__new__» ⟨[.type "reversed",.ref l],[]⟩) (fun _ R s=>IsTup s.heap l xs/\(xs.size:Int)<2^63 /\
   R (.ok (.ret (.ref s.heap.objs.size))) { s with heap:=s.heap.push (Xf l ((xs.size:Int) - 1)),toks:=s.toks+1+1 }):=by
 refine .of_wp fun prog w A R s ⟨ht,hfit,q⟩=>?_;unfold Qx.«reversed.__new__»;refine Al<|U6 (zbm _) ?_
 try dsimp only
 refine Al<|U6 (a:=()) (by rfl) ?_
 refine Al<|U6 (a:=()) (by rfl) ?_
 try dsimp only
 refine Al<|wpAny_specialOf ht.typeIs agr ?_
 try dsimp only
 refine Al ?_;refine Al<|wpAny_isInstance (U := "dict") (b:=false) ht.typeIs zan ?_
 rw [if_neg Ky];refine Al<|wpAny_specialOf ht.typeIs Vg.lookup ?_
 show Bm _ _ (if (_:Bool)=true then pure true else _) _ _ _;rw [if_pos (by decide +kernel)];refine Ck ?_;rw [if_neg (by decide)];refine Al<|len_tuple ht hfit ?_
 refine Al<|U6 (a:=Dn (xs.size:Int)) (by rfl) ?_
 try dsimp only
 refine Al ?_;show Bm _ _ (newObj (.type "reversed") (.fields #[.ref l,NK ((xs.size:Int) - 1)])) _ _ _;exact Q9 (Ck ⟨_,rfl,q⟩)<|by size_fits
theorem ahe {l:Addr}{xs:Array Mk}{Q:Mk->Af->Prop}(ht:IsTup s.heap l xs)(hfit:(xs.size:Int)<2^63)
  (q:Q (.ref s.heap.objs.size) { s with heap:=s.heap.push (Xf l ((xs.size:Int) - 1)),toks:=s.toks+1+1 }):Bm (CN P w) A (call (.type "reversed") [.ref l]) Q E s:=by
 refine callType_new ahE (by decide) (zag _) (zaG _) (fun obj=>PySem.F.args_object_init_2 obj _) zB (zbS l xs) ⟨ht,hfit,?_⟩;exact ⟨⟨_,Kg _ rfl,rfl⟩,q⟩
theorem agK {it l:Addr}{i:Nat}{xs:Array Mk}{x:Mk}{Q:Option Mk->Af->Prop}(hi:Nu s.heap it l (i:Int))(ht:IsTup s.heap l xs)(hfit:(xs.size:Int)<2^63)(hx:xs[i]?=Dn x)
  (q:∀ h',Nu h' it l ((i:Int) - 1)->Ro it s.heap h'->Q (Dn x) { s with heap:=h',toks:=s.toks+1 }):Bm (CN P w) A (Q6 (.ref it)) Q E s:=by
 obtain ⟨o,go,gc,gd⟩:=id hi;have hlt:i<xs.size:=(Array.getElem?_eq_some_iff.mp hx).1;unfold Q6;refine Al (Rg (UG (name:=Rb "__next__") hi.typeIs dU
  (Rm dU hi.typeIs nC ?_ (pU _))))
 unfold Qx.«reversed.__next__»;refine Al<|U6 (a:=(Value.ref it,([]:List Mk))) (by rfl) ?_
 try dsimp only
 refine Al<|Kc go gd (x:=.ref l) rfl ?_
 refine Al<|Kc go gd (x:=NK (i:Int)) rfl ?_
 show Bm _ _ (if (i:Int)<0 then _ else _) _ _ s;rw [if_neg (by lia)];refine Al<|wpAny_specialOf ht.typeIs Vg.lookup ?_
 rw [if_neg (by decide)];refine Al<|wpAny_mkInt ?_
 refine Al<|Rg<|getItem_tuple (s:={ s with toks:=s.toks+1 }) ht (by lia) (by lia) (j:=i) ?_ hx ?_
 ·have e:=seqIndex_of (k:=(i:Int)) (n:=xs.size) (by lia) (by lia);rw [Int.toNat_natCast] at e;exact e
 try dsimp only
 refine Al<|Kc go gd (x:=NK (i:Int)) rfl ?_
 refine Al<|Vd go gd (by simp) ?_
 refine Ck ⟨x,rfl,Ck<|q _ ?_<|Xg ..⟩;exact ⟨_,QW _ go<|Ri<|QT gd _,(Wv ..).trans gc,by rw [QT gd];simp⟩
theorem zL {it l:Addr}{Q:Option Mk->Af->Prop}(hh:A.handled=JI)(hi:Nu s.heap it l (-1))
  (q:∀ h',W0 it s.heap h'->Q JI { s with heap:=h' }):Bm (CN P w) A (Q6 (.ref it)) Q E s:=by
 obtain ⟨o,go,gc,gd⟩:=id hi;unfold Q6;refine Al (Rg (UG (name:=Rb "__next__") hi.typeIs dU
  (Rm dU hi.typeIs nC ?_ (pU _))))
 unfold Qx.«reversed.__next__»;refine Al<|U6 (a:=(Value.ref it,([]:List Mk))) (by rfl) ?_
 try dsimp only
 refine Al<|Kc go gd (x:=.ref l) rfl ?_
 refine Al<|Kc go gd (x:=NK (-1)) rfl ?_
 show Bm _ _ (if (-1:Int)<0 then _ else _) _ _ s;rw [if_pos (by decide)];refine Al<|VF ?_
 refine Al ?_;refine Al<|Vd go gd (by simp) ?_
 have g1:=QW (fun o=>o.mapFields fun x=>x.setIfInBounds 1 (NK (-1))) go (Ri (QT gd _));refine Vd g1 (QT gd _) (by simp) ?_;refine Al ?_;show Bm _ _ (newExc (.type "StopIteration") [] >>= fun e0=>raiseNew e0) _ _ _;refine Al ?_;simp only [newExc,newTuple,raiseNew];refine Al (Q9 (by
  refine Al (m:=Wu _ _)<|U6 (a:=Value.none) (by rfl)<|Q9 ?_<|by size_fits
  refine Al (wpAny_handled (by
   first
    | rw [show A.in1.handled=JI from hh]
    | rw [hh]
   refine Al<|Ck<|Vz ?_
   refine Al<|wpAny_isInstance (T := "StopIteration") (b:=true) ⟨_,Kg _ rfl,rfl⟩ isSubtype_stop<|Ck<|q _ ?_
   intro b ob hb eb;exact IV _ (IV _ ((Xg ..).extBut b ob hb ((Xg ..).extBut b ob hb eb))))) ) (by size_fits))
theorem Fo {it l:Addr}{i:Int}{Q:Mk->Af->Prop}(hi:Nu s.heap it l i)(q:Q (.ref it) s):Bm (CN P w) A (pyIter (.ref it)) Q E s:=by
 refine wpAny_pyIter_slot hi.typeIs ql<|Rm ql hi.typeIs wW ?_<|zW _
 show Bm _ _ (ret (.ref it)) _ _ s;exact Ck ⟨_,rfl, "reversed",_,hi.typeIs,dU.lookup,q⟩
end
def Itv (K:Bl)(n:Nat)(l:Addr):It:=
  ⟨fun i H=>i<n/\∃ xs x,Jh K H l xs/\xs.length=n/\xs[n - 1 - i]?=Dn x,
   fun i H v H'=>H'=H/\∀ xs,Jh K H l xs->xs[n - 1 - i]?=Dn v,
   fun i _=>n<=i,true⟩
def afX (n:Nat)(it l:Addr)(i:Nat)(h:Heap):Prop:=i<=n/\Nu h it l ((n:Int) - 1 - (i:Int))
theorem ahx {P:Dz}{w:Cw}{K:Bl}{tg:Expr}{n:Nat}{it l:Addr}(hne:l≠it):Turn P w K tg (Itv K n l) [it] it (afX n it l) where
 mem:=by simp
 obj:=fun i h st b hb=>by
  obtain ⟨_,o,g,_,d⟩:=st;rw [Nz] at hb;subst hb;exact ⟨o,g,fun v y=>by rw [d] at y;cases y⟩
 keep:=fun i h h' st k=>⟨st.1,st.2.at fun o e=>k it (by simp) o e⟩
 item:=by
  intro X hP hw hK hc i alP s σ H E I hf st hg;subst hP hw hK;obtain ⟨hin,xs,x,hx,alQ,ex⟩:=hg;obtain ⟨its,r,pl,hz⟩:=I.tuple hx;obtain ⟨u,hu,ru⟩:=r.get ex;have hl:=r.length;have e1:(n:Int) - 1 - (i:Int)=((n - 1 - i:Nat):Int):=by lia
  have hi:=st.2;rw [e1] at hi;have hn:=qb;refine agK hi pl (by simp only [Jf];lia) (x:=u) (by simpa using hu) fun h1 g1 sb=>⟨u,rfl,?_⟩;have e2:((n - 1 - i:Nat):Int) - 1=(n:Int) - 1 - ((i+1:Nat):Int):=by lia
  rw [e2] at g1;obtain ⟨o,go,gc,gd⟩:=id g1;refine MK (s:={ s with heap:=h1,toks:=s.toks+1 }) go gc gd (by decide) ⟨x,H,I.turnedL (t':=s.toks+1) (ch:=[it]) (fun b o hb e=>sb.extBut b o (fun q=>hb<|by simp [q]) e) hf,ru,⟨rfl,fun ys hy=>?_⟩,⟨hin,g1⟩,fun b hb=>(hf b hb).1⟩;rw [I.tuple_inj hy hx];exact ex
 done:=by
  intro X hP hw hK hc i alP s σ H E I hf st hg;subst hP hw hK;have hi:=st.2;have e1:(n:Int) - 1 - (i:Int) = -1:=by
   have:=st.1
   have:n<=i:=hg
   lia
  rw [e1] at hi;exact zL (I.ok.hd<|hc rfl) hi fun h1 eb=>⟨rfl,I.turnedL (t':=s.toks) (ch:=[it]) (fun b o hb e=>eb b o (fun q=>hb<|by simp [q]) e) hf⟩
 self:=fun _ _ _ _ _ st h=>Fo st.2 h
section
variable {X:Cx}{K:Bl}
end
section
variable {X:Cx}
def acJ (i j k:Nat)(ta:MA):MS:=fun D σ h=>ta σ h fun ws h1=>match ws with
 | [a,b,c]=>D.nx (((σ.set i (Dn a)).set j (Dn b)).set k (Dn c)) h1
 | _=>False
end
def Itw (K:Bl)(n:Nat)(l:Addr):It:=
  ⟨fun i H=>i<n/\∃ xs x,JR K H l xs/\xs.length=n/\xs[n - 1 - i]?=Dn x,
   fun i H v H'=>H'=H/\∀ xs,JR K H l xs->xs[n - 1 - i]?=Dn v,
   fun i _=>n<=i,true⟩
def afp (n:Nat)(it l:Addr)(i:Nat)(h:Heap):Prop:=i<=n/\h.IsRevIter it l ((n:Int) - 1 - (i:Int))
theorem zaK {P:Dz}{w:Cw}{K:Bl}{tg:Expr}{n:Nat}{it l:Addr}(hne:l≠it):Turn P w K tg (Itw K n l) [it] it (afp n it l) where
 mem:=by simp
 obj:=fun i h st b hb=>by
  obtain ⟨_,o,g,_,d⟩:=st;rw [Nz] at hb;subst hb;exact ⟨o,g,fun v y=>by rw [d] at y;cases y⟩
 keep:=fun i h h' st k=>⟨st.1,st.2.at fun o e=>k it (by simp) o e⟩
 item:=by
  intro X hP hw hK hc i alP s σ H E I hf st hg;subst hP hw hK;obtain ⟨hin,xs,x,hx,alQ,ex⟩:=hg;obtain ⟨its,r,pl,hz⟩:=I.list hx;obtain ⟨u,hu,ru⟩:=r.get ex;have hl:=r.length;have e1:(n:Int) - 1 - (i:Int)=((n - 1 - i:Nat):Int):=by lia
  have hi:=st.2;rw [e1] at hi;refine wpAny_pyNext_rev_item hi pl.isList (x:=u) (by simpa using hu) fun h1 g1 sb=>⟨u,rfl,?_⟩;have e2:((n - 1 - i:Nat):Int) - 1=(n:Int) - 1 - ((i+1:Nat):Int):=by lia
  rw [e2] at g1;obtain ⟨o,go,gc,gd⟩:=id g1;refine MK (s:={ s with heap:=h1 }) go gc gd (by decide) ⟨x,H,I.turnedL (t':=s.toks) (ch:=[it]) (fun b o hb e=>sb.extBut b o (fun q=>hb<|by simp [q]) e) hf,ru,⟨rfl,fun ys hy=>?_⟩,⟨hin,g1⟩,fun b hb=>(hf b hb).1⟩;rw [I.list_inj hy hx];exact ex
 done:=by
  intro X hP hw hK hc i alP s σ H E I hf st hg;subst hP hw hK;have hi:=st.2;have e1:(n:Int) - 1 - (i:Int) = -1:=by
   have:=st.1
   have:n<=i:=hg
   lia
  rw [e1] at hi;exact wpAny_pyNext_rev_end (I.ok.hd<|hc rfl) hi fun h1 eb=>⟨rfl,I.turnedL (t':=s.toks) (ch:=[it]) (fun b o hb e=>eb b o (fun q=>hb<|by simp [q]) e) hf⟩
 self:=fun _ _ _ _ _ st h=>wpAny_pyIter_revIter st.2 h
section
variable {X:Cx}{K:Bl}
def aeb (K:Bl)(ta:TA):TI:=fun σ H R=>ta σ H fun vs H1=>∃ a xs,vs=[.ref a]/\((Jh K H1 a xs/\R (Itv K xs.length a) H1)\/(JR K H1 a xs/\R (Itw K xs.length a) H1))
theorem ajU {tg e1:Expr}{ta:TA}{p pos:Pos}(hg:Gl X "reversed")(hm:X.mg "reversed" = JI)(ha:PA X [e1] ta)
  (hs:Cy [e1] X.env=(false,eval e1 X.env)::Cy [] X.env:=by rfl) (hpl:(Jd pos (Cy [] X.env)).any (·.1)=false:=by rfl) :
  PI X tg (.Call (.Name "reversed" p) [e1] [] pos) (aeb X.K ta):=by
 intro alP s σ H R I h;refine VN<|sW I hg hm boot_reversed ?_ (by decide)<|by decide
 refine Xi (HJ (ha pos alP s σ H _ I h) fun us s1 ⟨vs,H1,I1,r1,q1⟩=>?_) hs hpl;obtain ⟨a,xs,ev,hx⟩:=q1;subst ev;obtain ⟨u1,eu,ru1⟩:=vals1 r1;subst eu;cases ru1;rcases hx with ⟨hx,q⟩ | ⟨hx,q⟩
 ·obtain ⟨its,r,pl,hz⟩:=I1.tuple hx;have hl:=r.length;have hn:=qb;refine ahe pl (by simp only [Jf];lia) ?_;have gi:Nu (s1.heap.push (Xf a ((its.toArray.size:Int) - 1))) s1.heap.objs.size a ((xs.length:Int) - 1 - ((0:Nat):Int)):=by
   refine ⟨_,Kg _ rfl,rfl,?_⟩;show Data.fields #[.ref a,NK ((its.toArray.size:Int) - 1)]=_;rw [Jf,<-hl];simp
  have la:a<s1.heap.objs.size:=by obtain ⟨_,e,_⟩:=pl;exact Hx e
  refine Fo gi ?_;refine ⟨_,[s1.heap.objs.size],_,_,H1,rfl,I1.kept (t':=s1.toks+1+1)<|fun b o e=>IV _ e,ahx<|Ko la,⟨U7 _,gi⟩,fun c hc=>?_,q⟩;rw [Nz] at hc;subst hc;exact I1.fpOk (Ig _)<|I1.hok.fresh<|Ig _
 ·obtain ⟨its,r,pl,hz⟩:=I1.list hx;have hl:=r.length;refine call_reversed_list pl.isList ?_;have gi:(s1.heap.push (revObj a ((its.toArray.size:Int) - 1))).IsRevIter s1.heap.objs.size a ((xs.length:Int) - 1 - ((0:Nat):Int)):=by
   refine ⟨_,Kg _ rfl,rfl,?_⟩;show Data.fields #[.ref a,NK ((its.toArray.size:Int) - 1)]=_;rw [Jf,<-hl];simp
  have la:a<s1.heap.objs.size:=by obtain ⟨_,e,_⟩:=pl.isList;exact Hx e
  refine wpAny_pyIter_revIter gi ?_;refine ⟨_,[s1.heap.objs.size],_,_,H1,rfl,I1.kept (t':=s1.toks)<|fun b o e=>IV _ e,zaK<|Ko la,⟨U7 _,gi⟩,fun c hc=>?_,q⟩;rw [Nz] at hc;subst hc;exact I1.fpOk (Ig _)<|I1.hok.fresh<|Ig _
def abJ (ma:MA):MI:=fun σ h R=>ma σ h fun ws h1=>match ws with
 | [.tup us]=>R ⟨us.reverse,JI⟩ h1
 | [.lst us]=>R ⟨us.reverse,JI⟩ h1
 | _=>False
theorem ajp {tg e1:Expr}{p pos:Pos}(hg:Gl X "reversed")(hm:X.mg "reversed" = JI)(ha:Jm X [e1] mr)
  (hs:Cy [e1] X.env=(false,eval e1 X.env)::Cy [] X.env:=by rfl) (hpl:(Jd pos (Cy [] X.env)).any (·.1)=false:=by rfl) :
  Qn X tg (.Call (.Name "reversed" p) [e1] [] pos) (abJ mr):=PI.of (ajU hg hm ha hs hpl) fun σ H Q ⟨μ,h,σw,Rw,R,S,m,k⟩=>by
 refine ⟨μ,h,σw,_,R,S,m,fun vs H1 ⟨μ1,ws,h1,e1,R1,r1,m1⟩=>?_⟩;split at m1
 ·rename_i us;obtain ⟨v,ev,rv⟩:=kJ r1;have rv0:=rv;rw [Aj] at rv;obtain ⟨a,xs,ea,hx,rs⟩:=rv;subst ev ea;have hl:=rs.len;refine ⟨a,xs,rfl,.inl ⟨hx,k _ _ ⟨μ1,⟨us.reverse,JI⟩,h1,e1,R1,?_,m1⟩⟩⟩;intro H2 μ2 h2 i e2 R2 _;have r2:=e2.r _ _ rv0;rw [Aj] at r2;obtain ⟨b,ys,eb,hy,ry⟩:=r2;cases eb;have hl2:=ry.len;refine ⟨fun w ew=>?_,fun hle=>?_⟩
  ·have hi:i<us.length:=by
    have:=(Pn.mp ew).1
    simpa using this
   rw [List.getElem?_reverse hi] at ew;obtain ⟨v,hv,rv⟩:=ry.get ew;refine ⟨⟨by lia,ys,v,hy,by lia,by rw [show xs.length - 1 - i=us.length - 1 - i by lia];exact hv⟩,fun x H3 ⟨e3,y⟩=>?_⟩;subst e3;have:=y ys hy
   rw [show xs.length - 1 - i=us.length - 1 - i by lia,hv] at this;cases this;exact ⟨μ2,.refl,R2,rv⟩
  ·have:us.length<=i:=by simpa using hle
   show xs.length<=i;lia
 ·rename_i us;obtain ⟨v,ev,rv⟩:=kJ r1;have rv0:=rv;rw [Aj] at rv;obtain ⟨a,xs,ea,hx,rs⟩:=rv;subst ev ea;have hl:=rs.len;refine ⟨a,xs,rfl,.inr ⟨hx.sq,k _ _ ⟨μ1,⟨us.reverse,JI⟩,h1,e1,R1,?_,m1⟩⟩⟩;intro H2 μ2 h2 i e2 R2 _;have r2:=e2.r _ _ rv0;rw [Aj] at r2;obtain ⟨b,ys,eb,hy,ry⟩:=r2;cases eb;have hl2:=ry.len;refine ⟨fun w ew=>?_,fun hle=>?_⟩
  ·have hi:i<us.length:=by
    have:=(Pn.mp ew).1
    simpa using this
   rw [List.getElem?_reverse hi] at ew;obtain ⟨v,hv,rv⟩:=ry.get ew;refine ⟨⟨by lia,ys,v,hy.sq,by lia,by rw [show xs.length - 1 - i=us.length - 1 - i by lia];exact hv⟩,fun x H3 ⟨e3,y⟩=>?_⟩;subst e3;have:=y ys hy.sq
   rw [show xs.length - 1 - i=us.length - 1 - i by lia,hv] at this;cases this;exact ⟨μ2,.refl,R2,rv⟩
  ·have:us.length<=i:=by simpa using hle
   show xs.length<=i;lia
 ·exact m1.elim
end
theorem M9 {K:Bl}{H:Hp}:aM K H μ [] []:=by rw [aM]
theorem j8 {K:Bl}{H:Hp}{w:W}{v:V}{vs:List V}(h:Aj K H μ w v)(t:aM K H μ ws vs):aM K H μ (w::ws) (v::vs):=by rw [aM];exact ⟨v,vs,rfl,h,t⟩
theorem Jq {K:Bl}{H:Hp}{i:Int}:Aj K H μ (.int i) (.int i):=by rw [Aj]
variable {sl : Array (Option Mk)}
theorem mR {K:Bl}{a:Addr}{its:Array Mk}{n:Nat}{xs:List V}(h:K.lookup a=Dn ⟨.type "tuple",JI,.seq its n,sl⟩)(hz:its.size<=Ht)(hv:Bp xs its.toList)(hr:∀ H μ,aM K H μ ws xs):∀ H μ,Aj K H μ (.tup ws) (.ref a):=by
 intro H μ;rw [Aj];exact ⟨a,xs,rfl,.inr ⟨_,its,n,h,rfl,rfl,hz,hv,rfl⟩,hr H μ⟩
theorem Jp {i:Int}{t}:RelV (.int i) (.int i t):=⟨t,rfl⟩
theorem acz {a:Addr}:RelV (.ref a) (.ref a):=rfl
section
variable {prog:Dz}{w:Cw}{A:Dl}{E:Mk->Af->Prop}{s:Af}
theorem Bu {it t:Addr}{items:Array Mk}(hne:t≠it):∀ (n i:Nat) (s:Af) (Q:List Mk->Af->Prop),s.heap.IsListIter it t i->s.heap.IsList t items->i+n<=items.size ->
  (∀ h',h'.IsListIter it t (i+n)->Ro it s.heap h'->Q ((items.toList.drop i).take n) { s with heap:=h' })->Bm (CN prog w) A (draw (.ref it) n) Q E s
 | 0,i,s,Q,hit,_,_,hQ=>by
  show Bm _ _ (pure []) Q E s;exact Ck<|by simpa using hQ s.heap hit (Heap.SameBut.refl ..)
 | n+1,i,s,Q,hit,ht,hle,hQ=>by
  have hlt:i<items.size:=by lia
  show Bm _ _ (Q6 (.ref it) >>= _) Q E s;refine Al<|wpAny_pyNext_list_item hit ht (x:=items[i]) (by simp [hlt]) fun h1 hit1 hs1=>?_
  refine Al<|Nb<|Bu hne n (i+1) _ _ hit1 (ht.at fun o e=>hs1.extBut _ o hne e) (by lia) fun h2 hit2 hs2=>Ck ?_
  have hd:items.toList.drop i=items[i]::items.toList.drop (i+1):=by simp [List.drop_eq_getElem_cons,hlt]
  have:=hQ h2 (by rw [show i+(n+1)=i+1+n by lia];exact hit2) (hs1.trans hs2)
  rw [hd,List.take_succ_cons] at this;exact this
theorem qN {t:Addr}{items:Array Mk}{Q:List Mk->Af->Prop}(hh:A.handled=JI)(ht:s.heap.IsList t items)
  (hQ:∀ h',W0 s.heap.objs.size s.heap h'->Q items.toList { s with heap:=h' }):Bm (CN prog w) A (unpackItems (.ref t) items.size JI) Q E s:=by
 have hlt:t≠s.heap.objs.size:=by obtain ⟨o,ho,_⟩:=ht;exact Ko (Hx ho)
 unfold unpackItems;refine Al ?_
 ·unfold notIterableAtAll;refine Al<|wpAny_specialOf ht.typeIs slot_list_iter.lookup ?_
  refine Ck ?_;simp only [Wr,if_false];refine Al<|Nb<|Wd ht ?_
  refine Al<|Nb<|Bu hlt items.size 0 _ _ ⟨_,Kg _ rfl,rfl,rfl⟩ (ht.at fun o e=>IV _ e) (by lia) fun h1 hit1 hs1=>?_
  have hall:List.take items.size (List.drop 0 items.toList)=items.toList:=by
   rw [X4];exact List.take_of_length_le (by simp)
  rw [hall];rw [if_neg (by simp)];have ht1:h1.IsList t items:=ht.at fun o e=>hs1.extBut _ o hlt (IV _ e)
  refine Al<|Nb<|wpAny_pyNext_list_end hh hit1 ht1 (by simp) fun h2 he2=>?_
  simp only [Option.isSome_none,Wr,if_false];refine Ck<|hQ h2 fun b o hb e=>he2 b o hb<|hs1.extBut b o hb<|IV _ e
theorem oO {env:Env}{x1}{pos:Pos}{t:Addr}{items:Array Mk}{Q:Unit->Af->Prop}(hh:A.handled=JI)(ht:s.heap.IsList t items)
  (hn:(Mz elts env).length=items.size) (hstar:(Mz elts env).findIdx? (·.1)=JI)
  (h:∀ h',W0 s.heap.objs.size s.heap h'->Bm (CN prog w) A (assignInOrder ((Mz elts env).map (·.2)) items.toList) Q E { s with heap:=h' }) :
  Bm (CN prog w) A (assign (.Tuple elts x1 pos) env (.ref t)) Q E s:=by
 rw [assign_Tuple];refine Al<|Qt ?_
 unfold unpack;rw [hn,hstar];exact Al<|Nb<|qN hh ht h
end
section
variable {X:Cx}{pos:Pos}
def adH (K:Bl)(n:Nat)(t:RJ):TG:=fun v σ H Q=>∃ a xs,v=.ref a/\(Jh K H a xs\/JR K H a xs)/\xs.length=n/\t xs σ H Q
theorem aiY {es:List Expr}{k:Nat}{t:RJ}{n:Nat}(hc:X.calm=true)(h:Ru X es t)
  (hn:(Mz es X.env).length=n:=by rfl) (hst:(Mz es X.env).findIdx? (·.1)=JI:=by rfl):PG X (.Tuple es k pos) (adH X.K n t):=by
 intro alP s σ H v u Q I r hw;obtain ⟨a,xs,e1,hq,hl,hw⟩:=hw;subst e1;cases r;rcases hq with hq | hq
 ·obtain ⟨its,rv,ht,hz⟩:=I.tuple hq;refine assign_Tuple_tuple (I.ok.hd hc) ht (by simp [hn,<-hl,rv.length]) hst fun h' hx=>?_;have I1:BR X alP σ H { s with heap:=h' }:=I.kept (t':=s.toks) fun b o e=>hx b o (Ko (Hx e)) e
  exact h alP _ σ H xs _ Q I1 (by simpa using rv) hw
 ·obtain ⟨its,rv,ht,hz⟩:=I.list hq;refine oO (I.ok.hd hc) ht.isList (by simp [hn,<-hl,rv.length]) hst fun h' hx=>?_;have I1:BR X alP σ H { s with heap:=h' }:=I.kept (t':=s.toks) fun b o e=>hx b o (Ko (Hx e)) e
  exact h alP _ σ H xs _ Q I1 (by simpa using rv) hw
def vp (n:Nat)(g:QC):MG:=fun w σ h N=>match w with
 | .tup ws=>Ib (Nq ws.length n) (g ws σ h N) False
 | .lst ws=>Ib (Nq ws.length n) (g ws σ h N) False
 | .loc j=>(match h.c j with
  | some (.lst ws)=>Ib (Nq ws.length n) (g ws σ h N) False
  | _=>False)
 | _=>False
theorem tQ {es:List Expr}{k:Nat}{g:QC}{n:Nat}(hc:X.calm=true)(h:acf X es g)(hn:(Mz es X.env).length=n:=by rfl)(hst:(Mz es X.env).findIdx? (·.1)=JI:=by rfl):DG X (.Tuple es k pos) (vp n g):=
 (aiY (n:=n) hc h hn hst).of fun v σ H N ⟨μ,h,σw,w,Nw,R,S,r,m,k⟩=>by
  cases w with
  | tup ws=>
   rw [Aj] at r;obtain ⟨p,xs,e1,hs,hr⟩:=r;have m:Ib (Nq ws.length n) (g ws σw h Nw) False:=m;cases en:Nq ws.length n with
   | true=>rw [en] at m;exact ⟨p,xs,e1,.inl hs,by rw [<-hr.len];exact Xc en,μ,h,σw,ws,Nw,R,S,hr,m,k⟩
   | false=>rw [en] at m;exact (show False from m).elim
  | lst ws=>
   rw [Aj] at r;obtain ⟨p,xs,e1,hs,hr⟩:=r;have m:Ib (Nq ws.length n) (g ws σw h Nw) False:=m;cases en:Nq ws.length n with
   | true=>rw [en] at m;exact ⟨p,xs,e1,.inr hs.sq,by rw [<-hr.len];exact Xc en,μ,h,σw,ws,Nw,R,S,hr,m,k⟩
   | false=>rw [en] at m;exact (show False from m).elim
  | loc j=>
   have m:(match h.c j with
    | some (.lst ws)=>Ib (Nq ws.length n) (g ws σw h Nw) False
    | _=>False):=m
   split at m
   ·rename_i ws ec;obtain ⟨p,xs,e1,hs,hr⟩:=cB R r (show cZ h (.loc j)=Dn ws by simp only [cZ,ec]);cases en:Nq ws.length n with
    | true=>rw [en] at m;exact ⟨p,xs,e1,.inr hs,by rw [<-hr.len];exact Xc en,μ,h,σw,ws,Nw,R,S,hr,m,k⟩
    | false=>rw [en] at m;exact (show False from m).elim
   ·exact m.elim
  | _=>exact m.elim
end
section
variable {K:Bl}{H:Hp}{h:Gh}{p:Addr}{xs:List V}
end
def aeW (Q:WK):WK:=fun w h=>match w with
 | .lst ws=>Q (.loc h.nx) (h.new (.lst ws))
 | _=>False
def afx (own:W->Option (List W))(ix:List Nat)(mi:MI)(tt:MT)(te:ME):ME:=fun σ h Q=>HW own ix mi tt te σ h (aeW Q)
section
variable {X:Cx}{tg iter:Expr}{pos:Pos}{scope:Scope}{xs:List Str}
end
def HS:Expr->Bool
 | .Starred _ _=>true
 | _=>false
theorem aO {e:Expr}{es:List Expr}{env:Env}(h:HS e=false):Cy (e::es) env=(false,eval e env)::Cy es env:=by
 cases e <;> first | rfl | cases h
theorem Od {e:Expr}{env:Env}(h:HS e=false):Cy [e] env=[(false,eval e env)]:=(aO h).trans rfl
def noStar:List Expr->Bool
 | []=>true
 | e::r=>!HS e&&noStar r
theorem bJ {pos:Pos}{env:Env}:∀ {es:List Expr},noStar es=true->(Jd pos (Cy es env)).any (·.1)=false
 | [],_=>rfl
 | e::r,h=>by
  rw [noStar,Jw,Ww] at h;rw [aO h.1];show (false||(Jd pos (Cy r env)).any (·.1))=false;rw [bJ h.2];rfl
theorem Ea {alR:Pos}{e:Expr}{env:Env}(h:HS e=false):((Jd alR (Cy [e] env)).all (fun x=>!x.1)&&(backToKw alR (Vx [] env)).all (fun x=>x.1.isSome)
   && decide (([e]:List Expr).length+([]:List QM).length+(if ([]:List QM).isEmpty then 0 else 1)<30))=true:=by
 rw [Od h];rfl
section
variable {prog:Dz}{w:Cw}{A:Dl}{E:Mk->Af->Prop}{s:Af}
open HT in
theorem lJ {t sl:Addr}{items:Array Mk}{vl vu:Mk}{lo hi:Option Int}{Q:Mk->Af->Prop}(ht:IsTup s.heap t items)(hs:s.heap.IsSliceOf sl vl vu .none)(pl:IsPart vl lo)(pu:IsPart vu hi)
  (h0:sIx items.size 0 lo=0) (h1:sIx items.size items.size hi=items.size) (h:Q (.ref t) s):Bm (CN prog w) A (getItem (.ref t) (.ref sl)) Q E s:=by
 obtain ⟨os,hos,hcs,hds⟩:=id hs;have hTs:s.TypeIs (.ref sl) "slice":=⟨os,hos,hcs⟩
 unfold getItem;try with_reducible refine Nb ?_
 first | refine Al (Ck ?_) | skip
 refine Al<|wpAny_sequenceKey ht.typeIs (by decide) ?_
 refine Al (UG (name:=Rb "__getitem__") ht.typeIs Vg
  (Rm Vg ht.typeIs entry_tuple_getitem ?_ (args_tuple_getitem _ _)))
 show Bm _ _ (Builtin.Tuple.tupleItemsOf (.ref t) >>= _) _ _ s;refine Al<|tupleItemsOf_ ht ?_
 refine Al<|wpAny_typeOf hTs ?_
 rw [if_pos (by decide)];refine Al<|jr hs pl pu ?_
 have hyes:((((sIx items.size 0 lo:Nat):Int)==0&&(1:Int)==1&&(sIx items.size items.size hi - sIx items.size 0 lo)==items.size)=true):=by
  rw [h0,h1];simp
 show Bm _ _ (if (((sIx items.size 0 lo:Nat):Int)==0&&(1:Int)==1&&(sIx items.size items.size hi - sIx items.size 0 lo)==items.size)=true then _ else _) _ _ s;rw [if_pos hyes];unfold Builtin.Tuple.tupleIsExact;refine Al<|Al<|wpAny_typeOf ht.typeIs<|Ck ?_
 rw [if_pos (by decide)];refine Al<|VF ?_
 first
  | exact Ck ⟨_,rfl,Ck h⟩
  | exact Al (Ck (Ck ⟨_,rfl,Ck h⟩))
end
section
variable {X:Cx}
def afl (K:Bl):V->Option Int->Option Int->Hp->VK->Prop:=fun x lo hi H Q=>∃ a xs,x=.ref a/\Jh K H a xs /\
 HT.sIx xs.length 0 lo=0/\HT.sIx xs.length xs.length hi=xs.length/\Q x H
theorem aip:RK X (afl X.K):=by
 intro alP s σ H x v vl vu lo hi sl Q I rx hs pl pu h;obtain ⟨a,xs,rfl,hx,h0,h1,q⟩:=h;cases rx;obtain ⟨its,r,ht,hz⟩:=I.tuple hx;have alQ:its.toArray.size=xs.length:=by rw [Jf];exact r.length.symm
 refine ⟨"tuple",_,Vg.lookup,ht.typeIs,?_⟩;refine lJ ht hs pl pu (by rw [alQ];exact h0) (by rw [alQ];exact h1) ?_;exact ⟨.ref a,H,I,rfl,q⟩
def vh (x:W)(lo hi:Option Int)(h:Gh)(Q:WK):Prop:=match x with
 | .tup ws=>Q (.tup (BK ws lo hi)) h
 | x=>(match cZ h x with
  | some ws=>Q (.lst (BK ws lo hi)) h
  | none=>False)
theorem lU {e:Expr}{lo hi:Option Expr}{ml mh:MO}{p2 pos:Pos}(he:DE X e ma)(hl:DO X lo ml)(hu:DO X hi mh):DE X (.Subscript e (.Slice lo hi JI p2) pos) (Mh vh ma ml mh):=
 (ahB (RK.or (RK.or ait aiK) aip) he hl hu).of fun σ H Q ⟨μ,h,σw,Qw,R,S,m,k⟩=>by
  refine ⟨μ,h,σw,_,R,S,m,fun x H1 ⟨μ1,wx,h1,e1,R1,r1,m1⟩=>?_⟩;refine ⟨μ1,h1,σw,_,R1,S.ext e1,m1,fun lo H2 ⟨μ2,h2,e2,R2,m2⟩=>?_⟩;refine ⟨μ2,h2,σw,_,R2,(S.ext e1).ext e2,m2,fun hi H3 ⟨μ3,h3,e3,R3,m3⟩=>?_⟩;have e13:=(e1.trans e2).trans e3;have r3:=e3.r _ _ (e2.r _ _ r1);have oth:∀ wy,Aj X.K H3 μ3 wy x->(match cZ h3 wy with
    | some ws=>Qw (.lst (BK ws lo hi)) h3
    | none=>False)->∃ p xs,x=.ref p/\JR X.K H3 p xs/\∀ l,H3 l=JI->Q (.ref l) (Dv H3 l (.lst (Pk xs lo hi))):=by
   intro wy ry my;split at my
   ·rename_i ws ev;obtain ⟨p,xs,ex,hs,rs⟩:=cB R3 ry ev;exact ⟨p,xs,ex,hs,fun l hl=>k _ _ ⟨μ3,_,h3,e13.trans (Ex.laid hl).ext,R3.laid hl,.lstNew R3 hl<|rs.cutv lo hi,my⟩⟩
   ·exact my.elim
  cases wx with
  | tup ws=>
   have m3:Qw (.tup (BK ws lo hi)) h3:=m3;have r30:=r3;rw [Aj] at r3;obtain ⟨p,xs,ex,hx,rs⟩:=r3;have hl:=rs.len;by_cases hw:HT.sIx xs.length 0 lo=0/\HT.sIx xs.length xs.length hi=xs.length
   ·have ec:BK ws lo hi=ws:=by
     unfold BK;rw [hl,hw.1,hw.2,X4,Nat.sub_zero,<-hl,OJ]
    rw [ec] at m3;exact .inr ⟨p,xs,ex,hx,hw.1,hw.2,k _ _ ⟨μ3,.tup ws,h3,e13,R3,r30,m3⟩⟩
   ·exact .inl<|.inr ⟨p,xs,ex,hx,hw,fun q hq=>k _ _ ⟨μ3,.tup<|BK ws lo hi,h3,e13.trans (Ex.laid hq).ext,R3.laid hq,.tupNew hq<|rs.cutv lo hi,m3⟩⟩
  | _=>exact .inl (.inl (oth _ r3 m3))
def afW:MC:=fun ws h Q=>match ws with
 | [.int i]=>Q (.int i) h
 | [.bl b]=>Q (.int (if b then 1 else 0)) h
 | _=>False
def aeT:MM:=fun x ws h Q=>match ws with
 | [.int k]=>(match cZ h x with
  | some us=>∃ (ns:List Int) (j:Nat),us=ns.map W.int/\ns[j]?=Dn k/\(∀ m,m<j->ns[m]?≠Dn k)/\Q (.int j) h
  | none=>False)
 | _=>False
theorem wF {K:Bl}{H:Hp}{μ : Mu}:∀ {ns:List Int} {xs:List V},aM K H μ (ns.map W.int) xs->xs=ns.map V.int
 | [],xs,r=>by rw [WT,aM] at r;exact r
 | n::ns,xs,r=>by
  rw [Lz,aM] at r;obtain ⟨v,vs,e,rv,r⟩:=r;rw [Aj] at rv;rw [e,rv,wF r];rfl
def vZ (h:Gh)(w:W)(P:Prop):Prop:=match cZ h w with
 | some _=>P
 | none=>False
theorem Bf {K:Bl}{H:Hp}{h:Gh}{w:W}{v:V}{P:Prop}(R:HD K μ H h)(r:Aj K H μ w v)(e:vZ h w P):tyV K "list" v H/\P:=by
 unfold vZ at e;split at e
 ·rename_i us ev;obtain ⟨p,xs,ex,hs,_⟩:=cB R r ev;subst ex;exact ⟨.inl ⟨rfl,xs,hs⟩,e⟩
 ·exact e.elim
def ac4 (r:MM)(mo:ME)(ma:MA):ME:=fun σ h Q=>mo σ h fun x h1=>vZ h1 x (ma σ h1 fun xs h2=>r x xs h2 Q)
def aft (mo:ME):ME:=fun σ h Q=>mo σ h fun x h1=>match x with
 | .int i=>Q (.int (Builtin.Int.intBits i:Nat)) h1
 | _=>False
theorem agV (hc:X.calm=true):gM X (.builtin "max") (fun xs H Q=>∃ (p:Addr) (ns:List Int),xs=[.ref p]/\JR X.K H p (ns.map V.int)/\0<ns.length/\∀ M,M∈ns->(∀ a,a∈ns->a<=M)->Q (.int M) H):=by
 intro alP s σ H xs us Q I r ⟨p,ns,e,hS,hne,q⟩;subst e;obtain ⟨u,rfl,ru⟩:=vals1 r;cases ru;obtain ⟨its,rv,pl,hz⟩:=I.list hS;have alQ:its.length=ns.length:=by rw [<-rv.length,Hu]
 have all:AllInts its.toArray:=fun v hv=>by
  obtain ⟨i,hi,e⟩:=Array.mem_iff_getElem.mp hv;obtain ⟨t,e2⟩:=yJ (i:=i) (v:=v) rv (by rw [<-e];simp at hi |-);exact ⟨_,t,e2⟩
 obtain ⟨ys,ey⟩:=all.items;have hl:=pl.isList;rw [ey] at hl;have hys:ys.size=ns.length:=by
  have:=congrArg Array.size ey
  simp [intItems] at this;lia
 have num:∀ i,i<ns.length->numAt ys i=ns.getD i 0:=fun i hi=>by
  obtain ⟨t,e2⟩:=yJ (i:=i) (v:=its[i]'(by lia)) rv (Jx (by lia));have e3:(intItems ys)[i]?=Dn (its[i]'(by lia)):=by rw [<-ey];simp
  obtain ⟨t',e4⟩:=intItems_at e3;rw [e2] at e4;injection e4 with e5 _
  exact e5.symm
 refine max_intList (I.ok.hd hc) hl (by lia) fun v h' tk hv hk=>?_;obtain ⟨t,rfl⟩:=intItems_at hv;obtain ⟨h1,h2⟩:=argBest_gt (numAt ys) (ys.size - 1);refine ⟨.int _,H,I.kept (h':=h') (t':=tk) hk,⟨t,rfl⟩,q _ ?_ fun a ha=>?_⟩
 ·rw [num _ (by lia),Pr,Jx (by lia)];exact Wc _
 ·obtain ⟨j,hj,e⟩:=Vt.mp ha;have:=h2 j (by lia)
  rw [num j hj,Pr,Jx hj] at this;rw [<-e];exact this
def W7:MC:=fun ws h Q=>match ws with
 | [.int i,.int j]=>Q (.int (if j>i then j else i)) h
 | [w]=>(match cZ h w with
  | some us=>∃ ns:List Int,us=ns.map W.int/\0<ns.length/\∀ M,M∈ns->(∀ a,a∈ns->a<=M)->Q (.int M) h
  | none=>False)
 | _=>False
theorem abT (hc:X.calm=true):kE X (.builtin "max") W7:=⟨_,gM.or (yX hc) (agV hc),by
 intro H μ h vs ws Qw Q R r m k;unfold W7 at m;split at m
 ·rename_i i j;rw [aM] at r;obtain ⟨v,vs',e,rv,r⟩:=r;rw [aM] at r;obtain ⟨v2,vs2,e2,rv2,r⟩:=r;rw [aM] at r;rw [Aj] at rv rv2;subst e e2 rv rv2 r;exact .inl ⟨i,j,rfl,k _ _<|.int R m⟩
 ·split at m
  ·rename_i w us ev;obtain ⟨v,e,rv⟩:=kJ r;obtain ⟨p,ys,ex,hs,rs⟩:=cB R rv ev;obtain ⟨ns,eu,hne,m⟩:=m;subst e ex;rw [eu] at rs;have:=wF rs
   subst this;exact .inr ⟨p,ns,rfl,hs,hne,fun M hM ha=>k _ _<|.int R<|m M hM ha⟩
  ·exact m.elim
 ·exact m.elim⟩
end
def Cz (Z:Mk->Prop)(vs:Array Mk):Prop:=∃ z,vs[2]?=Dn z/\Z z
variable {Z : Mk->Prop}
theorem Cz.size {Z:Mk->Prop}{vs:Array Mk}(c:Cz Z vs):2<vs.size:=let ⟨_,e,_⟩:=c;(Array.getElem?_eq_some_iff.mp e).1
variable {Z' : Mk->Prop}
theorem Cz.mono {vs:Array Mk}(c:Cz Z vs)(k:∀ z,Z z->Z' z):Cz Z' vs:=let ⟨z,e,h⟩:=c;⟨z,e,k z h⟩
def XO (h:Heap)(P:Addr->Prop)(Z:Mk->Prop)(e C:Addr)(od:Option Addr):Prop:=P e/\∃ (oe:Obj) (vs:Array Mk),h.get? e=Dn oe/\oe.cls=.ref C/\oe.dict=od/\oe.data=.fields vs/\vs.size<=1000/\Cz Z vs /\
 (vs[1]?=Dn .none\/∃ (T:Addr) (oT:Obj) (ts:Array Mk),vs[1]?=Dn (.ref T)/\T≠e/\P T/\h.get? T=Dn oT/\oT.data=.fields ts/\3<ts.size)
def XN (h:Heap)(P:Addr->Prop)(Z:Mk->Prop)(e C:Addr)(od:Option Addr):Prop:=P e/\∃ (oe:Obj) (vs:Array Mk),h.get? e=Dn oe/\oe.cls=.ref C/\oe.dict=od/\oe.data=.fields vs/\vs.size<=1000/\Cz Z vs /\
 ∃ (T:Addr) (oT:Obj) (ts:Array Mk),vs[1]?=Dn (.ref T)/\T≠e/\P T/\h.get? T=Dn oT/\oT.data=.fields ts/\3<ts.size
theorem XN.xo {h:Heap}{P:Addr->Prop}{e C:Addr}{od:Option Addr}(x:XN h P Z e C od):XO h P Z e C od:=by
 obtain ⟨p,oe,vs,a,b,c,d,f,g,k⟩:=x;exact ⟨p,oe,vs,a,b,c,d,f,g,.inr k⟩
theorem XO.mono {h:Heap}{P P':Addr->Prop}{Z Z':Mk->Prop}{e C:Addr}{od:Option Addr}(x:XO h P Z e C od)(k:∀ b,P b->P' b)(kz:∀ z,Z z->Z' z):XO h P' Z' e C od:=by
 obtain ⟨p,oe,vs,a,b,c,d,f,g,z⟩:=x;refine ⟨k _ p,oe,vs,a,b,c,d,f,g.mono kz,?_⟩;rcases z with z | ⟨T,oT,ts,z1,z2,z3,z4⟩
 ·exact .inl z
 ·exact .inr ⟨T,oT,ts,z1,z2,k _ z3,z4⟩
theorem XN.mono {h:Heap}{P P':Addr->Prop}{Z Z':Mk->Prop}{e C:Addr}{od:Option Addr}(x:XN h P Z e C od)(k:∀ b,P b->P' b)(kz:∀ z,Z z->Z' z):XN h P' Z' e C od:=by
 obtain ⟨p,oe,vs,a,b,c,d,f,g,T,oT,ts,z1,z2,z3,z4⟩:=x;exact ⟨k _ p,oe,vs,a,b,c,d,f,g.mono kz,T,oT,ts,z1,z2,k _ z3,z4⟩
structure QB (P:Addr->Prop) (fs:List Addr) (h h':Heap):Prop where
 keep:∀ b o,¬ P b->b∉fs->h.get? b=Dn o->h'.get? b=Dn o
 slot:∀ b o,¬ P b->h.get? b=Dn o->∃ sl,h'.get? b=Dn { o with slots:=sl }
 there:∀ b o,h.get? b=Dn o->∃ o',h'.get? b=Dn o'
theorem QB.refl {P:Addr->Prop}{fs:List Addr}{h:Heap}:QB P fs h h:=⟨fun _ _ _ _ e=>e,fun _ o _ e=>⟨o.slots,e⟩,fun _ o e=>⟨o,e⟩⟩
theorem QB.trans {P:Addr->Prop}{fs:List Addr}{h h1 h2:Heap}(a:QB P fs h h1)(b:QB P fs h1 h2):QB P fs h h2:=
 ⟨fun c o n m e=>b.keep c o n m (a.keep c o n m e),fun c o n e=>let ⟨_,e1⟩:=a.slot c o n e;let ⟨sl,e2⟩:=b.slot c _ n e1;⟨sl,e2⟩,fun c o e=>let ⟨o1,e1⟩:=a.there c o e;b.there c o1 e1⟩
section
variable {M:Model}{A:Dl}{E:Mk->Af->Prop}{s:Af}{P:Addr->Prop}{e C:Addr}{od:Option Addr}
theorem zaU {fl:Option Addr}{fs:List Addr}{Q:Unit->Af->Prop}(x:XN s.heap P Z e C od)(h:∀ h',XN h' P Z e C od->QB P fs s.heap h'->Q () { s with heap:=h' }):Bm M A (setFlight (.ref e) fl) Q E s:=by
 obtain ⟨p,oe,vs,he,hc,hdd,hd,hz,h2,T,oT,ts,h1,hne,pT,hT,hdT,h3⟩:=x;unfold setFlight;refine Al<|Kc he hd h1 ?_
 rw [if_pos (show (Value.ref T != Value.none)=true from by simp)];refine Vd hT hdT h3<|h _ ?_ ?_
 ·have hd3:=QT hdT (·.setIfInBounds 3 (fl.elim Value.none fun f=>NK f));refine ⟨p,oe,vs,?_,hc,hdd,hd,hz,h2,T,_,_,h1,hne,pT,QW _ hT<|Ri hd3,hd3,by simpa using h3⟩;rw [Pj _ _ hne];exact he
 ·have ne:∀ b,¬ P b->T≠b:=fun b n q=>n (q ▸ pT)
  refine ⟨fun b o n _ q=>by rw [Pj _ _<|ne b n];exact q,fun b o n q=>⟨o.slots,by rw [Pj _ _<|ne b n];exact q⟩,fun b o q=>?_⟩;by_cases hb:T=b
  ·subst hb;exact ⟨_,QW _ hT<|Ri<|QT hdT _⟩
  ·exact ⟨o,by rw [Pj _ _ hb];exact q⟩
theorem FJ {base:Heap}{env:Env}{outer:List Env}{L:Addr}{oe:Obj}{vs:Array Mk}{head:Mk}{hadNext:Bool}{Q:Unit->Af->Prop}
  (hfr:A.frames=Dn (env::outer)) (hl:s.heap.FunFrames base (env::outer)) (hf:env.frame=Dn L) (pe:P e) (he:s.heap.get? e=Dn oe) (hc:oe.cls=.ref C) (hdd:oe.dict=od) (hd:oe.data=.fields vs) (hz:vs.size<=1000) (h2:Cz Z vs)
  (pn:∀ b,s.heap.get? b=JI->P b) (h:∀ h',XN h' P Z e C od->QB P (frs (env::outer)) s.heap h'->Q () { s with heap:=h' }) :
  Bm M A (do let a <-frameOf env;let pl <-entryPlaceOf L hadNext;let b <-EntryCells.newEntry head a .none (NK L) .none pl;setField (.ref e) 1 b) Q E s:=by
 have hsz:1<vs.size:=Nat.lt_trans (by decide) h2.size;have hene:e∉(env::outer).filterMap (·.frame):=fun hm=>by
  obtain ⟨_,o,ho,hnf⟩:=hl.mem hm;rw [he] at ho;injection ho with ho;subst ho;exact hnf vs hd
 refine Al<|wpAny_frameOf_fun hfr hl hf fun h₁ hs₁=>?_
 refine Al<|wpAny_entryPlaceOf fun pl hpl=>?_
 unfold EntryCells.newEntry newFields;refine Al<|Q9 ?_<|hpl.sizeOk5 _ _ _ _ _
 have he₁ : h₁.get? e=Dn oe:=(hs₁.2.1 e hene).trans he;have he₂:=IV (h:=h₁) { cls:=.type "traceback",dict:=JI,data:=.fields ([head,.ref L,.none,NK L,.none]++(if pl.isEmpty then Qf 6 Value.none else pl)).toArray } he₁;refine Vd he₂ hd hsz<|h _ ?_ ?_
 ·have hTe:h₁.objs.size≠e:=QX (Hx he₁);have hd₃:=QT hd (·.setIfInBounds 1 (Value.ref h₁.objs.size));refine ⟨pe,_,_,QW _ he₂ (Ri hd₃),by rw [Wv];exact hc,?_,hd₃,by simpa using hz,(let ⟨z,e2,hz2⟩:=h2;⟨z,by rw [Array.getElem?_setIfInBounds_ne (by decide)];exact e2,hz2⟩),h₁.objs.size,_,_,by simp [hsz],hTe,
   pn _ (XM (by rw [hs₁.1];exact Ig _)),(Pj _ _ (Jo hTe)).trans (Kg h₁ rfl),rfl,by simp only [Jf,Mf,Qy,List.length_nil] <;> lia⟩
  obtain ⟨c,dd,dt,sl⟩:=oe;cases hd;exact hdd
 ·have ne:∀ b,¬ P b->e≠b:=fun b n q=>n (q ▸ pe)
  refine ⟨fun b o n m q=>?_,fun b o n q=>?_,fun b o q=>?_⟩
  ·rw [Pj _ _ (ne b n)];exact IV _<|(hs₁.2.1 b m).trans q
  ·obtain ⟨sl,e1⟩:=hs₁.2.2 b o q;exact ⟨sl,by rw [Pj _ _<|ne b n];exact IV _ e1⟩
  ·obtain ⟨sl,e1⟩:=hs₁.2.2 b o q;by_cases hb:e=b
   ·subst hb;exact ⟨_,QW _ he₂<|Ri<|QT hd _⟩
   ·exact ⟨_,by rw [Pj _ _ hb];exact IV _ e1⟩
theorem ajs {base:Heap}{env:Env}{outer:List Env}{L:Addr}{Q:Unit->Af->Prop}(hfr:A.frames=Dn (env::outer))(hl:s.heap.FunFrames base (env::outer))(hf:env.frame=Dn L)(x:XO s.heap P Z e C od)
  (pn:∀ b,s.heap.get? b=JI->P b) (pf:∀ b∈frs (env::outer),¬ P b) (h:∀ h',XN h' P Z e C od->QB P (frs (env::outer)) s.heap h'->Q () { s with heap:=h' }):Bm M A (noteFrame (.ref e) env) Q E s:=by
 obtain ⟨p,oe,vs,he,hc,hdd,hd,hz,h2,z⟩:=x;unfold noteFrame;simp only [hf];rcases z with h1 | ⟨T,oT,ts,h1,hne,pT,hT,hdT,h3⟩
 ·refine Al<|Kc he hd h1 ?_
  rw [if_neg (by decide)];exact FJ hfr hl hf p he hc hdd hd hz h2 pn h
 ·refine Al<|Kc he hd h1 ?_
  rw [if_pos (show (Value.ref T != Value.none)=true from by simp)];refine Al<|Kc hT hdT (x:=ts[3]) (by simp [h3]) ?_
  by_cases q:(ts[3]==NK L)=true
  ·rw [if_pos q];exact Ck<|h s.heap ⟨p,oe,vs,he,hc,hdd,hd,hz,h2,T,oT,ts,h1,hne,pT,hT,hdT,h3⟩ .refl
  ·rw [if_neg q];refine Al<|Vd hT hdT h3 ?_
   have other:∀ b,b≠T->(s.heap.update T (Obj.mapFields (·.setIfInBounds 3 Value.none))).get? b=s.heap.get? b:=fun b hb=>Pj _ _ (Jo hb)
   have nT:∀ b,¬ P b->b≠T:=fun b n q=>n (q ▸ pT)
   have st:QB P (frs (env::outer)) s.heap (s.heap.update T (Obj.mapFields (·.setIfInBounds 3 Value.none))):=by
    refine ⟨fun b o n _ q=>(other b<|nT b n).trans q,fun b o n q=>⟨o.slots,(other b<|nT b n).trans q⟩,fun b o q=>?_⟩;by_cases hb:T=b
    ·subst hb;exact ⟨_,QW _ hT<|Ri<|QT hdT _⟩
    ·exact ⟨o,(other b<|Jo hb).trans q⟩
   refine FJ (s:={ s with heap:=s.heap.update T (Obj.mapFields (·.setIfInBounds 3 Value.none)) }) hfr (hl.of_keeps fun b o hb hnf=>⟨o,(other b fun q=>?_).trans hb,rfl⟩) hf p ((other e<|Jo hne).trans he) hc hdd hd hz h2 (fun b q=>?_) fun h' x1 x2=>h h' x1<|st.trans x2
   ·rw [q,hT] at hb;injection hb with hb;subst hb;exact hnf ts hdT
   ·by_cases hb:b=T
    ·rw [hb];exact pT
    ·exact pn b<|(other b hb).symm.trans q
end
variable {L : Addr}{fl : Option Addr}
theorem iW.obj {P:Dz}{w:Cw}{H:Hp}{h:Heap}{a:Addr}{o:HO}(x:iW P w H h a o):∃ ob,h.get? a=Dn ob:=by
 cases o with
 | lst xs=>obtain ⟨_,_,_,_,e⟩:=x;exact ⟨_,e⟩
 | tup xs=>obtain ⟨_,_,_,ob,e,_⟩:=x;exact ⟨_,e⟩
 | dK kvs=>obtain ⟨_,_,_,_,o,_,_,e,_⟩:=x;exact ⟨_,e⟩
 | dT kvs=>obtain ⟨_,_,_,_,o,_,_,e,_⟩:=x;exact ⟨_,e⟩
 | set S n=>obtain ⟨o,_,_,_,e,_⟩:=x;exact ⟨_,e⟩
 | ins C dx fs=>obtain ⟨_,_,_,e,_⟩:=x;exact ⟨_,e⟩
 | own y=>obtain ⟨_,e⟩:=x;exact ⟨_,e⟩
 | xd fs=>obtain ⟨_,⟨_,_,_,e,_⟩,_⟩:=x;exact ⟨_,e⟩
 | rng lo hi=>obtain ⟨_,_,_,e⟩:=x;exact ⟨_,e⟩
 | frz ob u=>obtain ⟨e,_⟩:=x;exact ⟨_,e⟩
 | tbl ps=>exact ⟨_,show h.get? a=Dn _ from x⟩
 | met f y=>exact ⟨_,show h.get? a=Dn _ from x⟩
 | ext φ=>obtain ⟨_,⟨_,e⟩,_⟩:=x;exact ⟨_,e⟩
section
variable {X:Cx}{alP:List (Addr×Obj)}{σ : St}{H H':Hp}{s s':Af}{b e C:Addr}{od:Option Addr}
structure New (X:Cx) (alP:List (Addr×Obj)) (H:Hp) (b:Addr):Prop where
 h:H b=JI
 s:b∈X.ex\/X.s₀.heap.get? b=JI
 l:b≠X.env.locals
 c:∀ x c,X.env.cells.lookup x=Dn c->c≠b
 p:∀ p∈X.pn++alP,p.1≠b
 f:b∉X.fs
theorem BR.newOf (I:BR X alP σ H s)(hb:s.heap.get? b=JI):New X alP H b where
 h:=by
  cases q:H b with
  | none=>rfl
  | some u=>obtain ⟨ob,e⟩:=(I.hok b u q).obj;rw [hb] at e;cases e
 s:=by
  by_cases hx:b∈X.ex
  ·exact .inl hx
  ·cases q:X.s₀.heap.get? b with
   | none=>exact .inr rfl
   | some o=>obtain ⟨o',e⟩:=I.base.there b o q hx;rw [hb] at e;cases e
 l:=fun z=>by obtain ⟨m,⟨o,_,_,ho,_⟩,_⟩:=I.loc;rw [<-z,hb] at ho;cases ho
 c:=fun x c e z=>by obtain ⟨v,o,ho,_⟩:=I.cell x c e;rw [z,hb] at ho;cases ho
 p:=fun p hp z=>by have ho:=(I.pin p hp).1;rw [z,hb] at ho;cases ho
 f:=fun hm=>by obtain ⟨_,o,ho,_⟩:=I.funs.mem hm;rw [hb] at ho;cases ho
open Classical in
theorem BR.stp {h':Heap}(I:BR X alP σ H s)(st:QB (New X alP H) (frs X.stack) s.heap h'):BR X alP σ H { s with heap:=h' }:=by
 have inCh:∀ b o,s.heap.get? b=Dn o->b∉(Ni s.heap.objs.size).filter (fun b=>decide (New X alP H b))->¬ New X alP H b:=fun b o e n z=>
  n (Oh.mpr ⟨Px.mpr (Hx e),decide_eq_true z⟩)
 refine I.stepG (g':=s.gens) (t':=s.toks) (d':=s.drawn) (ch:=(Ni s.heap.objs.size).filter (fun b=>decide<|New X alP H b)) (fun b hb=>?_) (fun b o hL hf hc e n=>?_) (fun b o _ _ hc e _=>st.slot b o (inCh b o e hc) e) (fun _ _ _ _ n=>n)
  (fun b o _ e=>st.there b o e) (fun _ _ q=>q) (fun _ _ _ q=>q) (fun _ ps q=>⟨#[],by rw [q];simp⟩) (fun m hm=>?_) (fun b u q=>?_) I.bare
 ·have z:=of_decide_eq_true (Oh.mp hb).2;exact ⟨z.s,z.l,z.c,z.p⟩
 ·exact st.keep b o (inCh b o e hc) (fun z=>(JN.mp<|I.stkSub b z).elim hL hf) e
 ·obtain ⟨o,es,ep,ho,r⟩:=hm;obtain ⟨sl,q⟩:=st.slot _ o (fun z=>z.l rfl) ho;exact ⟨_,es,ep,q,r⟩
 ·refine (I.hok b u q).stay (fun c v hc r=>?_) (fun _ q=>q) fun _ _ q=>q;have hH:H c≠JI:=by
   rcases hc with z | z
   ·rw [z,q];simp
   ·rw [z];simp
  exact st.keep c v (fun z=>hH z.h) (fun z=>hH<|I.stkFree c z) r
inductive Nm (N:Addr->Prop) (H:Hp):Mk->Prop
 | nil:Nm N H .none
 | cons {c:Addr} {o:Obj} {u:HO} {vs:Array Mk} {z:Mk} (n:N c) (h1:H c=Dn (.frz o u)) (h2:o.data=.fields vs) (h3:vs[2]?=Dn z) (t:Nm N H z):Nm N H (.ref c)
theorem Nm.mono {N N':Addr->Prop}{H H':Hp}{z:Mk}(c:Nm N H z)(k:∀ a,N a->N' a)(kh:∀ a o u,H a=Dn (.frz o u)->H' a=Dn (.frz o u)):Nm N' H' z:=by
 induction c with
 | nil=>exact .nil
 | cons n h1 h2 h3 _ ih=>exact .cons (k _ n) (kh _ _ _ h1) h2 h3 ih
inductive Rc (H:Hp):Mk->Addr->Prop
 | here {c:Addr} {o:Obj} {u:HO} (h1:H c=Dn (.frz o u)):Rc H (.ref c) c
 | next {c b:Addr} {o:Obj} {u:HO} {vs:Array Mk} {z:Mk} (h1:H c=Dn (.frz o u)) (h2:o.data=.fields vs) (h3:vs[2]?=Dn z) (t:Rc H z b):Rc H (.ref c) b
theorem Rc.frz {H:Hp}{v:Mk}{b:Addr}(r:Rc H v b):∃ o u,H b=Dn (.frz o u):=by
 induction r with
 | here h1=>exact ⟨_,_,h1⟩
 | next _ _ _ _ ih=>exact ih
theorem PB.rc {H0 H:Hp}{v:Mk}(c:PB H0 v)(k:∀ a o u,H0 a=Dn (.frz o u)->H a=Dn (.frz o u)):∀ {b:Addr},Rc H v b->Rc H0 v b:=by
 induction c with
 | nil=>intro b r;cases r
 | cons h1 h2 h3 _ ih=>
  intro b r;cases r with
  | here _=>exact .here h1
  | next g1 g2 g3 t=>
   have e:=k _ _ _ h1;rw [e] at g1;cases g1;rw [h2] at g2;cases g2;rw [h3] at g3;cases g3;exact .next h1 h2 h3<|ih t
theorem PB.chx {N:Addr->Prop}{H:Hp}{v:Mk}(c:PB H v)(k:∀ b,Rc H v b->N b):Nm N H v:=by
 induction c with
 | nil=>exact .nil
 | cons h1 h2 h3 _ ih=>exact .cons (k _ (.here h1)) h1 h2 h3 (ih fun b r=>k b (.next h1 h2 h3 r))
theorem Nm.rc {N:Addr->Prop}{H:Hp}{v:Mk}(c:Nm N H v):∀ {b:Addr},Rc H v b->N b:=by
 induction c with
 | nil=>intro b r;cases r
 | cons n h1 h2 h3 _ ih=>
  intro b r;cases r with
  | here _=>exact n
  | next g1 g2 g3 t=>
   rw [h1] at g1;cases g1;rw [h2] at g2;cases g2;rw [h3] at g3;cases g3;exact ih t
def RcO (H:Hp)(hd:Option Mk)(b:Addr):Prop:=∃ v,hd=Dn v/\Rc H v b
def Rv (X:Cx)(c:Addr):Prop:=(c∈X.ex\/X.s₀.heap.get? c=JI)\/RcO X.H₀ X.A.handled c
structure FX (X:Cx) (alP:List (Addr×Obj)) (σ : St) (H:Hp) (s:Af) (e C:Addr) (od:Option Addr):Prop where
 inv:BR X alP σ H s
 xo:XO s.heap (New X alP H) (Nm (Rv X) H) e C od
structure FN (X:Cx) (alP:List (Addr×Obj)) (σ : St) (H:Hp) (s:Af) (e C:Addr) (od:Option Addr):Prop where
 inv:BR X alP σ H s
 xn:XN s.heap (New X alP H) (Nm (Rv X) H) e C od
theorem FN.fx (F:FN X alP σ H s e C od):FX X alP σ H s e C od:=⟨F.inv,F.xn.xo⟩
def Top (X:Cx):Prop:=X.stack=X.env::X.outer/\X.env.frame=Dn X.env.locals
theorem FX.note {M:Model}{A:Dl}{E:Mk->Af->Prop}{Q:Unit->Af->Prop}(F:FX X alP σ H s e C od)(ht:Top X)(hA:A.frames=Dn X.stack)(h:∀ h',FN X alP σ H { s with heap:=h' } e C od->Q () { s with heap:=h' }):
  Bm M A (noteFrame (.ref e) X.env) Q E s:=by
 have hst:=F.inv.stack;rw [ht.1] at hst hA;refine ajs (P:=New X alP H) hA hst ht.2 F.xo (fun b hb=>F.inv.newOf hb) (fun b hb z=>?_) fun h' x st=>h h' ⟨F.inv.stp (by rw [ht.1];exact st),x⟩;have hb':b∈frs X.stack:=by rw [ht.1];exact hb
 rcases JN.mp (F.inv.stkSub b hb') with q | q
 ·exact z.l q
 ·exact z.f q
theorem FN.flight {M:Model}{A:Dl}{E:Mk->Af->Prop}{Q:Unit->Af->Prop}(F:FN X alP σ H s e C od)(h:∀ h',FN X alP σ H { s with heap:=h' } e C od->Q () { s with heap:=h' }):
  Bm M A (setFlight (.ref e) fl) Q E s:=zaU (fs:=frs X.stack) F.xn fun h' x st=>h h' ⟨F.inv.stp st,x⟩
def RM (P:Dz)(w:Cw):RN:=fun hd outer H s E e s'=>∃ (a C:Addr) (od:Option Addr) (H':Hp),e=.ref a/\s'.os=s.os/\Qp s'.gens/\Un (frs outer) [] H H' s.heap s'.heap/\K7 P w H' s'.heap /\
 XN s'.heap (fun b=>H' b=JI/\s.heap.get? b=JI) (Nm (fun b=>s.heap.get? b=JI\/RcO H hd b) H') a C od/\E (.ref C) od H'
theorem FX.leave {M:Model}{E':Mk->Af->Prop}{E:XK}(F:FX X alP σ H s e C od)(ht:Top X)(hx:X.ex=[])(he:E (.ref C) od H):
  Bm M X.A (leaving X.env (.ref e)) (fun _ s3=>RM X.prog X.w X.A.handled X.outer X.H₀ X.s₀ E (.ref e) s3) E' s:=by
 unfold leaving;refine Al<|F.note ht F.inv.ok.frames fun h1 F1=>F1.flight fun h2 F2=>?_
 have I:=F2.inv;refine ⟨e,C,od,H,rfl,I.os,I.bare,by have:=I.base;rw [hx] at this;exact this,I.hok,F2.xn.mono (fun b z=>⟨z.h,?_⟩)<|fun z c=>c.mono (fun b q=>?_) fun _ _ _ q=>q,he⟩
 ·rcases z.s with q | q
  ·rw [hx] at q;cases q
  ·exact q
 ·rcases q with (q | q) | q
  ·rw [hx] at q;cases q
  ·exact .inl q
  ·exact .inr q
theorem BR.cxx {E:XK}{ev:Mk}(I:BR X alP σ H s)(h:RM X.prog X.w X.A.handled X.stack H s E ev s'):∃ (a C:Addr) (od:Option Addr) (H':Hp),ev=.ref a/\FN X alP σ H' s' a C od/\E (.ref C) od H':=by
 obtain ⟨a,C,od,H',e1,os,bare,un,hok,x,he⟩:=h;refine ⟨a,C,od,H',e1,⟨I.call' os un hok bare (ch:=[])<|fun b z=>absurd z<|by simp,x.mono (fun b z=>?_) fun z c=>c.mono (fun b q=>q.elim (fun q=>.inl (I.newOf q).s) fun ⟨v,e,r⟩=>.inr ⟨v,e,(I.ok.qt v e).2.rc I.base.frzs r⟩) fun _ _ _ q=>q⟩,he⟩;have n:=I.newOf z.2;exact ⟨z.1,n.s,n.l,n.c,n.p,n.f⟩
end
variable {N : Addr->Prop}{bm : List Mk}{newId : String}
theorem aja {K:Bl}{h:Heap}{C:Addr}(X:K.In h)(q:WY K C bm newId=true):
  ∃ (tl:List Mk) (N:Addr) (nm qn:Str) (bs:List Mk) (hd:Bool) (sn:List Str) (sub:List Mk) (ab:Bool) (col:Option Bool) (dd:Option Addr) (k0 k1 k2 k3 k5:Option Mk) (mN:Str->Option Mk),
   K.lookup C=Dn (VG nm qn C N bs tl hd sn sub ab col dd k0 k1 k2 k3 k5 newId)/\h.Ns N mN/\mN "__init__" = JI/\OwnTail h bm tl:=by
 unfold WY at q;split at q
 ·rename_i dd cd sl ho;split at q
  ·rename_i C' bm' k0 k1 k2 k3 n k5 hm hs;simp only [Jw,beq_iff_eq,Ww] at q;obtain ⟨⟨⟨⟨⟨rfl,rfl⟩,hdel⟩,ht⟩,hok⟩,hni⟩:=q;obtain ⟨nm,bs,mro,ns,qn,hd,sn,sub,ab,col,del⟩:=cd;dsimp only at hm hdel hok hni;subst hm hdel;have hsl:sl = #[k0,k1,k2,k3,Dn (.builtin n),k5]:=by
    obtain ⟨l⟩:=sl;simp only at hs;rw [hs]
   subst hsl;exact ⟨bm',ns,nm,qn,bs,hd,sn,sub,ab,col,dd,k0,k1,k2,k3,k5,_,ho,.of_isNs<|PySem.W.isNs_of_in X hok,PySem.W.nsMap_none_of_in X hok hni,PySem.W.tail_of_in X ht⟩
  ·cases q
 ·cases q
section
variable {X:Cx}{alP:List (Addr×Obj)}{σ : St}{H:Hp}{s:Af}{C:Addr}{x:Str}{np alR pos:Pos}{e:Expr}{es:List Expr}{t:TA}
end
variable {np : Pos}
def YZ (K:Bl)(H:Hp)(μ : Mu)(C:Addr)(n:Str)(od:Option Addr)(fs:List (Str×W)):Prop:=
 (od=JI/\fs=[])\/∃ dd ws xs,od=Dn dd/\T9 K C n=true/\fs=(BJ n).zip ws/\ws.length=(BJ n).length/\(BJ n).length=xs.length/\H dd=Dn (.xd ((BJ n).zip xs))/\aM K H μ ws xs
def XT (X:Cx)(H:Hp)(μ : Mu)(Γ : St->Prop)(E:Bo):Mk->Af->Prop:=fun ev s=>∃ (a C:Addr) (n:Str) (od:Option Addr) (fs:List (Str×W)) (alP:List (Addr×Obj)) (σ : St) (H':Hp) (μ':Mu) (h':Gh),ev=.ref a/\FX X alP σ H' s a C od/\u0 X.K C n=true/\Γ σ /\
 Ip X.K H μ H' μ'/\HD X.K μ' H' h'/\YZ X.K H' μ' C n od fs/\E ⟨n,fs⟩ h'
variable {Γ : St->Prop}
theorem XT.trans {X:Cx}{H H1:Hp}{μ μ1:Mu}{Γ : St->Prop}{E:Bo}{ev:Mk}{s:Af}(x:XT X H1 μ1 Γ E ev s)(e:Ip X.K H μ H1 μ1):XT X H μ Γ E ev s:=by
 obtain ⟨a,C,n,od,fs,alP,σ,H',μ',h',h1,h2,h3,h4,h5,h6⟩:=x;exact ⟨a,C,n,od,fs,alP,σ,H',μ',h',h1,h2,h3,h4,e.trans h5,h6⟩
def tDX (X:Cx)(Γ : St->Prop)(m:Bo->ME):TE:=fun σ H Q=>Γ σ/\∃ μ h σw Qw E,HD X.K μ H h/\Slots X.K H μ σw σ/\m E σw h Qw/\(∀ v H',DQ X.K H μ Qw v H'->Q v H')/\∀ ev s',XT X H μ Γ E ev s'->X.xe ev s'
def aeO (X:Cx)(Γ : St->Prop)(m:Bo->MS):TS:=fun D σ H=>Γ σ/\∃ μ h σw Dw E,HD X.K μ H h/\Slots X.K H μ σw σ/\m E Dw σw h/\wD X.K H μ Dw D/\∀ ev s',XT X H μ Γ E ev s'->X.xe ev s'
abbrev DEx (X:Cx)(Γ : St->Prop)(e:Expr)(m:Bo->ME):Prop:=PE X e (tDX X Γ m)
abbrev V6 (X:Cx)(Γ : St->Prop)(st:Stmt)(m:Bo->MS):Prop:=PS X st (aeO X Γ m)
abbrev Js (X:Cx)(Γ : St->Prop)(st:List Stmt)(m:Bo->MS):Prop:=Nv X st (aeO X Γ m)
def Iz (K:Bl)(ms:AP):Sp:=fun vs H Q E=>∃ μ h ws Qw Ew,HD K μ H h/\aM K H μ ws vs/\ms ws h Qw Ew/\(∀ v H',DQ K H μ Qw v H'->Q v H') /\
 ∀ (C:Addr) (n:Str) (od:Option Addr) (fs:List (Str×W)) (H':Hp),u0 K C n=true->(∃ μ' h',Ip K H μ H' μ'/\HD K μ' H' h'/\YZ K H' μ' C n od fs/\Ew ⟨n,fs⟩ h')->E (.ref C) od H'
theorem jE.tame {P:Dz}{w:Cw}{K:Bl}{mg:Str->Option Mk}{base:Heap}{k:Nat}{f:Addr}{fd:Ln}{ps:List Str}(F:jE P w K mg base (RM P w) k f fd ps (Iz K ms)):jE P w K mg base Lf k f fd ps (lift K ms):=by
 have up:∀ vs H Q E,lift K ms vs H Q E->Iz K ms vs H Q E0:=fun vs H Q E ⟨μ,h,ws,Qw,R,r,m,q⟩=>⟨μ,h,ws,Qw,EF,R,r,m,q,fun _ _ _ _ _ _ ⟨_,_,_,_,_,z⟩=>z⟩
 refine ⟨fun vs H Q E q=>F.len vs H Q E0<|up _ _ _ _ q,fun A outer s H args us vs Q E hr e0 hb hv hs=>W6 (F.run A outer s H args us vs Q E0 hr e0 hb hv<|up _ _ _ _ hs) fun r s' h=>?_⟩;cases r with
 | error e=>obtain ⟨_,_,_,_,_,_,_,_,_,_,z⟩:=h;exact z
 | ok fl=>cases fl <;> exact h
section
variable {X:Cx}{e c:Expr}{es:List Expr}{pos:Pos}{st:Stmt}{rest:List Stmt}
theorem ajC {k:Nat}{f:Addr}{fd:Ln}{ps:List Str}{x:Str}{p:Pos}(F:jE X.prog X.w X.K X.mg X.base (RM X.prog X.w) k f fd ps (Iz X.K ms))(hr:eO k X.A)(hg:Gl X x)(hm:X.mg x=Dn (.ref f))(hk:Og X.K (.ref f)=true)
  (hb:Binds X.K fd ps []) (ha:Jm X (e::es) mr) (hdb:(x==("__debug__" : Str))=false:=by decide) (he:Cy (e::es) X.env=(false,eval e X.env)::Cy es X.env:=by rfl) (hpl:(Jd pos (Cy es X.env)).any (·.1)=false:=by rfl) :
  DEx X Γ (.Call (.Name x p) (e::es) [] pos) (fun E=>aD ms E mr):=by
 intro alP s σ H Q I ⟨hσ,μ,h,σw,Qw,E,R,S,m,q,kx⟩;refine VN<|oZ I hg hm ?_ hdb
 refine PySem.W.callWith_K (h₀:=X.base) I.ok.mod.kin hk (HJ (ha pos alP s σ H (fun vs H1=>DA X.K H μ (fun ws h1=>ms ws h1 Qw E) vs H1) I ⟨μ,h,σw,_,R,S,m,fun _ _ z=>z⟩) fun us s1 ⟨vs,H1,I1,r,μ1,ws,h1,e1,R1,r1,m1⟩=>⟨I1.kIn,?_⟩) he hpl;have sp:Iz X.K ms (vs++[]) H1 Q (fun Cv od H'=>∃ (C:Addr) (n:Str) (fs:List (Str×W)) (μ':Mu) (h':Gh),Cv=.ref C/\u0 X.K C n=true/\Ip X.K H1 μ1 H' μ'/\HD X.K μ' H' h'/\YZ X.K H' μ' C n od fs/\E ⟨n,fs⟩ h'):=by
  rw [Vv];exact ⟨μ1,h1,ws,Qw,E,R1,r1,m1,fun v H' z=>q _ _<|z.trans e1,fun C n od fs H' hx ⟨μ',h',z⟩=>⟨C,n,fs,μ',h',rfl,hx,z⟩⟩
 have r2:Bp (vs++[]) (us++[]):=r.append .nil;have hl:(us++[]).length=ps.length:=by rw [<-r2.length];exact F.len _ _ _ _ sp
 refine wpAny_call<|W6 (F.run X.A X.stack s1 H1 ⟨us,[]⟩ (us++[]) (vs++[]) Q _ hr I1.env0 (hb s1 us I1.kIn hl) r2 sp) fun r s' hq=>?_
 cases r with
 | error ev=>
  obtain ⟨a,C,od,H',e2,F2,C',n,fs,μ',h',e3,hx,e4,R4,k4⟩:=I1.cxx (E:=fun Cv od H'=>∃ (C:Addr) (n:Str) (fs:List (Str×W)) (μ':Mu) (h':Gh),Cv=.ref C/\u0 X.K C n=true/\Ip X.K H1 μ1 H' μ'/\HD X.K μ' H' h'/\YZ X.K H' μ' C n od fs/\E ⟨n,fs⟩ h') hq;cases e3;exact kx ev s' ⟨a,C,n,od,fs,alP,σ,H',μ',h',e2,F2.fx,hx,hσ,e1.trans e4,R4,k4⟩
 | ok fl=>
  cases fl with
  | ret u=>exact I1.after hq
  | next=>exact Ov hq
  | brk=>exact Ov hq
  | cont=>exact Ov hq
theorem Ob {m:MS}(h:DS X st m):V6 X Γ st (fun _=>m):=h.of fun D σ H ⟨_,μ,h,σw,Dw,_,R,S,m,k,_⟩=>⟨μ,h,σw,Dw,R,S,m,k⟩
theorem Fv:Js X Γ [] (fun _=>bK):=aP.of fun D σ H ⟨_,μ,h,σw,Dw,_,R,S,m,k,_⟩=>⟨μ,h,σw,Dw,R,S,m,k⟩
theorem fV {m:Bo->MS}(h:V6 X Γ st m):Js X Γ [st] m:=BW h
theorem dX {m1 m2:Bo->MS}(hΓ : ∀ σ,Γ σ)(h1:V6 X Γ st m1)(h2:Js X Γ rest m2):Js X Γ (st::rest) (fun E=>aV (m1 E) (m2 E)):=(xP h1 h2).of fun D σ H ⟨g,μ,h,σw,Dw,E,R,S,m,k,kx⟩=>by
 refine ⟨g,μ,h,σw,_,E,R,S,m,⟨?_,k.rt,k.bk,k.ct⟩,kx⟩;intro σ' H' ⟨μ1,σw1,h1,e1,R1,S1,m1⟩;exact ⟨hΓ _,μ1,h1,σw1,Dw,E,R1,S1,m1,k.trans e1,fun ev s' z=>kx ev s'<|z.trans e1⟩
theorem mH {ma:Bo->ME}(he:DEx X Γ e ma)(hs:Qs e JI pos.line X.env=pure false:=by rfl):V6 X Γ (.Expr e pos) (fun E=>kZ (ma E)):=(Lh he hs).of fun D σ H ⟨g,μ,h,σw,Dw,E,R,S,m,k,kx⟩=>
 ⟨g,μ,h,σw,_,E,R,S,m,fun v H1 ⟨μ1,w,h1,e1,R1,_,m1⟩=>k.nx _ _ ⟨μ1,σw,h1,e1,R1,S.ext e1,m1⟩,kx⟩
theorem Ub {a b:List Stmt}{t:MT}{m1 m2:Bo->MS}(hc:DT X c t)(ha:Js X Γ a m1)(hb:Js X Γ b m2):V6 X Γ (.If c a b pos) (fun E=>d7 t (m1 E) (m2 E)):=(aaV hc ha hb).of fun D σ H ⟨g,μ,h,σw,Dw,E,R,S,m,k,kx⟩=>by
 refine ⟨μ,h,σw,_,R,S,m,fun b H1 ⟨μ1,h1,e1,R1,q⟩=>?_⟩;cases b with
 | true=>rw [if_pos rfl];exact ⟨g,μ1,h1,σw,Dw,E,R1,S.ext e1,q.1 rfl,k.trans e1,fun ev s' z=>kx ev s' (z.trans e1)⟩
 | false=>rw [if_neg Ky];exact ⟨g,μ1,h1,σw,Dw,E,R1,S.ext e1,q.2 rfl,k.trans e1,fun ev s' z=>kx ev s' (z.trans e1)⟩
theorem yp {ma:Bo->ME}{i:Nat}{x:Str}{pos':Pos}(hN:X.N.Nodup)(hi:X.N[i]?=Dn x)(hx:Loc X.env.scope x)(he:DEx X Γ e ma)(hs:Qs e (Dn (.Name x pos')) pos.line X.env=pure false:=by rfl)
  (hf:X.fn x=true\/X.env.scope.names.lookup x=Dn .local:=by first | exact .inl rfl | exact .inr rfl | assumption):V6 X Γ (.Assign [.Name x pos'] e pos) (fun E=>bx (ma E) (kI i)):=
 (Te hN hi hx he hs hf).of fun D σ H ⟨g,μ,h,σw,Dw,E,R,S,m,k,kx⟩=>
  ⟨g,μ,h,σw,_,E,R,S,m,fun v H1 ⟨μ1,w,h1,e1,R1,r1,m1⟩=>k.nx _ _ ⟨μ1,σw.set i (Dn w),h1,e1,R1,(S.ext e1).set r1 i,m1⟩,kx⟩
end
theorem Zo {P:Dz}{w:Cw}{K:Bl}{mg:Str->Option Mk}{base:Heap}{x qual:Str}{st:Stmt}{f:Addr}{fd:Ln}{N ps:List Str}{k:Nat}{pure:Bool}{body:Bo->MS}(F:Qm K x qual st f fd)(S:eE N ps (aQ st))
  (hb:∀ (cdv:Mk) (A:Dl) (outer:List Env) (s:Af) (H:Hp) (E:XK),eO k (A.deeper (PN qual (aQ st) s.heap.objs.size f cdv)) ->
   Js (Dg (RM P w) P w K mg base N qual (aQ st) f cdv A outer s H E) (fun _=>True) (cT st) body):jE P w K mg base (RM P w) (k+1) f fd ps (Iz K (Ec ps.length N.length pure body)):=by
 obtain ⟨oc,od,kV,doc,pm,an,cdv,ct,osl,rfl,lk,hcd⟩:=F.ex;refine ZW lk hcd S (fun vs H Q E ⟨μ,h,ws,Qw,Ew,R,r,m,_,_⟩=>by rw [<-r.len];exact (Ey m).1) fun A outer s H vs Q E hr ⟨μ,h,ws,Qw,Ew,R,r,m0,k,kx⟩=>?_;obtain ⟨hl,m⟩:=Ey m0;refine ⟨_,hb cdv A outer s H E hr,trivial,μ,h,_,_,Ew,R,sZ r,m,⟨?_,?_,?_,?_⟩,?_⟩
 ·rintro σ' H' ⟨μ1,σw1,h1,e1,R1,S1,m1⟩;exact k _ _<|yD (w:=.non) R e1 R1 (by rw [Aj]) m1
 ·rintro v H' ⟨μ1,w1,h1,e1,R1,r1,m1⟩;exact k _ _<|yD R e1 R1 r1 m1
 ·rintro σ' H' ⟨μ1,σw1,h1,e1,R1,S1,m1⟩;exact m1.elim
 ·rintro σ' H' ⟨μ1,σw1,h1,e1,R1,S1,m1⟩;exact m1.elim
 ·rintro ev s' ⟨a,C,n,od,fs,alP,σ',H',μ',h',rfl,F',hx,_,e1,R1,m1⟩;exact F'.leave ⟨rfl,rfl⟩ rfl<|kx C n od fs H' hx ⟨μ',h',e1,R1,m1⟩
abbrev Cx.tr (X:Cx)(alP:List (Addr×Obj))(xe:Mk->Af->Prop):Cx:={ X with pn:=X.pn++alP,xe:=xe }
abbrev Cx.hnd (X:Cx)(a:Addr)(H0:Hp):Cx:={ X with A:=X.A.mark (Dn (.ref a)),H₀:=H0,calm:=false }
def Ag (a:Addr)(o:Obj):HO:=.ext fun h=>h.get? a=Dn o
section
variable {X:Cx}{alP pins':List (Addr×Obj)}{σ : St}{H:Hp}{s:Af}{xe:Mk->Af->Prop}{a C:Addr}{o:Obj}{u:HO}
theorem Cx.Ok.tr (ok:X.Ok)(alP:List (Addr×Obj))(xe:Mk->Af->Prop):(X.tr alP xe).Ok:=
 ⟨ok.mod,ok.kind,ok.glob,ok.blt,ok.above,ok.inj,ok.has,ok.cab,ok.hd,ok.qt,ok.frames,ok.stk,ok.exf,ok.bs,ok.bsz,ok.noex,ok.exfs,ok.funs,ok.frf⟩
theorem Cx.Ok.untr (ok:(X.tr alP xe).Ok):X.Ok:=
 ⟨ok.mod,ok.kind,ok.glob,ok.blt,ok.above,ok.inj,ok.has,ok.cab,ok.hd,ok.qt,ok.frames,ok.stk,ok.exf,ok.bs,ok.bsz,ok.noex,ok.exfs,ok.funs,ok.frf⟩
theorem BR.tr (I:BR X alP σ H s):BR (X.tr alP xe) [] σ H s:=⟨I.ok.tr alP xe,I.os,I.bare,I.base,I.loc,I.cell,I.free,I.freeC,fun p hp=>I.pin p (by
 have hp':p∈(X.pn++alP)++[]:=hp;rw [Vv] at hp';exact hp'),I.hok,I.len⟩
theorem BR.untr (I:BR (X.tr alP xe) pins' σ H s):BR X alP σ H s:=⟨I.ok.untr,I.os,I.bare,I.base,I.loc,I.cell,I.free,I.freeC,fun p hp=>I.pin p (XQ _ hp),I.hok,I.len⟩
theorem New.untr {b:Addr}(n:New (X.tr alP xe) pins' H b):New X alP H b:=⟨n.h,n.s,n.l,n.c,fun p hp=>n.p p (XQ _ hp),n.f⟩
theorem FX.untr {e:Addr}{od:Option Addr}(F:FX (X.tr alP xe) pins' σ H s e C od):FX X alP σ H s e C od:=⟨F.inv.untr,F.xo.mono (fun _ n=>n.untr) fun _ z=>z⟩
theorem SP.untr {D:Ends}{f:Flow}{s':Af}(h:SP (X.tr alP xe) [] D f s'):SP X alP D f s':=by
 cases f with
 | next=>obtain ⟨σ',H',I,q⟩:=h;exact ⟨σ',H',I.untr,q⟩
 | brk=>obtain ⟨σ',H',I,q⟩:=h;exact ⟨σ',H',I.untr,q⟩
 | cont=>obtain ⟨σ',H',I,q⟩:=h;exact ⟨σ',H',I.untr,q⟩
 | ret v=>obtain ⟨v,σ',H',I,r,q⟩:=h;exact ⟨v,σ',H',I.untr,r,q⟩
structure ab1 (X:Cx) (H0:Hp):Prop where
 s0:∀ b ob,X.s₀.heap.get? b=Dn ob->H0 b=X.H₀ b
 tups:∀ b xs,X.H₀ b=Dn (.tup xs)->H0 b=Dn (.tup xs)
 frzs:∀ b ob v,X.H₀ b=Dn (.frz ob v)->H0 b=Dn (.frz ob v)
 tbls:∀ b ps,X.H₀ b=Dn (.tbl ps)->H0 b=Dn (.tbl ps)
def acE (X:Cx):Prop:=∀ v,X.A.handled=Dn v->Nm (Rv X) X.H₀ v
theorem acE.ok (ok:X.Ok):acE X:=fun v e=>(ok.qt v e).2.chx fun b r=>.inr ⟨v,e,r⟩
theorem Nm.lst {H:Hp}{z:Mk}(c:Nm N H z):∃ l:List Addr,(∀ b∈l,N b/\∃ o u,H b=Dn (.frz o u))/\∀ H0:Hp,(∀ b∈l,H0 b=H b)->Nm N H0 z:=by
 induction c with
 | nil=>exact ⟨[],fun b hb=>absurd hb (by simp),fun _ _=>.nil⟩
 | @cons c o u vs z n h1 h2 h3 _ ih=>
  obtain ⟨l,p,q⟩:=ih;refine ⟨c::l,fun b hb=>?_,fun H0 k=>.cons n ((k c<|by simp).trans h1) h2 h3<|q H0 fun b hb=>k b<|by simp [hb]⟩;rcases JN.mp hb with rfl | hb
  ·exact ⟨n,o,u,h1⟩
  ·exact p b hb
theorem Nm.chn {H:Hp}{z:Mk}(c:Nm N H z):PB H z:=by
 induction c with
 | nil=>exact .nil
 | cons _ h1 h2 h3 _ ih=>exact .cons h1 h2 h3 ih
open Classical in
theorem BR.hnd {vs:Array Mk}{z:Mk}(I:BR X alP σ H s)(n:New X alP H a)(hx:X.ex=[])(ho:s.heap.get? a=Dn o)(hd:o.data=.fields vs)(h2:vs[2]?=Dn z)(ch:Nm (Rv X) H z) :
  ∃ H0,ab1 X H0/\(∀ b,Rv (X.hnd a H0) b->Rv X b)/\BR (X.hnd a H0) alP σ (Dv H a (.frz o (Ag a o))) s:=by
 obtain ⟨l1,lp1,lq⟩:=ch.lst;have s0:X.s₀.heap.get? a=JI:=by
  rcases n.s with q | q
  ·rw [hx] at q;cases q
  ·exact q
 let l:List Addr:=l1.filter fun b=>decide (X.s₀.heap.get? b=JI)
 have l0:∀ b∈l,X.s₀.heap.get? b=JI:=fun b hb=>of_decide_eq_true (Oh.mp hb).2
 have lp:∀ b∈l,True/\∃ o u,H b=Dn (.frz o u):=fun b hb=>⟨trivial,(lp1 b (Oh.mp hb).1).2⟩
 have la:∀ b∈l,b≠a:=fun b hb q=>by
  obtain ⟨_,_,_,e⟩:=lp b hb;rw [q,n.h] at e;cases e
 let H0:Hp:=fun b=>if b=a then Dn (.frz o (Ag a o)) else if b∈l then H b else X.H₀ b
 have hA:H0 a=Dn (.frz o (Ag a o)):=if_pos rfl;have hL:∀ b∈l,H0 b=H b:=fun b hb=>(if_neg (la b hb)).trans (if_pos hb)
 have hO:∀ b,b≠a->b∉l->H0 b=X.H₀ b:=fun b h1 h3=>(if_neg h1).trans (if_neg h3)
 have ne:∀ b ob,X.s₀.heap.get? b=Dn ob->b≠a:=fun b ob e z=>by rw [z,s0] at e;cases e
 have nl:∀ b ob,X.s₀.heap.get? b=Dn ob->b∉l:=fun b ob e z=>by rw [l0 b z] at e;cases e
 have eq0:∀ b ob,X.s₀.heap.get? b=Dn ob->H0 b=X.H₀ b:=fun b ob e=>hO b (ne b ob e) (nl b ob e)
 have nf:∀ b∈X.fs,b≠a:=fun b hb z=>n.f (by rw [<-z];exact hb)
 have nfl:∀ b∈X.fs,b∉l:=fun b hb z=>by
  obtain ⟨_,ob,ho,_⟩:=I.ok.funs.mem hb;exact nl b ob ho z
 have kf:∀ b ob v,X.H₀ b=Dn (.frz ob v)->H0 b=Dn (.frz ob v):=fun b ob v e=>by
  have e1:=I.base.frzs b ob v e;by_cases hb:b=a
  ·rw [hb,n.h] at e1;cases e1
  ·by_cases hl:b∈l
   ·rw [hL b hl];exact e1
   ·rw [hO b hb hl];exact e
 have kt:∀ b xs,X.H₀ b=Dn (.tup xs)->H0 b=Dn (.tup xs):=fun b xs e=>by
  have e1:=I.base.tups b xs e;by_cases hb:b=a
  ·rw [hb,n.h] at e1;cases e1
  ·by_cases hl:b∈l
   ·rw [hL b hl];exact e1
   ·rw [hO b hb hl];exact e
 have kb:∀ b ps,X.H₀ b=Dn (.tbl ps)->H0 b=Dn (.tbl ps):=fun b ps e=>by
  obtain ⟨_,e1⟩:=I.base.tbls b ps e;by_cases hb:b=a
  ·rw [hb,n.h] at e1;cases e1
  ·by_cases hl:b∈l
   ·obtain ⟨_,_,_,e2⟩:=lp b hl;rw [e1] at e2;cases e2
   ·rw [hO b hb hl];exact e
 have hL1:∀ b∈l1,H0 b=H b:=fun b hb=>by
  by_cases q:X.s₀.heap.get? b=JI
  ·exact hL b<|Oh.mpr ⟨hb,decide_eq_true q⟩
  ·have nb:b≠a:=fun z=>q (by rw [z];exact s0)
   rw [hO b nb (fun z=>q (l0 b z))];rcases (lp1 b hb).1 with (z | z) | ⟨v,_,r⟩
   ·rw [hx] at z;cases z
   ·exact absurd z q
   ·obtain ⟨o',u',e⟩:=r.frz;rw [e];exact (I.base.frzs b o' u' e).symm
 have ch1:Nm (Rv X) H0 (.ref a):=.cons (.inl n.s) hA hd h2 (lq H0 hL1);have nw:∀ b,Rv (X.hnd a H0) b->Rv X b:=fun b q=>by
  rcases q with q | ⟨v,e,r⟩
  ·exact .inl q
  ·have e:Dn (Value.ref a)=Dn v:=e;cases e;exact ch1.rc r
 have ok:(X.hnd a H0).Ok:=by
  have k:=I.ok;refine ⟨k.mod,k.kind,k.glob,k.blt,k.above,k.inj,k.has,k.cab,fun z=>(nomatch z),fun v e=>?_,k.frames,k.stk,k.exf,fun b ob e=>?_,k.bsz,k.noex,k.exfs,k.funs,fun b hb=>?_⟩
  ·have e:Dn (Value.ref a)=Dn v:=e;cases e;exact ⟨⟨a,rfl⟩,ch1.chn⟩
  ·obtain ⟨e1,e2⟩:=k.bs b ob e;exact ⟨e1,(eq0 b ob e1).trans e2⟩
  ·exact (hO b (nf b hb)<|nfl b hb).trans (k.frf b hb)
 refine ⟨H0,⟨eq0,kt,kf,kb⟩,nw,ok,I.os,I.bare,⟨fun b ob e z hf hx=>I.base.keep b ob e ((eq0 b ob e).symm.trans z) hf hx,fun b ob e z hf hx=>I.base.slot b ob e ((eq0 b ob e).symm.trans z) hf hx,fun b ob e z hx=>?_,I.base.there,fun b xs z=>?_,fun b ob v z=>?_,fun b ps z=>?_⟩,I.loc,I.cell,?_,fun x c e=>?_,fun p hp=>?_,fun b v z=>?_,I.len⟩
 ·rw [aJ (ne b ob e)];exact I.base.free b ob e ((eq0 b ob e).symm.trans z) hx
 ·have z:H0 b=Dn (.tup xs):=z;by_cases hb:b=a
  ·rw [hb,hA] at z;cases z
  ·rw [aJ hb];by_cases hl:b∈l
   ·rw [hL b hl] at z;exact z
   ·rw [hO b hb hl] at z;exact I.base.tups b xs z
 ·have z:H0 b=Dn (.frz ob v):=z;by_cases hb:b=a
  ·rw [hb,hA] at z;rw [hb,aU];exact z
  ·rw [aJ hb];by_cases hl:b∈l
   ·rw [hL b hl] at z;exact z
   ·rw [hO b hb hl] at z;exact I.base.frzs b ob v z
 ·have z:H0 b=Dn (.tbl ps):=z;by_cases hb:b=a
  ·rw [hb,hA] at z;cases z
  ·rw [aJ hb];by_cases hl:b∈l
   ·obtain ⟨_,_,_,e2⟩:=lp b hl;rw [hL b hl,e2] at z;cases z
   ·rw [hO b hb hl] at z;exact I.base.tbls b ps z
 ·rw [aJ (Jo n.l)];exact I.free
 ·rw [aJ (n.c x c e)];exact I.freeC x c e
 ·obtain ⟨h1,h3,h4⟩:=I.pin p hp;exact ⟨h1,(aJ<|n.p p hp).trans h3,h4⟩
 ·by_cases hb:b=a
  ·subst hb;rw [aU] at z;cases z;exact ⟨ho,ho,⟨o,ho⟩,fun h1 h2 q k=>k o q⟩
  ·rw [aJ hb] at z;exact (I.hok b v z).stay (fun _ _ _ q=>q) (fun c q=>by rw [aJ (aN q n.h)];exact q) fun c xs q=>by rw [aJ (aN q n.h)];exact q
theorem BR.unhnd {H0:Hp}(ok:X.Ok)(k:ab1 X H0)(I:BR (X.hnd a H0) pins' σ H s):BR X pins' σ H s:=by
 have up:∀ b ob,X.s₀.heap.get? b=Dn ob->X.H₀ b=JI->(X.hnd a H0).H₀ b=JI:=fun b ob e z=>(k.s0 b ob e).trans z
 exact ⟨ok,I.os,I.bare,⟨fun b ob e z hf hx=>I.base.keep b ob e (up b ob e z) hf hx,fun b ob e z hf hx=>I.base.slot b ob e (up b ob e z) hf hx,fun b ob e z hx=>I.base.free b ob e (up b ob e z) hx,I.base.there,fun b xs z=>I.base.tups b xs<|k.tups b xs z,fun b ob v z=>I.base.frzs b ob v<|k.frzs b ob v z,fun b ps z=>I.base.tbls b ps<|k.tbls b ps z⟩,I.loc,I.cell,I.free,I.freeC,I.pin,I.hok,I.len⟩
def Xk (σ : St):St:=σ.map fun _=>JI
theorem BR.lost {m':Str->Option Mk}{h':Heap}{t':Nat}(I:BR X alP σ H s)(hn:h'.Ns X.env.locals m')(sb:Ro X.env.locals s.heap h'):BR X alP (Xk σ) H { s with heap:=h',toks:=t' }:=by
 have neL:∀ b o,X.s₀.heap.get? b=Dn o->b≠X.env.locals:=fun b o e=>Ko (K5 (Hx e) I.ok.above)
 have k:∀ b o,b≠X.env.locals->s.heap.get? b=Dn o->h'.get? b=Dn o:=fun b o hb e=>(sb.2 b hb).trans e
 refine ⟨I.ok,I.os,I.bare,⟨fun b o e z hf hx=>k b o (neL b o e)<|I.base.keep b o e z hf hx,fun b o e z hf hx=>?_,I.base.free,fun b o e hx=>?_,I.base.tups,I.base.frzs,I.base.tbls⟩,⟨m',hn,fun i x v _ e2 _=>?_⟩,fun x c e=>?_,I.free,I.freeC,fun p hp=>?_,fun b v z=>?_,?_⟩
 ·obtain ⟨sl,e1⟩:=I.base.slot b o e z hf hx;exact ⟨sl,k b _ (neL b o e) e1⟩
 ·obtain ⟨o',e1⟩:=I.base.there b o e hx;exact ⟨o',k b _ (neL b o e) e1⟩
 ·unfold Xk at e2;rw [N7] at e2;cases q:σ[i]? with
  | none=>rw [q] at e2;cases e2
  | some w=>rw [q] at e2;cases e2
 ·obtain ⟨v,oc,ho,hd⟩:=I.cell x c e;exact ⟨v,oc,k c oc (I.cne x c e) ho,hd⟩
 ·obtain ⟨h1,h2,h3,h4⟩:=I.pin p hp;exact ⟨k _ _ h3 h1,h2,h3,h4⟩
 ·have nL:∀ c w,H c=Dn w->c≠X.env.locals:=fun c w e q=>by rw [q,I.free] at e;cases e
  refine (I.hok b v z).stay (fun c w hc q=>k c w ?_ q) (fun _ q=>q) fun _ _ q=>q;rcases hc with r | r
  ·rw [r];exact nL b _ z
  ·exact nL c _ r
 ·unfold Xk;rw [Hu];exact I.len
end
section
variable {prog:Dz}{w:Cw}{A:Dl}{E:Mk->Af->Prop}{s:Af}{K:Bl}{x:Addr}{ox:Obj}
theorem ags {Q:Option Mk->Af->Prop}{od:Option Obj}(X:K.In s.heap)(I:VJ s.heap x ox D od)(hga:M6 K (.ref D) "__getattribute__" = Dn (Dn (.builtin "BaseException.__getattribute__")))(hk:M6 K (.ref D) "__getattr__" = Dn JI)
  (hf:PySem.W.findObj K D od "__class__" = Dn (.bind (.builtin "getset_descriptor.__get__") (.builtin "object.__class__"))) (hm:Pb K D (.type "object")=Dn true) (hB:Pb K D (.type "BaseException")=Dn true)
  (h:Q (Dn (.ref D)) { s with toks:=s.toks+1 }):Bm (CN prog w) A (getAttr? (.ref x) "__class__") Q E s:=by
 obtain ⟨hh,g,d,t,os⟩:=s;have L0:=I.type (M:=CN prog w);have L1:=Xe (M:=CN prog w) X hga;have L2:=Xe (M:=CN prog w) X hk;have L3:=PySem.W.looks_find (M:=CN prog w) X I hf;have L4:=XH (M:=CN prog w) X hB;unfold getAttr? getAttrBy? getAttrBy;refine Al<|wpAny_mkText<|Al<|Rg<|Nb<|Al<|PySem.W.Looks.at L0<|Al<|PySem.W.Looks.at L1 ?_
 show Bm _ _ (if (onTheHeap (Value.ref D)&&(Value.builtin "BaseException.__getattribute__"==Value.builtin "object.__getattribute__"))=true then _ else getAttrByItsOwn _ _ _ _ _ _) _ _ _;have hx2:(Value.builtin "BaseException.__getattribute__"==Value.builtin "object.__getattribute__")=false:=by decide +kernel
 rw [hx2,Wb,if_neg Ky];unfold getAttrByItsOwn;refine Al<|show Bm _ _ (typeLookup (Value.ref D) "__getattr__") _ _ _ from PySem.W.Looks.at L2 ?_
 refine Al<|Rg<|Nb ?_
 show Bm _ _ (boundAndCalled _ _ _) _ _ _;unfold boundAndCalled;rw [Xz.ga.bind (.ref x)];refine Al<|Ck ?_
 dsimp only;refine wpAny_call<|codeAny_call_builtin Xz.ga.plain F.entry_bexc_ga ?_
 have hk:builtinKind "BaseException.__getattribute__" = Dn .slot:=by decide +kernel
 have hsplit:splitId "BaseException.__getattribute__" = Dn ("BaseException", "__getattribute__"):=by decide +kernel
 have ha:=F.args_bexc_ga (.ref x) (.str "__class__" t);simp only [checkBuiltinCall,hk,hsplit];show Bm (CN prog w) A.in1 (VD (Value.ref x) (Value.type "BaseException") >>= _) _ _ _;refine Al ?_;unfold VD;refine Al<|PySem.W.Looks.at L0<|PySem.W.Looks.at L4 ?_
 rw [if_neg (by decide)];change Bm (CN prog w) A.in1 (match Manifest.signature? "BaseException.__getattribute__" with
  | some sig=>Bind.checkArgs "BaseException.__getattribute__" sig ⟨[Value.ref x,Value.str (Rb "__class__") t],[]⟩
  | x=>pure ()) _ _ _
 repeat (any_goals (first | assumption | (with_reducible refine Vq I.at_ ?_;rw [I.cls]) | with_reducible refine PySem.W.Looks.at L3 ?_ | wp_step))
 refine PySem.W.class_get (s:=⟨hh,g,d,t+1,os⟩) (ox:=ox) (od:=od) X I hm ?_;refine Ck ?_;exact PySem.W.handed_on rfl<|Ck h
end
def HI (n d:Str):Bool:=n==d||d == "EaselError"
section
variable {K:Bl}{C:Addr}{n d:Str}
theorem Ja (h:cW K D d=true):Iw K IK d=Dn (Dn (.ref D))/\X6 K (.ref D)=Dn (.type "type")/\∃ cd,U9 K D=Dn cd/\cd.name=d/\cd.mro.contains (.type "BaseException")=true:=by
 unfold cW at h;simp only [Jw,beq_iff_eq] at h;obtain ⟨⟨h1,h2⟩,h3⟩:=h;refine ⟨h1,h2,?_⟩;split at h3
 ·rename_i cd hc;simp only [Jw,beq_iff_eq] at h3;exact ⟨cd,hc,h3.1,h3.2⟩
 ·cases h3
theorem J1 (h:u0 K C n=true):cW K C n=true/\(∃ cd R,U9 K C=Dn cd/\cd.mro=.ref C::.ref R::QF/\Iw K IK "EaselError" = Dn (Dn (.ref R))/\∃ cr,U9 K R=Dn cr/\cr.name = "EaselError") /\
  M6 K (.ref C) "__getattribute__" = Dn (Dn (.builtin "BaseException.__getattribute__"))/\M6 K (.ref C) "__getattr__" = Dn JI/\M6 K (.ref C) "__class__" = Dn (Dn (.builtin "object.__class__"))/\PySem.W.specialIn K (.builtin "object.__class__") "__get__" = Dn (Dn (.builtin "getset_descriptor.__get__"))/\PySem.W.takesIn K (.builtin "object.__class__")=Dn true:=by
 unfold u0 at h;simp only [Jw,beq_iff_eq] at h;obtain ⟨⟨⟨⟨⟨⟨h1,h2⟩,h3⟩,h3'⟩,h4⟩,h5⟩,h6⟩:=h;refine ⟨h1,?_,h3,h3',h4,h5,h6⟩;split at h2
 ·rename_i cd hc;split at h2
  ·rename_i C' R a b c d hm;simp only [Jw,beq_iff_eq] at h2;obtain ⟨⟨⟨e1,e2⟩,e3⟩,e4⟩:=h2;obtain ⟨cr,e5,e6⟩:=PySem.W.any_some e4;exact ⟨cd,R,hc,by rw [hm,e1,<-e2],e3,cr,e5,beq_iff_eq.mp e6⟩
  ·cases h2
 ·cases h2
theorem R6 (h:u0 K C n=true)(hd:cW K D d=true):Pb K C (.ref D)=Dn (HI n d):=by
 obtain ⟨hx,⟨cd,R,hc,hm,hR,cr,hcr,hnr⟩,_⟩:=J1 h;obtain ⟨n1,_,cd',hc',nm,_⟩:=Ja hx;obtain ⟨d1,_,dd,hdd,dm,_⟩:=Ja hd;rw [hc] at hc';cases hc';unfold Pb;rw [hc,V3,hm];show Dn ((Value.ref C::Value.ref R::QF).contains (.ref D))=Dn (HI n d);congr 1
 unfold HI;have e1:(Value.ref C::Value.ref R::QF).contains (.ref D)=((Value.ref D==Value.ref C)||((Value.ref D==Value.ref R)||false)):=by
  rw [Wy,Wy];rfl
 rw [e1,Bool.or_false];have a1:(Value.ref D==Value.ref C)=(n==d):=by
  rw [X8,beq_iff_eq,beq_iff_eq];constructor
  ·intro q;cases q;rw [hc] at hdd;cases hdd;rw [<-nm,<-dm]
  ·intro q;subst q;rw [n1] at d1;injection d1 with d1;injection d1 with d1;injection d1 with d1
   rw [d1]
 have a2:(Value.ref D==Value.ref R)=(d == "EaselError"):=by
  rw [X8,beq_iff_eq,beq_iff_eq];constructor
  ·intro q;cases q;rw [hcr] at hdd;cases hdd;rw [<-hnr,<-dm]
  ·intro q;subst q;rw [hR] at d1;injection d1 with d1;injection d1 with d1;injection d1 with d1
   rw [d1]
 rw [a1,a2]
def Oo (K:Bl)(v:V)(f:Str->Bool):Prop:=∀ (u:Mk),RelV v u->∀ (C:Addr) (n:Str),u0 K C n=true->PySem.W.kitOne K (.ref C) u=Dn (f n)
theorem Oo.own (hd:cW K D d=true):Oo K (.ref D) (fun n=>HI n d):=by
 intro u r C n h;cases (show u=Value.ref D from r)
 have e:=R6 h hd;obtain ⟨_,ht,dd,hdd,_⟩:=Ja hd;unfold PySem.W.kitOne;by_cases q:(Value.ref C==Value.ref D)=true
 ·rw [if_pos q];have q:=beq_iff_eq.mp q;cases q;obtain ⟨n1,_,cd,hc,nm,_⟩:=Ja (J1 h).1;rw [hc] at hdd;cases hdd;obtain ⟨_,_,cd',hc',dm,_⟩:=Ja hd;rw [hc] at hc';cases hc';unfold HI;rw [<-nm,<-dm];simp
 ·rw [if_neg q];unfold PySem.W.kitCls;dsimp only;rw [if_pos (by rw [hdd,ht];rfl)];exact e
theorem Oo.val:Oo K (.ty "ValueError") (fun _=>true):=by
 intro u r C n h;cases (show u=Value.type "ValueError" from r)
 obtain ⟨_,⟨cd,R,hc,hm,_⟩,_⟩:=J1 h;unfold PySem.W.kitOne;rw [if_neg (by intro q;cases beq_iff_eq.mp q)];unfold PySem.W.kitCls;dsimp only;rw [if_pos (by decide +kernel)];show Pb K C (.type "ValueError")=Dn true;unfold Pb;rw [hc,V3,hm];rfl
theorem Gi {x:Addr}{ox:Obj}(h:u0 K D n=true):PySem.W.KitX K (.ref x) (.ref D) (fun h=>∃ od,VJ h x ox D od):=by
 obtain ⟨hx,⟨cd,R,hc,hm,_⟩,hg,hg',ha,hn,htk⟩:=J1 h;have hmo:Pb K D (.type "object")=Dn true:=by
  unfold Pb;rw [hc,V3,hm];rfl
 have hf:∀ od,PySem.W.findObj K D od "__class__" = Dn (.bind (.builtin "getset_descriptor.__get__") (.builtin "object.__class__")):=by
  intro od;unfold PySem.W.findObj;rw [hc,V3,ha,V3];simp [hn,htk]
 have hcl:∃ c' d' sl',K.lookup D=Dn ⟨c',d',.cls cd,sl'⟩:=by
  unfold U9 at hc;split at hc
  ·rename_i c' d' cd' sl' ho;cases hc;exact ⟨c',d',sl',ho⟩
  ·cases hc
 obtain ⟨c',d',sl',ho⟩:=hcl;refine ⟨fun _ _ _ ⟨_,I⟩=>I.type,fun _ _ X _=>?_,fun h tp dd its n sl X htp=>?_,fun {prog w A E Q s} X ⟨od,I⟩ k=>?_⟩
 ·intro A' Q' E' s' k q;unfold isType loadHead;exact Al<|wpAny_loadPart (k _ _<|X _ _ ho)<|Ck q
 ·refine Bool.eq_false_iff.mpr fun q=>?_;have e:D=tp:=Value.ref.inj (beq_iff_eq.mp q);subst e;have z:=(X _ _ ho).symm.trans htp;cases z
 ·refine ags X I hg hg' (hf od) hmo ?_ k;unfold Pb;rw [hc,V3,hm];rfl
theorem uY {M:Model}{A:Dl}{E:Mk->Af->Prop}{s:Af}{e:Addr}{oe:Obj}{Q:Bool->Af->Prop}(X:K.In s.heap)(he:s.heap.get? e=Dn oe)(hcls:oe.cls=.ref C)(h:u0 K C n=true)(hd:cW K D d=true)(hq:Q (HI n d) s):
  Bm M A (excMatches (.ref e) (.ref D)) Q E s:=by
 obtain ⟨_,ht,dd,hdd,_,hB⟩:=Ja hd;have L1:Vw M s.heap (typeOf (.ref D)) (.type "type"):=PySem.W.looks_typeIn X ht;have L2:Vw M s.heap (isSubtype (.ref C) (.ref D)) (HI n d):=XH X (R6 h hd);have L3:Vw M s.heap (isSubtype (.ref D) (.type "BaseException")) true:=XH X (by
  unfold Pb;rw [hdd,V3,hB,if_neg];intro q;rw [List.isEmpty_iff] at q;rw [q] at hB;cases hB)
 have hcl:∃ c' d' sl',K.lookup D=Dn ⟨c',d',.cls dd,sl'⟩:=by
  unfold U9 at hdd;split at hdd
  ·rename_i c' d' cd' sl' ho;cases hdd;exact ⟨c',d',sl',ho⟩
  ·cases hdd
 obtain ⟨c',d',sl',ho⟩:=hcl;have L4:Vw M s.heap (isType (.ref D)) true:=by
  intro A' Q' E' s' k q;unfold isType loadHead;exact Al<|wpAny_loadPart (k _ _<|X _ _ ho)<|Ck q
 have L5:Vw M s.heap (typeOf (.ref e)) (.ref C):=hcls ▸ (PySem.W.Looks.ld he).andThen .now;have f:=tc_notTuple;obtain ⟨hh,g,dr,tk,os⟩:=s;unfold excMatches;refine Al ?_;unfold VD;refine Al<|PySem.W.Looks.at L1 ?_
 rw [f];refine Ck ?_;rw [if_neg Ky];refine Al<|Ck ?_
 dsimp only;rw [WD];refine Al<|Al ?_
 unfold isExcClass;refine Al<|Al<|PySem.W.Looks.at L4 ?_
 rw [if_pos rfl];refine PySem.W.Looks.at L3 ?_;rw [if_neg (by decide)];refine Ck ?_;dsimp only;rw [X5];refine Ck ?_;refine Al<|PySem.W.Looks.at L5 ?_
 rw [WD];refine Al<|Al<|Al<|PySem.W.Looks.at L2 ?_
 cases hb:HI n d with
 | true=>
  rw [hb] at hq;rw [if_pos rfl];exact Ck<|Ck<|Ck hq
 | false=>
  rw [hb] at hq;rw [if_neg Ky];refine Ck ?_;dsimp only;rw [X5];exact Ck<|Ck hq
end
variable {suite : List Stmt}{b₀ : Stmt}{d : Str}
theorem agl {prog:Dz}{w:Cw}{A:Dl}{E:Mk->Af->Prop}{s:Af}{env:Env}{K:Bl}{e C:Addr}{n y:Str}{t:Expr}{pos:Pos}{rest:List ExceptHandler}{Q:Flow->Af->Prop}
  (hx:u0 K C n=true) (hd:cW K D d=true) (hi:HI n d=true)
  (h:Bm (CN prog w) (A.mark (Dn (.ref e))) (eval t env) (fun c s₁=>c=.ref D/\K.In s₁.heap/\(∃ oe,s₁.heap.get? e=Dn oe/\oe.cls=.ref C) /\
   Bm (CN prog w) (A.mark (Dn (.ref e))) (setFlight (.ref e) JI) (fun _ s₂=>
     Bm (CN prog w) (A.mark (Dn (.ref e))) (storeName env y (.ref e)) (fun _ s₃=>
      Bm (CN prog w) (A.mark (Dn (.ref e))) (execs (b₀::suite) env)
       (fun f s₄=>Bm (CN prog w) A (do bindName env y .none;unbindBehindTheSuite env y pos) (fun _ s₅=>Q f s₅) E s₄) (fun _ _=>False) s₃) (fun _ _=>False) s₂) (fun _ _=>False) s₁) (fun _ _=>False) s) :
  Bm (CN prog w) A (handleBy (.ref e) env (.ExceptHandler (Dn t) (Dn y) (b₀::suite) pos::rest)) Q E s:=by
 refine wpAny_handleBy_cons (codeAny_handlers_test<|K3 h (fun c s₁ h₁=>?_) fun _ _ z=>z.elim) (by intro q;cases q);obtain ⟨rfl,X,⟨oe,he,hcls⟩,hk⟩:=h₁;refine uY X he hcls hx hd ?_;rw [hi];exact codeAny_handlers_suite_as<|K3 hk (fun _ s₂ h₂=>K3 h₂ (fun _ s₃ h₃=>K3 h₃ (fun _ _ z=>z) fun _ _ z=>z.elim) fun _ _ z=>z.elim) fun _ _ z=>z.elim
def bI.lost (D:bI):bI:={ D with nx:=fun σ h=>D.nx (σ.map fun _=>JI) h,bk:=fun σ h=>D.bk (σ.map fun _=>JI) h,ct:=fun σ h=>D.ct (σ.map fun _=>JI) h }
def yN (x:Xw):W:=match x.fs with
 | []=>.exc x.cls
 | f::fs=>.exa x.cls ((f::fs).map (·.2))
theorem N6 {α β : Type}:∀ {l:List α} {m:List β},m.length=l.length->(l.zip m).map (·.2)=m
 | [],[],_=>rfl
 | [],_::_,h=>by cases h
 | _::_,[],h=>by cases h
 | a::l,b::m,h=>by rw [V5,Lz,N6 (by simpa using h)]
theorem aaq {n:Str}(h:ws.length=(BJ n).length):yN ⟨n,(BJ n).zip ws⟩=.exa n ws:=by
 have e:=N6 h;unfold yN;have ne:BJ n≠[]:=by unfold BJ;split <;> simp
 cases q:(BJ n).zip ws with
 | nil=>
  rw [q] at e;cases ws with
  | nil=>exact absurd (Y0 h.symm) ne
  | cons _ _=>cases e
 | cons f fs=>
  rw [q] at e;dsimp only;rw [e]
def afN (i:Nat)(d:Str)(mb:Bo->MS)(mh:MS):MS:=fun D σ h=>mb (fun x h'=>Ib (HI x.cls d) (mh D.lost (σ.set i (Dn (yN x))) h') False) D σ h
section
variable {X:Cx}{body:List Stmt}{y:Str}{hpos pos:Pos}{i:Nat}{mb:Bo->MS}{mh:MS}
end
variable {mh : MS}{hpos : Pos}{mb : Bo->MS}
theorem zbs {k:Nat}{A:Dl}{a:Addr}(r:eO k A)(h:8<=k):eO 8 (A.mark (Dn (.ref a))):=⟨fun z=>absurd z (by decide),by have:=r.dp;show A.depth+_<_;lia,by have:=r.un;show A.units+_<_;lia⟩
section
variable {X:Cx}{a:Expr}{pos p:Pos}
def Cd (f:Str->Bool)(m:ME):ME:=fun σ h Q=>m σ h fun w h1=>match w with
 | .exc n=>Q (.bl (f n)) h1
 | .exa n _=>Q (.bl (f n)) h1
 | _=>False
def XS (K:Bl)(H:Hp)(o:Obj)(n:Str):Prop:=Xob K o n\/∃ dd fs,Xoa K o n dd/\H dd=Dn (.xd fs)
theorem Mr {alP:List (Addr×Obj)}{σ : St}{H:Hp}{s:Af}{q:Addr}{o:Obj}{u:HO}{n:Str}(I:BR X alP σ H s)(e:H q=Dn (.frz o u))(x:XS X.K H o n):∃ C,u0 X.K C n=true/\∃ od,VJ s.heap q o C od:=by
 rcases x with ⟨C,hc,hd,hn,hx⟩ | ⟨dd,fs,⟨C,hc,hd,hn,hx⟩,hdd⟩
 ·exact ⟨C,hx,JI,(I.hok q _ e).1,hc,hn,by rw [hd];trivial⟩
 ·obtain ⟨ob,ho⟩:=(I.hok dd _ hdd).obj;unfold T9 at hx;simp only [Jw] at hx;exact ⟨C,hx.1.1,Dn ob,(I.hok q _ e).1,hc,hn,by rw [hd];exact ho⟩
theorem zbn {v:V}{f:Str->Bool}(hf:Oo X.K v f):gM X (.builtin "isinstance") (fun xs H Q=>∃ q o u n,xs=[.ref q,v]/\H q=Dn (.frz o u)/\XS X.K H o n/\Q (.bl (f n)) H):=by
 intro alP s σ H xs us Q I r ⟨q,o,u,n,ex,eq,xo,hQ⟩;subst ex;obtain ⟨C,hx,J⟩:=Mr I eq xo;cases r with
 | cons r1 r2=>
  cases r2 with
  | cons r2 r3=>
   cases r3;rename_i u1 u2;cases (show u1=Value.ref q from r1)
   exact PySem.W.kia_one (Gi hx) I.kIn J (hf u2 r2 C n hx) (fun z=>nomatch z) fun tk=>⟨.bl<|f n,H,I.kept (t':=tk) fun _ _ e=>e,rfl,hQ⟩
theorem Uz {b:Expr}{v:V}{f:Str->Bool}(hg:Gl X "isinstance")(hm:X.mg "isinstance" = JI)(ha:DE X a ma)(hb:PE X b (tC v))(hf:Oo X.K v f)(h1:Cy [a,b] X.env=(false,eval a X.env)::Cy [b] X.env:=by rfl)(h2:Cy [b] X.env=(false,eval b X.env)::Cy [] X.env:=by rfl)
  (hpl:(Jd pos (Cy [b] X.env)).any (·.1)=false:=by rfl):DE X (.Call (.Name "isinstance" p) [a,b] [] pos) (Cd f ma):=
 (xH (zbn hf) hg hm VH (n6 ha (n6 hb G5 h2) h1) (by decide) (by decide) h1 hpl).of fun σ H Q ⟨μ,h,σw,Qw,R,S,m,k⟩=>by
  refine ⟨μ,h,σw,_,R,S,m,fun x H1 ⟨μ1,w,h1,e1,R1,r1,m1⟩=>?_⟩;cases w with
  | exc n=>
   rw [Aj] at r1;obtain ⟨q,o,u,ev,eq,hx⟩:=r1;subst ev;exact ⟨q,o,u,n,rfl,eq,.inl hx,k _ _ ⟨μ1,.bl<|f n,h1,e1,R1,by rw [Aj],m1⟩⟩
  | exa n ws=>
   rw [Aj] at r1;obtain ⟨q,o,u,dd,ns,xs,ev,eq,hx,hdd,_⟩:=r1;subst ev;exact ⟨q,o,u,n,rfl,eq,.inr ⟨dd,_,hx,hdd⟩,k _ _ ⟨μ1,.bl<|f n,h1,e1,R1,by rw [Aj],m1⟩⟩
  | _=>exact m1.elim
inductive QZ (X:Cx):List Expr->List V->(Str->Bool)->Prop
 | nil:QZ X [] [] (fun _=>false)
 | cons {e:Expr} {es:List Expr} {v:V} {vs:List V} {f g:Str->Bool}:PE X e (tC v)->Oo X.K v f->QZ X es vs g->Cy (e::es) X.env=(false,eval e X.env)::Cy es X.env->QZ X (e::es) (v::vs) (fun n=>f n||g n)
def tCs (vs:List V):TA:=fun _ H Q=>Q vs H
theorem QZ.pa {es:List Expr}{vs:List V}{f:Str->Bool}(h:QZ X es vs f):PA X es (tCs vs):=by
 induction h with
 | nil=>exact G5
 | cons he _ _ hs ih=>exact (n6 he ih hs).of fun σ H Q q=>q
theorem QZ.any {es:List Expr}{vs:List V}{f:Str->Bool}(h:QZ X es vs f):∀ {us:List Mk} {C:Addr} {n:Str},Bp vs us->u0 X.K C n=true->PySem.W.kitAny X.K (.ref C) us=Dn (f n):=by
 induction h with
 | nil=>intro us C n r _;cases r;rfl
 | @cons e es v vs f g he hc hr hs ih=>
  intro us C n r hx;cases r with
  | cons r1 r2=>
   unfold PySem.W.kitAny;rw [hc _ r1 C n hx];show _=Dn (f n||g n);cases f n with
   | true=>rfl
   | false=>rw [Bool.false_or];exact ih r2 hx
theorem zaW {vs:List V}{f:Str->Bool}(hf:∀ {us:List Mk} {C:Addr} {n:Str},Bp vs us->u0 X.K C n=true->PySem.W.kitAny X.K (.ref C) us=Dn (f n)):
  gM X (.builtin "isinstance") (fun xs H Q=>∃ q o u n t,xs=[.ref q,.ref t]/\H q=Dn (.frz o u)/\XS X.K H o n/\H t=Dn (.tup vs)/\Q (.bl (f n)) H):=by
 intro alP s σ H xs us Q I r ⟨q,o,u,n,t,ex,eq,xo,ht,hQ⟩;subst ex;obtain ⟨C,hx,J⟩:=Mr I eq xo;cases r with
 | cons r1 r2=>
  cases r2 with
  | cons r2 r3=>
   cases r3;rename_i u1 u2;cases (show u1=Value.ref q from r1)
   cases (show u2=Value.ref t from r2)
   obtain ⟨_,its,rv,⟨c,dd,dt,sl⟩,h1,h2,⟨k,h3⟩,_⟩:=(show iW X.prog X.w H s.heap t (.tup vs) from I.hok t _ ht)
   dsimp only at h2 h3;subst h2 h3;exact PySem.W.kia_tup (Gi hx) I.kIn J h1 (hf rv hx) (fun z=>nomatch z) fun tk=>⟨.bl<|f n,H,I.kept (t':=tk) fun _ _ e=>e,rfl,hQ⟩
theorem S6 {es:List Expr}{vs:List V}{f:Str->Bool}{x1 p1}(hg:Gl X "isinstance")(hm:X.mg "isinstance" = JI)(ha:DE X a ma)(hc:QZ X es vs f)(hl:vs.length<=100)(h1:Cy [a,.Tuple es x1 p1] X.env=(false,eval a X.env)::Cy [.Tuple es x1 p1] X.env:=by rfl)
  (h2:Cy [.Tuple es x1 p1] X.env=(false,eval (.Tuple es x1 p1) X.env)::Cy [] X.env:=by rfl) (hpl:(Jd pos (Cy [.Tuple es x1 p1] X.env)).any (·.1)=false:=by rfl) :
  DE X (.Call (.Name "isinstance" p) [a,.Tuple es x1 p1] [] pos) (Cd f ma):=
 (xH (zaW hc.any) hg hm VH (n6 ha (n6 (R0 hc.pa) G5 h2) h1) (by decide) (by decide) h1 hpl).of fun σ H Q ⟨μ,h,σw,Qw,R,S,m,k⟩=>by
  refine ⟨μ,h,σw,_,R,S,m,fun x H1 ⟨μ1,w,h1,e1,R1,r1,m1⟩=>?_⟩;cases w with
  | exc n=>
   rw [Aj] at r1;obtain ⟨q,o,u,ev,eq,hx⟩:=r1;subst ev;refine ⟨J4 hl<|by decide,fun t ht=>⟨q,o,u,n,t,rfl,?_,.inl hx,aU,k _ _ ⟨μ1,.bl<|f n,h1,e1.trans (Ex.laid ht).ext,R1.laid ht,by rw [Aj],m1⟩⟩⟩;rw [aJ (aN eq ht)];exact eq
  | exa n ws=>
   rw [Aj] at r1;obtain ⟨q,o,u,dd,ns,xs,ev,eq,hx,hdd,_⟩:=r1;subst ev;refine ⟨J4 hl<|by decide,fun t ht=>⟨q,o,u,n,t,rfl,?_,.inr ⟨dd,_,hx,by rw [aJ<|aN hdd ht];exact hdd⟩,aU,k _ _ ⟨μ1,.bl<|f n,h1,e1.trans (Ex.laid ht).ext,R1.laid ht,by rw [Aj],m1⟩⟩⟩;rw [aJ (aN eq ht)];exact eq
  | _=>exact m1.elim
end
section
variable {X:Cx}{tg:Expr}{scope:Scope}{xs:List Str}{pos p ppos:Pos}
theorem aag {K:Bl}{σ : St}{H:Hp}{Q:VK}{n:Nat}{own:V->Hp->List V->Prop}(oo:Du K n own ow)(q:tD K (HW ow ix (dh mr) tt te) σ H Q):aeD n own ix (ZJ (tDA K mr)) (tDT K tt) (tD K te) σ H Q:=by
 have q:=Vj oo q;obtain ⟨μ,h,σw,Rw,R,S,m,k⟩:=q;refine ⟨μ,h,σw,_,R,S,m,fun vs H1 ⟨μ1,ws,h1,e1,R1,r1,m1⟩=>?_⟩;split at m1
 ·rename_i j;rw [aM] at r1;obtain ⟨v,vr,ev,ra,r1⟩:=r1;rw [aM] at r1;rw [Aj] at ra;subst ev r1 ra;exact ⟨j,rfl,m1.ok.1.1,m1.ok.1.2,rfl,k _ _ ⟨μ1,_,h1,e1,R1,JT,m1.ok.2⟩⟩
 ·exact m1.elim
theorem acM {a:Expr}{own:V->Hp->List V->Prop}(ix:List Nat)(B:iQ X scope xs ix)(oo:Du X.K xs.length own ow)(hg:∀ C s H fp,PG (blk X scope (fX X xs ix) C s H fp) tg (RB xs.length own))
  (hgr:Gl X "range") (hm:X.mg "range" = JI) (ha:Jm X [a] mr) (hst:Cy [a] X.env=[(false,eval a X.env)])
  (ht:∀ C s H fp,Yu (blk X scope (fX X xs ix) C s H fp) ifs tt) (he:∀ C s H fp,DE (blk X scope (fX X xs ix) C s H fp) elt te)
  (hs:∀ v,Rn (.Call (.Name "range" p) [a] [] ppos) X.env v=pure v:=by intro _;rfl):DE X (.ListComp elt [⟨tg,.Call (.Name "range" p) [a] [] ppos,ifs,0⟩] scope pos) (HW ow ix (dh mr) tt te):=
 (aaY ix B hg (za hgr hm ha hst) ht he hs).of fun _ _ _ q=>aag oo q
end
section
variable {prog:Dz}{w:Cw}{A:Dl}{E:Mk->Af->Prop}{s:Af}
end
section
variable {X:Cx}
end
section
variable {X:Cx}{K:Bl}{o e:Expr}{ma:MA}{apos alR:Pos}
def afb:MM:=fun x ws h Q=>match x,ws with
 | .loc n,[]=>(match h.c n with
  | some (.lst _)=>Q .non (h.set n (.lst []))
  | _=>False)
 | _,_=>False
variable {H:Hp}{alP:List (Addr×Obj)}{s:Af}{σ : St}
mutual
theorem Df (I:BR X alP σ H s):∀ {w u:W} {v:V},Dt X.K H w v->Dt X.K H u v->w=u
 | .non,u,v,h,g=>by rw [Dt] at h;subst h;cases u <;> rw [Dt] at g <;> first | rfl | exact g.elim | (obtain ⟨_,_,g,_⟩:=g;cases g;done) | (cases g;done)
 | .bl b,u,v,h,g=>by rw [Dt] at h;subst h;cases u <;> rw [Dt] at g <;> first | (injection g with g;rw [g];done) | exact g.elim | (obtain ⟨_,_,g,_⟩:=g;cases g;done) | (cases g;done)
 | .int b,u,v,h,g=>by rw [Dt] at h;subst h;cases u <;> rw [Dt] at g <;> first | (injection g with g;rw [g];done) | exact g.elim | (obtain ⟨_,_,g,_⟩:=g;cases g;done) | (cases g;done)
 | .str b,u,v,h,g=>by rw [Dt] at h;subst h;cases u <;> rw [Dt] at g <;> first | (injection g with g;rw [g];done) | exact g.elim | (obtain ⟨_,_,g,_⟩:=g;cases g;done) | (cases g;done)
 | .tup ws,u,v,h,g=>by
  rw [Dt] at h;obtain ⟨p,xs,e,hs,ds⟩:=h;subst e;cases u with
  | tup us=>
   rw [Dt] at g;obtain ⟨p',xs',e',hs',ds'⟩:=g;cases e'
   have:=I.tuple_inj hs hs'
   subst this;rw [wZ I ds ds']
  | lst us=>
   rw [Dt] at g;obtain ⟨p',xs',e',hs',ds'⟩:=g;cases e'
   obtain ⟨_,_,t,_⟩:=I.tuple hs;obtain ⟨_,_,l,_⟩:=I.list hs';exact absurd rfl<|Xl l.isList<|show s.heap.IsTuple _ _ from t
  | ty _=>rw [Dt] at g;exact g.elim
  | loc _=>rw [Dt] at g;exact g.elim
  | kls _=>rw [Dt] at g;exact g.elim
  | exc _=>rw [Dt] at g;exact g.elim
  | exa _ _=>rw [Dt] at g;exact g.elim
  | _=>rw [Dt] at g;cases g
 | .lst ws,u,v,h,g=>by
  rw [Dt] at h;obtain ⟨p,xs,e,hs,ds⟩:=h;subst e;cases u with
  | lst us=>
   rw [Dt] at g;obtain ⟨p',xs',e',hs',ds'⟩:=g;cases e'
   have:=I.list_inj hs hs'
   subst this;rw [wZ I ds ds']
  | tup us=>
   rw [Dt] at g;obtain ⟨p',xs',e',hs',ds'⟩:=g;cases e'
   obtain ⟨_,_,t,_⟩:=I.tuple hs';obtain ⟨_,_,l,_⟩:=I.list hs;exact absurd rfl<|Xl l.isList<|show s.heap.IsTuple _ _ from t
  | ty _=>rw [Dt] at g;exact g.elim
  | loc _=>rw [Dt] at g;exact g.elim
  | kls _=>rw [Dt] at g;exact g.elim
  | exc _=>rw [Dt] at g;exact g.elim
  | exa _ _=>rw [Dt] at g;exact g.elim
  | _=>rw [Dt] at g;cases g
 | .ty _,_,_,h,_=>by rw [Dt] at h;exact h.elim
 | .kls _,_,_,h,_=>by rw [Dt] at h;exact h.elim
 | .loc _,_,_,h,_=>by rw [Dt] at h;exact h.elim
 | .exc _,_,_,h,_=>by rw [Dt] at h;exact h.elim
 | .exa _ _,_,_,h,_=>by rw [Dt] at h;exact h.elim
theorem wZ (I:BR X alP σ H s):∀ {ws us:List W} {vs:List V},JH X.K H ws vs->JH X.K H us vs->ws=us
 | [],us,vs,h,g=>by
  have e:vs=[]:=by rw [JH] at h;exact h
  subst e;cases us with
  | nil=>rfl
  | cons u us=>rw [JH] at g;obtain ⟨_,_,e,_⟩:=g;cases e
 | w::ws,us,vs,h,g=>by
  rw [JH] at h;obtain ⟨v,vs',e,d,ds⟩:=h;subst e;cases us with
  | nil=>
   have e:v::vs'=[]:=by rw [JH] at g;exact g
   cases e
  | cons u us=>
   rw [JH] at g;obtain ⟨v2,vs2,e2,d2,ds2⟩:=g;cases e2;rw [Df I d d2,wZ I ds ds2]
end
theorem wQ {α β : Type}{p:α->Bool}{q:β->Bool}:∀ {xs:List α} {ys:List β},xs.length=ys.length->(∀ a b,(a,b)∈xs.zip ys->p a=q b)->xs.countP p=ys.countP q
 | [],[],_,_=>rfl
 | [],_::_,h,_=>by cases h
 | _::_,[],h,_=>by cases h
 | a::xs,b::ys,h,e=>by
  rw [List.countP_cons,List.countP_cons,wQ (Nat.succ.inj h) fun a' b' m=>e a' b' (by rw [V5];exact Ph _ m),e a b (by rw [V5];exact Ow)]
theorem uR:∀ {us:List W} {xs:List V} {its:List Mk},JH X.K H us xs->Bp xs its->∀ a u,(a,u)∈its.zip us->∃ v,RelV v a/\Dt X.K H u v/\u∈us
 | [],_,its,_,_,a,u,m=>by rw [List.zip_nil_right] at m;exact absurd m (by simp)
 | w::us,xs,its,d,r,a,u,m=>by
  rw [JH] at d;obtain ⟨v,vs,e,d1,ds⟩:=d;subst e;cases r with
  | cons r1 rs=>
   rw [V5] at m;rcases JN.mp m with m | m
   ·cases m;exact ⟨v,r1,d1,Ow⟩
   ·obtain ⟨v',q1,q2,q3⟩:=uR ds rs a u m;exact ⟨v',q1,q2,Ph _ q3⟩
theorem oF {α β : Type}:∀ {xs:List α} {ys:List β},xs.length=ys.length->∀ a∈xs,∃ b,(a,b)∈xs.zip ys
 | [],_,_,a,m=>absurd m (by simp)
 | _::_,[],h,_,_=>by cases h
 | x::xs,y::ys,h,a,m=>by
  rw [V5];rcases JN.mp m with rfl | m
  ·exact ⟨y,Ow⟩
  ·obtain ⟨b,q⟩:=oF (Nat.succ.inj h) a m;exact ⟨b,Ph _ q⟩
def Tj (K:Bl):V->List V->Hp->VK->Prop:=fun x vs H Q=>∃ (l:Addr) (y:V) (xs:List V) (us:List W) (w:W),x=.ref l/\vs=[y]/\JR K H l xs/\JH K H us xs/\Dt K H w y/\us.all (DY 20)=true/\DY 20 w=true/\Q (.int (us.countP fun u=>Cj u w)) H
theorem zbv (hu:X.A.units+30<Lk):MtR X "list.count" (Tj X.K):=by
 intro alP s σ H x vs v us' Q I rx rv h;obtain ⟨l,y,xs,us,w,rfl,rfl,hx,hd,hw,pl1,pl2,q⟩:=h;cases rx;obtain ⟨b,rfl,rb⟩:=rv.one;obtain ⟨its,r,pl,hz⟩:=I.list hx;obtain ⟨⟨cl,dd,da,sl⟩,n,e,c1,c2,c3⟩:=pl;simp only at c1 c2 c3;subst c1 c2 c3;have hl:its.length=us.length:=by rw [<-r.length,hd.len]
 let ev:Mk->Bool:=fun a=>@decide (∃ u,(a,u)∈its.zip us/\Cj u w=true) (Ws _)
 have hev:∀ a u,(a,u)∈its.zip us->ev a=Cj u w:=by
  intro a u m;cases c:Cj u w with
  | true=>exact (@decide_eq_true_iff _ (Ws _)).mpr ⟨u,m,c⟩
  | false=>
   refine (@decide_eq_false_iff_not _ (Ws _)).mpr fun ⟨u2,m2,c2⟩=>?_;obtain ⟨v1,r1,d1,_⟩:=uR hd r a u m;obtain ⟨v2,r2,d2,_⟩:=uR hd r a u2 m2;have ev:v1=v2:=r1.inj r2;subst ev;rw [Df I d1 d2,c2] at c;cases c
 refine call_meets F.slot_list_count ⟨_,e,rfl⟩ F.entry_list_count (F.args_list_count_2 _ _) (SeqAt.list_countAt l its.toArray n JI sl b ev) ⟨e,?_,?_⟩
 ·intro a ha;have ha':a∈its:=by simpa using ha
  obtain ⟨u,m⟩:=oF hl a ha';obtain ⟨v,r1,d1,mu⟩:=uR hd r a u m;rw [hev a u m];exact VL I 20 (by show X.A.in1.units+20<Lk;show X.A.units+1+20<Lk;lia) d1 hw (Nr.mp pl1 u mu) pl2 r1 rb
 ·rw [show its.toArray.toList=its from rfl,wQ hl hev];exact ⟨.int _,H,I.tok _,⟨_,rfl⟩,q⟩
def Az:MM:=fun x ws h Q=>match ws with
 | [w]=>(match cZ h x with
  | some us=>Ib (DY 20 w&&us.all (DY 20)) (Q (.int (us.countP fun u=>Cj u w)) h) False
  | none=>False)
 | _=>False
theorem ajn:Yv K (Tj K) Az:=by
 intro H μ h x vs wx ws Qw Q R rx rs m k;unfold Az at m;split at m
 ·rename_i w;obtain ⟨v,ev,rv⟩:=kJ rs;split at m
  ·rename_i us eu;obtain ⟨p,xs,ex,hs,rr⟩:=cB R rx eu;cases c:(DY 20 w&&us.all (DY 20)) with
   | true=>
    rw [c] at m;rw [Jw] at c;exact ⟨p,v,xs,us,w,ex,ev,hs,vN (IW 20) rr c.2,IW 20 rv c.1,c.2,c.1,k _ _<|.int R m⟩
   | false=>rw [c] at m;exact (show False from m).elim
  ·exact m.elim
 ·exact m.elim
theorem ajJ (hu:X.A.units+30<Lk)(ho:DE X o mo)(ha:Jm X [e] ma)
  (hbase:Rf o "count" X.env (eval o X.env)=eval o X.env:=by rfl)
  (hfew:((Jd alR (Cy [e] X.env)).all (fun x=>!x.1)&&(backToKw alR (Vx [] X.env)).all (fun x=>x.1.isSome)
   && decide (([e]:List Expr).length+([]:List QM).length+(if ([]:List QM).isEmpty then 0 else 1)<30))=true:=by rfl)
  (hline:(apos.endLine==alR.line)=true:=by rfl) (hst:Cy [e] X.env=(false,eval e X.env)::Cy [] X.env:=by rfl) (hplain:(Jd alR (Cy [] X.env)).any (·.1)=false:=by rfl) :
  DE X (.Call (.Attribute o "count" apos) [e] [] alR) (ac4 Az mo ma):=(aaQ PySem.F.plainAttrs_list PySem.F.slot_list_count PySem.F.type_list_count (zbv hu) ho ha hbase hfew hline hst hplain).of fun σ H Q ⟨μ,h,σw,Qw,R,S,m,k⟩=>by
 refine ⟨μ,h,σw,_,R,S,m,fun v H1 ⟨μ1,w,h1,e1,R1,r1,il⟩=>⟨(Bf R1 r1 il).1,?_⟩⟩;have m1:=(Bf R1 r1 il).2;exact ⟨μ1,h1,σw,_,R1,S.ext e1,m1,fun vs H2 ⟨μ2,ws,h2,e2,R2,r2,m2⟩=>ajn R2 (e2.r _ _ r1) r2 m2 fun v H' z=>k _ _<|(z.trans e2).trans e1⟩
end
section
variable {X:Cx}{iter tg:Expr}{scope:Scope}{pos:Pos}{xs:List Str}
end
section
variable {X:Cx}{e:Expr}{es:List Expr}{pos:Pos}
variable {mr:Bo->MA}
end
section
variable {X:Cx}{K:Bl}{H:Hp}{alP:List (Addr×Obj)}{s:Af}{σ : St}
theorem J9 {α β : Type}{p:α->Bool}{q:β->Bool}:∀ {xs:List α} {ys:List β},xs.length=ys.length->(∀ a b,(a,b)∈xs.zip ys->p a=q b)->xs.any p=ys.any q
 | [],[],_,_=>rfl
 | [],_::_,h,_=>by cases h
 | _::_,[],h,_=>by cases h
 | a::xs,b::ys,h,e=>by
  rw [Vi,Vi,J9 (Nat.succ.inj h) fun a' b' m=>e a' b' (by rw [V5];exact Ph _ m),e a b (by rw [V5];exact Ow)]
theorem Yl (I:BR X alP σ H s){us:List W}{xs:List V}{its:List Mk}{w:W}{y:V}{b:Mk}(hd:JH X.K H us xs)(r:Bp xs its)(hw:Dt X.K H w y)(rb:RelV y b)(pl1:us.all (DY 20)=true)(pl2:DY 20 w=true){A:Dl}(hu:A.units+20<Lk):
  ∃ ev:Mk->Bool,(∀ a,a∈its->V2 A s a b (ev a))/\its.any ev=us.any (fun u=>Cj u w):=by
 have hl:its.length=us.length:=by rw [<-r.length,hd.len]
 let ev:Mk->Bool:=fun a=>@decide (∃ u,(a,u)∈its.zip us/\Cj u w=true) (Ws _)
 have hev:∀ a u,(a,u)∈its.zip us->ev a=Cj u w:=by
  intro a u m;cases c:Cj u w with
  | true=>exact (@decide_eq_true_iff _ (Ws _)).mpr ⟨u,m,c⟩
  | false=>
   refine (@decide_eq_false_iff_not _ (Ws _)).mpr fun ⟨u2,m2,c2⟩=>?_;obtain ⟨v1,r1,d1,_⟩:=uR hd r a u m;obtain ⟨v2,r2,d2,_⟩:=uR hd r a u2 m2;have ev:v1=v2:=r1.inj r2;subst ev;rw [Df I d1 d2,c2] at c;cases c
 refine ⟨ev,fun a ha=>?_,J9 hl hev⟩;obtain ⟨u,m⟩:=oF hl a ha;obtain ⟨v,r1,d1,mu⟩:=uR hd r a u m;rw [hev a u m];exact VL I 20 hu d1 hw (Nr.mp pl1 u mu) pl2 r1 rb
def afT (K:Bl)(neg:Bool):R2:=fun x y H Q=>∃ p xs us w,y=.ref p/\JR K H p xs/\JH K H us xs/\Dt K H w x/\us.all (DY 20)=true/\DY 20 w=true/\Q (.bl (if neg then !(us.any fun u=>Cj u w) else us.any fun u=>Cj u w)) H
theorem ahh (hu:X.A.units+30<Lk):Jz X (Ly .NotIn) (afT X.K true):=by
 intro alP s σ H x y v u Q I rx ry h;obtain ⟨p,xs,us,w,rfl,hq,hd,hw,p1,p2,q⟩:=h;cases ry;obtain ⟨its,r,pl,hz⟩:=I.list hq;obtain ⟨ev,he,ea⟩:=Yl I hd r hw rx p1 p2 (A:=X.A.in1) (by show X.A.units+1+20<Lk;lia);refine SeqAt.notIn_listAt ev pl.isList (fun w hw=>he w<|by simpa using hw) ⟨.bl _,H,I,rfl,?_⟩;rw [show its.toArray.any ev=its.any ev by simp,ea];exact q
def RD:M2:=fun x y h Q=>match cZ h y with
 | some us=>Ib (DY 20 x&&us.all (DY 20)) (Q (.bl (!(us.any fun u=>Cj u x))) h) False
 | none=>False
theorem YX (hu:X.A.units+30<Lk):Nj X (Ly .NotIn) RD:=⟨_,ahh hu,by
 intro H μ h x y wx wy Qw Q R rx ry m k;unfold RD at m;split at m
 ·rename_i us eu;obtain ⟨p,xs,ex,hs,rr⟩:=cB R ry eu;cases c:(DY 20 wx&&us.all (DY 20)) with
  | true=>
   rw [c] at m;rw [Jw] at c;exact ⟨p,xs,us,wx,ex,hs,vN (IW 20) rr c.2,IW 20 rx c.1,c.2,c.1,k _ _<|.bl R m⟩
  | false=>rw [c] at m;exact (show False from m).elim
 ·exact m.elim⟩
end
section
variable {X:Cx}{K:Bl}{H:Hp}{h:Gh}
def vf (h:Gh):List W->Option (List W)
 | []=>Dn []
 | w::ws=>match Cm h w,vf h ws with
  | some d,Dn ds=>Dn (d::ds)
  | _,_=>JI
def W3 (h:Gh)(w:W):Option W:=match w with
 | .tup ws=>(match vf h ws with
  | some ds=>Dn (.tup ds)
  | none=>JI)
 | w=>Cm h w
theorem yt {n:Nat}(R:HD K μ H h):∀ {ws ds:List W} {vs:List V},aM K H μ ws vs->vf h ws=Dn ds->ds.all (DY n)=true->JH K H ds vs
 | [],ds,vs,r,e,_=>by
  rw [vf] at e;cases e;rw [aM] at r;subst r;rw [JH]
 | w::ws,ds,vs,r,e,p=>by
  rw [vf] at e;cases e1:Cm h w with
  | none=>rw [e1] at e;cases e
  | some d=>
   cases e2:vf h ws with
   | none=>rw [e1,e2] at e;cases e
   | some ds'=>
    rw [e1,e2] at e;cases e;rw [Rh,Jw] at p;rw [aM] at r;obtain ⟨v,vs',ev,r1,r2⟩:=r;subst ev;rw [JH];exact ⟨v,vs',rfl,pH R r1 e1 p.1,yt R r2 e2 p.2⟩
theorem zbM {w d:W}{v:V}{n:Nat}(R:HD K μ H h)(r:Aj K H μ w v)(e:W3 h w=Dn d)(p:DY n d=true):Dt K H d v:=by
 cases w with
 | tup ws=>
  unfold W3 at e;dsimp only at e;cases e1:vf h ws with
  | none=>rw [e1] at e;cases e
  | some ds=>
   rw [e1] at e;cases e;rw [Aj] at r;obtain ⟨q,xs,ev,hs,rs⟩:=r;obtain ⟨m,rfl,p⟩:=ahn p;rw [Dt];exact ⟨q,xs,ev,hs,yt R rs e1 p⟩
 | _=>exact pH R r e p
end
section
variable {X:Cx}{K:Bl}{o e e':Expr}{ma:MA}{apos alR:Pos}
end
def TK (m:Nat):List Nat:=(Ni 8).filter fun j=>m.testBit j
def rk (m j:Nat):Nat:=((Ni j).filter fun i=>m.testBit i).length
def pq (h:Int):Nat->Nat×Nat
 | 0=>(Vl h % 8,Vl h)
 | n+1=>SetTable.leap 7 (pq h n).1 (pq h n).2
def pb (h:Int)(n:Nat):SetTable.Probe:=⟨(pq h n).1,0,(pq h n).1,(pq h n).2,JI⟩
theorem NQ (h:Int):∀ n,(pq h n).2=Vl h / 32^n
 | 0=>by simp [pq]
 | n+1=>by
  show (pq h n).2 / 32=_;rw [NQ h n,Nat.div_div_eq_div_mul,Nat.pow_succ]
theorem aiH (h:Int)(n:Nat)(hn:13<=n):(pq h n).2=0:=by
 rw [NQ];apply Nat.div_eq_of_lt;have h1:Vl h<2^64:=by
  unfold Vl;have a:=Int.emod_lt_of_pos h (show (0:Int)<2^64 by decide);have b:=Int.emod_nonneg h (show (2^64:Int)≠0 by decide);lia
 have h2:32^13<=32^n:=Nat.pow_le_pow_right (by decide) hn;have h3:(2:Nat)^64<32^13:=by decide
 lia
def lcg:Nat->Nat->Nat
 | i,0=>i
 | i,k+1=>(lcg i k*5+1) % 8
theorem T6 (h:Int):∀ k,(pq h (13+k)).1=lcg (pq h 13).1 k
 | 0=>rfl
 | k+1=>by
  show ((pq h (13+k)).1*5+1+(pq h (13+k)).2 / 32) % (7+1)=_;rw [aiH h _ (by lia),T6 h k];rfl
theorem least {P:Nat->Bool}:∀ (B:Nat),(∃ n,n<B/\P n=true)->∃ N,N<B/\P N=true/\∀ n,n<N->P n=false
 | 0,⟨n,h,_⟩=>absurd h (Nat.not_lt_zero _)
 | B+1,⟨n,h,e⟩=>by
  by_cases q:∃ n,n<B/\P n=true
  ·obtain ⟨N,a,b,c⟩:=least B q;exact ⟨N,by lia,b,c⟩
  ·refine ⟨n,h,e,fun i hi=>?_⟩;cases r:P i with
   | false=>rfl
   | true=>exact absurd ⟨i,by lia,r⟩ q
section
variable {prog:Dz}{w:Cw}{A:Dl}{E:Mk->Af->Prop}{s:Af}{m:Nat}{ka:Nat->List Int}{ad:Nat->Addr}{t:Xq}{a b:Addr}{k:List Int}
abbrev zbP (prog:Dz)(w:Cw)(h:Heap)(k:List Int)(a:Addr):Prop:=IsTupleKey (intKind prog w) h k a
def hT (prog:Dz)(w:Cw)(k:List Int):Int:=tupleKeyHash (intKind prog w) k
def elL (prog:Dz)(w:Cw)(m:Nat)(ka:Nat->List Int)(ad:Nat->Addr):List (Int×Mk):=(TK m).map fun j=>(hT prog w (ka j),Value.ref (ad j))
structure afo (prog:Dz) (w:Cw) (h:Heap) (m:Nat) (ka:Nat->List Int) (ad:Nat->Addr) (t:Xq):Prop where
 mask:t.mask=7
 place:t.place=(TK m).toArray
 dum:t.dummies = #[]
 m8:m<256
 few:(TK m).length<=4
 key:∀ j,j∈TK m->zbP prog w h (ka j) (ad j)
 way:∀ j,j∈TK m->∃ n,(pq (hT prog w (ka j)) n).1=j/\∀ i,i<n->m.testBit (pq (hT prog w (ka j)) i).1=true
def af3 (es:Array (Int×Mk))(ep:Nat)(t:Xq):Obj:={ cls:=.type "set",dict:=JI,data:=.set es ep t }
def Zr (prog:Dz)(w:Cw)(h:Heap)(a:Addr)(m:Nat)(ka:Nat->List Int)(ad:Nat->Addr):Prop:=∃ ep t,h.get? a=Dn (af3 (elL prog w m ka ad).toArray ep t)/\afo prog w h m ka ad t
end
variable {ad : Nat->Addr}{ka : Nat->List Int}
section
variable {prog:Dz}{w:Cw}{A:Dl}{E:Mk->Af->Prop}{R:Result->Af->Prop}
structure afm (prog:Dz) (w:Cw) (z:Nat) (h:Heap) (S:Addr) (seen:List (List Int)) (m:Nat) (ka:Nat->List Int) (ad:Nat->Addr):Prop where
 set:Zr prog w h S m ka ad
 low:∀ j,j∈TK m->ad j<z
 mem:∀ k,k∈seen↔∃ j,j∈TK m/\ka j=k
 len:(TK m).length=seen.length
end
section
variable {prog:Dz}{w:Cw}{A:Dl}{E:Mk->Af->Prop}{s:Af}
end
section
variable {X:Cx}{K:Bl}
end
section
variable {κ : Type}[DecidableEq κ]
end
section
variable {P:Dz}{w:Cw}{H:Hp}{h:Heap}{a:Addr}
end
section
variable {X:Cx}{alP:List (Addr×Obj)}{σ : St}{H:Hp}{s:Af}{a:Addr}{y v:V}{u r:Mk}{o:Option V}{A:Dl}{E:Mk->Af->Prop}
end
section
variable {X:Cx}{alP:List (Addr×Obj)}{σ : St}{H:Hp}{s:Af}{a:Addr}{kvs:List (Key×V)}{k:Key}{u:Mk}{A:Dl}{E:Mk->Af->Prop}
end
section
variable {X:Cx}{o i e value:Expr}{pos pos' tpos:Pos}{td ty tv:TE}
end
section
variable {X:Cx}{pos:Pos}
end
section
variable {K:Bl}{H:Hp}{kvs:List (Key×W)}{kvv:List (Key×V)}{k:Key}{w:W}{v:V}
end
section
variable {X:Cx}{a b:Expr}{mb:ME}{pos:Pos}
inductive DDs (X:Cx):List (Option Expr)->List Expr->List (Key×ME)->Prop
 | nil:DDs X [] [] []
 | cons {x:Str} {j pos} {v:Expr} {m:ME} {ks:List (Option Expr)} {vs:List Expr} {r:List (Key×ME)} (h:DE X v m) (t:DDs X ks vs r):DDs X (Dn (.Constant (.str x) j pos)::ks) (v::vs) ((.inr x,m)::r)
end
inductive aen (w:Cw) (K:Bl):List DictEntry->List (Key×W)->Prop
 | nil:aen w K [] []
 | cons {x:Str} {t} {v:V} {u:Mk} {d:W} {es:List DictEntry} {tbl:List (Key×W)} (r:RelV v u) (q:∀ H μ,Aj K H μ d v) (h:aen w K es tbl):aen w K (⟨PyData.keyHash w.params x,.str x t,u⟩::es) ((.inr x,d)::tbl)
section
variable {X:Cx}{b:Expr}{mb:ME}{pos p:Pos}{x:Str}{a:Addr}{tbl:List (Key×W)}
end
variable {tbl : List (Key×W)}
section
variable {X:Cx}{pos p p':Pos}{x:Str}{a:Addr}
end
section
variable {X:Cx}
end
section
variable {X:Cx}{K:Bl}{H:Hp}{h:Gh}
def qM (h:Gh)(w:W):Option W:=match w with
 | .lst ws=>(match vf h ws with
  | some ds=>Dn (.lst ds)
  | none=>JI)
 | w=>W3 h w
theorem G9 {w d:W}{v:V}{n:Nat}(R:HD K μ H h)(r:Aj K H μ w v)(e:qM h w=Dn d)(p:DY n d=true):Dt K H d v:=by
 cases w with
 | lst ws=>
  unfold qM at e;dsimp only at e;cases e1:vf h ws with
  | none=>rw [e1] at e;cases e
  | some ds=>
   rw [e1] at e;cases e;rw [Aj] at r;obtain ⟨q,xs,ev,hs,rs⟩:=r;obtain ⟨m,rfl,p⟩:=J5 p;rw [Dt];exact ⟨q,xs,ev,hs.sq,yt R rs e1 p⟩
 | _=>exact zbM R r (by unfold qM at e;exact e) p
def agb:M2:=fun x y h Q=>match qM h x,qM h y with
 | some a,Dn b=>Ib (DY 30 a&&DY 30 b) (Q (.bl (Cj a b)) h) False
 | _,_=>False
def ach:M2:=fun x y h Q=>match qM h x,qM h y with
 | some a,Dn b=>Ib (DY 30 a&&DY 30 b) (Q (.bl (!Cj a b)) h) False
 | _,_=>False
theorem ad1 (hu:X.A.units+30<Lk):Nj X (Ly .NotEq) ach:=⟨_,TF hu,by
 intro H μ h x y wx wy Qw Q R rx ry m k;unfold ach at m;split at m
 ·rename_i a b ea eb;cases hp:(DY 30 a&&DY 30 b) with
  | true=>
   rw [hp] at m;rw [Jw] at hp;exact ⟨a,b,G9 R rx ea hp.1,G9 R ry eb hp.2,hp.1,hp.2,k _ _<|.bl R m⟩
  | false=>rw [hp] at m;exact (show False from m).elim
 ·exact m.elim⟩
end
section
variable {X:Cx}{a b c:Expr}{mb mc:ME}{pos:Pos}
end
section
variable {K:Bl}{H:Hp}{fs:List (Str×W)}{fvs:List (Str×V)}{f:Str}{w:W}{v:V}
end
section
variable {X:Cx}{e o value:Expr}{es:List Expr}{mv:ME}{f:Str}{C:Addr}{pos pos' apos:Pos}
end
section
variable {prog:Dz}{w:Cw}{A:Dl}{E:Mk->Af->Prop}{s:Af}
end
section
variable {X:Cx}
end
section
variable {X:Cx}{e:Expr}{me:ME}{x:Str}{a:Addr}{p pos:Pos}
end
section
variable {X:Cx}{C:Addr}{o e:Expr}{es:List Expr}{pos apos:Pos}
end
section
variable {X:Cx}{alP:List (Addr×Obj)}{σ : St}{H:Hp}{s:Af}{K:Bl}
end
section
variable {X:Cx}{a b o i:Expr}{mb:ME}{td ty:TE}{pos:Pos}
end
section
variable {prog:Dz}{w:Cw}{A:Dl}{E:Mk->Af->Prop}{s:Af}
end
section
variable {X:Cx}
end
def ps (h:Int):Nat->Nat×Nat
 | 0=>(Vl h % 32,Vl h)
 | n+1=>SetTable.leap 31 (ps h n).1 (ps h n).2
def liv (o:Array (Option Nat)):List (Nat×Nat):=(Ni 32).filterMap fun j=>(o.getD j JI).map (j,·)
structure Lay (o:Array (Option Nat)) (k:Nat):Prop where
 sz:o.size=32
 len:(liv o).length=k
 low:∀ p,p∈liv o->p.2<k
section
variable {prog:Dz}{w:Cw}{A:Dl}{E:Mk->Af->Prop}{s:Af}{a:Addr}
end
section
variable {prog:Dz}{w:Cw}{A:Dl}{E:Mk->Af->Prop}{s:Af}{m:Nat}{t:Xq}{a b:Addr}{k:List Int}
end
section
variable {prog:Dz}{w:Cw}{A:Dl}{E:Mk->Af->Prop}{R:Result->Af->Prop}
end
section
variable {prog:Dz}{w:Cw}{A:Dl}{E:Mk->Af->Prop}{s:Af}
end
section
variable {X:Cx}{K:Bl}
end
section
variable {X:Cx}{K:Bl}{o e:Expr}{apos alR:Pos}
end
def GX:List Mk->Bool
 | .ref _::r=>GX r
 | l=>l==[.type "ValueError",.type "Exception",.type "BaseException",.type "object"]
theorem agO (y:Mk)(l:List Mk):GX l=true->refuseLoop y "__setattr__" l=pure ():=by
 induction l with
 | nil=>intro e;cases e
 | cons v r ih=>
  intro e;cases v with
  | ref c=>
   rw [refuseLoop_ref];exact ih e
  | _=>
   rw [eq_of_beq e];exact PySem.F.store_ValueError.passes y
theorem Z6 (l:List Mk):GX l=true->l.contains (.type "object")=true:=by
 induction l with
 | nil=>intro e;cases e
 | cons v r ih=>
  intro e;cases v with
  | ref c=>
   rw [Wy,ih e];exact Bool.or_true _
  | _=>
   rw [eq_of_beq e];decide +kernel
def Rq (K:Bl)(C:Addr):Bool:=(U9 K C).any fun cd=>GX cd.mro
section
variable {prog:Dz}{w:Cw}{A:Dl}{s:Af}{K:Bl}{x C:Addr}{R:Result->Af->Prop}
theorem abO {oo:Obj}{dd:Option Obj}{nm:Str}{tok:Tok}{u:Mk}(X:K.In s.heap)(I:VJ s.heap x oo C dd)(hp:Rq K C=true)(ht:M6 K (.ref C) nm=Dn JI)
  (h:Bm (CN prog w) A.in1 (PySem.Builtin.ObjectAttr.storeInOwnDict (.ref x) (.ref C) (.str nm tok) nm u false)
   (fun f1 s1=>match f1 with
    | .done y=>R (.ok y) s1
    | .again c1=>c1.quiet=true/\RT (CN prog w) A c1 R s1) (fun e1 s1=>R (.error e1) s1) s) :
  RT (CN prog w) A (.call (.builtin "object.__setattr__") ⟨[.ref x,.str nm tok,u],[]⟩) R s:=by
 obtain ⟨c0,hc,ho⟩:=PySem.W.any_some hp;have emp:c0.mro.isEmpty=false:=by
  cases q:c0.mro with
  | nil=>rw [q] at ho;cases ho
  | cons _ _=>rfl
 have obj:Pb K C (.type "object")=Dn true:=by
  unfold Pb;rw [hc,V3,if_neg (by rw [emp];decide),Z6 _ ho]
 have isO:Vw (CN prog w) s.heap (VD (.ref x) (.type "object")) true:=I.type.andThen (XH X obj);refine codeAny_call_builtin Xd.slot.plain Xd.entry ?_;refine PySem.W.check_slot (i := "object.__setattr__") (owner := "object") (n := "__setattr__") (self:=.ref x) (rest:=[.str nm tok,u]) (kw:=[]) Xd.kind Xd.split isO (Xd.args (.ref x) (.str nm tok) u) ?_;have mro:Vw (CN prog w) s.heap (mroOf (.ref C)) c0.mro:=(PySem.W.looks_clsIn X hc).andThen .now;rw [PySem.W.osa_eq,refuse_eq];refine Al<|Al<|I.type.here<|Al<|mro.here ?_
 rw [agO _ _ ho];refine Ck<|Al<|I.type.here<|Al<|(Xe X ht).here (Al ?_)
 exact Ck h
end
variable {nm : Str}
section
variable {prog:Dz}{w:Cw}{A:Dl}{E:Mk->Af->Prop}{s:Af}{K:Bl}{x dx C f:Addr}{mA:Str->Option Mk}{name:Str}{v:Mk}
theorem ajR {fs:Array Mk}{Q:Unit->Af->Prop}(X:K.In s.heap)(hx:s.heap.get? x=Dn ⟨.ref C,JI,.fields fs,sl⟩)
  (hs:M6 K (.ref C) "__setattr__" = Dn (Dn (.builtin "object.__setattr__"))) (hp:Rq K C=true) (ht:M6 K (.ref C) name=Dn JI) (hh:Wx K C=true)
  (h:∀ h',h'.get? x=Dn ⟨.ref C,Dn s.heap.objs.size,.fields fs,sl⟩->h'.Ns1 s.heap.objs.size (fun y=>if y=name then Dn v else JI)->(∀ b o,b≠x->s.heap.get? b=Dn o->h'.get? b=Dn o)->Q () { s with heap:=h',toks:=s.toks+2 }) :
  Bm (CN prog w) A (setAttr (.ref x) name v) Q E s:=by
 have J:VJ s.heap x ⟨.ref C,JI,.fields fs,sl⟩ C JI:=⟨hx,rfl,rfl,trivial⟩
 refine PySem.W.set_plain X J hs<|abO (s:={ s with toks:=s.toks+1 }) X J hp ht ?_
 obtain ⟨cd,hc,hd'⟩:=PySem.W.any_some hh;refine Al<|Ck<|Al<|Al<|wpAny_loadPart hx<|Al<|PySem.W.Looks.here (s:={ s with toks:=s.toks+1 }) (PySem.W.looks_clsIn X hc) ?_
 rw [hd'];obtain ⟨hp',g,d,t,os⟩:=s;refine Al<|wpAny_alloc' ?_
 have hxl:x<hp'.objs.size:=Hx hx;have hx1:(hp'.push { cls:=.type "dict",data:=.dict #[] }).get? x=Dn ⟨.ref C,JI,.fields fs,sl⟩:=IV _ hx;have hD:(hp'.push { cls:=.type "dict",data:=.dict #[] }).get? hp'.objs.size=Dn { cls:=.type "dict",data:=.dict #[] }:=Kg _ rfl;refine Al<|wpAny_update' hx1 ?_
 refine Ck ?_;show Bm _ _ (Builtin.ObjectAttr.storeInDict hp'.objs.size (Value.str name t) name v) _ _ _;have hne:hp'.objs.size≠x:=QX hxl;generalize eh:(hp'.push { cls:=.type "dict",data:=.dict #[] }).update x (fun o=>{ o with dict:=Dn hp'.objs.size })=hu;have hX:hu.get? x=Dn ⟨.ref C,Dn hp'.objs.size,.fields fs,sl⟩:=by rw [<-eh];exact QW _ hx1 rfl
 have hN:hu.Ns1 hp'.objs.size (fun _=>JI):=by
  refine ⟨{ cls:=.type "dict",data:=.dict #[] },#[],_,?_,rfl,(fun e he=>absurd he<|by simp),?_,fun _=>rfl⟩
  ·rw [<-eh,Pj _ _ (Jo hne)];exact hD
  ·unfold UniqKeys;simp
 have kp:∀ b o,b≠x->hp'.get? b=Dn o->hu.get? b=Dn o:=fun b o hb e=>by rw [<-eh,Pj _ _ (Jo hb)];exact IV _ e
 refine Al<|Ck<|Al ?_
 refine wpAny_nsSet1 (s:=⟨hu,g,d,t+1,os⟩) hN fun h' hn2 hs2=>?_;obtain ⟨oD,esD,epD,hoD,hdD,hcD⟩:=hn2.count (PySem.Within.cons name v (show Xu (fun _=>JI) [] from fun _ z=>absurd rfl z));refine Al<|wpAny_lookBehind hoD (by rw [hdD];exact pastItsLine_dict (J4 hcD<|by simp [Vy])) ?_
 exact Ck (h h' ((hs2.2 x (Jo hne)).trans hX) hn2 fun b o hb e=>by
  by_cases hbd:b=hp'.objs.size
  ·rw [hbd] at e;exact absurd (Hx e) (Pa _)
  ·exact (hs2.2 b hbd).trans (kp b o hb e))
end
section
variable {prog:Dz}{w:Cw}{A:Dl}{E:Mk->Af->Prop}{s:Af}{K:Bl}{x:Addr}{ox:Obj}
theorem aiV {Q:Mk->Af->Prop}{od:Option Obj}{name:Str}{v:Mk}{expr:Bool}(X:K.In s.heap)(I:VJ s.heap x ox D od)(hga:M6 K (.ref D) "__getattribute__" = Dn (Dn (.builtin "BaseException.__getattribute__")))(hk:M6 K (.ref D) "__getattr__" = Dn JI)
  (hf:PySem.W.findObj K D od name=Dn (.value v)) (hh:PySem.W.handedIn v=true) (hB:Pb K D (.type "BaseException")=Dn true)
  (h:Q v { s with toks:=s.toks+1 }):Bm (CN prog w) A (getAttr (.ref x) name expr) Q E s:=by
 obtain ⟨hp,g,d,t,os⟩:=s;have L0:=I.type (M:=CN prog w);have L1:=Xe (M:=CN prog w) X hga;have L2:=Xe (M:=CN prog w) X hk;have L3:=PySem.W.looks_find (M:=CN prog w) X I hf;have L4:=XH (M:=CN prog w) X hB;unfold getAttr getAttrBy;refine Al<|wpAny_mkText<|Nb<|Al<|PySem.W.Looks.at L0<|Al<|PySem.W.Looks.at L1 ?_
 show Bm _ _ (if (onTheHeap (Value.ref D)&&(Value.builtin "BaseException.__getattribute__"==Value.builtin "object.__getattribute__"))=true then _ else getAttrByItsOwn _ _ _ _ _ _) _ _ _;have hx2:(Value.builtin "BaseException.__getattribute__"==Value.builtin "object.__getattribute__")=false:=by decide +kernel
 rw [hx2,Wb,if_neg Ky];unfold getAttrByItsOwn;refine Al<|show Bm _ _ (typeLookup (Value.ref D) "__getattr__") _ _ _ from PySem.W.Looks.at L2 ?_
 refine Al<|Rg<|Nb ?_
 unfold callGetattribute;rw [show onTheHeap (Value.builtin "BaseException.__getattribute__")=false from rfl,Wb,if_neg Ky];unfold boundAndCalled;rw [Xz.ga.bind (.ref x)];refine Al<|Ck ?_
 dsimp only;refine wpAny_call<|codeAny_call_builtin Xz.ga.plain F.entry_bexc_ga ?_
 have hk:builtinKind "BaseException.__getattribute__" = Dn .slot:=by decide +kernel
 have hsplit:splitId "BaseException.__getattribute__" = Dn ("BaseException", "__getattribute__"):=by decide +kernel
 have ha:=F.args_bexc_ga (.ref x) (.str name t);simp only [checkBuiltinCall,hk,hsplit];show Bm (CN prog w) A.in1 (VD (Value.ref x) (Value.type "BaseException") >>= _) _ _ _;refine Al ?_;unfold VD;refine Al<|PySem.W.Looks.at L0<|PySem.W.Looks.at L4 ?_
 rw [if_neg (by decide)];change Bm (CN prog w) A.in1 (match Manifest.signature? "BaseException.__getattribute__" with
  | some sig=>Bind.checkArgs "BaseException.__getattribute__" sig ⟨[Value.ref x,Value.str name t],[]⟩
  | x=>pure ()) _ _ _
 repeat (any_goals (first | assumption | (with_reducible refine Vq I.at_ ?_;rw [I.cls]) | with_reducible refine PySem.W.Looks.at L3 ?_ | wp_step))
 show Bm _ _ (handedOut v) _ _ _;rw [PySem.W.handedOut_of hh];exact Ck h
end
section
variable {prog:Dz}{w:Cw}{A:Dl}{E:Mk->Af->Prop}{h:Heap}{g:Array GenState}{d:Drawn}{t:Nat}{os:OsState}
variable {q:Str}{C N:Addr}{bs bmB:List Mk}{hdct:Bool}{sn:List Str}{sub:List Mk}{ab:Bool}{col:Option Bool}{dd:Option Addr}{k0 k1 k2 k3 k5:Option Mk}{B initId:String}{K:Bl}{f:Addr}
abbrev Mp (C:Addr)(a:Addr):Obj:={ cls:=.ref C,data:=.fields #[.ref a,.none,.none,.none,.bool false,.none] }
theorem vI (F:ExcBaseFacts B newId initId bmB)(T:OwnTail h bmB bm){mN:Str->Option Mk}{rest:List Mk}{Q:Fin->Af->Prop}(X:K.In h)(hfn:X6 K (.ref f)=Dn (.type "function"))
  (c0:h.get? C=Dn (VG nm q C N bs bm hdct sn sub ab col dd k0 k1 k2 k3 k5 newId)) (n0:h.Ns N mN) (hi:mN "__init__" = Dn (.ref f))
  (hq:Bm (CN prog w) A (call (.ref f) (.ref (h.objs.size+1)::rest)) (fun r s'=>r=.none/\Q (.done (.ret (.ref (h.objs.size+1)))) s') E ⟨(h.push { cls:=.type "tuple",data:=.seq rest.toArray }).push (Mp C h.objs.size),g,d,t,os⟩) (few:rest.length<=Ht) :
  Bm (CN prog w) A (Qx.«type.__call__» ⟨.ref C::rest,[]⟩) Q E ⟨h,g,d,t,os⟩:=by
 have up:∀ b o,h.get? b=Dn o->((h.push { cls:=.type "tuple",data:=.seq rest.toArray }).push (Mp C h.objs.size)).get? b=Dn o:=fun b o z=>IV _ (IV _ z)
 have c1:=up _ _ c0;have n1:=n0.keeps up;have T1:=T.keeps up;have X1:K.In ((h.push { cls:=.type "tuple",data:=.seq rest.toArray }).push (Mp C h.objs.size)):=fun a o z=>up a o (X a o z)
 have self:((h.push { cls:=.type "tuple",data:=.seq rest.toArray }).push (Mp C h.objs.size)).get? (h.objs.size+1)=Dn (Mp C h.objs.size):=by heap_get
 have own:(Value.ref C::bm).contains (.ref C)=true:=by rw [Wy];simp
 repeat (first | wp_step | (with_reducible refine wpAny_madeBy_exc c0 ?_) | (with_reducible refine Vq c0 ?_))
 refine codeAny_call_builtin_code (Code.quiet_builtin _ F.quiet)<|wpAny_check_new_subT F T c0<|codeAny_exc_new_subT F T c0 ?_ few
 show Bm _ _ _ _ _ _;unfold VD;repeat (first | wp_step | (with_reducible refine Vq self ?_) | (with_reducible refine wpAny_isSubtype_exc c1 ?_;rw [own]))
 refine (show Bm _ _ (typeLookup (.ref C) _) _ _ _ from wpAny_typeLookup_tail c1 n1 T1 F.mroIs F.init.lookup ?_);rw [hi];refine Nb<|Al<|PySem.W.Looks.here (s:=⟨_,g,d,t,os⟩) (PySem.W.bind_fn X1 (.ref<|h.objs.size+1) hfn) ?_
 refine Al<|K3 hq (fun r s' z=>?_) fun _ _ z=>z
 rw [z.1];exact Ck<|show Bm _ _ (ret<|Value.ref<|h.objs.size+1) _ _ _ from Ck z.2
theorem xr (F:ExcBaseFacts B newId initId bmB)(T:OwnTail h bmB bm){mN:Str->Option Mk}{rest:List Mk}{Q:Mk->Af->Prop}(X:K.In h)(hfn:X6 K (.ref f)=Dn (.type "function"))
  (c0:h.get? C=Dn (VG nm q C N bs bm hdct sn sub ab col dd k0 k1 k2 k3 k5 newId)) (n0:h.Ns N mN) (hi:mN "__init__" = Dn (.ref f))
  (hq:Bm (CN prog w) (A.under (.builtin "type.__call__" ⟨.ref C::rest,[]⟩)) (call (.ref f) (.ref (h.objs.size+1)::rest)) (fun r s'=>r=.none/\Q (.ref (h.objs.size+1)) s') E ⟨(h.push { cls:=.type "tuple",data:=.seq rest.toArray }).push (Mp C h.objs.size),g,d,t,os⟩) (few:rest.length<=Ht) :
  Bm (CN prog w) A (call (.ref C) rest) Q E ⟨h,g,d,t,os⟩:=by
 have y1:Shared.TypeIs ⟨h,g,d,t,os⟩ (.ref C) "type":=⟨_,c0,rfl⟩
 have y2:=tc_bind (.ref C);have y3:=tc_lookup;refine wpAny_call<|codeAny_of_tree<|show Bm _ _ (callAny (.ref C) _) _ _ _ from ?_
 repeat (any_goals (first | (with_reducible refine Vq c0 ?_) | assumption | wp_step))
 exact ⟨rfl,codeAny_call_builtin_at (Code.quiet_builtin _<|by decide +kernel) entry_typeCall<|wpAny_check_type_call_sub c0<|vI F T X hfn c0 n0 hi hq few⟩
end
variable {hdct : Bool}{sn : List Str}{sub : List Mk}{dd : Option Addr}{col : Option Bool}{mN : Str->Option Mk}{initId : String}
section
variable {prog:Dz}{w:Cw}{M:Model}{A:Dl}{E:Mk->Af->Prop}{s:Af}{env:Env}{K:Bl}{f:Addr}
variable {q:Str}{C N:Addr}{bs bmB:List Mk}{ab:Bool}{k0 k1 k2 k3 k5:Option Mk}{B:String}
def QtE (A:Dl)(h:Heap)(e:Addr):Prop:=∀ v,A.handled=Dn v->∃ a l,v=.ref a/\Gp h l v/\e∉l
theorem PB.heapL {P:Dz}{w:Cw}{H:Hp}{h:Heap}{v:Mk}(c:PB H v)(x:K7 P w H h):∃ l,Gp h l v/\∀ a∈l,H a≠JI:=by
 induction c with
 | nil=>exact ⟨[],.nil,fun a ha=>absurd ha (by simp)⟩
 | @cons c o u vs z h1 h2 h3 _ ih=>
  obtain ⟨l,t,k⟩:=ih;refine ⟨_,.cons (x _ _ h1).1 h2 h3 t,fun a ha=>?_⟩;rcases JN.mp ha with rfl | ha
  ·rw [h1];exact fun q=>nomatch q
  ·exact k a ha
theorem Quiet.qte {A:Dl}{P:Dz}{w:Cw}{H:Hp}{h:Heap}{e:Addr}(q:Quiet A H)(x:K7 P w H h)(he:H e=JI):QtE A h e:=fun v z=>by
 obtain ⟨⟨a,h1⟩,c⟩:=q v z;obtain ⟨l,t,k⟩:=c.heapL x;exact ⟨a,l,h1,t,fun y=>k e y he⟩
theorem agj {α : Type}{oe:Obj}{ws:Array Mk}{e:Addr}{Q:α->Af->Prop}(hq:QtE A s.heap e)(he:s.heap.get? e=Dn oe)(hd:oe.data=.fields ws)(hz:2<ws.size)
  (h:∀ h',(∀ b,b≠e->h'.get? b=s.heap.get? b)->(∃ o',h'.get? e=Dn o'/\o'.cls=oe.cls/\o'.dict=oe.dict/\((A.handled=JI/\h'=s.heap)\/∃ v,A.handled=Dn v/\o'.data=.fields (ws.setIfInBounds 2 v)))->E (.ref e) { s with heap:=h' }):Bm (CN prog w) A (raiseNew (.ref e):Sem α) Q E s:=by
 unfold raiseNew;refine Al<|wpAny_handled ?_
 cases hh:A.handled with
 | none=>
  dsimp only;refine Al<|Ck<|Vz ?_
  exact h s.heap (fun _ _=>rfl) ⟨oe,he,rfl,rfl,.inl ⟨hh,rfl⟩⟩
 | some v=>
  obtain ⟨a,l,rfl,ch,nl⟩:=hq v hh;dsimp only;have al:a∈l:=by cases ch with | cons=>simp
  have ne:(Value.ref a != Value.ref e)=true:=by
   simp only [bne_iff_ne,ne_eq];intro q;exact nl (by rw [<-Value.ref.inj q];exact al)
  rw [if_pos ne];refine Al<|Nb<|wpAny_runValue<|wL ?_ ch nl ⟨a,rfl⟩ (.ref a) false (fun _=>.refl) fun q=>nomatch q
  dsimp only;refine Al ?_;unfold updateField;refine Al<|wpAny_load he ?_
  rw [hd];dsimp only;rw [if_pos hz];refine wpAny_update he<|Vz ?_
  have hd3:=QT hd (·.setIfInBounds 2 (Value.ref a));exact h _ (fun b hb=>Pj _ _<|Jo hb) ⟨_,QW _ he<|Ri hd3,Wv _ _,by obtain ⟨c0,d0,dt,sl⟩:=oe;cases hd;rfl,.inr ⟨_,hh,hd3⟩⟩
def Rsd (A:Dl)(C:Addr)(e:Addr)(t:Addr)(od:Option Addr)(h h':Heap):Prop:=(∀ b,b≠e->h'.get? b=h.get? b)/\∃ o',h'.get? e=Dn o'/\o'.cls=.ref C/\o'.dict=od/\((A.handled=JI/\h'=h)\/∃ v,A.handled=Dn v/\o'.data=.fields (#[.ref t,.none,.none,.none,.bool false,.none].setIfInBounds 2 v))
theorem lg {x:Sem Mk}{Q:Flow->Af->Prop}(hb:bm.contains (.type "BaseException")=true)
  (h:Bm (CN prog w) A x (fun v s₁=>∃ e t od,v=.ref e/\s₁.heap.get? C=Dn (VG nm q C N bs bm hdct sn sub ab col dd k0 k1 k2 k3 k5 newId)/\s₁.heap.get? e=Dn { Mp C t with dict:=od }/\QtE A s₁.heap e /\
   ∀ h',Rsd A C e t od s₁.heap h'->E (.ref e) { s₁ with heap:=h' }) E s):Bm (CN prog w) A (raiseStmt env (Dn x) JI) Q E s:=by
 have isB:(Value.ref C::bm).contains (.type "BaseException")=true:=by rw [Wy,hb];simp
 unfold raiseStmt;refine Al<|K3 h (fun v s₁ ⟨e,t,od,ev,hC,he,hq,z⟩=>?_) fun _ _ z=>z
 subst ev;obtain ⟨h1,g1,d1,t1,o1⟩:=s₁;repeat (first | wp_step | (with_reducible refine Vq he ?_) | (with_reducible refine Vq hC ?_) | (with_reducible refine wpAny_isSubtype_exc hC ?_;rw [isB]))
 exact agj (s:=⟨h1,g1,d1,t1,o1⟩) hq he rfl (by simp) fun h' a ⟨o',b1,b2,b3,b4⟩=>z h' ⟨a,o',b1,b2,b3,b4⟩
theorem zax (F:ExcBaseFacts B newId initId bmB){x:Str}{alR pos:Pos}{args:List Expr}{Q:Flow->Af->Prop}
  (hb:bm.contains (.type "BaseException")=true) (hpl:(Jd alR (Cy args env)).any (·.1)=false) (hfn:X6 K (.ref f)=Dn (.type "function")) (hi:mN "__init__" = Dn (.ref f))
  (h:Bm (CN prog w) A (eval (.Name x np) env) (fun fv s₁=>fv=.ref C/\Bm (CN prog w) A (evalArgs (.ref C) true (Jd alR (Cy args env)) [])
   (fun a s₂=>(a.kw=[]/\a.pos.length<=Ht/\K.In s₂.heap)/\(s₂.heap.get? C=Dn (VG nm q C N bs bm hdct sn sub ab col dd k0 k1 k2 k3 k5 newId)/\s₂.heap.Ns N mN/\OwnTail s₂.heap bmB bm) /\
    Bm (CN prog w) (A.under (.builtin "type.__call__" ⟨.ref C::a.pos,[]⟩)) (call (.ref f) (.ref (s₂.heap.objs.size+1)::a.pos)) (fun r s₃=>r=.none/\∃ od,s₃.heap.get? C=Dn (VG nm q C N bs bm hdct sn sub ab col dd k0 k1 k2 k3 k5 newId)/\s₃.heap.get? (s₂.heap.objs.size+1)=Dn { Mp C s₂.heap.objs.size with dict:=od }/\QtE A s₃.heap (s₂.heap.objs.size+1)/\∀ h',Rsd A C (s₂.heap.objs.size+1) s₂.heap.objs.size od s₃.heap h'->E (.ref (s₂.heap.objs.size+1)) { s₃ with heap:=h' }) E
     { s₂ with heap:=(s₂.heap.push { cls:=.type "tuple",data:=.seq a.pos.toArray }).push (Mp C s₂.heap.objs.size) }) E s₁) E s) :
  Bm (CN prog w) A (exec (.Raise (Dn (.Call (.Name x np) args [] alR)) JI pos) env) Q E s:=by
 rw [arm_exec_Raise];refine Al<|Qt<|lg (nm:=nm) (q:=q) (C:=C) (N:=N) (bs:=bs) (bm:=bm) (hdct:=hdct) (sn:=sn) (sub:=sub) (ab:=ab) (col:=col) (dd:=dd) (k0:=k0) (k1:=k1) (k2:=k2) (k3:=k3) (k5:=k5) (newId:=newId) hb ?_
 refine Al<|K3 (wpAny_Call_ofName<|K3 h (fun fv s₁ ⟨ef,h₁⟩=>?_) fun _ _ z=>z) (fun v s₃ h₃=>Al<|Qt<|Ck h₃) fun _ _ z=>z
 subst ef;unfold callWith;refine Al<|Nb<|K3 h₁ (fun a s₂ ⟨⟨ek,few,X⟩,⟨hC,hn,T⟩,h₂⟩=>Al<|Qt ?_) fun _ _ z=>z
 obtain ⟨ap,ak⟩:=a;cases (show ak=[] from ek)
 obtain ⟨h2,g2,d2,t2,o2⟩:=s₂;simp only [hpl];refine Al<|wpAny_keeperOf_exc hC<|Al<|xr F T X hfn hC hn hi (K3 h₂ (fun r s₃ hr=>⟨hr.1,?_⟩) fun _ _ z=>z) few
 obtain ⟨_,od,z1,z2,z3⟩:=hr;exact Al<|Nb<|wpAny_point<|Ck ⟨_,_,od,rfl,z1,z2,z3⟩
end
variable {args : List Expr}
theorem aiE {K:Bl}{h:Heap}{N:Addr}{n:Str}{v:Mk}(X:K.In h)(G:h.Ns N m)(e:Iw K N n=Dn (Dn v)):m n=Dn v:=by
 obtain ⟨o,es,ep,ho,hd,_,hf⟩:=G;unfold Iw at e;split at e
 ·rename_i z;have y:=X _ _ z;rw [ho] at y;cases y;cases hd;split at e
  ·rename_i he;cases e;have:=hf n
   unfold nsFind findBy at this;rw [<-Array.find?_toList,he] at this;exact this.symm
  ·split at e <;> cases e
 ·cases e
def HY (K:Bl)(C fi:Addr)(bmB:List Mk)(newId:String):Bool:=match K.lookup C with
 | some ⟨.type "type",_,.cls cd,sl⟩=>(match cd.mro,sl.toList with
  | .ref C'::bm,[_,_,_,_,Dn (.builtin n),_]=>C'==C&&n==newId&&!cd.hasDel&&PySem.W.tailIn K bmB bm&&PySem.W.nsOkIn K cd.ns&&Iw K cd.ns "__init__"==Dn (Dn (.ref fi))
  | _,_=>false)
 | _=>false
variable {fi : Addr}
theorem ajS {K:Bl}{h:Heap}{C:Addr}(X:K.In h)(q:HY K C fi bm newId=true):
  ∃ (tl:List Mk) (N:Addr) (nm qn:Str) (bs:List Mk) (hd:Bool) (sn:List Str) (sub:List Mk) (ab:Bool) (col:Option Bool) (dd:Option Addr) (k0 k1 k2 k3 k5:Option Mk) (mN:Str->Option Mk),
   K.lookup C=Dn (VG nm qn C N bs tl hd sn sub ab col dd k0 k1 k2 k3 k5 newId)/\h.Ns N mN/\mN "__init__" = Dn (.ref fi)/\OwnTail h bm tl:=by
 unfold HY at q;split at q
 ·rename_i dd cd sl ho;split at q
  ·rename_i C' bm' k0 k1 k2 k3 n k5 hm hs;simp only [Jw,beq_iff_eq,Ww] at q;obtain ⟨⟨⟨⟨⟨rfl,rfl⟩,hdel⟩,ht⟩,hok⟩,hni⟩:=q;obtain ⟨nm,bs,mro,ns,qn,hd,sn,sub,ab,col,del⟩:=cd;dsimp only at hm hdel hok hni;subst hm hdel;have hsl:sl = #[k0,k1,k2,k3,Dn (.builtin n),k5]:=by
    obtain ⟨l⟩:=sl;simp only at hs;rw [hs]
   subst hsl;exact ⟨bm',ns,nm,qn,bs,hd,sn,sub,ab,col,dd,k0,k1,k2,k3,k5,_,ho,.of_isNs<|PySem.W.isNs_of_in X hok,aiE X (.of_isNs<|PySem.W.isNs_of_in X hok) hni,PySem.W.tail_of_in X ht⟩
  ·cases q
 ·cases q
def exN (e C a:Addr):HO:=.ext fun h=>h.get? e=Dn (Mp C a)
def exD (e C a dx:Addr):HO:=.ext fun h=>h.get? e=Dn { Mp C a with dict:=Dn dx }
def Td (K:Bl)(C:Addr)(f:Str):Bool:=M6 K (.ref C) "__setattr__"==Dn (Dn (.builtin "object.__setattr__"))&&Rq K C&&M6 K (.ref C) f==Dn JI&&Wx K C
def Zh (C:Addr)(f:Str)(ta tv:TE):TS:=fun D σ H=>tv σ H fun y H1=>ta σ H1 fun x H2=>∃ e a,x=.ref e/\H2 e=Dn (exN e C a)/\∀ dx,H2 dx=JI->dx≠e->D.nx σ (Dv (Dv H2 dx (.xd [(f,y)])) e (exD e C a dx))
section
variable {X:Cx}{o value:Expr}{f:Str}{C:Addr}{pos pos':Pos}{ta tv:TE}
theorem ajg (hx:Td X.K C f=true)(ha:PE X o ta)(hv:PE X value tv)(hs:Qs value (Dn (.Attribute o f pos')) pos.line X.env=pure false:=by rfl):PS X (.Assign [.Attribute o f pos'] value pos) (Zh C f ta tv):=by
 unfold Td at hx;simp only [Jw,beq_iff_eq] at hx;obtain ⟨⟨⟨x1,x2⟩,x3⟩,x4⟩:=hx;intro alP s σ H D I h;refine plainObj_wpAny_Assign_Attribute (HJ (hv alP s σ H _ I h) fun u s1 ⟨y,H1,I1,ry,q⟩=>HJ (ha alP s1 σ H1 _ I1 q) fun ov s2 ⟨x,H2,I2,rx,e,a,ex,ee,q2⟩=>?_) hs;subst ex;obtain rfl:ov=Value.ref e:=rx;have ho:s2.heap.get? e=Dn (Mp C a):=(I2.hok e _ ee).1;have hlt:=Hx ho;have ne:s2.heap.objs.size≠e:=QX hlt;refine ajR I2.kIn ho x1 x2 x3 x4 fun h' hX hN kp=>⟨σ,_,?_,q2 s2.heap.objs.size (I2.hok.fresh<|Ig _) ne⟩;have hd:∃ od,h'.get? s2.heap.objs.size=Dn od:=let ⟨od,_,_,z,_⟩:=hN;⟨od,z⟩
 -- the heap but for e
 have m1:(h'.update e fun _=>Mp C a).get? e=Dn (Mp C a):=QW _ hX rfl;have m2:∀ b,b≠e->(h'.update e fun _=>Mp C a).get? b=h'.get? b:=fun b hb=>Pj _ _ (Jo hb)
 have Ia:BR X alP σ (Dv H2 s2.heap.objs.size (.xd [(f,y)])) { s2 with heap:=h'.update e fun _=>Mp C a,toks:=s2.toks+2 }:=by
  refine I2.laid (fun b z hz=>?_) (Ig _) ⟨_,hN.at (fun od z=>by rw [m2 _ ne];exact z),fun g=>?_⟩
  ·by_cases hb:b=e
   ·subst hb;rw [ho] at hz;rw [m1];exact hz
   ·rw [m2 b hb];exact kp b z hb hz
  ·show W5 (List.lookup g [(f,y)]) (if g=f then Dn u else JI);rw [LI];by_cases hg:g=f
   ·subst hg;rw [if_pos rfl,beq_self_eq_true];exact ry
   ·rw [if_neg hg,show (g==f)=false from by simpa using hg];trivial
 exact Ia.write (x:=e) (e:=e) (by rw [aJ<|Jo ne,ee];exact True.intro) (.inl rfl) (fun b z hb hz=>by rw [<-m2 b hb];exact hz) ⟨_,hX⟩ ⟨hX,⟨_,hX⟩,fun h1 h2 z k=>k _ z⟩
end
def forget (H:Hp)(e:Addr):Hp:=fun b=>if b=e then JI else H b
theorem fC {H:Hp}{e:Addr}:forget H e e=JI:=by unfold forget;rw [if_pos rfl]
theorem cF {H:Hp}{e b:Addr}(h:b≠e):forget H e b=H b:=by unfold forget;rw [if_neg h]
section
variable {X:Cx}{alP:List (Addr×Obj)}{σ : St}{H:Hp}{s:Af}{e:Addr}
theorem BR.forget {φ : Heap->Prop}{σ0:St}{H0:Hp}{t0:Af}(I:BR X alP σ H s)(he:H e=Dn (.ext φ))(I0:BR X alP σ0 H0 t0)(h0:H0 e=JI)(s0:X.s₀.heap.get? e=JI):BR X alP σ (L2.forget H e) s:=by
 have ne:∀ b ob,X.s₀.heap.get? b=Dn ob->b≠e:=fun b ob z y=>by rw [y,s0] at z;cases z
 have n0:∀ b u,H0 b=Dn u->b≠e:=fun b u z y=>by rw [y,h0] at z;cases z
 refine ⟨I.ok,I.os,I.bare,⟨I.base.keep,I.base.slot,fun b ob z y hx=>?_,I.base.there,fun b xs z=>?_,fun b ob v z=>?_,fun b ps z=>?_⟩,I.loc,I.cell,?_,fun x c z=>?_,fun p hp=>?_,fun b v z=>?_,I.len⟩
 ·rw [cF (ne b ob z)];exact I.base.free b ob z y hx
 ·rw [cF (n0 b _ (I0.base.tups b xs z))];exact I.base.tups b xs z
 ·rw [cF (n0 b _ (I0.base.frzs b ob v z))];exact I.base.frzs b ob v z
 ·obtain ⟨_,q⟩:=I0.base.tbls b ps z;rw [cF (n0 b _ q)];exact I.base.tbls b ps z
 ·by_cases hb:X.env.locals=e
  ·rw [hb];exact fC
  ·rw [cF hb];exact I.free
 ·by_cases hb:c=e
  ·rw [hb];exact fC
  ·rw [cF hb];exact I.freeC x c z
 ·obtain ⟨h1,h3,h4⟩:=I.pin p hp;refine ⟨h1,?_,h4⟩;by_cases hb:p.1=e
  ·rw [hb];exact fC
  ·rw [cF hb];exact h3
 ·by_cases hb:b=e
  ·rw [hb,fC] at z;cases z
  ·rw [cF hb] at z;exact (I.hok b v z).stay (fun _ _ _ q=>q) (fun c q=>by rw [cF (fun y=>by rw [y,he] at q;cases q)];exact q) fun c xs q=>by rw [cF (fun y=>by rw [y,he] at q;cases q)];exact q
end
section
variable {X:Cx}{alP:List (Addr×Obj)}{σ : St}{H:Hp}{s:Af}{C:Addr}{x f:Str}{alR pos:Pos}{e:Expr}{t:TA}{k:Nat}{fd:Ln}{ps:List Str}
end
section
variable {X:Cx}{e:Expr}{pos:Pos}
end
def Hw (f:Str)(ma:ME):ME:=fun σ h Q=>ma σ h fun w h1=>match w with
 | .exa n ws=>(match ((BJ n).zip ws).lookup f with
  | some v=>Q v h1
  | none=>False)
 | _=>False
theorem vW {K:Bl}{H:Hp}{μ : Mu}{f:Str}{v:W}:∀ {ns:List Str} {ws:List W} {xs:List V},aM K H μ ws xs->(ns.zip ws).lookup f=Dn v->∃ x,(ns.zip xs).lookup f=Dn x/\Aj K H μ v x
 | [],_,_,_,e=>by cases e
 | _::_,[],_,_,e=>by cases e
 | n::ns,w::ws,xs,r,e=>by
  rw [aM] at r;obtain ⟨u,us,rfl,ru,r⟩:=r;rw [V5,LI] at e |-
  cases q:f==n with
  | true=>rw [q] at e;cases e;exact ⟨u,rfl,ru⟩
  | false=>rw [q] at e;exact vW r e
theorem Ma {f:Str}{v:W}:∀ {ns:List Str} {ws:List W},(ns.zip ws).lookup f=Dn v->f∈ns
 | [],_,e=>by cases e
 | _::_,[],e=>by cases e
 | n::ns,w::ws,e=>by
  rw [V5,LI] at e;cases q:f==n with
  | true=>rw [beq_iff_eq.mp q];exact Ow ..
  | false=>rw [q] at e;exact Ph _ (Ma e)
section
variable {X:Cx}{e:Expr}{f:Str}{pos:Pos}
theorem Gf (ha:DE X e ma)(hb:Rf e f X.env (eval e X.env)=eval e X.env:=by rfl):DE X (.Attribute e f pos) (Hw f ma):=by
 intro alP s σ H Q I ⟨μ,h,σw,Qw,R,S,m,q⟩;refine Yk hb<|HJ (ha alP s σ H _ I ⟨μ,h,σw,_,R,S,m,fun _ _ z=>z⟩) fun u s1 ⟨x,H1,I1,rx,μ1,w,h1,e1,R1,r1,m1⟩=>?_
 cases w with
 | exa n ws=>
  dsimp only at m1;split at m1
  ·rename_i v el;rw [Aj] at r1;obtain ⟨p,o,uu,dd,ns,xs,ev,hp,⟨C,hcl,hdi,hnc,hxa⟩,hdd,en,hln,rs⟩:=r1;subst ev en;obtain rfl:u=Value.ref p:=rx;obtain ⟨y,ey,ry⟩:=vW rs el;have hfm:=Ma el;obtain ⟨mA,hns,hrel⟩:=(show iW X.prog X.w H1 s1.heap dd (.xd ((BJ n).zip xs)) from I1.hok dd _ hdd)
   have ry2:=hrel f;rw [ey] at ry2;cases qm:mA f with
   | none=>rw [qm] at ry2;exact ry2.elim
   | some uv=>
    rw [qm] at ry2;obtain ⟨od,hod,hl⟩:=Br hns;have J:VJ s1.heap p o C (Dn od):=⟨(I1.hok p _ hp).1,hcl,hnc,by rw [hdi];exact hod⟩
    unfold T9 at hxa;simp only [Jw,Nr,beq_iff_eq] at hxa;obtain ⟨⟨hxc,hhd⟩,hall⟩:=hxa;obtain ⟨_,⟨cd,Rr,hc,hmm,_⟩,hg,hg',_⟩:=J1 hxc;have hB:Pb X.K C (.type "BaseException")=Dn true:=by
     unfold Pb;rw [hc,V3,hmm];rfl
    refine aiV (od:=Dn od) I1.kIn J hg hg' (PySem.W.findObj_own hhd (hall f hfm) rfl<|by rw [hl,qm]) (agM ry2) hB ?_;exact ⟨y,H1,I1.tok _,ry2,q _ _ ⟨μ1,v,h1,e1,R1,ry,m1⟩⟩
  ·exact m1.elim
 | _=>exact m1.elim
end
section
variable {X:Cx}
end
section
variable {X:Cx}{tg:Expr}
end
section
variable {X:Cx}{K:Bl}
def enW:Nat->List W->List W
 | _,[]=>[]
 | i,a::as=>.tup [.int (i:Int),a]::enW (i+1) as
def enS (h:Gh)(x:W):Option Src:=match x with
 | .lst as=>Dn ⟨enW 0 as,JI⟩
 | .kls as=>Dn ⟨enW 0 as,JI⟩
 | .loc n=>(match h.c n with
  | some (.lst as)=>Dn ⟨enW 0 as,Dn (n,as)⟩
  | _=>JI)
 | _=>JI
end
section
variable {X:Cx}{pos p:Pos}{e:Expr}{es:List Expr}{k:Nat}{fs:List (Addr×AP)}
theorem aej {x:Str}{f:Addr}(i:Nat)(hg:Gl X x)(hm:X.mg x=Dn (.ref f))(hd:(x==("__debug__" : Str))=false:=by decide):DE X (.Name x p) (mC (.fnv f i)):=
 dc (yK (v:=.ref f) hg hm rfl hd) fun _ _=>by rw [Aj]
inductive Qh (X:Cx) (k:Nat):List (Addr×AP)->Prop
 | nil:Qh X k []
 | cons {f:Addr} {fd:Ln} {ps:List Str} {ms:AP} {fs:List (Addr×AP)} (F:jE X.prog X.w X.K X.mg X.base Lf k f fd ps (lift X.K ms)) (hk:Og X.K (.ref f)=true) (hb:Binds X.K fd ps []) (r:Qh X k fs):Qh X k ((f,ms)::fs)
theorem Qh.get:∀ {fs:List (Addr×AP)} {j:Nat} {f:Addr} {ms:AP},Qh X k fs->fs[j]?=Dn (f,ms) ->
  ∃ fd ps,jE X.prog X.w X.K X.mg X.base Lf k f fd ps (lift X.K ms)/\Og X.K (.ref f)=true/\Binds X.K fd ps []
 | [],_,_,_,_,e=>by simp at e
 | _::_,0,_,_,.cons F hk hb _,e=>by
  simp at e;obtain ⟨rfl,rfl⟩:=e;exact ⟨_,_,F,hk,hb⟩
 | _::_,j+1,_,_,.cons _ _ _ r,e=>Qh.get (j:=j) r (by simpa using e)
def wC (fs:List (Addr×AP))(i:Nat)(ma:MA):ME:=fun σ h Q=>match σ[i]? with
 | some (Dn (.fnv f j))=>(match fs[j]? with
  | some x=>f=x.1/\ma σ h fun ws h1=>x.2 ws h1 Q EF
  | none=>False)
 | _=>False
theorem zbR {i:Nat}{x:Str}(F:Qh X k fs)(hr:eO k X.A)(hN:PE X (.Name x p) (QV i))(ha:Jm X (e::es) mr)(he:Cy (e::es) X.env=(false,eval e X.env)::Cy es X.env:=by rfl)(hpl:(Jd pos (Cy es X.env)).any (·.1)=false:=by rfl):
  DE X (.Call (.Name x p) (e::es) [] pos) (wC fs i mr):=by
 intro alP s σ H Q I ⟨μ,g,σw,Qw,R,S,m,q⟩;unfold wC at m;split at m
 ·rename_i f j es';obtain ⟨v,ev,rv⟩:=S.get i _ es';rw [Aj] at rv;subst rv;split at m
  ·rename_i y ey;obtain ⟨rfl,m⟩:=m;obtain ⟨fd,ps,F,hk,hb⟩:=F.get (f:=y.1) (ms:=y.2) ey;refine VN<|HJ (hN alP s σ H (fun v H1=>v=.ref y.1/\H1=H) I ⟨_,ev,rfl,rfl⟩) fun u s1 ⟨v,H1,I1,ru,e1,e2⟩=>?_
   subst e1 e2;obtain rfl:u=Value.ref y.1:=ru;refine PySem.W.callWith_K (h₀:=X.base) I1.ok.mod.kin hk (HJ (ha pos alP s1 σ H1 _ I1<|call_of (E:=E0) (ms:=y.2) ⟨μ,g,σw,Qw,R,S,m,q⟩) fun us s2 ⟨vs,H2,I2,r,q2⟩=>⟨I2.kIn,?_⟩) he hpl;exact Mi F hr hb .nil Qc I2 r q2
  ·exact m.elim
 ·exact m.elim
end
def Cmp (P:Dz)(w:Cw)(A:Dl)(s:Af)(kd:RV)(rk:Mk->Nat)(good:Mk->Prop):Prop:=
 ∀ (E:Mk->Af->Prop) (Q:Bool->Af->Prop) (x y:Mk),good x->good y->Q (decide (rk x<rk y)) s->Bm (CN P w) A (keyLt' kd x y) Q E s
section
variable {P:Dz}{w:Cw}{A:Dl}{E:Mk->Af->Prop}{s:Af}{kd:RV}{rk:Mk->Nat}{good:Mk->Prop}
def Rk (rk:Mk->Nat)(a:Array M5)(i:Nat):Nat:=match a[i]? with
 | some p=>rk p.1
 | none=>0
def Mj (rk:Mk->Nat)(a:Array M5)(i j:Nat):Prop:=∀ p q,i<=p->p<q->q<j->Rk rk a p<Rk rk a q
structure Keys (rk:Mk->Nat) (good:Mk->Prop) (a:Array M5):Prop where
 good:∀ p∈a.toList,good p.1
 nd:(a.toList.map fun p=>rk p.1).Nodup
structure SOk (kd:RV) (rk:Mk->Nat) (good:Mk->Prop) (st:Pu):Prop where
 kind:O4 st=kd
 failed:failedOf st=JI
 keys:Keys rk good (arrOf st)
theorem w_lt (C:Cmp P w A s kd rk good){x y:M5}{st:Pu}{Q:Option Bool->Pu->Prop}(hk:O4 st=kd)(hx:good x.1)(hy:good y.1)(q:Q (Dn (decide (rk x.1<rk y.1))) st):wpS (CN P w) A E s (lt' x y) Q st:=by
 rw [lt'_eq];refine wpS_bind<|wpS_get ?_
 rw [hk];exact wpS_bind<|wpS_lift<|Rg<|C _ _ _ _ hx hy ⟨rfl,wpS_pure q⟩
structure Within (a b:Array M5) (lo hi:Nat):Prop where
 perm:b.Perm a
 out:∀ k,k<lo\/hi<=k->b[k]?=a[k]?
end
variable {good : Mk->Prop}
section
variable {P:Dz}{w:Cw}{A:Dl}{E:Mk->Af->Prop}{s:Af}{kd:RV}{rk:Mk->Nat}
end
section
variable {P:Dz}{w:Cw}{A:Dl}{E:Mk->Af->Prop}{s:Af}{d it:Addr}{es:Array DictEntry}{ep i:Nat}
end
section
variable {P:Dz}{w:Cw}{A:Dl}{E:Mk->Af->Prop}{s:Af}{kd:RV}{rk:Mk->Nat}
structure aga (B:Nat->Bool) (n:Nat) (st:Pu) (x:Nat) (c:Option (Option Nat)×Nat×Nat) (st':Pu):Prop where
 s:st'=st
 e:c.1=JI
 a:c.2.1<=c.2.2
 b:c.2.2<=n
 d:c.2.2 - c.2.1<=n - x
 lo:∀ i,i<c.2.1->B i=true
 hi:∀ i,c.2.2<=i->i<n->B i=false
structure af9 (B:Nat->Bool) (v:Bool) (mx:Nat) (st:Pu) (x:Nat) (c:Option (Option Nat)×Nat×Nat) (st':Pu):Prop where
 s:st'=st
 e:c.1=JI
 a:c.2.1<c.2.2
 b:x<c.2.2
 d:c.2.1<mx
 h:B c.2.1=v
end
section
variable {rk:Mk->Nat}
def SL (rk:Mk->Nat)(l:List M5):Prop:=l.Pairwise fun x y=>rk x.1<rk y.1
def Be (rk:Mk->Nat)(xs ys:List M5):Prop:=∀ x∈xs,∀ y∈ys,rk x.1<rk y.1
def agN (rk:Mk->Nat)(A B out al bl:List M5):Prop:=∃ a1 b1,A=a1++al/\B=b1++bl/\out.Perm (a1++b1)/\SL rk out/\Be rk out al/\Be rk out bl
def Mrg (rk:Mk->Nat)(A B r:List M5):Prop:=r.Perm (A++B)/\SL rk r
end
section
variable {P:Dz}{w:Cw}{A:Dl}{E:Mk->Af->Prop}{s:Af}{kd:RV}{rk:Mk->Nat}
def Ve (st st':Pu):Prop:=arrOf st'=arrOf st/\O4 st'=O4 st/\failedOf st'=failedOf st/\pendingOf st'=pendingOf st
structure Two (rk:Mk->Nat) (good:Mk->Prop) (a b:Array M5):Prop where
 sa:SL rk a.toList
 sb:SL rk b.toList
 ga:∀ p∈a.toList,good p.1
 gb:∀ p∈b.toList,good p.1
 ne:∀ x∈a.toList,∀ y∈b.toList,rk x.1≠rk y.1
structure agC (rk:Mk->Nat) (a b out:Array M5) (ia ib:Nat):Prop where
 ml:agN rk a.toList b.toList out.toList (a.toList.drop ia) (b.toList.drop ib)
 ia:ia+1<a.size
 ib:ib<b.size
structure Go (rk:Mk->Nat) (a b:Array M5) (st:Pu) (n:Nat) {β : Type} (c:Option (Array M5)×Array M5×Nat×Nat×β) (st':Pu):Prop where
 sm:Ve st st'
 e:c.1=JI
 li:agC rk a b c.2.1 c.2.2.1 c.2.2.2.1
 le:n<=c.2.2.1+c.2.2.2.1
structure zaa (rk:Mk->Nat) (a b:Array M5) (st:Pu) {β : Type} (c:Option (Array M5)×β) (st':Pu):Prop where
 sm:Ve st st'
 r:∃ l,c.1=Dn l/\Mrg rk a.toList b.toList l.toList
end
section
variable {rk:Mk->Nat}
def zba (rk:Mk->Nat)(A B o ah bh:List M5):Prop:=∃ a2 b2,A=ah++a2/\B=bh++b2/\o.Perm (a2++b2)/\SL rk o/\Be rk ah o/\Be rk bh o
end
section
variable {P:Dz}{w:Cw}{A:Dl}{E:Mk->Af->Prop}{s:Af}{kd:RV}{rk:Mk->Nat}
structure zau (rk:Mk->Nat) (a b out:Array M5) (na nb:Nat):Prop where
 mh:zba rk a.toList b.toList out.toList.reverse (a.toList.take na) (b.toList.take nb)
 pa:0<na
 pb:1<nb
 la:na<=a.size
 lb:nb<=b.size
structure GoH (rk:Mk->Nat) (a b:Array M5) (st:Pu) (n:Nat) {β : Type} (c:Option (Array M5)×Nat×Nat×Array M5×β) (st':Pu):Prop where
 sm:Ve st st'
 e:c.1=JI
 li:zau rk a b c.2.2.2.1 c.2.1 c.2.2.1
 le:c.2.1+c.2.2.1+n<=a.size+b.size
structure Runs (rk:Mk->Nat) (a:Array M5) (sa k sb n' e:Nat):Prop where
 h1:sa+k<=sb
 h2:sb+n'<=e
 h3:e<=a.size
 r1:Mj rk a sa sb
 r2:Mj rk a sb e
 lo:∀ p,sa<=p->p<sa+k->Rk rk a p<Rk rk a sb
 hi:∀ p,sb+n'<=p->p<e->Rk rk a (sb - 1)<Rk rk a p
def Cont (rk:Mk->Nat)(a:Array M5):List (Nat×Nat×Nat)->Nat->Nat->Prop
 | [],i,j=>i=j
 | (s,n,_)::r,i,j=>s=i/\0<n/\Mj rk a i (i+n)/\Cont rk a r (i+n) j
structure zab (kd:RV) (rk:Mk->Nat) (good:Mk->Prop) (a0:Array M5) (lo:Nat) (st:Pu):Prop where
 ok:SOk kd rk good st
 perm:(arrOf st).Perm a0
 cont:Cont rk (arrOf st) (pendingOf st).toList 0 lo
end
section
variable {P:Dz}{w:Cw}{A:Dl}{E:Mk->Af->Prop}{s:Af}
def rankOf (ks:List (List Int))(k:List Int):Nat:=ks.countP fun l=>decide (l<k)
structure KyT (T:Heap->Mk->List Int->Prop):Prop where
 fn:∀ {h:Heap} {v:Mk} {k l:List Int},T h v k->T h v l->k=l
 of:∀ {h h':Heap} {v:Mk} {k:List Int},T h v k->(∀ b o,o.cls=.type "tuple"->h.get? b=Dn o->h'.get? b=Dn o)->T h' v k
abbrev PdT (T:Heap->Mk->List Int->Prop)(h:Heap):List (List Int)->List Mk->Prop:=Vn fun k v=>T h v k
section
variable {T:Heap->Mk->List Int->Prop}(F:KyT T)
include F
open Classical in
noncomputable def keyV (_:KyT T)(h:Heap)(v:Mk):List Int:=if e:∃ k,T h v k then e.choose else []
noncomputable def rkV (F:KyT T)(h:Heap)(ks:List (List Int))(v:Mk):Nat:=rankOf ks (keyV F h v)
end
structure SkT (P:Dz) (w:Cw) (A:Dl) {T:Heap->Mk->List Int->Prop} (F:KyT T) (kd:RV) (ks:List (List Int)) (vs:List Mk):Prop where
 kind:∀ {E:Mk->Af->Prop} {s:Af} {Q:RV->Af->Prop},2<=vs.length->PdT T s.heap ks vs->Q kd s->Bm (CN P w) A (keyKind' vs.toArray) Q E s
 cmp:∀ {s:Af},PdT T s.heap ks vs->Cmp P w A s kd (rkV F s.heap ks) (·∈vs)
end
section
variable {X:Cx}{K:Bl}
end
section
variable {X:Cx}{o e1 e2:Expr}{ma:MA}{apos alR:Pos}
end
section
variable {X:Cx}{K:Bl}
variable {o e:Expr}{ma:MA}{apos alR:Pos}
end
section
variable {prog:Dz}{w:Cw}{A:Dl}{R:Result->Af->Prop}{E:Mk->Af->Prop}{I:Addr}{ns:List Int}{its:List Mk}
end
section
variable {X:Cx}
end
section
open AutoSeq1 (wpAny_loadPart')
end
section
variable {prog:Dz}{w:Cw}{A:Dl}{E:Mk->Af->Prop}{s:Af}
end
section
variable {X:Cx}{K:Bl}
end
section
variable {prog:Dz}{w:Cw}{A:Dl}{R:Result->Af->Prop}{I:Addr}{its:List Mk}
end
section
variable {X:Cx}{K:Bl}
def ad9 (h:Gh)(x y:W):Option Src:=match tL x,y with
 | some as,.loc n=>(match h.c n with
  | some (.lst bs)=>Dn ⟨uw as bs,Dn (n,bs)⟩
  | _=>JI)
 | _,_=>JI
end
section
variable {X:Cx}
end
section
variable {prog:Dz}{w:Cw}{A:Dl}{E:Mk->Af->Prop}{s:Af}
end
section
variable {X:Cx}{K:Bl}
end
section
variable {prog:Dz}{w:Cw}{A:Dl}{E:Mk->Af->Prop}{s:Af}{r l:Addr}{items:Array Mk}
end
section
variable {X:Cx}
end
section
variable {P:Dz}{w:Cw}{A:Dl}{E:Mk->Af->Prop}{s:Af}
end
section
variable {X:Cx}{K:Bl}
end
section
variable {X:Cx}{o e1 e2:Expr}{ma:MA}{apos alR:Pos}
end
section
variable {prog:Dz}{w:Cw}{A:Dl}{R:Result->Af->Prop}{E:Mk->Af->Prop}{I:Addr}{ns:List Int}{its:List Mk}
end
section
variable {X:Cx}
end
section
variable {X:Cx}{a b o i:Expr}{mb:ME}{td ty:TE}{pos:Pos}
end
section
variable {P:Dz}{w:Cw}{A:Dl}{E:Mk->Af->Prop}{s:Af}
end
section
variable {X:Cx}
end
def Fk (P:Dz)(w:Cw)(K:Bl)(mg:Str->Option Mk)(base:Heap)(k:Nat)(x:Str)(ms:AP):Prop:=∃ f fd ps,jE P w K mg base Lf k f fd ps (lift K ms)/\mg x=Dn (.ref f)/\Og K (.ref f)=true/\Binds K fd ps []
def At (K:Bl)(mg:Str->Option Mk)(x:Str)(st:Stmt)(ps:List Str):Prop:=∃ f fd,Qm K x x st f fd/\mg x=Dn (.ref f)/\Binds K fd ps []
section
variable {X:Cx}{e e2 e3 e4:Expr}{es:List Expr}{mb mc md:ME}{pos:Pos}{k:Nat}{zl:List Str}{x:Str}{p:Pos}
theorem vV (i:Nat)(hN:X.N[i]?=Dn x:=by with_unfolding_all rfl)(hv:Vis X.env.scope x:=by with_unfolding_all first | exact Or.inl rfl | exact Or.inr (Or.inl rfl) | exact Or.inr (Or.inr rfl))(hd:(x==("__debug__" : Str))=false:=by decide)(hcd:(x==("__classdict__" : Str))=false:=by decide):DE X (.Name x pos) (ao i):=dv i (pv i hN hv hd hcd)
theorem aC (h1:DE X e ma)(h2:Jm X es mr)(s:HS e=false:=by with_unfolding_all rfl):Jm X (e::es) (aj ma mr):=cL h1 h2 (aO s)
theorem a1 (h1:DE X e ma)(s:HS e=false:=by with_unfolding_all rfl):Jm X [e] (aj ma aG):=aC h1 dZ s
theorem a2 (h1:DE X e ma)(h2:DE X e2 mb)(s1:HS e=false:=by with_unfolding_all rfl)(s2:HS e2=false:=by with_unfolding_all rfl):Jm X [e,e2] (aj ma (aj mb aG)):=aC h1 (a1 h2 s2) s1
theorem a3 (h1:DE X e ma)(h2:DE X e2 mb)(h3:DE X e3 mc)(s1:HS e=false:=by with_unfolding_all rfl)(s2:HS e2=false:=by with_unfolding_all rfl)(s3:HS e3=false:=by with_unfolding_all rfl):Jm X [e,e2,e3] (aj ma (aj mb (aj mc aG))):=aC h1 (a2 h2 h3 s2 s3) s1
theorem Bx {j:Nat}(F:Fk X.prog X.w X.K X.mg X.base j x ms)(ha:Jm X (e::es) mr)(hr:eO k X.A:=by with_unfolding_all assumption)(hk:j<=k:=by decide)(hg:Gl X x:=by with_unfolding_all rfl)(hdb:(x==("__debug__" : Str))=false:=by decide)(h1:HS e=false:=by with_unfolding_all rfl)(h2:noStar es=true:=by with_unfolding_all rfl):
  DE X (.Call (.Name x p) (e::es) [] pos) (aD ms EF mr):=by
 obtain ⟨f,fd,ps,a,b,c,d⟩:=F;exact zj (a.mono hk) hr hg b c d ha hdb (aO h1)<|bJ h2
theorem Jb {id:String}{mc:MC}(hc:kE X (.builtin id) mc)(hv:Ra x=Dn (.builtin id))(ha:Jm X (e::es) mr)(z:∀ n∈zl,X.mg n=JI:=by with_unfolding_all assumption)(hz:x∈zl:=by decide)(hg:Gl X x:=by with_unfolding_all rfl)(hn:x ≠ "__name__":=by decide)(hdb:(x==("__debug__" : Str))=false:=by decide)
  (h1:HS e=false:=by with_unfolding_all rfl) (h2:noStar es=true:=by with_unfolding_all rfl):DE X (.Call (.Name x p) (e::es) [] pos) (Hv mc mr):=wU hc hg (z _ hz) hv ha hn hdb (aO h1) (bJ h2)
theorem dct {T:String}{mc:MC}(hc:kE X (.type T) mc)(hv:Ra x=Dn (.type T))(ha:Jm X (e::es) mr)(z:∀ n∈zl,X.mg n=JI:=by with_unfolding_all assumption)(hz:x∈zl:=by decide)(hg:Gl X x:=by with_unfolding_all rfl)(hn:x ≠ "__name__":=by decide)(hdb:(x==("__debug__" : Str))=false:=by decide)
  (h1:HS e=false:=by with_unfolding_all rfl) (h2:noStar es=true:=by with_unfolding_all rfl):DE X (.Call (.Name x p) (e::es) [] pos) (Hv mc mr):=ail hc hg (z _ hz) hv ha hn hdb (aO h1) (bJ h2)
theorem HF (i:Nat){pos':Pos}(he:DE X e ma)(hN:X.N.Nodup:=by with_unfolding_all assumption)(hi:X.N[i]?=Dn x:=by with_unfolding_all rfl)(hx:Loc X.env.scope x:=by with_unfolding_all first | exact Or.inl rfl | exact Or.inr rfl)(hs:Qs e (Dn (.Name x pos')) pos.line X.env=pure false:=by with_unfolding_all rfl)
  (hf:X.fn x=true\/X.env.scope.names.lookup x=Dn .local:=by with_unfolding_all first | exact .inl rfl | exact .inr rfl):DS X (.Assign [.Name x pos'] e pos) (bx ma (kI i)):=abA hN hi hx he hs hf
theorem KJ (i:Nat)(hN:X.N.Nodup:=by with_unfolding_all assumption)(hi:X.N[i]?=Dn x:=by with_unfolding_all rfl)(hx:Loc X.env.scope x:=by with_unfolding_all first | exact Or.inl rfl | exact Or.inr rfl)(hf:X.fn x=true\/X.env.scope.names.lookup x=Dn .local:=by with_unfolding_all first | exact .inl rfl | exact .inr rfl):DG X (.Name x pos) (kI i):=ajo (yR hN hi hx hf)
theorem Cp {a b:Expr}(ha:DE X a ma)(hb:DE X b mb)(hs:DP b:=by with_unfolding_all (intro _ _;rfl)):DE X (.Subscript a b pos) (Ae CR ma mb):=X7 ha hb hs
theorem Ir {a b:Expr}{op:CmpOp}{m2:M2}(ho:Nj X (Ly op) m2)(ha:DE X a ma)(hb:DE X b mb)(hm:VR op b=false:=by with_unfolding_all first | exact qg _ | rfl):DT X (.Compare a [op] [b] pos) (aZ (Ae m2 ma mb)):=rG ho ha hb hm
theorem O2 {a b:Expr}{op:CmpOp}{m2:M2}(ho:Nj X (Ly op) m2)(ha:DE X a ma)(hb:DE X b mb)(hm:VR op b=false:=by with_unfolding_all first | exact qg _ | rfl):DE X (.Compare a [op] [b] pos) (Ae m2 ma mb):=adC ho ha hb hm
theorem dl1 {scope:Scope}{iter:Expr}(ix:List Nat)(hi:Qn X (.Name x p) iter mi)(ht:∀ C s H fp,Yu (blk X scope (fX X [x] ix) C s H fp) ifs tt)(he:∀ C s H fp,DE (blk X scope (fX X [x] ix) C s H fp) elt te)(B:iQ X scope [x] ix:=by with_unfolding_all exact bU rfl)(hc:X.calm=true:=by with_unfolding_all assumption)
  (hs:∀ v,Rn iter X.env v=pure v:=by with_unfolding_all (intro _;rfl)):DE X (.ListComp elt [⟨.Name x p,iter,ifs,0⟩] scope pos) (HW Hz ix mi tt te):=acB ix hc B qK (qL B) hi ht he hs
theorem PJ {scope:Scope}{iter:Expr}(ix:List Nat)(hi:Qn X (.Name x p) iter mi)(he:∀ C s H fp,DE (blk X scope (fX X [x] ix) C s H fp) elt te)(B:iQ X scope [x] ix:=by with_unfolding_all exact bU rfl)(hc:X.calm=true:=by with_unfolding_all assumption)
  (hs:∀ v,Rn iter X.env v=pure v:=by with_unfolding_all (intro _;rfl)):DE X (.ListComp elt [⟨.Name x p,iter,[],0⟩] scope pos) (HW Hz ix mi eN te):=dl1 ix hi (fun _ _ _ _=>gD) he B hc hs
theorem qq (hr:eO k X.A:=by with_unfolding_all assumption):X.A.units+30<Lk:=YT hr
theorem hh (hc:X.calm=true:=by with_unfolding_all assumption):X.calm=true:=hc
theorem QL {a:Expr}{tg:Expr}(ha:Jm X [a] mr)(z:∀ n∈zl,X.mg n=JI:=by with_unfolding_all assumption)(hz:("range" : Str)∈zl:=by decide)(hg:Gl X "range":=by with_unfolding_all rfl)(hs:HS a=false:=by with_unfolding_all rfl):Qn X tg (.Call (.Name "range" p) [a] [] pos) (dh mr):=agw hg (z _ hz) ha (Od hs)
end
theorem fk {P:Dz}{w:Cw}{K:Bl}{mg:Str->Option Mk}{base:Heap}{x:Str}{st:Stmt}{ps zl:List Str}(N:List Str){k:Nat}{pure:Bool}{body:Bo->MS}(T:At K mg x st ps)(z:∀ n∈zl,mg n=JI)
  (hb:∀ (f:Addr) (cdv:Mk) (A:Dl) (outer:List Env) (s:Af) (H:Hp) (E:XK),eO k (A.deeper (PN x (aQ st) s.heap.objs.size f cdv))->N.Nodup->(Dg Lf P w K mg base N x (aQ st) f cdv A outer s H E).nox.calm=true->(∀ n∈zl,mg n=JI)->P0 (Dg Lf P w K mg base N x (aQ st) f cdv A outer s H E).nox (cT st) (body EF))
  (S:eE N ps (aQ st):=by exact ⟨rfl,rfl,rfl,by decide +kernel,rfl,by decide +kernel,by decide +kernel⟩) (hk:9<=k:=by decide):Fk P w K mg base (k+1) x (Ec ps.length N.length pure body):=by
 obtain ⟨f,fd,F,m,b⟩:=T;exact ⟨f,fd,ps,adU F S fun cdv A outer s H E hr=>hb f cdv A outer s H E hr S.nd (hr.calm hk) z,m,F.kp,b⟩
section
variable {X:Cx}{e:Expr}
end
section
variable {X:Cx}{o e1:Expr}{ma:MA}{apos alR:Pos}
end
section
variable {X:Cx}
end
section
variable {prog:Dz}{w:Cw}{A:Dl}{E:Mk->Af->Prop}{s:Af}
end
section
variable {X:Cx}{K:Bl}
end
section
variable {X:Cx}{c:Expr}{t:MT}
end
section
variable {X:Cx}
variable {o e:Expr}{es:List Expr}{ma:MA}{name:Str}{apos alR:Pos}{id:String}{r:V->List V->Hp->VK->Prop}{mr:MM}
end
def Lb (P:Dz)(w:Cw)(K:Bl)(mg:Str->Option Mk)(base:Heap)(k:Nat)(x:Str)(ms:AP)(f:Addr):Prop:=∃ fd ps,jE P w K mg base Lf k f fd ps (lift K ms)/\mg x=Dn (.ref f)/\Og K (.ref f)=true/\Binds K fd ps []
theorem Fk.at {P:Dz}{w:Cw}{K:Bl}{mg:Str->Option Mk}{base:Heap}{k:Nat}{x:Str}(h:Fk P w K mg base k x ms):∃ f,Lb P w K mg base k x ms f:=let ⟨f,fd,ps,a,b,c,d⟩:=h;⟨f,fd,ps,a,b,c,d⟩
section
variable {X:Cx}{e:Expr}{es:List Expr}{pos p:Pos}{k j:Nat}{x y:Str}{f:Addr}{fs:List (Addr×AP)}
theorem vfc (F:Lb X.prog X.w X.K X.mg X.base j x ms f)(r:Qh X k fs)(hk:j<=k:=by decide):Qh X k ((f,ms)::fs):=let ⟨_,_,a,_,c,d⟩:=F;.cons (a.mono hk) c d r
theorem dfv (i:Nat)(F:Lb X.prog X.w X.K X.mg X.base j x ms f)(hg:Gl X x:=by with_unfolding_all rfl)(hd:(x==("__debug__" : Str))=false:=by decide):DE X (.Name x p) (mC (.fnv f i)):=let ⟨_,_,_,b,_,_⟩:=F;aej i hg b hd
theorem dcv (i:Nat)(V:Qh X k fs)(hN:PE X (.Name y p) (QV i))(ha:Jm X (e::es) mr)(hr:eO k X.A:=by with_unfolding_all assumption)(h1:HS e=false:=by with_unfolding_all rfl)(h2:noStar es=true:=by with_unfolding_all rfl):DE X (.Call (.Name y p) (e::es) [] pos) (wC fs i mr):=zbR V hr hN ha (aO h1) (bJ h2)
end
theorem U3 {X:Cx}{pos p:Pos}{k j:Nat}{x:Str}(F:Fk X.prog X.w X.K X.mg X.base j x ms)(hr:eO k X.A:=by with_unfolding_all assumption)(hk:j<=k:=by decide)(hg:Gl X x:=by with_unfolding_all rfl)(hdb:(x==("__debug__" : Str))=false:=by decide):DE X (.Call (.Name x p) [] [] pos) (aD ms EF aG):=by
 obtain ⟨f,fd,ps,a,b,c,d⟩:=F;exact aij (a.mono hk) hr hg b c d hdb
section
variable {X:Cx}
end
section
variable {X:Cx}{tg:Expr}
def signs (x:Str):List W:=x.cps.toList.map fun c=>.str ⟨#[c]⟩
end
section
variable {prog:Dz}{w:Cw}{A:Dl}{E:Mk->Af->Prop}{s:Af}
end
section
variable {X:Cx}
end
section
variable {X:Cx}{K:Bl}
end
section
variable {X:Cx}{body:List Stmt}{pos:Pos}{mh:Bo->MS}
end
section
variable {X:Cx}{alP:List (Addr×Obj)}{σ : St}{H:Hp}{s:Af}
theorem BR.drop {i:Nat}{y:Str}{v:Option Mk}{h':Heap}{t':Nat}(I:BR X alP σ H s)(hN:X.N.Nodup)(hi:X.N[i]?=Dn y)(hm:s.heap.Ns X.env.locals m)(hn:h'.Ns X.env.locals (fun x=>if x=y then v else m x))(sb:Ro X.env.locals s.heap h'):
  BR X alP (σ.set i JI) H { s with heap:=h',toks:=t' }:=by
 have J:=I.lost (t':=t') hn sb;obtain ⟨m0,hm0,hl⟩:=I.loc;have em:m0=m:=by
  obtain ⟨o,es,ep,ho,hd,_,hf⟩:=hm;obtain ⟨o',es',ep',ho',hd',_,hf'⟩:=hm0;rw [ho] at ho';cases ho'
  rw [hd] at hd';cases hd'
  funext x;rw [<-hf x,<-hf' x]
 subst em;refine ⟨J.ok,J.os,J.bare,J.base,⟨_,hn,fun j x w h1 h2 h3=>?_⟩,J.cell,J.free,J.freeC,J.pin,J.hok,by rw [WL];exact I.len⟩;have ji:j≠i:=fun q=>by
  rw [q,List.getElem?_set] at h2;split at h2
  ·split at h2 <;> cases h2
  ·exact absurd rfl ‹¬ i=i›
 rw [Xv (Jo ji)] at h2;have xy:x≠y:=fun q=>ji ((List.getElem?_inj (Pn.mp h1).1 hN).mp (by rw [h1,hi,q]))
 obtain ⟨u,ru,lk⟩:=hl j x w h1 h2 h3;refine ⟨u,ru,?_⟩;rcases lk with ⟨k1,k2⟩ | ⟨k1,c,k2,k3⟩
 ·exact .inl ⟨k1,by show (if x=y then v else m0 x)=Dn u;rw [if_neg xy];exact k2⟩
 ·refine .inr ⟨k1,c,k2,?_⟩;obtain ⟨o,ho,r⟩:=k3;exact ⟨o,(sb.2 c<|I.cne x c k2).trans ho,r⟩
end
def bI.drop (D:bI)(i:Nat):bI:={ D with nx:=fun σ h=>D.nx (σ.set i JI) h,bk:=fun σ h=>D.bk (σ.set i JI) h,ct:=fun σ h=>D.ct (σ.set i JI) h }
def Yb (i:Nat)(d:Str)(mb:Bo->MS)(mh:MS):MS:=fun D σ h=>mb (fun x h'=>Ib (HI x.cls d) (mh (D.drop i) (σ.set i (Dn (yN x))) h') False) D σ h
theorem Slots.drop {K:Bl}{H:Hp}{σ : St}(S:Slots K H μ σw σ)(i:Nat):Slots K H μ (σw.set i JI) (σ.set i JI):=by
 refine ⟨by rw [WL,WL,S.len],fun j w q=>?_⟩;by_cases e:i=j
 ·subst e;rw [List.getElem?_set] at q;split at q
  ·split at q <;> cases q
  ·exact absurd rfl ‹¬ i=i›
 ·rw [Xv e] at q |-
  exact S.get j w q
section
variable {X:Cx}{body:List Stmt}{y:Str}{pos:Pos}{i:Nat}
end
def RL (P:Dz)(w:Cw)(K:Bl)(mg:Str->Option Mk)(base:Heap)(k:Nat)(x:Str)(ms:AP):Prop:=∃ f fd ps,jE P w K mg base (RM P w) k f fd ps (Iz K ms)/\mg x=Dn (.ref f)/\Og K (.ref f)=true/\Binds K fd ps []
theorem RL.tame {P:Dz}{w:Cw}{K:Bl}{mg:Str->Option Mk}{base:Heap}{k:Nat}{x:Str}{ms:AP}(F:RL P w K mg base k x ms):Fk P w K mg base k x ms:=
 let ⟨f,fd,ps,a,b⟩:=F
 ⟨f,fd,ps,a.tame,b⟩
theorem Ot {X:Cx}{e:Expr}{es:List Expr}{pos:Pos}{k:Nat}{x:Str}{p:Pos}{j:Nat}(F:RL X.prog X.w X.K X.mg X.base j x ms)(ha:Jm X (e::es) mr)(hr:eO k X.A:=by with_unfolding_all assumption)(hk:j<=k:=by decide)(hg:Gl X x:=by with_unfolding_all rfl)(hdb:(x==("__debug__" : Str))=false:=by decide)(h1:HS e=false:=by with_unfolding_all rfl)(h2:noStar es=true:=by with_unfolding_all rfl):
  DEx X Γ (.Call (.Name x p) (e::es) [] pos) (fun E=>aD ms E mr):=by
 obtain ⟨f,fd,ps,a,b,c,d⟩:=F;exact ajC (a.mono hk) hr hg b c d ha hdb (aO h1)<|bJ h2
theorem fkX {P:Dz}{w:Cw}{K:Bl}{mg:Str->Option Mk}{base:Heap}{x:Str}{st:Stmt}{ps zl:List Str}(N:List Str){k:Nat}{pure:Bool}{body:Bo->MS}(T:At K mg x st ps)(z:∀ n∈zl,mg n=JI)
  (hb:∀ (f:Addr) (cdv:Mk) (A:Dl) (outer:List Env) (s:Af) (H:Hp) (E:XK),eO k (A.deeper (PN x (aQ st) s.heap.objs.size f cdv))->N.Nodup->(Dg (RM P w) P w K mg base N x (aQ st) f cdv A outer s H E).calm=true->(∀ n∈zl,mg n=JI)->Js (Dg (RM P w) P w K mg base N x (aQ st) f cdv A outer s H E) (fun _=>True) (cT st) body)
  (S:eE N ps (aQ st):=by exact ⟨rfl,rfl,rfl,by decide +kernel,rfl,by decide +kernel,by decide +kernel⟩) (hk:9<=k:=by decide):RL P w K mg base (k+1) x (Ec ps.length N.length pure body):=by
 obtain ⟨f,fd,F,m,b⟩:=T;exact ⟨f,fd,ps,Zo F S fun cdv A outer s H E hr=>hb f cdv A outer s H E hr S.nd (hr.calm hk) z,m,F.kp,b⟩
section
variable {prog:Dz}{w:Cw}{A:Dl}{E:Mk->Af->Prop}{s:Af}{env:Env}
variable {q:Str}{C N:Addr}{bs bmB:List Mk}{ab:Bool}{k0 k1 k2 k3 k5:Option Mk}{B:String}
theorem agB (F:ExcBaseFacts B newId initId bmB){x:Str}{alR pos:Pos}{Q:Flow->Af->Prop}
  (hb:bm.contains (.type "BaseException")=true) (hpl:(Jd alR (Cy args env)).any (·.1)=false) (hni:mN "__init__" = JI)
  (h:Bm (CN prog w) A (eval (.Name x np) env) (fun fv s₁=>fv=.ref C/\Bm (CN prog w) A (evalArgs (.ref C) true (Jd alR (Cy args env)) [])
   (fun a s₂=>a.kw=[]/\a.pos.length<=Ht/\s₂.heap.get? C=Dn (VG nm q C N bs bm hdct sn sub ab col dd k0 k1 k2 k3 k5 newId)/\s₂.heap.Ns N mN/\OwnTail s₂.heap bmB bm /\
    ∀ h1 e,Heap.MadeExcOf s₂.heap h1 e (.ref C) a.pos->QtE A h1 e/\∀ t h',Rsd A C e t JI h1 h'->E (.ref e) { s₂ with heap:=h' }) E s₁) E s) :
  Bm (CN prog w) A (exec (.Raise (Dn (.Call (.Name x np) args [] alR)) JI pos) env) Q E s:=by
 rw [arm_exec_Raise];refine Al<|Qt<|lg (nm:=nm) (q:=q) (C:=C) (N:=N) (bs:=bs) (bm:=bm) (hdct:=hdct) (sn:=sn) (sub:=sub) (ab:=ab) (col:=col) (dd:=dd) (k0:=k0) (k1:=k1) (k2:=k2) (k3:=k3) (k5:=k5) (newId:=newId) hb ?_
 refine Al<|K3 (wpAny_Call_ofName<|K3 h (fun fv s₁ ⟨ef,h₁⟩=>?_) fun _ _ z=>z) (fun v s₃ h₃=>Al<|Qt<|Ck h₃) fun _ _ z=>z
 subst ef;unfold callWith;refine Al<|Nb<|K3 h₁ (fun a s₂ ⟨ek,few,hC,hn,T,h₂⟩=>Al<|Qt ?_) fun _ _ z=>z
 obtain ⟨ap,ak⟩:=a;cases (show ak=[] from ek)
 obtain ⟨h2,g2,d2,t2,o2⟩:=s₂;simp only [hpl];refine Al<|wpAny_keeperOf_exc hC<|Al<|wpAny_call_exc_subT (hrest:=few) F T hC hn hni fun h1 e M=>?_
 obtain ⟨t,ht,_,_⟩:=M.there;obtain ⟨z1,z2⟩:=h₂ h1 e M;exact Al<|Nb<|wpAny_point<|Ck ⟨e,t,JI,rfl,M.keeps _ _ hC,ht,z1,fun h' r=>z2 t h' r⟩
end
section
variable {X:Cx}{alP:List (Addr×Obj)}{σ : St}{H:Hp}{s:Af}{C:Addr}{x:Str}{alR pos:Pos}{e:Expr}{es:List Expr}{t:TA}
theorem agS {Q:Flow->Af->Prop}{R:Hp->Prop}(hg:Gl X x)(hm:X.mg x=Dn (.ref C))(hq:WY X.K C QF "ValueError.__new__" = true)(ha:PA X (e::es) t)
  (I:BR X alP σ H s) (h:t σ H fun vs H1=>vs.length<=Ht/\R H1) (hx:∀ a H1 s',FX X alP σ H1 s' a C JI->R H1->X.xe (.ref a) s')
  (hdb:(x==("__debug__" : Str))=false:=by decide) (he:Cy (e::es) X.env=(false,eval e X.env)::Cy es X.env:=by rfl) (hpl:(Jd alR (Cy es X.env)).any (·.1)=false:=by rfl) :
  Bm (CN X.prog X.w) X.A (exec (.Raise (Dn (.Call (.Name x np) (e::es) [] alR)) JI pos) X.env) Q X.xe s:=by
 obtain ⟨tl,N,nm,qn,bs,hd,sn,sub,ab,col,dd,k0,k1,k2,k3,k5,mN,hC,hN,hni,T⟩:=aja I.mod.kin hq;refine agB (C:=C) (nm:=nm) (q:=qn) (N:=N) (bs:=bs) (bm:=tl) (hdct:=hd) (sn:=sn) (sub:=sub) (ab:=ab) (col:=col) (dd:=dd) (k0:=k0) (k1:=k1) (k2:=k2) (k3:=k3) (k5:=k5)
  Y9 (mN:=mN) (T.hasType Y9.hasBase) (by rw [he];show (false||(Jd alR (Cy es X.env)).any (·.1))=false;rw [hpl];rfl) hni (oZ I hg hm ⟨rfl,?_⟩ hdb)
 have g:=ha alR alP s σ H _ I h;rw [he] at g |-
 refine Calls.evalArgs_plain<|HJ g fun us s2 ⟨vs,H2,I2,r,z,k⟩=>⟨rfl,?_,I2.kIn _ _ hC,hN.keeps I2.bk,T.keeps I2.bk,fun h1 a M=>⟨?_,fun t h' ⟨rs,o',b1,b2,b3,b4⟩=>?_⟩⟩
 ·show us.length<=Ht;rw [<-r.length];exact z
 ·have nn:H2 a=JI:=(I2.newOf M.new).h;have I3:=I2.kept (t':=s2.toks) M.keeps;exact Quiet.qte (A:=X.A) I3.qt0 I3.hok nn
 ·have I3:=I2.kept (t':=s2.toks) M.keeps;have n3:=I2.newOf M.new;have st:QB (New X alP H2) (frs X.stack) h1 h':=by
   have nn:∀ b,¬ New X alP H2 b->b≠a:=fun b q z=>q (by rw [z];exact n3)
   refine ⟨fun b o q _ z=>(rs b<|nn b q).trans z,fun b o q z=>⟨o.slots,(rs b<|nn b q).trans z⟩,fun b o z=>?_⟩;by_cases hb:b=a
   ·rw [hb];exact ⟨o',b1⟩
   ·exact ⟨o,(rs b hb).trans z⟩
  refine hx a H2 _ ⟨I3.stp st,n3,o',?_⟩ k;rcases b4 with ⟨_,rfl⟩ | ⟨y,hy,hd'⟩
  ·obtain ⟨tt,g1,g2,g3⟩:=M.there;rw [g1] at b1;cases b1;exact ⟨_,g1,rfl,rfl,rfl,by simp,⟨.none,rfl,.nil⟩,.inl rfl⟩
  ·exact ⟨_,b1,b2,b3,hd',by simp,⟨y,by simp,(acE.ok I.ok y hy).mono (fun _ q=>q) I3.base.frzs⟩,.inl<|by simp⟩
end
section
variable {X:Cx}{pos:Pos}
theorem agq {C:Addr}{x v:Str}{j}{alR p1:Pos}(hg:Gl X x)(hm:X.mg x=Dn (.ref C))(hq:WY X.K C QF "ValueError.__new__" = true)(hx:u0 X.K C x=true)(hdb:(x==("__debug__" : Str))=false:=by decide):
  V6 X Γ (.Raise (Dn (.Call (.Name x np) [.Constant (.str v) j p1] [] alR)) JI pos) (fun E=>rP x E):=by
 intro alP s σ H D I ⟨g,μ,h,σw,Dw,E,R,S,m,k,kx⟩;refine agS (R:=fun H1=>∃ μ1 h1,Ip X.K H μ H1 μ1/\HD X.K μ1 H1 h1/\E ⟨x,[]⟩ h1) hg hm hq (cL nM dZ rfl) I ⟨μ,h,σw,fun ws h1=>ws.length=1/\E ⟨x,[]⟩ h1,R,S,⟨rfl,m⟩,fun vs H' ⟨μ1,ws,h1,e1,R1,r1,l1,m1⟩=>⟨by rw [<-r1.len,l1];decide,μ1,h1,e1,R1,m1⟩⟩ (fun a H1 s' F ⟨μ1,h1,e1,R1,m1⟩=>?_) hdb rfl rfl;exact kx _ s' ⟨a,C,x,JI,[],alP,σ,H1,μ1,h1,rfl,F,hx,g,e1,R1,.inl ⟨rfl,rfl⟩,m1⟩
end
theorem zbp {k:Nat}{A:Dl}{a:Addr}(r:eO k A)(h:k<=8):eO k (A.mark (Dn (.ref a))):=⟨fun z=>absurd z (by lia),r.dp,r.un⟩
def Lr:Bo->MS:=fun _ _ _ _=>False
theorem Bh {X:Cx}{b:List Stmt}:Js X Γ b Lr:=fun _ _ _ _ _ _ ⟨_,_,_,_,_,_,_,_,m,_⟩=>m.elim
theorem agG {X:Cx}{b:List Stmt}{E:Bo}:P0 X b (Lr E):=fun _ _ _ _ _ _ ⟨_,_,_,_,_,_,m,_⟩=>m.elim
theorem zaq {prog:Dz}{w:Cw}{A:Dl}{E:Mk->Af->Prop}{s:Af}{env:Env}{K:Bl}{e C:Addr}{n:Str}{y:Option Str}{t:Expr}{body:List Stmt}{pos:Pos}{rest:List ExceptHandler}{Q:Flow->Af->Prop}
  (hx:u0 K C n=true) (hd:cW K D d=true) (hi:HI n d=false)
  (h:Bm (CN prog w) (A.mark (Dn (.ref e))) (eval t env) (fun c s₁=>c=.ref D/\K.In s₁.heap/\(∃ oe,s₁.heap.get? e=Dn oe/\oe.cls=.ref C)/\Bm (CN prog w) A (handleBy (.ref e) env rest) Q E s₁) (fun _ _=>False) s) :
  Bm (CN prog w) A (handleBy (.ref e) env (.ExceptHandler (Dn t) y body pos::rest)) Q E s:=by
 refine wpAny_handleBy_cons (codeAny_handlers_test<|K3 h (fun c s₁ h₁=>?_) fun _ _ z=>z.elim) (by intro q;cases q);obtain ⟨rfl,X,⟨oe,he,hcls⟩,hk⟩:=h₁;refine uY X he hcls hx hd ?_;rw [hi];exact hk
section
variable {X:Cx}{y:Str}{pos:Pos}{i:Nat}{alP:List (Addr×Obj)}{σ : St}{H H':Hp}{s:Af}{a C:Addr}{n:Str}{od:Option Addr}{fs:List (Str×W)}{h':Gh}{Dw:bI}{De:Ends}{rest:List ExceptHandler}
theorem Ol (hN:X.N.Nodup)(hi:X.N[i]?=Dn y)(hy:X.env.scope.names.lookup y=Dn .local)(hg:Gl X d)(hm:X.mg d=Dn (.ref D))(hxd:cW X.K D d=true)(hx:X.ex=[])
  (hh:∀ a H0,P0 (X.hnd a H0).nox (b₀::suite) mh) (hdb:(d==("__debug__" : Str))=false)
  (F2:FN X alP σ H' s a C od) (hxc:u0 X.K C n=true) (hix:HI n d=true) (e1:Ip X.K H μ H' μ') (R1:HD X.K μ' H' h') (xd:YZ X.K H' μ' C n od fs) (S:Slots X.K H μ σw σ) (k:wD X.K H μ Dw De)
  (q:mh (Dw.drop i) (σw.set i (Dn (yN ⟨n,fs⟩))) h') :
  Bm (CN X.prog X.w) X.A (handleBy (.ref a) X.env (.ExceptHandler (Dn (.Name d np)) (Dn y) (b₀::suite) hpos::rest)) (SP X alP De) X.xe s:=by
 obtain ⟨_,oe0,vs0,he0,hc0,_⟩:=F2.xn;refine agl hxc hxd hix ?_;refine Y5 F2.inv.ok.kind hg (Calls.loadGlobal_global (by rw [F2.inv.ok.glob];exact F2.inv.mod.glob.keeps F2.inv.bk) hm ⟨rfl,F2.inv.kIn,⟨oe0,he0,hc0⟩,?_⟩) hdb;refine F2.flight fun h3 F3=>?_;obtain ⟨nw,oe,vs,he,hc,hdd,hdt,_,⟨zz,hv2,hzz⟩,_⟩:=F3.xn;obtain ⟨H0,hok,_,Ih⟩:=F3.inv.hnd nw hx he hdt hv2 hzz;have Hn:H' a=JI:=nw.h;refine nF (X:=X.hnd a H0) (v:=.ref a) Ih hN hi (.inl hy) rfl (fun s4 I4=>?_)<|.inr hy
 have e2:Ip X.K H μ (Dv H' a (.frz oe (Ag a oe))) μ':=e1.trans (Ex.laid Hn).ext;have rx:Aj X.K (Dv H' a (.frz oe (Ag a oe))) μ' (yN ⟨n,fs⟩) (.ref a):=by
  have nc:PySem.W.notCls oe=true:=by
   unfold PySem.W.notCls;rw [hdt]
  rcases xd with ⟨rfl,rfl⟩ | ⟨dd,ws,xs,rfl,hxa,rfl,hl1,hl2,hdx,rs⟩
  ·show Aj X.K _ μ' (.exc n) (.ref a);rw [Aj];exact ⟨a,oe,_,rfl,aU,C,hc,hdd,nc,hxc⟩
  ·rw [aaq hl1,Aj];exact ⟨a,oe,_,dd,_,xs,rfl,aU,⟨C,hc,hdd,nc,hxa⟩,by rw [aJ<|aN hdx Hn];exact hdx,rfl,hl2,(Ex.laid Hn).ext.s rs⟩
 refine K3 (hh a H0 alP s4 _ _ ⟨fun σ5 H5=>De.nx (σ5.set i JI) H5,De.rt,fun σ5 H5=>De.bk (σ5.set i JI) H5,fun σ5 H5=>De.ct (σ5.set i JI) H5⟩ (I4.wish _)
  ⟨μ',h',σw.set i (Dn (yN ⟨n,fs⟩)),Dw.drop i,R1.laid Hn,(S.ext e2).set rx i,q,⟨?_,?_,?_,?_⟩⟩) (fun f s5 q5=>?_) fun _ _ z=>z.elim
 ·rintro σ5 H5 ⟨μ5,σw5,h5,e5,R5,S5,m5⟩;exact k.nx _ _ ⟨μ5,_,h5,e2.trans e5,R5,S5.drop i,m5⟩
 ·rintro v H5 ⟨μ5,w5,h5,e5,R5,r5,m5⟩;exact k.rt _ _ ⟨μ5,w5,h5,e2.trans e5,R5,r5,m5⟩
 ·rintro σ5 H5 ⟨μ5,σw5,h5,e5,R5,S5,m5⟩;exact k.bk _ _ ⟨μ5,_,h5,e2.trans e5,R5,S5.drop i,m5⟩
 ·rintro σ5 H5 ⟨μ5,σw5,h5,e5,R5,S5,m5⟩;exact k.ct _ _ ⟨μ5,_,h5,e2.trans e5,R5,S5.drop i,m5⟩
 ·have gone:∀ {σ5:St} {H5:Hp} {Q5:Unit->Af->Prop},BR (X.hnd a H0).nox alP σ5 H5 s5->(∀ s6,BR X alP (σ5.set i JI) H5 s6->Q5 () s6)->Bm (CN X.prog X.w) X.A (do bindName X.env y .none;unbindBehindTheSuite X.env y hpos) Q5 X.xe s5:=fun {σ5 H5 Q5} I5 h5=>by
   have I5':=I5.unwish;obtain ⟨mm,hns,_⟩:=I5'.loc;refine wpAny_nameGoes_keeps hy hns (by rw [show X.env.scope.kind=.function from F2.inv.ok.kind];rfl) fun h6 v6 hn6 sb6=>h5 _<|BR.unhnd F3.inv.ok hok<|I5'.drop hN hi hns hn6 sb6
  cases f with
  | next=>obtain ⟨σ5,H5,I5,z⟩:=q5;exact gone I5 fun s6 I6=>⟨_,H5,I6,z⟩
  | brk=>obtain ⟨σ5,H5,I5,z⟩:=q5;exact gone I5 fun s6 I6=>⟨_,H5,I6,z⟩
  | cont=>obtain ⟨σ5,H5,I5,z⟩:=q5;exact gone I5 fun s6 I6=>⟨_,H5,I6,z⟩
  | ret v=>obtain ⟨x5,σ5,H5,I5,r5,z⟩:=q5;exact gone I5 fun s6 I6=>⟨x5,_,H5,I6,r5,z⟩
end
def Qk (i:Nat)(d:Str)(i':Nat)(d':Str)(mb:Bo->MS)(mh mh':MS):MS:=fun D σ h=>mb (fun x h'=>Ib (HI x.cls d) (mh (D.drop i) (σ.set i (Dn (yN x))) h') (Ib (HI x.cls d') (mh' (D.drop i') (σ.set i' (Dn (yN x))) h') False)) D σ h
section
variable {X:Cx}{body:List Stmt}{b₁ : Stmt}{suite':List Stmt}{y y' d':Str}{np' hpos' pos:Pos}{i i':Nat}{D':Addr}{mh':MS}
theorem MF (hN:X.N.Nodup)(hi:X.N[i]?=Dn y)(hy:X.env.scope.names.lookup y=Dn .local)(hi':X.N[i']?=Dn y')(hy':X.env.scope.names.lookup y'=Dn .local)(hg:Gl X d)(hm:X.mg d=Dn (.ref D))(hxd:cW X.K D d=true)(hg':Gl X d')(hm':X.mg d'=Dn (.ref D'))(hxd':cW X.K D' d'=true)(ht:Top X)(hx:X.ex=[])
  (hb:∀ alP xe σ0,Js (X.tr alP xe) (fun σ=>σ = σ0) body mb) (hh:∀ a H0,P0 (X.hnd a H0).nox (b₀::suite) mh) (hh':∀ a H0,P0 (X.hnd a H0).nox (b₁::suite') mh') (hdb:(d==("__debug__" : Str))=false:=by decide) (hdb':(d'==("__debug__" : Str))=false:=by decide) :
  DS X (.Try body [.ExceptHandler (Dn (.Name d np)) (Dn y) (b₀::suite) hpos,.ExceptHandler (Dn (.Name d' np')) (Dn y') (b₁::suite') hpos'] [] [] pos) (Qk i d i' d' mb mh mh'):=by
 intro alP s σ H De I ⟨μ,h,σw,Dw,R,S,m,k⟩;refine wpAny_Try_except<|HJ (hb alP _ σ [] s σ H De I.tr ⟨rfl,μ,h,σw,Dw,_,R,S,m,k,fun ev s' xt=>?_⟩) fun f s' q=>?_
 ·obtain ⟨a,C,n,od,fs,pins',σ',H',μ',h',rfl,F,hxc,rfl,e1,R1,xd,q⟩:=xt;have F:=F.untr;have q:Ib (HI n d) (mh (Dw.drop i) (σw.set i (Dn (yN ⟨n,fs⟩))) h') (Ib (HI n d') (mh' (Dw.drop i') (σw.set i' (Dn (yN ⟨n,fs⟩))) h') False):=q;refine F.note ht F.inv.ok.frames fun h1 F1=>F1.flight fun h2 F2=>?_;cases hix:HI n d with
  | true=>
   rw [hix] at q;exact Ol hN hi hy hg hm hxd hx hh hdb F2 hxc hix e1 R1 xd S k q
  | false=>
   rw [hix] at q;have q:Ib (HI n d') (mh' (Dw.drop i') (σw.set i' (Dn (yN ⟨n,fs⟩))) h') False:=q;obtain ⟨_,oe0,vs0,he0,hc0,_⟩:=F2.xn;refine zaq hxc hxd hix<|Y5 F2.inv.ok.kind hg (Calls.loadGlobal_global (by rw [F2.inv.ok.glob];exact F2.inv.mod.glob.keeps F2.inv.bk) hm ⟨rfl,F2.inv.kIn,⟨oe0,he0,hc0⟩,?_⟩) hdb
   cases hix':HI n d' with
   | false=>rw [hix'] at q;exact q.elim
   | true=>
    rw [hix'] at q;exact Ol hN hi' hy' hg' hm' hxd' hx hh' hdb' F2 hxc hix' e1 R1 xd S k q
 ·have q:=SP.untr q;cases f with
  | next=>exact W8 q
  | brk=>exact q
  | cont=>exact q
  | ret v=>exact q
end
section
variable {prog:Dz}{w:Cw}{A:Dl}{E:Mk->Af->Prop}{s:Af}{K:Bl}{x dx C:Addr}{mA:Str->Option Mk}{name:Str}{v:Mk}
theorem zbu {fs:Array Mk}{l:List Str}{Q:Unit->Af->Prop}(X:K.In s.heap)(hx:s.heap.get? x=Dn ⟨.ref C,Dn dx,.fields fs,sl⟩)(hn:s.heap.Ns1 dx mA)(hw:Xu mA l)(hl:l.length<100)
  (hs:M6 K (.ref C) "__setattr__" = Dn (Dn (.builtin "object.__setattr__"))) (hp:Rq K C=true) (ht:M6 K (.ref C) name=Dn JI) (hh:Wx K C=true)
  (h:∀ h',h'.Ns1 dx (fun y=>if y=name then Dn v else mA y)->Ro dx s.heap h'->Q () { s with heap:=h',toks:=s.toks+2 }) :
  Bm (CN prog w) A (setAttr (.ref x) name v) Q E s:=by
 obtain ⟨od,hod,_⟩:=Br hn;have J:VJ s.heap x ⟨.ref C,Dn dx,.fields fs,sl⟩ C (Dn od):=⟨hx,rfl,rfl,hod⟩
 refine PySem.W.set_plain X J hs<|abO (s:={ s with toks:=s.toks+1 }) X J hp ht ?_
 obtain ⟨cd,hc,hd'⟩:=PySem.W.any_some hh;refine Al<|Ck<|Al<|Al<|wpAny_loadPart hx<|Al<|PySem.W.Looks.here (s:={ s with toks:=s.toks+1 }) (PySem.W.looks_clsIn X hc) ?_
 rw [hd'];obtain ⟨hp',g,d,t,os⟩:=s;refine Ck ?_;show Bm _ _ (Builtin.ObjectAttr.storeInDict dx (Value.str name t) name v) _ _ _;refine Al<|Ck<|Al ?_
 refine wpAny_nsSet1 (s:=⟨hp',g,d,t+1,os⟩) hn fun h' hn2 hs2=>?_;obtain ⟨oD,esD,epD,hoD,hdD,hcD⟩:=hn2.count (PySem.Within.cons name v hw);refine Al<|wpAny_lookBehind hoD (by rw [hdD];exact pastItsLine_dict (J4 hcD (by simp [Vy];lia))) ?_
 exact Ck<|h h' hn2 hs2
end
def Ux (C:Addr)(f:Str)(ta tv:TE):TS:=fun D σ H=>tv σ H fun y H1=>ta σ H1 fun x H2=>∃ e a dx g z,x=.ref e/\H2 e=Dn (exD e C a dx)/\H2 dx=Dn (.xd [(g,z)])/\f≠g/\D.nx σ (Dv H2 dx (.xd [(g,z),(f,y)]))
section
variable {X:Cx}{o value:Expr}{f:Str}{C:Addr}{pos pos':Pos}{ta tv:TE}
theorem zbO (hx:Td X.K C f=true)(ha:PE X o ta)(hv:PE X value tv)(hs:Qs value (Dn (.Attribute o f pos')) pos.line X.env=pure false:=by rfl):PS X (.Assign [.Attribute o f pos'] value pos) (Ux C f ta tv):=by
 unfold Td at hx;simp only [Jw,beq_iff_eq] at hx;obtain ⟨⟨⟨x1,x2⟩,x3⟩,x4⟩:=hx;intro alP s σ H D I h;refine plainObj_wpAny_Assign_Attribute (HJ (hv alP s σ H _ I h) fun u s1 ⟨y,H1,I1,ry,q⟩=>HJ (ha alP s1 σ H1 _ I1 q) fun ov s2 ⟨x,H2,I2,rx,e,a,dx,g,z,ex,ee,ed,fg,q2⟩=>?_) hs;subst ex;obtain rfl:ov=Value.ref e:=rx;have ho:s2.heap.get? e=Dn { Mp C a with dict:=Dn dx }:=(I2.hok e _ ee).1;obtain ⟨mA,hns,hrel⟩:=(show iW X.prog X.w H2 s2.heap dx (.xd [(g,z)]) from I2.hok dx _ ed)
 have wi:Xu mA [g]:=fun n hn=>by
  by_cases q:n=g
  ·rw [q];exact Ow ..
  ·have r:=hrel n;rw [LI,show (n==g)=false from by simpa using q] at r;exact absurd (W5.none_of r) hn
 refine zbu I2.kIn ho hns wi (by simp) x1 x2 x3 x4 fun h' hN sb=>⟨σ,_,?_,q2⟩;have hd:∃ od,h'.get? dx=Dn od:=let ⟨od,_,_,z,_⟩:=hN;⟨od,z⟩
 refine I2.write (x:=dx) (e:=dx) (by rw [ed];exact True.intro) (.inl rfl) (fun b w hb hz=>(sb.2 b hb).trans hz) hd ⟨_,hN,fun n=>?_⟩;show W5 (List.lookup n [(g,z),(f,y)]) (if n=f then Dn u else mA n);rw [LI,LI];by_cases h1:n=f
 ·rw [if_pos h1,show (n==g)=false from by rw [h1];simpa using fg,h1,beq_self_eq_true];exact ry
 ·rw [if_neg h1,show (n==f)=false from by simpa using h1];have r:=hrel n;rw [LI] at r;exact r
end
def spJ (C:Addr)(f g:Str):Sp:=fun vs H Q _=>∃ e a v y,vs=[.ref e,v,y]/\H e=Dn (exN e C a)/\∀ dx,H dx=JI->dx≠e->Q .non (Dv (Dv H dx (.xd [(f,v),(g,y)])) e (exD e C a dx))
theorem agy {H:Hp}{e dx:Addr}{u v w:HO}(h:dx≠e):Dv (Dv (Dv H dx u) e v) dx w=Dv (Dv H dx w) e v:=by
 funext b;by_cases h1:b=dx
 ·rw [h1,aU,aJ h,aU]
 ·rw [aJ h1];by_cases h2:b=e
  ·rw [h2,aU,aU]
  ·rw [aJ h2,aJ h2,aJ h1,aJ h1]
theorem ahf {P:Dz}{w:Cw}{K:Bl}{mg:Str->Option Mk}{base:Heap}{x qual:Str}{st:Stmt}{fd:Ln}{n1 n2 n3 f g:Str}{C:Addr}{k:Nat}(F:Qm K x qual st fi fd)(S:eE [n1,n2,n3] [n1,n2,n3] (aQ st))(fg:g≠f)
  (hb:∀ (cdv:Mk) (A:Dl) (outer:List Env) (s:Af) (H:Hp) (E:XK),eO k (A.deeper (PN qual (aQ st) s.heap.objs.size fi cdv)) ->
   Nv (Dg Lf P w K mg base [n1,n2,n3] qual (aQ st) fi cdv A outer s H E).nox (cT st) (aey (Zh C f (QV 0) (QV 1)) (Ux C g (QV 0) (QV 2)))):jE P w K mg base Lf (k+1) fi fd [n1,n2,n3] (spJ C f g):=by
 refine F.ok S (fun vs H Q E ⟨e,a,v,y,ev,_⟩=>by rw [ev];rfl) fun cdv A outer s H vs Q E hr ⟨e,a,v,y,ev,he,q⟩=>?_;subst ev;refine ⟨_,hb cdv A outer s H E hr,v,rfl,.ref e,rfl,e,a,rfl,he,fun dx h1 h2=>⟨y,rfl,.ref e,rfl,e,a,dx,f,v,rfl,aU,by rw [aJ h2,aU],fg,?_⟩⟩;have z:=q dx h1 h2;rw [<-agy (u:=.xd [(f,v)]) h2] at z;exact z
section
variable {X:Cx}{alP:List (Addr×Obj)}{σ : St}{H:Hp}{s:Af}{C:Addr}{x f g:Str}{alR pos:Pos}{e e':Expr}{t:TA}{k:Nat}{fd:Ln}{ps:List Str}
theorem agp {Q:Flow->Af->Prop}{R:V->V->Hp->Prop}(hex:X.ex=[])(hg:Gl X x)(hm:X.mg x=Dn (.ref C))(hq:HY X.K C fi QF "ValueError.__new__" = true)(hfn:WW X.K (.ref fi)=true)
  (Fi:jE X.prog X.w X.K X.mg X.base Lf k fi fd ps (spJ C f g)) (hr:eO (k+1) X.A) (hb:Binds X.K fd ps []) (ha:PA X [e,e'] t) (I:BR X alP σ H s) (h:t σ H fun vs H1=>∃ v y,vs=[v,y]/\R v y H1)
  (hx:∀ a dx H1 s' v y,FX X alP σ (Dv H1 dx (.xd [(f,v),(g,y)])) s' a C (Dn dx)->H1 dx=JI->R v y H1->X.xe (.ref a) s')
  (hdb:(x==("__debug__" : Str))=false:=by decide) (he:Cy [e,e'] X.env=(false,eval e X.env)::Cy [e'] X.env:=by rfl) (hpl:(Jd alR (Cy [e'] X.env)).any (·.1)=false:=by rfl) :
  Bm (CN X.prog X.w) X.A (exec (.Raise (Dn (.Call (.Name x np) [e,e'] [] alR)) JI pos) X.env) Q X.xe s:=by
 have hn:acE X:=.ok I.ok;obtain ⟨tl,N,nm,qn,bs,hd,sn,sub,ab,col,dd,k0,k1,k2,k3,k5,mN,hC,hN,hni,T⟩:=ajS I.mod.kin hq;refine zax (K:=X.K) (f:=fi) (C:=C) (nm:=nm) (q:=qn) (N:=N) (bs:=bs) (bm:=tl) (hdct:=hd) (sn:=sn) (sub:=sub) (ab:=ab) (col:=col) (dd:=dd) (k0:=k0) (k1:=k1) (k2:=k2) (k3:=k3) (k5:=k5)
  Y9 (mN:=mN) (T.hasType Y9.hasBase) (by rw [he];show (false||(Jd alR (Cy [e'] X.env)).any (·.1))=false;rw [hpl];rfl) (beq_iff_eq.mp hfn) hni (oZ I hg hm ⟨rfl,?_⟩ hdb)
 have gg:=ha alR alP s σ H _ I h;rw [he] at gg |-
 refine Calls.evalArgs_plain<|HJ gg fun us s2 ⟨vs,H2,I2,r,v,y,ev,kk⟩=>?_
 subst ev;obtain ⟨u,u',rfl,ru,ru'⟩:∃ u u',us=[u,u']/\RelV v u/\RelV y u':=by
  cases r with
  | cons r1 r2=>cases r2 with
   | cons r3 r4=>cases r4;exact ⟨_,_,rfl,r1,r3⟩
 refine ⟨⟨rfl,by simp [Vy],I2.kIn⟩,⟨I2.kIn _ _ hC,hN.keeps I2.bk,T.keeps I2.bk⟩,?_⟩;have self:((s2.heap.push { cls:=.type "tuple",data:=.seq [u,u'].toArray }).push (Mp C s2.heap.objs.size)).get? (s2.heap.objs.size+1)=Dn (Mp C s2.heap.objs.size):=by
  have:=Kg (s2.heap.push { cls:=.type "tuple",data:=.seq [u,u'].toArray }) (o:=Mp C s2.heap.objs.size) rfl
  rwa [Qd] at this
 have nw:=I2.newOf (b:=s2.heap.objs.size+1) (XM (V8 _));have I3:BR X alP σ (Dv H2 (s2.heap.objs.size+1) (exN (s2.heap.objs.size+1) C s2.heap.objs.size)) { s2 with heap:=(s2.heap.push { cls:=.type "tuple",data:=.seq [u,u'].toArray }).push (Mp C s2.heap.objs.size),toks:=s2.toks }:=
  I2.laid (fun b z hz=>IV _ (IV _ hz)) (V8 _) ⟨self,⟨_,self⟩,fun h1 h2 z q=>q _ z⟩
 have sp:spJ C f g [.ref (s2.heap.objs.size+1),v,y] (Dv H2 (s2.heap.objs.size+1) (exN (s2.heap.objs.size+1) C s2.heap.objs.size)) (fun r H4=>r=.non/\∃ dx,H2 dx=JI/\dx≠s2.heap.objs.size+1/\H4=Dv (Dv (Dv H2 (s2.heap.objs.size+1) (exN (s2.heap.objs.size+1) C s2.heap.objs.size)) dx (.xd [(f,v),(g,y)])) (s2.heap.objs.size+1) (exD (s2.heap.objs.size+1) C s2.heap.objs.size dx)) E0:=
  ⟨_,_,v,y,rfl,aU,fun dx h1 h2=>⟨rfl,dx,by rw [aJ h2] at h1;exact h1,h2,rfl⟩⟩
 have r2:Bp [V.ref (s2.heap.objs.size+1),v,y] [Value.ref (s2.heap.objs.size+1),u,u']:=.cons rfl (.cons ru (.cons ru' .nil));have hl:([Value.ref (s2.heap.objs.size+1),u,u']++[]).length=ps.length:=by rw [<-Fi.len _ _ _ _ sp];rfl
 refine wpAny_call<|W6 (Fi.run _ X.stack _ _ ⟨[Value.ref<|s2.heap.objs.size+1,u,u'],[]⟩ [Value.ref<|s2.heap.objs.size+1,u,u'] _ _ E0 (hr.make C [u,u'] []) (I3.env0.make C [u,u'] []) (hb _ [Value.ref<|s2.heap.objs.size+1,u,u'] I3.kIn hl) r2 sp) fun r s' hq'=>?_
 cases r with
 | error ev=>exact Qc alP σ _ _ ev s' I3 hq'
 | ok fl=>
  cases fl with
  | ret uv=>
   obtain ⟨v',H',I4,rv,ev,dx,h1,h2,eH⟩:=I3.after hq';subst ev eH;have he4:=(I4.hok (s2.heap.objs.size+1) _ aU).1;have s0:X.s₀.heap.get? (s2.heap.objs.size+1)=JI:=by
    rcases nw.s with q | q
    ·rw [hex] at q;cases q
    ·exact q
   have I5:=I4.forget aU I2 nw.h s0;have eF:forget (Dv (Dv (Dv H2 (s2.heap.objs.size+1) (exN (s2.heap.objs.size+1) C s2.heap.objs.size)) dx (.xd [(f,v),(g,y)])) (s2.heap.objs.size+1) (exD (s2.heap.objs.size+1) C s2.heap.objs.size dx)) (s2.heap.objs.size+1)=Dv H2 dx (.xd [(f,v),(g,y)]):=by
    funext b;by_cases hbe:b=s2.heap.objs.size+1
    ·rw [hbe,fC,aJ (Jo h2)];exact nw.h.symm
    ·rw [cF hbe,aJ hbe];by_cases hbd:b=dx
     ·rw [hbd,aU,aU]
     ·rw [aJ hbd,aJ hbd,aJ hbe]
   rw [eF] at I5;have ne5:Dv H2 dx (.xd [(f,v),(g,y)]) (s2.heap.objs.size+1)=JI:=by rw [aJ (Jo h2)];exact nw.h
   have n5:New X alP (Dv H2 dx (.xd [(f,v),(g,y)])) (s2.heap.objs.size+1):=⟨ne5,nw.s,nw.l,nw.c,nw.p,nw.f⟩
   refine ⟨rv,Dn dx,I4.kIn _ _ hC,he4,Quiet.qte (A:=X.A) I5.qt0 I5.hok ne5,fun h' ⟨rs,o',b1,b2,b3,b4⟩=>?_⟩;have st:QB (New X alP (Dv H2 dx (.xd [(f,v),(g,y)]))) (frs X.stack) s'.heap h':=by
    have nn:∀ b,¬ New X alP (Dv H2 dx (.xd [(f,v),(g,y)])) b->b≠s2.heap.objs.size+1:=fun b q z=>q (by rw [z];exact n5)
    refine ⟨fun b o q _ z=>(rs b<|nn b q).trans z,fun b o q z=>⟨o.slots,(rs b<|nn b q).trans z⟩,fun b o z=>?_⟩;by_cases hb:b=s2.heap.objs.size+1
    ·rw [hb];exact ⟨o',b1⟩
    ·exact ⟨o,(rs b hb).trans z⟩
   refine hx _ dx H2 _ v y ⟨I5.stp st,n5,o',?_⟩ h1 kk;rcases b4 with ⟨_,rfl⟩ | ⟨z,hz,hd'⟩
   ·rw [he4] at b1;cases b1;exact ⟨_,he4,rfl,rfl,rfl,by simp,⟨.none,rfl,.nil⟩,.inl rfl⟩
   ·exact ⟨_,b1,b2,b3,hd',by simp,⟨z,by simp,(hn z hz).mono (fun _ q=>q) I5.base.frzs⟩,.inl<|by simp⟩
  | next=>exact Ov hq'
  | brk=>exact Ov hq'
  | cont=>exact Ov hq'
end
def Dj (x f g:Str)(ma:MA)(E:Bo):MS:=fun _ σ h=>ma σ h fun ws h1=>match ws with
 | [w,w']=>E ⟨x,[(f,w),(g,w')]⟩ h1
 | _=>False
section
variable {X:Cx}{e e':Expr}{pos:Pos}{ma:MA}
theorem zaO {C:Addr}{x f g:Str}{alR:Pos}{k:Nat}{fd:Ln}{ps:List Str}(hex:X.ex=[])(hg:Gl X x)(hm:X.mg x=Dn (.ref C))(hq:HY X.K C fi QF "ValueError.__new__" = true)(hfn:WW X.K (.ref fi)=true)
  (Fi:jE X.prog X.w X.K X.mg X.base Lf k fi fd ps (spJ C f g)) (hr:eO (k+1) X.A) (hb:Binds X.K fd ps []) (hx:T9 X.K C x=true) (hf:BJ x=[f,g]) (ha:Jm X [e,e'] ma) (hdb:(x==("__debug__" : Str))=false:=by decide) (he:Cy [e,e'] X.env=(false,eval e X.env)::Cy [e'] X.env:=by rfl) (hpl:(Jd alR (Cy [e'] X.env)).any (·.1)=false:=by rfl) :
  V6 X Γ (.Raise (Dn (.Call (.Name x np) [e,e'] [] alR)) JI pos) (fun E=>Dj x f g ma E):=by
 intro alP s σ H D I ⟨gg,μ,h,σw,Dw,E,R,S,m,k,kx⟩;have hxc:u0 X.K C x=true:=by
  have:=hx
  unfold T9 at this;simp only [Jw] at this;exact this.1.1
 refine agp (R:=fun v y H1=>∃ μ1 w w' h1,Ip X.K H μ H1 μ1/\HD X.K μ1 H1 h1/\Aj X.K H1 μ1 w v/\Aj X.K H1 μ1 w' y/\E ⟨x,[(f,w),(g,w')]⟩ h1) hex hg hm hq hfn Fi hr hb ha I ⟨μ,h,σw,_,R,S,m,fun vs H' ⟨μ1,ws,h1,e1,R1,r1,m1⟩=>?_⟩ (fun a dx H1 s' v y F hdx ⟨μ1,w,w',h1,e1,R1,r1,r1',m1⟩=>?_) hdb he hpl
 ·rcases ws with _|⟨w,_|⟨w',_|⟨_,_⟩⟩⟩
  ·exact False.elim m1
  ·exact False.elim m1
  ·rw [aM] at r1;obtain ⟨v,vr,ev,rv,r0⟩:=r1;rw [aM] at r0;obtain ⟨y,yr,ey,ry,r9⟩:=r0;rw [aM] at r9;subst r9 ey;exact ⟨v,y,ev,μ1,w,w',h1,e1,R1,rv,ry,m1⟩
  ·exact False.elim m1
 ·have ex:Ip X.K H1 μ1 (Dv H1 dx (.xd [(f,v),(g,y)])) μ1:=(Ex.laid hdx).ext;refine kx _ s' ⟨a,C,x,Dn dx,[(f,w),(g,w')],alP,σ,_,μ1,h1,rfl,F,hxc,gg,e1.trans ex,R1.laid hdx,.inr ⟨dx,[w,w'],[v,y],rfl,hx,by rw [hf];rfl,by rw [hf];rfl,by rw [hf];rfl,?_,?_⟩,m1⟩
  ·rw [hf];exact aU
  ·rw [aM];refine ⟨v,[y],rfl,ex.r _ _ r1,?_⟩;rw [aM];refine ⟨y,[],rfl,ex.r _ _ r1',?_⟩;rw [aM]
end
theorem fkN {P:Dz}{w:Cw}{K:Bl}{mg:Str->Option Mk}{base:Heap}{x:Str}{st:Stmt}{ps zl:List Str}(N:List Str){k:Nat}{pure:Bool}{body:Bo->MS}(T:At K mg x st ps)(z:∀ n∈zl,mg n=JI)
  (hb:∀ (f:Addr) (cdv:Mk) (A:Dl) (outer:List Env) (s:Af) (H:Hp) (E:XK),eO k (A.deeper (PN x (aQ st) s.heap.objs.size f cdv))->N.Nodup->(∀ n∈zl,mg n=JI)->P0 (Dg Lf P w K mg base N x (aQ st) f cdv A outer s H E).nox (cT st) (body EF))
  (S:eE N ps (aQ st):=by exact ⟨rfl,rfl,rfl,by decide +kernel,rfl,by decide +kernel,by decide +kernel⟩):Fk P w K mg base (k+1) x (Ec ps.length N.length pure body):=by
 obtain ⟨f,fd,F,m,b⟩:=T;exact ⟨f,fd,ps,adU F S fun cdv A outer s H E hr=>hb f cdv A outer s H E hr S.nd z,m,F.kp,b⟩
theorem aek {P:Dz}{w:Cw}{K:Bl}{mg:Str->Option Mk}{base:Heap}{x:Str}{st:Stmt}{ps zl:List Str}(N:List Str){k:Nat}{pure:Bool}{body:Bo->MS}(T:At K mg x st ps)(z:∀ n∈zl,mg n=JI)
  (hb:∀ (f:Addr) (cdv:Mk) (A:Dl) (outer:List Env) (s:Af) (H:Hp) (E:XK),eO k (A.deeper (PN x (aQ st) s.heap.objs.size f cdv))->N.Nodup->(∀ n∈zl,mg n=JI)->Js (Dg (RM P w) P w K mg base N x (aQ st) f cdv A outer s H E) (fun _=>True) (cT st) body)
  (S:eE N ps (aQ st):=by exact ⟨rfl,rfl,rfl,by decide +kernel,rfl,by decide +kernel,by decide +kernel⟩):RL P w K mg base (k+1) x (Ec ps.length N.length pure body):=by
 obtain ⟨f,fd,F,m,b⟩:=T;exact ⟨f,fd,ps,Zo F S fun cdv A outer s H E hr=>hb f cdv A outer s H E hr S.nd z,m,F.kp,b⟩
section
variable {X:Cx}{K:Bl}{o e:Expr}{ma:MA}{apos alR:Pos}
end
section
variable {prog:Dz}{w:Cw}{A:Dl}{E:Mk->Af->Prop}{s:Af}
end
section
variable {X:Cx}{K:Bl}
end
section
variable {X:Cx}{e:Expr}{es:List Expr}{pos:Pos}
end
theorem rhd {k:Nat}{A:Dl}{a:Addr}{P:Prop}(r:eO k A)(h:8<=k)(f:eO 8 (A.mark (Dn (.ref a)))->P):P:=f (zbs r h)
theorem rhj {k:Nat}{A:Dl}{a:Addr}{P:Prop}(r:eO k A)(h:k<=8)(f:eO k (A.mark (Dn (.ref a)))->P):P:=f (zbp r h)
section
variable {X:Cx}{zl:List Str}{x:Str}{p q pos:Pos}{a:Expr}{es:List Expr}
theorem U5 (hm:X.mg x=Dn (.ref D))(hd:cW X.K D x=true)(ha:DE X a ma)(z:∀ n∈zl,X.mg n=JI:=by with_unfolding_all assumption)(hz:("isinstance" : Str)∈zl:=by decide)(hg:Gl X "isinstance":=by with_unfolding_all rfl)(hx:Gl X x:=by with_unfolding_all rfl)(hdb:(x==("__debug__" : Str))=false:=by decide)(h1:HS a=false:=by with_unfolding_all rfl):
  DE X (.Call (.Name "isinstance" p) [a,.Name x q] [] pos) (Cd (fun n=>HI n x) ma):=
 Uz hg (z _ hz) ha (yK (v:=.ref D) hx hm rfl hdb) (Oo.own hd) (aO h1) (aO rfl) (bJ rfl)
theorem pC {vs:List V}{g:Str->Bool}(hm:X.mg x=Dn (.ref D))(hd:cW X.K D x=true)(r:QZ X es vs g)(hx:Gl X x:=by with_unfolding_all rfl)(hdb:(x==("__debug__" : Str))=false:=by decide):QZ X (.Name x q::es) (.ref D::vs) (fun n=>HI n x||g n):=
 .cons (yK (v:=.ref D) hx hm rfl hdb) (Oo.own hd) r (aO rfl)
end
section
variable {X:Cx}{body:List Stmt}{y:Str}{pos:Pos}{i:Nat}
theorem aiU (hN:X.N.Nodup)(hi:X.N[i]?=Dn y)(hy:X.env.scope.names.lookup y=Dn .local)(hg:Gl X d)(hm:X.mg d=Dn (.ref D))(hxd:cW X.K D d=true)(ht:Top X)(hx:X.ex=[])
  (hb:∀ alP xe σ0,Js (X.tr alP xe) (fun σ=>σ = σ0) body mb) (hh:∀ a H0,P0 (X.hnd a H0).nox (b₀::suite) mh) (hdb:(d==("__debug__" : Str))=false:=by decide) :
  DS X (.Try body [.ExceptHandler (Dn (.Name d np)) (Dn y) (b₀::suite) hpos] [] [] pos) (Yb i d mb mh):=by
 intro alP s σ H De I ⟨μ,h,σw,Dw,R,S,m,k⟩;refine wpAny_Try_except<|HJ (hb alP _ σ [] s σ H De I.tr ⟨rfl,μ,h,σw,Dw,_,R,S,m,k,fun ev s' xt=>?_⟩) fun f s' q=>?_
 ·obtain ⟨a,C,n,od,fs,pins',σ',H',μ',h',rfl,F,hxc,rfl,e1,R1,xd,q⟩:=xt;have q:Ib (HI n d) (mh (Dw.drop i) (σw.set i (Dn (yN ⟨n,fs⟩))) h') False:=q;refine F.untr.note ht F.untr.inv.ok.frames fun h1 F1=>F1.flight fun h2 F2=>?_;cases hix:HI n d with
  | false=>rw [hix] at q;exact q.elim
  | true=>
   rw [hix] at q;exact Ol hN hi hy hg hm hxd hx hh hdb F2 hxc hix e1 R1 xd S k q
 ·have q:=SP.untr q;cases f with
  | next=>exact W8 q
  | brk=>exact q
  | cont=>exact q
  | ret v=>exact q
end
end L2
namespace My
open PySem L2 PyProof.Rows
def rM:W:=(.tup [(.tup [(.int 1),(.int 0),(.int 0)]),(.tup [(.int 0),(.int 1),(.int 0)]),(.tup [(.int 0),(.int 0),(.int 1)]),(.tup [(.int 1),(.int 1),(.int 1)])])
def top (i:Nat):Stmt:=PySem.Challenge.pw_easelroom_k25_maps_between_pictures.main.body.getD i (.Pass ⟨0,0,0,0⟩)
def afB (i j:Nat):Stmt:=match top i with
 | .ClassDef _ _ _ b _ _ _ _ _ _ _=>b.getD j (.Pass ⟨0,0,0,0⟩)
 | s=>s
abbrev W4:Stmt:=top 108
abbrev fZ:Stmt:=afB 9 0
theorem yP:eE ["self", "word", "places"] ["self", "word", "places"] (aQ fZ):=⟨rfl,rfl,rfl,by decide +kernel,rfl,by decide +kernel,by decide +kernel⟩
def wz:AP:=Ec 1 1 false fun E=>
  (bD (xX (Hv Om (aj (ao 0) (aj (mC (.ty "int")) aG))) (KD (Hv Om (aj (ao 0) (aj (mC (.ty "bool")) aG))))))
def vX:AP:=wz
def nQ (E:Bo):MS:=
  (bD (ao 0))
def jl:AP:=Ec 2 3 false fun E=>
  (aV (bx (Hv O9 (aj (ao 0) aG)) (kI 0))
  (aV (bx (Hv O9 (aj (ao 1) aG)) (kI 1))
  (aV (Et (aZ (Ae Jk (ao 1) (mC (.int 0)))) (aV (bx (Ae qR (ao 0) (ao 1)) (kI 2))
  (aV (bx (ao 1) (kI 0))
  (bx (ao 2) (kI 1)))))
  (nQ E))))
def jm:AP:=jl
def uz (alx:AP)(E:Bo):MS:=
  (bD (ao 1))
def yW (alx:AP):AP:=Ec 1 3 false fun E=>
  (aV (bx (mC (.int 0)) (kI 1))
  (aV (rK (Ik (ao 0)) (kI 2) (bx (aD alx E (aj (ao 2) (aj (ao 1) aG))) (kI 1)))
  (uz alx E)))
def tY:AP:=yW jm
def lD (E:Bo):MS:=
  (bD (mC (.bl false)))
def pP:AP:=Ec 1 2 false fun E=>
  (aV (rK (abJ (aj (ao 0) aG)) (kI 1) (d7 (aZ (Ae Jk (ao 1) (mC (.int 0)))) (bD (Ae kLt (ao 1) (mC (.int 0)))) bK))
  (lD E))
def jN:AP:=pP
def zZ (akA akK:AP)(E:Bo):MS:=
  (bD (Hv z9 (aj (HW Hz [1] (Ik (ao 0)) eN (Ae Ar (ao 0) (ao 1))) aG)))
def agx (akA akK:AP)(E:Bo):MS:=
  (aV (d7 (vD (aD akK E (aj (ao 0) aG))) (bx (mUn aci (ao 1)) (kI 1)) bK)
  (zZ akA akK E))
def Km (akA akK:AP):AP:=Ec 1 2 false fun E=>
  (aV (bx (aD akA E (aj (ao 0) aG)) (kI 1))
  (aV (d7 (aZ (Ae JZ (ao 1) (mC (.int 0)))) (rP "Nothing" E) bK)
  (agx akA akK E)))
def jG:AP:=Km tY jN
def zH (akZ akA akK:AP)(E:Bo):MS:=
  (bD (xX (Ae JZ (aD akA E (aj (ao 0) aG)) (mC (.int 1))) (KD (aD akK E (aj (ao 0) aG)))))
def zM (akZ akA akK:AP)(E:Bo):MS:=
  (aV (d7 (Ji (vD (Hv Uc (aj (HW Hz [] (Ik (ao 0)) eN (aD akZ E (aj (ao 0) aG))) aG)))) (bD (mC (.bl false))) bK)
  (zH akZ akA akK E))
def vO (akZ akA akK:AP):AP:=Ec 2 2 false fun E=>
  (aV (d7 (QG (Ji (vD (Hv Om (aj (ao 0) (aj (mC (.ty "tuple")) aG))))) (aZ (Ae Jk (Hv Il (aj (ao 0) aG)) (ao 1)))) (bD (mC (.bl false))) bK)
  (zM akZ akA akK E))
def pD:AP:=vO vX tY jN
def Wn:AP:=Ec 2 2 false fun E=>
  (bD (Ae bG (Ae bG (Ae cR (Ae CR (ao 0) (mC (.int 0))) (Ae CR (ao 1) (mC (.int 0)))) (Ae cR (Ae CR (ao 0) (mC (.int 1))) (Ae CR (ao 1) (mC (.int 1))))) (Ae cR (Ae CR (ao 0) (mC (.int 2))) (Ae CR (ao 1) (mC (.int 2))))))
def Ie:AP:=Wn
def Cu:AP:=Ec 2 2 false fun E=>
  (bD (tV (aj (Ae uD (Ae cR (Ae CR (ao 0) (mC (.int 1))) (Ae CR (ao 1) (mC (.int 2)))) (Ae cR (Ae CR (ao 0) (mC (.int 2))) (Ae CR (ao 1) (mC (.int 1))))) (aj (Ae uD (Ae cR (Ae CR (ao 0) (mC (.int 2))) (Ae CR (ao 1) (mC (.int 0)))) (Ae cR (Ae CR (ao 0) (mC (.int 0))) (Ae CR (ao 1) (mC (.int 2))))) (aj (Ae uD (Ae cR (Ae CR (ao 0) (mC (.int 0))) (Ae CR (ao 1) (mC (.int 1)))) (Ae cR (Ae CR (ao 0) (mC (.int 1))) (Ae CR (ao 1) (mC (.int 0))))) aG)))))
def oE:AP:=Cu
def Ur (akD akx:AP):AP:=Ec 3 3 false fun E=>
  (bD (aD akD E (aj (aD akx E (aj (ao 0) (aj (ao 1) aG))) (aj (ao 2) aG))))
def Nk:AP:=Ur Ie oE
def Aq (akD:AP):AP:=Ec 2 2 false fun E=>
  (bD (Ae JZ (aD akD E (aj (ao 0) (aj (ao 1) aG))) (mC (.int 0))))
def zY:AP:=Aq Ie
def xO (akD akx:AP)(E:Bo):MS:=
  (aV (bx (aD akx E (aj (Ae CR (ao 0) (mC (.int 0))) (aj (Ae CR (ao 1) (mC (.int 0))) aG))) (kI 2))
  (bD (Hv Uc (aj (HW Hz [2] (Ik (ao 1)) eN (Ae JZ (aD akD E (aj (ao 1) (aj (ao 0) aG))) (mC (.int 0)))) aG))))
def tH (akD akx:AP):AP:=Ec 1 3 false fun E=>
  (aV (bx (HW Hz [0] (Ik (ao 0)) (aZ (Ae Jk (ao 0) (Ae CR (ao 1) (mC (.int 0))))) (ao 0)) (kI 1))
  (aV (d7 (Ji (vD (ao 1))) (bD (mC (.bl true))) bK)
  (xO akD akx E)))
def tB:AP:=tH Ie oE
def zN (alK:AP):AP:=Ec 1 1 false fun E=>
  (bD (aD alK E (aj (ao 0) aG)))
def iz:AP:=zN tB
def tM (akz akx:AP)(E:Bo):MS:=
  (bD (aD akz E (aj (aD akx E (aj (ao 0) (aj (ao 1) aG))) aG)))
def mJ (akz akx:AP):AP:=Ec 2 2 false fun E=>
  (aV (d7 (aZ (Ae JZ (ao 0) (ao 1))) (rP "Alike" E) bK)
  (tM akz akx E))
def nW:AP:=mJ jG oE
def Uv (alJ:AP):AP:=Ec 2 2 false fun E=>
  (bD (aD alJ E (aj (ao 0) (aj (ao 1) aG))))
def M4:AP:=Uv nW
def wI (E:Bo):MS:=
  (bD (ao 2))
def yE:AP:=Ec 2 7 true fun E=>
  (aV (bx (qD (aj (tV aG) aG)) (kI 2))
  (aV (rK (dh (aj (ao 1) aG)) (kI 3) (aV (bx (vd aG) (kI 4))
  (aV (rK (Ik (ao 2)) (kI 5) (aV (bx (mIf (aZ (Ae QJ (ao 3) (mC (.int 0)))) (Ae bG (Ae CR (ao 5) (Ae uD (ao 3) (mC (.int 1)))) (mC (.int 1))) (mC (.int 0))) (kI 6))
  (kZ (LC iV (ao 4) (aj (HW Hz [5] (KY (aj (ao 6) (aj (ao 0) aG))) eN (Ae bG (ao 1) (tV (aj (ao 0) aG)))) aG)))))
  (bx (ao 4) (kI 2)))))
  (wI E)))
def mX:AP:=yE
def xR:AP:=Ec 2 2 false fun E=>
  (bD (HW Hz [0] (Ik (ao 1)) eN (Ae CR (ao 1) (ao 0))))
def iI:AP:=xR
def Bt:AP:=Ec 1 1 false fun E=>
  (bD (qD (aj (Mh vh (ao 0) (cP (mC (.int 0))) (cP (mC (.int 3)))) (aj (Mh vh (ao 0) (cP (mC (.int 3))) (cP (mC (.int 6)))) (aj (Mh vh (ao 0) (cP (mC (.int 6))) (cP (mC (.int 9)))) aG)))))
def gW:AP:=Bt
def zU (aky akL:AP):AP:=Ec 1 2 false fun E=>
  (aV (bx (aD akL E (aj (ao 0) aG)) (kI 1))
  (bD (aD aky E (aj (Ae CR (ao 1) (mC (.int 0))) (aj (Ae CR (ao 1) (mC (.int 1))) (aj (Ae CR (ao 1) (mC (.int 2))) aG))))))
def rE:AP:=zU Nk gW
def GP (alN alM:AP):AP:=Ec 1 1 false fun E=>
  (bD (xX (aD alN E (aj (ao 0) (aj (mC (.int 9)) aG))) (Ae Jk (aD alM E (aj (ao 0) aG)) (mC (.int 0)))))
def qT:AP:=GP pD rE
def iG (akD akL:AP):AP:=Ec 2 2 false fun E=>
  (bD (HW Hz [1] (Ik (aD akL E (aj (ao 0) aG))) eN (aD akD E (aj (ao 0) (aj (ao 1) aG)))))
def cJ:AP:=iG Ie gW
def zp:AP:=Ec 1 1 false fun E=>
  (bD (HW Hz [0] (dh (aj (mC (.int 9)) aG)) eN (Ae CR (ao 1) (Ae bG (Ae cR (mC (.int 3)) (Ae qR (ao 0) (mC (.int 3)))) (Ae Ar (ao 0) (mC (.int 3)))))))
def rA:AP:=zp
def jK (akD akL alb:AP)(E:Bo):MS:=
  (bD (ao 3))
def fQ (akD akL alb:AP):AP:=Ec 2 5 true fun E=>
  (aV (bx (aD akL E (aj (aD alb E (aj (ao 1) aG)) aG)) (kI 2))
  (aV (bx (vd aG) (kI 3))
  (aV (rK (Ik (aD akL E (aj (ao 0) aG))) (kI 4) (kZ (LC iV (ao 3) (aj (HW Hz [4] (Ik (ao 2)) eN (aD akD E (aj (ao 1) (aj (ao 0) aG)))) aG))))
  (jK akD akL alb E))))
def cU:AP:=fQ Ie gW rA
def Ge (akx akL:AP):AP:=Ec 1 2 false fun E=>
  (aV (bx (aD akL E (aj (ao 0) aG)) (kI 1))
  (bD (Ae bG (Ae bG (aD akx E (aj (Ae CR (ao 1) (mC (.int 1))) (aj (Ae CR (ao 1) (mC (.int 2))) aG))) (aD akx E (aj (Ae CR (ao 1) (mC (.int 2))) (aj (Ae CR (ao 1) (mC (.int 0))) aG)))) (aD akx E (aj (Ae CR (ao 1) (mC (.int 0))) (aj (Ae CR (ao 1) (mC (.int 1))) aG))))))
def qU:AP:=Ge oE gW
def aa9 (akz alv:AP):AP:=Ec 2 2 false fun E=>
  (bD (aD akz E (aj (aD alv E (aj (ao 0) (aj (ao 1) aG))) aG)))
def aa6:AP:=aa9 jG cJ
def Lj (akz alH:AP):AP:=Ec 2 2 false fun E=>
  (bD (aD akz E (aj (aD alH E (aj (ao 1) (aj (ao 0) aG))) aG)))
def Lq:AP:=Lj jG cU
def Uh (akz alb alq:AP):AP:=Ec 1 1 false fun E=>
  (bD (aD akz E (aj (aD alb E (aj (aD alq E (aj (ao 0) aG)) aG)) aG)))
def Fj:AP:=Uh jG rA qU
def Dq:AP:=Ec 0 0 false fun E=>
  (bD (Hv vH (aj (mC rM) aG)))
def oM:AP:=Dq
def vQ (aky:AP):AP:=Ec 1 2 false fun E=>
  (aV (bx (qD (aj (aD aky E (aj (Ae CR (ao 0) (mC (.int 0))) (aj (Ae CR (ao 0) (mC (.int 1))) (aj (Ae CR (ao 0) (mC (.int 2))) aG)))) (aj (aD aky E (aj (Ae CR (ao 0) (mC (.int 0))) (aj (Ae CR (ao 0) (mC (.int 1))) (aj (Ae CR (ao 0) (mC (.int 3))) aG)))) (aj (aD aky E (aj (Ae CR (ao 0) (mC (.int 0))) (aj (Ae CR (ao 0) (mC (.int 2))) (aj (Ae CR (ao 0) (mC (.int 3))) aG)))) (aj (aD aky E (aj (Ae CR (ao 0) (mC (.int 1))) (aj (Ae CR (ao 0) (mC (.int 2))) (aj (Ae CR (ao 0) (mC (.int 3))) aG)))) aG))))) (kI 1))
  (bD (Ae ac2 (mC (.int 0)) (ao 1))))
def jW:AP:=vQ Nk
def pQ (akz alv alq:AP):AP:=Ec 1 2 false fun E=>
  (aV (bx (aD alv E (aj (aD alq E (aj (Ae bG (Ae bG (Ae CR (ao 0) (mC (.int 0))) (Ae CR (ao 0) (mC (.int 1)))) (Ae CR (ao 0) (mC (.int 2)))) aG)) (aj (Ae CR (ao 0) (mC (.int 3))) aG))) (kI 1))
  (bD (aD akz E (aj (HW Hz [0,1] (dh (aj (mC (.int 9)) aG)) eN (Ae cR (Ae CR (ao 2) (Ae qR (ao 0) (mC (.int 3)))) (Ae CR (Ae CR (ao 1) (Ae qR (ao 0) (mC (.int 3)))) (Ae Ar (ao 0) (mC (.int 3)))))) aG))))
def qp:AP:=pQ jG cJ qU
def jV (akR akT akN alk:AP)(E:Bo):MS:=
  (bD (aD akR E (aj (aD akT E (aj (aD alk E (aj (ao 0) aG)) aG)) (aj (aD alk E (aj (ao 1) aG)) aG))))
def jc (akR akT akN alk:AP):AP:=Ec 2 2 false fun E=>
  (aV (d7 (QG (Ji (vD (aD akN E (aj (ao 0) aG)))) (Ji (vD (aD akN E (aj (ao 1) aG))))) (rP "NotFree" E) bK)
  (jV akR akT akN alk E))
def cI:AP:=jc Lq Fj jW qp
def fG:AP:=Ec 1 1 false fun E=>
  (d7 (QG (aZ (Ae kLt (Hv Il (aj (ao 0) aG)) (mC (.int 1)))) (aZ (Ae QJ (Hv Il (aj (ao 0) aG)) (mC (.int 12))))) (rP "NoPicture" E) bK)
def cH:AP:=fG
def lA (akI ako akN:AP)(E:Bo):MS:=
  (bD (mC .non))
def jO (akI ako akN:AP):AP:=Ec 1 2 false fun E=>
  (aV (rK (Ik (aD akI E (aj (Hv Il (aj (ao 0) aG)) (aj (mC (.int 4)) aG)))) (kI 1) (d7 (vD (aD akN E (aj (aD ako E (aj (ao 0) (aj (ao 1) aG))) aG))) (bD (ao 1)) bK))
  (lA akI ako akN E))
def gw:AP:=jO mX iI jW
def jq (E:Bo):MS:=
  (bD (ao 1))
def gJ:AP:=Ec 1 3 true fun E=>
  (aV (bx (vd aG) (kI 1))
  (aV (rK (Ik (ao 0)) (kI 2) (d7 (aZ (Ae RD (ao 2) (ao 1))) (kZ (LC gG (ao 1) (aj (ao 2) aG))) bK))
  (jq E)))
def lu:AP:=gJ
def gU (akC alz akI ako:AP)(E:Bo):MS:=
  (bD (mC .non))
def fu (akC alz akI ako:AP):AP:=Ec 1 3 false fun E=>
  (aV (rK (Ik (aD akI E (aj (Hv Il (aj (ao 0) aG)) (aj (mC (.int 3)) aG)))) (kI 1) (aV (bx (aD ako E (aj (ao 0) (aj (ao 1) aG))) (kI 2))
  (d7 (vD (aD akC E (aj (ao 2) aG))) (bD (aD alz E (aj (Ae CR (ao 2) (mC (.int 0))) (aj (Ae CR (ao 2) (mC (.int 1))) aG)))) bK)))
  (gU akC alz akI ako E))
def jz:AP:=fu iz M4 mX iI
def Ei (akq:AP):AP:=Ec 0 0 false fun E=>
  (bD (Mh vh (aD akq E aG) gB (cP (mC (.int 3)))))
def yM:AP:=Ei oM
def cN (akz:AP):AP:=Ec 1 1 false fun E=>
  (bD (aD akz E (aj (HW Hz [0] (dh (aj (mC (.int 3)) aG)) eN (Hv YD (aj (HW Hz [0] (Ik (ao 1)) eN (Ae CR (ao 0) (ao 1))) aG))) aG)))
def gH:AP:=cN jG
def dI (alE akq aku ald alw:AP):AP:=Ec 2 4 false fun E=>
  (aV (bx (HW Hz [1] (Ik (ao 0)) (vD (aD alE E (aj (ao 0) (aj (ao 1) aG)))) (ao 0)) (kI 2))
  (aV (bx (HW Hz [1] (Ik (Ae bG (ao 0) (aD ald E aG))) (Ji (vD (aD alE E (aj (ao 0) (aj (ao 1) aG))))) (ao 0)) (kI 3))
  (bD (aD aku E (aj (qD (aj (Ae CR (ao 2) (mC (.int 0))) (aj (Ae CR (ao 2) (mC (.int 1))) (aj (Ae CR (ao 3) (mC (.int 0))) (aj (aD alw E (aj (qD (aj (Ae CR (ao 3) (mC (.int 0))) (aj (Ae CR (ao 2) (mC (.int 2))) aG))) aG)) aG))))) (aj (aD akq E aG) aG))))))
def iD:AP:=dI zY oM cI yM gH
def nP (akC ald:AP)(E:Bo):MS:=
  (bD (ao 1))
def mq (akC ald:AP):AP:=Ec 1 3 true fun E=>
  (aV (bx (Hv Hq (aj (ao 0) aG)) (kI 1))
  (aV (rK (Ik (aD ald E aG)) (kI 2) (d7 (TJ (aZ (Ae JZ (Hv Il (aj (ao 1) aG)) (mC (.int 1)))) (aZ (Ae Jk (ao 2) (Ae CR (ao 1) (mC (.int 0)))))) (kZ (LC gG (ao 1) (aj (ao 2) aG))) (d7 (TJ (aZ (Ae JZ (Hv Il (aj (ao 1) aG)) (mC (.int 2)))) (Ji (vD (aD akC E (aj (Ae bG (ao 1) (qD (aj (ao 2) aG))) aG))))) (kZ (LC gG (ao 1) (aj (ao 2) aG))) bK)))
  (nP akC ald E)))
def rT:AP:=mq iz yM
def d8 (akq aku alw alL:AP):AP:=Ec 1 2 false fun E=>
  (aV (bx (aD alL E (aj (ao 0) aG)) (kI 1))
  (bD (aD aku E (aj (Ae bG (ao 1) (qD (aj (aD alw E (aj (ao 1) aG)) aG))) (aj (aD akq E aG) aG)))))
def ju:AP:=d8 oM cI gH rT
def uX (ako akq aku akF akG ala akY alf akX:AP)(E:Bo):MS:=
  (bD (aD akX E (aj (ao 2) aG)))
def uh (ako akq aku akF akG ala akY alf akX:AP)(E:Bo):MS:=
  (aV (bx (aD ala E (aj (ao 0) aG)) (kI 2))
  (aV (bx (aD akY E (aj (ao 2) aG)) (kI 3))
  (aV (d7 (aZ (Ae qJ (ao 3) (mC .non))) (bD (aD alf E (aj (ao 2) (aj (ao 3) aG)))) bK)
  (uX ako akq aku akF akG ala akY alf akX E))))
def uV (ako akq aku akF akG ala akY alf akX:AP):AP:=Ec 1 4 false fun E=>
  (aV (kZ (aD akF E (aj (ao 0) aG)))
  (aV (bx (aD akG E (aj (ao 0) aG)) (kI 1))
  (aV (d7 (aZ (Ae qJ (ao 1) (mC .non))) (bD (aD aku E (aj (aD ako E (aj (ao 0) (aj (ao 1) aG))) (aj (aD akq E aG) aG)))) bK)
  (uh ako akq aku akF akG ala akY alf akX E))))
def sH:AP:=uV iI oM cI cH gw lu jz iD ju
def lH (akx:AP):AP:=Ec 1 3 false fun E=>
  (aV (bx (HW Hz [0] (Ik (ao 0)) (aZ (Ae Jk (ao 0) (Ae CR (ao 1) (mC (.int 0))))) (ao 0)) (kI 1))
  (aV (bx (aD akx E (aj (Ae CR (ao 0) (mC (.int 0))) (aj (Ae CR (ao 1) (mC (.int 0))) aG))) (kI 2))
  (bD (Ae CR (HW Hz [2] (dh (aj (mC (.int 3)) aG)) (aZ (Ae Jk (Ae CR (ao 1) (ao 0)) (mC (.int 0)))) (ao 0)) (mC (.int 0))))))
def tR:AP:=lH oE
def tE:AP:=Ec 3 5 false fun E=>
  (aV (bx (Ae qR (Ae bG (ao 2) (mC (.int 1))) (mC (.int 3))) (kI 3))
  (aV (bx (Ae qR (Ae bG (ao 2) (mC (.int 2))) (mC (.int 3))) (kI 4))
  (bD (Ae uD (Ae cR (Ae CR (ao 0) (ao 3)) (Ae CR (ao 1) (ao 4))) (Ae cR (Ae CR (ao 0) (ao 4)) (Ae CR (ao 1) (ao 3)))))))
def zR:AP:=tE
def dF:AP:=Ec 1 1 false fun E=>
  (bD (Ae QJ (Hv W7 (aj (HW Hz [0] (Ik (ao 0)) eN (ac4 Az (ao 1) (aj (ao 0) aG))) aG)) (mC (.int 2))))
def gY:AP:=dF
def fK (alF ali:AP):AP:=Ec 1 2 false fun E=>
  (aV (bx (aD alF E (aj (ao 0) aG)) (kI 1))
  (bD (qD (aj (Ae cR (aD ali E (aj (Ae CR (ao 0) (mC (.int 0))) (aj (Ae CR (ao 0) (mC (.int 2))) (aj (ao 1) aG)))) (aD ali E (aj (Ae CR (ao 0) (mC (.int 1))) (aj (Ae CR (ao 0) (mC (.int 3))) (aj (ao 1) aG))))) (aj (Ae cR (aD ali E (aj (Ae CR (ao 0) (mC (.int 0))) (aj (Ae CR (ao 0) (mC (.int 3))) (aj (ao 1) aG)))) (aD ali E (aj (Ae CR (ao 0) (mC (.int 1))) (aj (Ae CR (ao 0) (mC (.int 2))) (aj (ao 1) aG))))) aG)))))
def jB:AP:=fK tR zR
def iH:AP:=Ec 2 2 false fun E=>
  (bD (Ae Jk (Ae JZ (Ae CR (ao 0) (mC (.int 0))) (Ae CR (ao 0) (mC (.int 1)))) (Ae JZ (Ae CR (ao 1) (mC (.int 0))) (Ae CR (ao 1) (mC (.int 1))))))
def bF:AP:=iH
def fJ (akC:AP):AP:=Ec 2 2 false fun E=>
  (bD (Ae Jk (aD akC E (aj (ao 0) aG)) (aD akC E (aj (ao 1) aG))))
def bf:AP:=fJ iz
def g8 (akC aln alj:AP)(E:Bo):MS:=
  (aV (bx (aD alj E (aj (ao 0) aG)) (kI 2))
  (aV (bx (aD alj E (aj (ao 1) aG)) (kI 3))
  (bD (Ae Jk (Ae cR (Ae CR (ao 2) (mC (.int 0))) (Ae CR (ao 3) (mC (.int 1)))) (Ae cR (Ae CR (ao 2) (mC (.int 1))) (Ae CR (ao 3) (mC (.int 0))))))))
def eY (akC aln alj:AP):AP:=Ec 2 4 false fun E=>
  (aV (d7 (QG (Ji (vD (aD akC E (aj (ao 0) aG)))) (vD (aD aln E (aj (ao 0) aG)))) (bD (mC (.bl false))) bK)
  (g8 akC aln alj E))
def aY:AP:=eY iz gY jB
def jt (F_twos_differ F_threes_differ F_throws_differ:Addr)(akI ako als aly alu:AP)(E:Bo):MS:=
  (bD (mC .non))
def dJ (F_twos_differ F_threes_differ F_throws_differ:Addr)(akI ako als aly alu:AP):AP:=Ec 4 5 false fun E=>
  (aV (rK (Ik (aD akI E (aj (Hv Il (aj (ao 0) aG)) (aj (ao 2) aG)))) (kI 4) (d7 (vD (wC [(F_twos_differ,als),(F_threes_differ,aly),(F_throws_differ,alu)] 3 (aj (aD ako E (aj (ao 0) (aj (ao 4) aG))) (aj (aD ako E (aj (ao 1) (aj (ao 4) aG))) aG)))) (bD (ao 4)) bK))
  (jt F_twos_differ F_threes_differ F_throws_differ akI ako als aly alu E))
def gK (F_twos_differ F_threes_differ F_throws_differ:Addr):AP:=dJ F_twos_differ F_threes_differ F_throws_differ mX iI bF bf aY
def jF (ako akV akq aku akG:AP)(E:Bo):MS:=
  (bD (mC .non))
def jU (ako akV akq aku akG:AP)(E:Bo):MS:=
  (aV (bx (aD aku E (aj (aD ako E (aj (ao 0) (aj (ao 2) aG))) (aj (aD akq E aG) aG))) (kI 3))
  (aV (bx (aD aku E (aj (aD ako E (aj (ao 1) (aj (ao 2) aG))) (aj (aD akq E aG) aG))) (kI 4))
  (aV (rK (dh (aj (Hv Il (aj (ao 0) aG)) aG)) (kI 5) (d7 (aZ (Ae Jk (aD akV E (aj (ao 3) (aj (Ae CR (ao 0) (ao 5)) aG))) (aD akV E (aj (ao 4) (aj (Ae CR (ao 1) (ao 5)) aG))))) (bD (Ae bG (ao 2) (tV (aj (ao 5) aG)))) bK))
  (jF ako akV akq aku akG E))))
def iU (ako akV akq aku akG:AP):AP:=Ec 2 6 false fun E=>
  (aV (bx (aD akG E (aj (ao 0) aG)) (kI 2))
  (aV (d7 (aZ (Ae kIs (ao 2) (mC .non))) (bD (mC .non)) bK)
  (jU ako akV akq aku akG E)))
def mL:AP:=iU iI aa6 oM cI gw
def eG (F_twos_differ F_threes_differ F_throws_differ:Addr)(alA alo:AP)(E:Bo):MS:=
  (aV (bx (aD alo E (aj (ao 0) (aj (ao 1) aG))) (kI 5))
  (bD (mIf (aZ (Ae kIs (ao 5) (mC .non))) (mC .non) (tV (aj (mC (.str "five")) (aj (ao 5) aG))))))
def dj (F_twos_differ F_threes_differ F_throws_differ:Addr)(alA alo:AP):AP:=Ec 2 6 false fun E=>
  (aV (rK (Ik (qD (aj (tV (aj (mC (.str "two")) (aj (mC (.int 2)) (aj (mC (.fnv F_twos_differ 0)) aG)))) (aj (tV (aj (mC (.str "three")) (aj (mC (.int 3)) (aj (mC (.fnv F_threes_differ 1)) aG)))) (aj (tV (aj (mC (.str "throw")) (aj (mC (.int 4)) (aj (mC (.fnv F_throws_differ 2)) aG)))) aG))))) (vp 3 (kY (kI 2) (kY (kI 3) (kY (kI 4) UW)))) (aV (bx (aD alA E (aj (ao 0) (aj (ao 1) (aj (ao 3) (aj (ao 4) aG))))) (kI 5))
  (d7 (aZ (Ae qJ (ao 5) (mC .non))) (bD (tV (aj (ao 2) (aj (ao 5) aG)))) bK)))
  (eG F_twos_differ F_threes_differ F_throws_differ alA alo E))
def fY (F_twos_differ F_threes_differ F_throws_differ:Addr):AP:=dj F_twos_differ F_threes_differ F_throws_differ (gK F_twos_differ F_threes_differ F_throws_differ) mL
def Aw (akF alC:AP)(E:Bo):MS:=
  (bD (aD alC EF (aj (ao 0) (aj (ao 1) aG))))
def ud (akF alC:AP):AP:=Ec 2 2 false fun E=>
  (aV (kZ (aD akF E (aj (ao 0) aG)))
  (aV (kZ (aD akF E (aj (ao 1) aG)))
  (aV (d7 (aZ (Ae Jk (Hv Il (aj (ao 0) aG)) (Hv Il (aj (ao 1) aG)))) (bD (tV (aj (mC (.str "many")) (aj (tV aG) aG)))) bK)
  (Aw akF alC E))))
def pJ (F_twos_differ F_threes_differ F_throws_differ:Addr):AP:=ud cH (fY F_twos_differ F_threes_differ F_throws_differ)
def yC (akF:AP):AP:=Ec 2 2 false fun E=>
  (aV (kZ (aD akF E (aj (ao 0) aG)))
  (aV (kZ (aD akF E (aj (ao 1) aG)))
  (Lr E)))
def FT:AP:=yC cH
def vL (akR akT akt akp:AP)(E:Bo):MS:=
  (bD (aD akR EF (aj (aD akt EF (aj (ao 0) aG)) (aj (aD akT EF (aj (aD akt EF (aj (ao 1) aG)) aG)) aG))))
def yL (akR akT akt akp:AP):AP:=Ec 2 3 false fun E=>
  (aV (bx (aD akp E (aj (ao 0) (aj (ao 1) aG))) (kI 2))
  (aV (d7 (aZ (Ae qJ (ao 2) (mC .non))) (Dj "Apart" "word" "places" (aj (Ae CR (ao 2) (mC (.int 0))) (aj (Ae CR (ao 2) (mC (.int 1))) aG)) E) bK)
  (vL akR akT akt akp E)))
def wX (F_twos_differ F_threes_differ F_throws_differ:Addr):AP:=yL Lq Fj sH (pJ F_twos_differ F_threes_differ F_throws_differ)
def rN (alI:AP):AP:=Ec 2 3 false fun E=>
  (aV (bx (aD alI E (aj (ao 0) (aj (ao 1) aG))) (kI 2))
  (Lr E))
def Aa:AP:=rN FT
def xM (E:Bo):MS:=
  (bD (mC (.int 0)))
def rQ:AP:=Ec 2 2 false fun E=>
  (aV (d7 (aZ (Ae kLt (ao 1) (Hv Il (aj (ao 0) aG)))) (bD (Ae CR (ao 0) (ao 1))) bK)
  (xM E))
def uG:AP:=rQ
def agg (alc:AP)(E:Bo):MS:=
  (bD (vd (aj (Ae Ar (ao 2) (mC (.int 2))) (aj (ao 4) aG))))
def agE (alc:AP)(E:Bo):MS:=
  (aV (d7 (aZ (Ae JZ (Ae qR (ao 2) (mC (.int 2))) (mC (.int 0)))) (bD (vd (aj (ao 4) aG))) bK)
  (agg alc E))
def Ho (alc:AP):AP:=Ec 2 6 false fun E=>
  (aV (bx (aD alc E (aj (ao 0) (aj (ao 1) aG))) (kI 2))
  (aV (bx (Ae qR (Ae cR (Ae bG (Ae bG (Ae qR (Ae Ar (ao 2) (mC (.int 2))) (Ae QD (mC (.int 10)) (mC (.int 18)))) (Ae cR (Ae cR (mC (.int 7919)) (ao 1)) (ao 1))) (mC (.int 1))) (mC (.int 48271))) (mC (.int 999999000001))) (kI 3))
  (aV (bx (mC (.int 0)) (kI 4))
  (aV (rK (dh (aj (mC (.int 60)) aG)) (kI 5) (aV (bx (Ae qR (Ae bG (Ae bG (Ae cR (ao 3) (mC (.int 69621))) (Ae cR (ao 5) (ao 5))) (mC (.int 1))) (mC (.int 999999000001))) (kI 3))
  (bx (Ae bG (Ae cR (ao 4) (Ae QD (mC (.int 10)) (mC (.int 12)))) (Ae qR (Ae cR (ao 3) (Ae bG (ao 3) (Ae cR (mC (.int 31)) (ao 5)))) (mC (.int 1000000000039)))) (kI 4))))
  (agE alc E)))))
def qQ:AP:=Ho uG
def zam (E:Bo):MS:=
  (aV (bx (Ae qR (Ae CR (ao 0) (mC (.int 0))) (ao 1)) (kI 2))
  (aV (bx (Ae Ar (Ae CR (ao 0) (mC (.int 0))) (ao 1)) (aaT (ao 0) (mC (.int 0)) JM))
  (bD (ao 2))))
def Bs:AP:=Ec 2 3 false fun E=>
  (aV (d7 (TJ (aZ (Ae kLt (Ae CR (ao 0) (mC (.int 0))) (mC (.int 2)))) (aZ (Ae QJ (Hv Il (aj (ao 0) aG)) (mC (.int 1))))) (bx (UJ ace (ao 0)) (aaT (ao 0) (mC (.int 0)) JM)) bK)
  (zam E))
def cY:AP:=Bs
def agc (akn:AP)(E:Bo):MS:=
  (bD (Ae bG (Ae uD (aD akn E (aj (ao 0) (aj (Ae uD (Ae cR (mC (.int 2)) (ao 1)) (mC (.int 1))) aG))) (ao 1)) (mC (.int 1))))
def zE (akn:AP)(E:Bo):MS:=
  (aV (d7 (aZ (Ae JZ (ao 2) (mC (.int 1)))) (bD (Ae uD (aD akn E (aj (ao 0) (aj (mC (.int 41)) aG))) (mC (.int 20)))) bK)
  (agc akn E))
def wj (akn:AP):AP:=Ec 2 3 false fun E=>
  (aV (bx (aD akn E (aj (ao 0) (aj (mC (.int 3)) aG))) (kI 2))
  (aV (d7 (aZ (Ae JZ (ao 2) (mC (.int 0)))) (bD (Ae uD (aD akn E (aj (ao 0) (aj (mC (.int 7)) aG))) (mC (.int 3)))) bK)
  (zE akn E)))
def jX:AP:=wj cY
def zq:AP:=Ec 1 1 false fun E=>
  (bD (xX (Hv Om (aj (ao 0) (aj (mC (.ty "int")) aG))) (KD (Hv Om (aj (ao 0) (aj (mC (.ty "bool")) aG))))))
def ni:AP:=zq
def mV (E:Bo):MS:=
  (bD (ao 1))
def uN:AP:=Ec 1 5 false fun E=>
  (aV (bx (mC (.int 0)) (kI 1))
  (aV (rK (Ik (ao 0)) (kI 2) (aV (bx (Hv acp (aj (ao 1) (aj (Hv O9 (aj (ao 2) aG)) aG))) (kI 3))
  (aV (bx (Hv acd (aj (ao 1) (aj (Hv O9 (aj (ao 2) aG)) aG))) (kI 4))
  (aV (Et (aZ (Ae QJ (ao 4) (mC (.int 0)))) (adT 3 4 (aj (ao 4) (aj (Ae qR (ao 3) (ao 4)) aG))))
  (bx (ao 3) (kI 1))))))
  (mV E)))
def sO:AP:=uN
def uT (alp:AP)(E:Bo):MS:=
  (bD (Hv z9 (aj (HW Hz [1] (Ik (ao 0)) eN (Ae Ar (ao 0) (ao 1))) aG)))
def yZ (alp:AP):AP:=Ec 1 2 false fun E=>
  (aV (bx (aD alp E (aj (ao 0) aG)) (kI 1))
  (aV (d7 (aZ (Ae kLt (Ae CR (HW Hz [] (Ik (ao 0)) (aZ (Ae Jk (ao 0) (mC (.int 0)))) (ao 0)) (mUn aci (mC (.int 1)))) (mC (.int 0)))) (bx (Ae uD (mC (.int 0)) (ao 1)) (kI 1)) bK)
  (uT alp E)))
def fB:AP:=yZ sO
def zP (alr aks:AP)(E:Bo):MS:=
  (bD (xX (Hv YC (aj (HW Hz [] (Ik (ao 0)) eN (Ae Jk (ao 0) (mC (.int 0)))) aG)) (Ae JZ (aD aks E (aj (ao 0) aG)) (ao 0))))
def wB (alr aks:AP):AP:=Ec 2 2 false fun E=>
  (aV (d7 (QG (Ji (vD (Hv Om (aj (ao 0) (aj (mC (.ty "tuple")) aG))))) (QG (aZ (Ae Jk (Hv Il (aj (ao 0) aG)) (ao 1))) (Ji (vD (Hv Uc (aj (HW Hz [] (Ik (ao 0)) eN (aD alr E (aj (ao 0) aG))) aG)))))) (bD (mC (.bl false))) bK)
  (zP alr aks E))
def jZ:AP:=wB ni fB
def agt (akQ aks:AP)(E:Bo):MS:=
  (bD (aD aks E (aj (ao 2) aG)))
def yI (akQ aks:AP):AP:=Ec 2 3 false fun E=>
  (aV (bx (HW Hz [0,1] (dh (aj (mC (.int 3)) aG)) eN (aD akQ E (aj (ao 1) (aj (ao 2) aG)))) (kI 2))
  (aV (d7 (aZ (Ae JZ (ao 2) (qD (aj (mC (.int 0)) (aj (mC (.int 0)) (aj (mC (.int 0)) aG)))))) (bx (qD (aj (mC (.int 0)) (aj (mC (.int 0)) (aj (mC (.int 1)) aG)))) (kI 2)) bK)
  (agt akQ aks E)))
def mK:AP:=yI jX fB
def Ng:AP:=Ec 2 2 false fun E=>
  (bD (Hv YD (aj (HW (owT 2) [] (acu (aj (ao 0) (aj (ao 1) aG))) eN (Ae cR (ao 0) (ao 1))) aG)))
def MN:AP:=Ng
def FP:AP:=Ec 1 11 false fun E=>
  (aV (bx (Mh vh (ao 0) (cP (mC (.int 0))) (cP (mC (.int 3)))) (vp 3 (kY (kI 1) (kY (kI 2) (kY (kI 3) UW)))))
  (aV (bx (Mh vh (ao 0) (cP (mC (.int 3))) (cP (mC (.int 6)))) (vp 3 (kY (kI 4) (kY (kI 5) (kY (kI 6) UW)))))
  (aV (bx (Mh vh (ao 0) (cP (mC (.int 6))) (cP (mC (.int 9)))) (vp 3 (kY (kI 7) (kY (kI 8) (kY (kI 9) UW)))))
  (aV (bx (Ae cR (ao 1) (Ae uD (Ae cR (ao 5) (ao 9)) (Ae cR (ao 6) (ao 8)))) (kI 10))
  (aV (bx (Ae uD (ao 10) (Ae cR (ao 2) (Ae uD (Ae cR (ao 4) (ao 9)) (Ae cR (ao 6) (ao 7))))) (kI 10))
  (bD (Ae bG (ao 10) (Ae cR (ao 3) (Ae uD (Ae cR (ao 4) (ao 8)) (Ae cR (ao 5) (ao 7)))))))))))
def GZ:AP:=FP
def zbb (akQ aks alm:AP)(E:Bo):MS:=
  (bD (aD aks E (aj (ao 2) aG)))
def M7 (akQ aks alm:AP):AP:=Ec 2 3 false fun E=>
  (aV (bx (HW Hz [0,1] (dh (aj (mC (.int 9)) aG)) eN (aD akQ E (aj (ao 1) (aj (ao 2) aG)))) (kI 2))
  (aV (d7 (aZ (Ae JZ (aD alm E (aj (ao 2) aG)) (mC (.int 0)))) (bx (qD (aj (mC (.int 1)) (aj (mC (.int 0)) (aj (Ae CR (ao 2) (mC (.int 2))) (aj (mC (.int 0)) (aj (mC (.int 1)) (aj (Ae CR (ao 2) (mC (.int 5))) (aj (mC (.int 0)) (aj (mC (.int 0)) (aj (mC (.int 1)) aG)))))))))) (kI 2)) bK)
  (zbb akQ aks alm E)))
def M8:AP:=M7 jX fB GZ
def CZ (aks alO:AP):AP:=Ec 2 2 false fun E=>
  (bD (aD aks E (aj (HW Hz [0,1] (dh (aj (mC (.int 3)) aG)) eN (aD alO E (aj (Mh vh (ao 1) (cP (Ae cR (mC (.int 3)) (ao 0))) (cP (Ae bG (Ae cR (mC (.int 3)) (ao 0)) (mC (.int 3))))) (aj (ao 2) aG)))) aG)))
def pA:AP:=CZ fB MN
def uf (akn aks:AP)(E:Bo):MS:=
  (bD (aD aks E (aj (ao 5) aG)))
def uy (akn aks:AP):AP:=Ec 3 6 false fun E=>
  (aV (bx (Ae uD (aD akn E (aj (ao 2) (aj (mC (.int 41)) aG))) (mC (.int 20))) (kI 3))
  (aV (bx (Ae uD (aD akn E (aj (ao 2) (aj (mC (.int 41)) aG))) (mC (.int 20))) (kI 4))
  (aV (bx (HW (owT 2) [3,4] (acu (aj (ao 0) (aj (ao 1) aG))) eN (Ae bG (Ae cR (ao 2) (ao 0)) (Ae cR (ao 3) (ao 1)))) (kI 5))
  (aV (d7 (aZ (Ae JZ (ao 5) (qD (aj (mC (.int 0)) (aj (mC (.int 0)) (aj (mC (.int 0)) aG)))))) (bD (ao 0)) bK)
  (uf akn aks E)))))
def nJ:AP:=uy cY fB
def wk (akn akr akB:AP)(E:Bo):MS:=
  (bD (aD akr E (aj (ao 2) (aj (Ae QD (mC (.int 10)) (mC (.int 9))) aG))))
def pI (akn akr akB:AP)(E:Bo):MS:=
  (aV (d7 (aZ (Ae QJ (ao 3) (mC (.int 1)))) (bD (aD akB E (aj (ao 4) (aj (ao 5) (aj (ao 2) aG))))) bK)
  (wk akn akr akB E))
def oX (akn akr akB:AP)(E:Bo):MS:=
  (aV (d7 (QG (TJ (aZ (Ae JZ (ao 1) (mC (.int 2)))) (aZ (Ae QJ (Hv Il (aj (ao 0) aG)) (mC (.int 2))))) (aZ (Ae JZ (ao 3) (mC (.int 4))))) (bD (ao 4)) bK)
  (pI akn akr akB E))
def yd (akn akr akB:AP):AP:=Ec 3 6 false fun E=>
  (aV (bx (aD akn E (aj (ao 2) (aj (mC (.int 6)) aG))) (kI 3))
  (aV (bx (Ae CR (ao 0) (aD akn E (aj (ao 2) (aj (Hv Il (aj (ao 0) aG)) aG)))) (kI 4))
  (aV (bx (Ae CR (ao 0) (aD akn E (aj (ao 2) (aj (Hv Il (aj (ao 0) aG)) aG)))) (kI 5))
  (aV (d7 (TJ (aZ (Ae JZ (ao 1) (mC (.int 1)))) (TJ (aZ (Ae QJ (Hv Il (aj (ao 0) aG)) (mC (.int 1)))) (aZ (Ae kLt (ao 3) (mC (.int 5)))))) (bD (aD akB E (aj (Ae CR (ao 0) (mC (.int 0))) (aj (Ae CR (ao 0) (mC (.int 1))) (aj (ao 2) aG))))) bK)
  (oX akn akr akB E)))))
def Gs:AP:=yd cY mK nJ
def nG (akn akr alD:AP)(E:Bo):MS:=
  (bD (ao 4))
def lQ (akn akr alD:AP):AP:=Ec 2 6 false fun E=>
  (aV (bx (aD akn E (aj (ao 0) (aj (ao 1) aG))) (kI 2))
  (aV (bx (aD akn E (aj (ao 0) (aj (mC (.int 4)) aG))) (kI 3))
  (aV (bx (vd (aj (aD akr E (aj (ao 0) (aj (Ae QD (mC (.int 10)) (mC (.int 9))) aG))) aG)) (kI 4))
  (aV (rK (dh (aj (ao 2) aG)) (kI 5) (kZ (LC gG (ao 4) (aj (aD alD E (aj (ao 4) (aj (ao 3) (aj (ao 0) aG)))) aG))))
  (nG akn akr alD E)))))
def lR:AP:=lQ cY mK Gs
def iR (akn akr akB:AP)(E:Bo):MS:=
  (bD (Ae bG (Ae bG (Mh vh (ao 0) gB (cP (ao 2))) (qD (aj (ao 4) aG))) (Mh vh (ao 0) (cP (Ae bG (ao 2) (mC (.int 1)))) gB)))
def iZ (akn akr akB:AP)(E:Bo):MS:=
  (aV (d7 (aZ (Ae JZ (ao 3) (mC (.int 2)))) (bx (aD akr E (aj (ao 1) (aj (Ae QD (mC (.int 10)) (mC (.int 9))) aG))) (kI 4)) bK)
  (iR akn akr akB E))
def lW (akn akr akB:AP):AP:=Ec 2 5 false fun E=>
  (aV (bx (aD akn E (aj (ao 1) (aj (Hv Il (aj (ao 0) aG)) aG))) (kI 2))
  (aV (bx (aD akn E (aj (ao 1) (aj (mC (.int 3)) aG))) (kI 3))
  (aV (bx (Ae CR (ao 0) (aD akn E (aj (ao 1) (aj (Hv Il (aj (ao 0) aG)) aG)))) (kI 4))
  (aV (d7 (aZ (Ae JZ (ao 3) (mC (.int 1)))) (bx (aD akB E (aj (Ae CR (ao 0) (ao 2)) (aj (ao 4) (aj (ao 1) aG)))) (kI 4)) bK)
  (iZ akn akr akB E)))))
def sU:AP:=lW cY mK nJ
def rY (akv akn akS akE akO akP:AP)(E:Bo):MS:=
  (bD (tV (aj (ao 2) (aj (Mh vh (ao 4) gB (cP (mC (.int 12)))) aG))))
def sJ (akv akn akS akE akO akP:AP)(E:Bo):MS:=
  (aV (d7 (aZ (Ae JZ (aD akn E (aj (ao 5) (aj (mC (.int 12)) aG))) (mC (.int 5)))) (bx (Ae bG (Ae bG (Mh vh (ao 4) (cP (mC (.int 1))) gB) (Mh vh (ao 4) gB (cP (mC (.int 1))))) (Mh vh (ao 4) gB (cP (mC (.int 1))))) (kI 4)) bK)
  (rY akv akn akS akE akO akP E))
def mY (akv akn akS akE akO akP:AP)(E:Bo):MS:=
  (aV (d7 (aZ (Ae JZ (ao 6) (mC (.int 3)))) (aV (bx (aD akO E (aj (ao 5) (aj (ao 1) aG))) (kI 4))
  (bx (Mh vh (Ae bG (ao 4) (ao 2)) gB (cP (Hv Il (aj (ao 2) aG)))) (kI 4))) bK)
  (sJ akv akn akS akE akO akP E))
def DX (akv akn akS akE akO akP:AP):AP:=Ec 2 7 false fun E=>
  (aV (bx (aD akO E (aj (aD akv E (aj (ao 0) (aj (mC (.int 0)) aG))) (aj (ao 1) aG))) (kI 2))
  (aV (bx (aD akS E (aj (aD akv E (aj (ao 0) (aj (mC (.int 1)) aG))) (aj (Ae QD (mC (.int 10)) (mC (.int 9))) aG))) (kI 3))
  (aV (bx (HW Hz [3] (Ik (ao 2)) eN (aD akE E (aj (ao 1) (aj (ao 0) aG)))) (kI 4))
  (aV (bx (aD akv E (aj (ao 0) (aj (mC (.int 2)) aG))) (kI 5))
  (aV (bx (aD akn E (aj (ao 5) (aj (mC (.int 4)) aG))) (kI 6))
  (aV (d7 (QG (aZ (Ae JZ (ao 6) (mC (.int 1)))) (aZ (Ae JZ (ao 6) (mC (.int 2))))) (bx (aD akP E (aj (ao 4) (aj (ao 5) aG))) (kI 4)) bK)
  (mY akv akn akS akE akO akP E)))))))
def Ek:AP:=DX qQ cY M8 pA lR sU
def zal (E:Bo):MS:=
  (bD (Ae bG (ao 1) (qD (aj (Cd (fun n=>true) (ao 0)) aG))))
def zap (E:Bo):MS:=
  (aV (d7 (vD (Cd (fun n=>((HI n "Tied")||((HI n "NoText")||((HI n "NoName")||((HI n "Short")||false))))) (ao 0))) (bD (qD aG)) bK)
  (zal E))
def uc:AP:=Ec 1 2 false fun E=>
  (aV (bx (qD (aj (Cd (fun n=>(HI n "Nothing")) (ao 0)) (aj (Cd (fun n=>(HI n "Alike")) (ao 0)) (aj (Cd (fun n=>(HI n "NoMap")) (ao 0)) (aj (Cd (fun n=>(HI n "NotFree")) (ao 0)) aG))))) (kI 1))
  (aV (bx (Ae bG (ao 1) (qD (aj (Cd (fun n=>(HI n "NotOnLine")) (ao 0)) (aj (Cd (fun n=>(HI n "NoThrow")) (ao 0)) (aj (Cd (fun n=>(HI n "NoPicture")) (ao 0)) (aj (Cd (fun n=>(HI n "Apart")) (ao 0)) aG)))))) (kI 1))
  (aV (d7 (vD (Cd (fun n=>((HI n "Stuck")||((HI n "NotOnEdge")||((HI n "NoPart")||((HI n "FourOnLine")||((HI n "ThreeOnLine")||((HI n "NotRound")||((HI n "NotOn")||((HI n "InCurve")||((HI n "Knot")||((HI n "TooMuch")||false))))))))))) (ao 0))) (bD (qD aG)) bK)
  (zap E))))
def jL:AP:=uc
def GQ:AP:=Ec 2 2 false fun E=>
  (bD (Ae JZ (ao 0) (Ae bG (HW Hz [1] (dh (aj (mC (.int 8)) aG)) eN (Ae JZ (ao 0) (ao 1))) (qD (aj (mC (.bl true)) aG)))))
def mO:AP:=GQ
def wG (ale akH akJ:AP)(E:Bo):MS:=
  (bD (tV (aj (mC (.str "map")) (aj (ao 2) aG))))
def yH (ale akH akJ:AP):AP:=Ec 2 4 false fun E=>
  (aV (bx (mC .non) (kI 2))
  (aV (Qk 3 "Apart" 3 "EaselError" (fun E=>(bx (aD ale E (aj (ao 0) (aj (ao 1) aG))) (kI 2))) (bD (tV (aj (mC (.str "apart")) (aj (aD akJ EF (aj (aD akH EF (aj (ao 3) aG)) (aj (mC (.int 7)) aG))) (aj (Hw "word" (ao 3)) (aj (Hw "places" (ao 3)) aG)))))) (bD (tV (aj (mC (.str "other")) (aj (aD akJ EF (aj (aD akH EF (aj (ao 3) aG)) (aj (mC (.int 6)) aG))) aG)))))
  (wG ale akH akJ E)))
def Fg (F_twos_differ F_threes_differ F_throws_differ:Addr):AP:=yH (wX F_twos_differ F_threes_differ F_throws_differ) jL mO
def rC (alG akH akJ:AP):AP:=Ec 2 4 false fun E=>
  (aV (bx (mC .non) (kI 2))
  (aV (Qk 3 "Apart" 3 "EaselError" (fun E=>(bx (aD alG E (aj (ao 0) (aj (ao 1) aG))) (kI 2))) (bD (tV (aj (mC (.str "apart")) (aj (aD akJ EF (aj (aD akH EF (aj (ao 3) aG)) (aj (mC (.int 7)) aG))) (aj (Hw "word" (ao 3)) (aj (Hw "places" (ao 3)) aG)))))) (bD (tV (aj (mC (.str "other")) (aj (aD akJ EF (aj (aD akH EF (aj (ao 3) aG)) (aj (mC (.int 6)) aG))) aG)))))
  (Lr E)))
def zx:AP:=rC Aa jL mO
def qH (akp akH akJ alB:AP)(E:Bo):MS:=
  (bD (mC (.bl false)))
def gC (akp akH akJ alB:AP):AP:=Ec 2 3 false fun E=>
  (aV (Yb 2 "EaselError" (fun E=>(kZ (aD akp E (aj (ao 0) (aj (ao 1) aG))))) (bD (xX (aD akJ EF (aj (aD akH EF (aj (ao 2) aG)) (aj (mC (.int 6)) aG))) (Ae JZ (aD alB EF (aj (ao 0) (aj (ao 1) aG))) (tV (aj (mC (.str "other")) (aj (mC (.bl true)) aG)))))))
  (qH akp akH akJ alB E))
def lB (F_twos_differ F_threes_differ F_throws_differ:Addr):AP:=gC (pJ F_twos_differ F_threes_differ F_throws_differ) jL mO zx
def Dd (akW akp akv akn alh akE alg akM akU:AP)(E:Bo):MS:=
  (aV (bx (aD akv E (aj (ao 0) (aj (mC (.int 3)) aG))) (kI 6))
  (aV (bx (HW Hz [1,6] (dh (aj (Ae CR (qD (aj (mC (.int 0)) (aj (Ae bG (mC (.int 13)) (aD akn E (aj (ao 6) (aj (mC (.int 8)) aG)))) aG))) (aD akn E (aj (ao 6) (aj (mC (.int 2)) aG)))) aG)) eN (Ae CR (ao 1) (aD akn E (aj (ao 2) (aj (Hv Il (aj (ao 1) aG)) aG))))) (kI 7))
  (bD (xX (aD akU E (aj (Hv vH (aj (ao 7) aG)) (aj (Hv vH (aj (ao 2) aG)) aG))) (aD akU E (aj (Hv vH (aj (ao 2) aG)) (aj (Hv vH (aj (ao 7) aG)) aG)))))))
def Dp (akW akp akv akn alh akE alg akM akU:AP)(E:Bo):MS:=
  (aV (d7 (aZ (Ae qJ (ao 4) (mC .non))) (d7 (aZ (Ae Jk (ao 5) (tV (aj (mC (.str "apart")) (aj (mC (.bl true)) (aj (Ae CR (ao 4) (mC (.int 0))) (aj (Ae CR (ao 4) (mC (.int 1))) aG))))))) (bD (mC (.bl false))) bK) (aV (d7 (QG (aZ (Ae Jk (Ae CR (ao 5) (mC (.int 0))) (mC (.str "map")))) (QG (Ji (vD (aD alh E (aj (Ae CR (ao 5) (mC (.int 1))) (aj (mC (.int 9)) aG))))) (aZ (Ae qJ (aD akW E (aj (Ae CR (ao 5) (mC (.int 1))) aG)) (mC (.bl true)))))) (bD (mC (.bl false))) bK)
  (d7 (aZ (Ae Jk (HW Hz [5] (Ik (ao 1)) eN (aD akE E (aj (Ae CR (ao 1) (mC (.int 1))) (aj (ao 0) aG)))) (ao 2))) (bD (mC (.bl false))) bK)))
  (Dd akW akp akv akn alh akE alg akM akU E))
def Xn (akW akp akv akn alh akE alg akM akU:AP):AP:=Ec 1 8 false fun E=>
  (aV (bx (aD alg E (aj (ao 0) (aj (mC (.int 12)) aG))) (vp 2 (kY (kI 1) (kY (kI 2) UW))))
  (aV (bx (qD (aj (Hv vH (aj (ao 1) aG)) (aj (Hv vH (aj (ao 2) aG)) aG))) (kI 3))
  (aV (bx (aD akp E (aj (Ae CR (ao 3) (mC (.int 0))) (aj (Ae CR (ao 3) (mC (.int 1))) aG))) (kI 4))
  (aV (bx (aD akM E (aj (Ae CR (ao 3) (mC (.int 0))) (aj (Ae CR (ao 3) (mC (.int 1))) aG))) (kI 5))
  (aV (d7 (aZ (Ae ach (ao 3) (qD (aj (ao 1) (aj (ao 2) aG))))) (bD (mC (.bl false))) bK)
  (Dp akW akp akv akn alh akE alg akM akU E))))))
def Wk (F_twos_differ F_threes_differ F_throws_differ:Addr):AP:=Xn qT (pJ F_twos_differ F_threes_differ F_throws_differ) qQ cY jZ pA Ek (Fg F_twos_differ F_threes_differ F_throws_differ) (lB F_twos_differ F_threes_differ F_throws_differ)
def zl:List Str:=["ValueError", "abs", "all", "any", "bool", "int", "isinstance", "len", "list", "max", "min", "range", "reversed", "sum", "tuple", "zip"]
structure Ad where
 x_EaselError:Addr
 x_Nothing:Addr
 x_Alike:Addr
 x_NoMap:Addr
 x_NotFree:Addr
 x_NotOnLine:Addr
 x_NoThrow:Addr
 x_NoPicture:Addr
 x_Apart:Addr
 x_Stuck:Addr
 x_NotOnEdge:Addr
 x_NoPart:Addr
 x_FourOnLine:Addr
 x_ThreeOnLine:Addr
 x_Knot:Addr
 x_NotRound:Addr
 x_NotOn:Addr
 x_InCurve:Addr
 x_TooMuch:Addr
 x_Tied:Addr
 x_NoText:Addr
 x_NoName:Addr
 x_Short:Addr
 f_Apart_init:Addr
 d_Apart_init:Ln
structure Txt (P:Dz) (w:Cw) (K:Bl) (mg:Str->Option Mk) (base:Heap) (t:Ad):Prop where
 f0:At K mg "is_whole" (top 25) ["thing"]
 f1:At K mg "divisor_of_two" (top 26) ["one", "other"]
 f2:At K mg "divisor" (top 27) ["numbers"]
 f3:At K mg "ends_below" (top 28) ["numbers"]
 f4:At K mg "plain" (top 29) ["numbers"]
 f5:At K mg "is_plain" (top 30) ["thing", "many"]
 f6:At K mg "dot" (top 32) ["one", "other"]
 f7:At K mg "cross" (top 33) ["one", "other"]
 f8:At K mg "turn" (top 34) ["one", "other", "third"]
 f9:At K mg "lies_on" (top 35) ["spot", "line"]
 f10:At K mg "share_one" (top 36) ["rows"]
 f11:At K mg "on_line" (top 37) ["spots"]
 f12:At K mg "plain_cross" (top 38) ["one", "other"]
 f13:At K mg "join" (top 39) ["one", "other"]
 f14:At K mg "rising" (top 41) ["many", "size"]
 f15:At K mg "picked" (top 42) ["things", "places"]
 f16:At K mg "rows_of" (top 45) ["table"]
 f17:At K mg "size_of" (top 46) ["numbers"]
 f18:At K mg "is_map" (top 47) ["thing"]
 f19:At K mg "table_times_row" (top 48) ["table", "row"]
 f20:At K mg "flipped" (top 49) ["table"]
 f21:At K mg "table_times_table" (top 50) ["one", "other"]
 f22:At K mg "turned" (top 51) ["table"]
 f23:At K mg "led" (top 52) ["by", "spot"]
 f24:At K mg "then" (top 53) ["one", "other"]
 f25:At K mg "back" (top 54) ["by"]
 f26:At K mg "tiles" (top 55) []
 f27:At K mg "are_free" (top 56) ["four"]
 f28:At K mg "from_tiles" (top 57) ["four"]
 f29:At K mg "map_between" (top 58) ["four", "others"]
 f30:At K mg "check_picture" (top 60) ["picture"]
 f31:At K mg "first_free" (top 61) ["picture"]
 f32:At K mg "unlike_spots" (top 62) ["picture"]
 f33:At K mg "line_of_three" (top 63) ["unlike"]
 f34:At K mg "units" (top 64) []
 f35:At K mg "spot_between" (top 65) ["spots"]
 f36:At K mg "leading_of_line" (top 66) ["unlike", "line"]
 f37:At K mg "filled_up" (top 67) ["unlike"]
 f38:At K mg "leading_of_few" (top 68) ["unlike"]
 f39:At K mg "leading" (top 69) ["picture"]
 f40:At K mg "place_off" (top 71) ["spots"]
 f41:At K mg "turn_at" (top 72) ["one", "other", "place"]
 f42:At K mg "has_three_alike" (top 73) ["four"]
 f43:At K mg "throw_numbers" (top 74) ["four"]
 f44:At K mg "twos_differ" (top 77) ["one", "other"]
 f45:At K mg "threes_differ" (top 78) ["one", "other"]
 f46:At K mg "throws_differ" (top 79) ["one", "other"]
 f47:At K mg "first_places" (top 76) ["one", "other", "size", "differs"]
 f48:At K mg "fifth_apart" (top 80) ["one", "other"]
 f49:At K mg "apart_of_as_many" (top 81) ["one", "other"]
 f50:At K mg "apart" (top 82) ["one", "other"]
 f51:At K mg "map_to" (top 83) ["one", "other"]
 f52:At K mg "_law_cell_at" (top 85) ["_law_script", "_law_k"]
 f53:At K mg "_law_rest" (top 86) ["_law_script", "_law_k"]
 f54:At K mg "_law_digit" (top 87) ["_law_rest_here", "_law_many"]
 f55:At K mg "_law_number" (top 88) ["_law_rest_here", "_law_far"]
 f56:At K mg "_law_whole" (top 89) ["_law_found"]
 f57:At K mg "_law_divisor" (top 90) ["_law_numbers"]
 f58:At K mg "_law_plain" (top 91) ["_law_numbers"]
 f59:At K mg "_law_is_row" (top 92) ["_law_found", "_law_many"]
 f60:At K mg "_law_spot" (top 93) ["_law_rest_here", "_law_far"]
 f61:At K mg "_law_dot" (top 95) ["_law_one", "_law_other"]
 f62:At K mg "_law_size" (top 96) ["_law_numbers"]
 f63:At K mg "_law_map" (top 97) ["_law_rest_here", "_law_far"]
 f64:At K mg "_law_led" (top 98) ["_law_by", "_law_spot_here"]
 f65:At K mg "_law_mixed" (top 99) ["_law_one", "_law_other", "_law_rest_here"]
 f66:At K mg "_law_next" (top 100) ["_law_spots", "_law_style", "_law_rest_here"]
 f67:At K mg "_law_picture" (top 101) ["_law_rest_here", "_law_most"]
 f68:At K mg "_law_changed" (top 102) ["_law_spots", "_law_rest_here"]
 f69:At K mg "_law_two" (top 103) ["_law_script", "_law_most"]
 f70:At K mg "_law_kinds" (top 104) ["_law_e"]
 f71:At K mg "_law_only" (top 105) ["_law_kinds_here", "_law_due"]
 f72:At K mg "_law_told" (top 106) ["_law_one", "_law_other"]
 f73:At K mg "_law_no_picture" (top 107) ["_law_one", "_law_other"]
 z:∀ n∈zl,mg n=JI
 c_TILES:∃ a,mg "TILES" = Dn (.ref a)/\∀ H μ,Aj K H μ rM (.ref a)
 xm_EaselError:mg "EaselError" = Dn (.ref t.x_EaselError)
 xd_EaselError:cW K t.x_EaselError "EaselError" = true
 xm_Nothing:mg "Nothing" = Dn (.ref t.x_Nothing)
 xd_Nothing:cW K t.x_Nothing "Nothing" = true
 xm_Alike:mg "Alike" = Dn (.ref t.x_Alike)
 xd_Alike:cW K t.x_Alike "Alike" = true
 xm_NoMap:mg "NoMap" = Dn (.ref t.x_NoMap)
 xd_NoMap:cW K t.x_NoMap "NoMap" = true
 xm_NotFree:mg "NotFree" = Dn (.ref t.x_NotFree)
 xd_NotFree:cW K t.x_NotFree "NotFree" = true
 xm_NotOnLine:mg "NotOnLine" = Dn (.ref t.x_NotOnLine)
 xd_NotOnLine:cW K t.x_NotOnLine "NotOnLine" = true
 xm_NoThrow:mg "NoThrow" = Dn (.ref t.x_NoThrow)
 xd_NoThrow:cW K t.x_NoThrow "NoThrow" = true
 xm_NoPicture:mg "NoPicture" = Dn (.ref t.x_NoPicture)
 xd_NoPicture:cW K t.x_NoPicture "NoPicture" = true
 xc_NoPicture:u0 K t.x_NoPicture "NoPicture" = true
 xq_NoPicture:WY K t.x_NoPicture QF "ValueError.__new__" = true
 xm_Apart:mg "Apart" = Dn (.ref t.x_Apart)
 xd_Apart:cW K t.x_Apart "Apart" = true
 xm_Stuck:mg "Stuck" = Dn (.ref t.x_Stuck)
 xd_Stuck:cW K t.x_Stuck "Stuck" = true
 xm_NotOnEdge:mg "NotOnEdge" = Dn (.ref t.x_NotOnEdge)
 xd_NotOnEdge:cW K t.x_NotOnEdge "NotOnEdge" = true
 xm_NoPart:mg "NoPart" = Dn (.ref t.x_NoPart)
 xd_NoPart:cW K t.x_NoPart "NoPart" = true
 xm_FourOnLine:mg "FourOnLine" = Dn (.ref t.x_FourOnLine)
 xd_FourOnLine:cW K t.x_FourOnLine "FourOnLine" = true
 xm_ThreeOnLine:mg "ThreeOnLine" = Dn (.ref t.x_ThreeOnLine)
 xd_ThreeOnLine:cW K t.x_ThreeOnLine "ThreeOnLine" = true
 xm_Knot:mg "Knot" = Dn (.ref t.x_Knot)
 xd_Knot:cW K t.x_Knot "Knot" = true
 xm_NotRound:mg "NotRound" = Dn (.ref t.x_NotRound)
 xd_NotRound:cW K t.x_NotRound "NotRound" = true
 xm_NotOn:mg "NotOn" = Dn (.ref t.x_NotOn)
 xd_NotOn:cW K t.x_NotOn "NotOn" = true
 xm_InCurve:mg "InCurve" = Dn (.ref t.x_InCurve)
 xd_InCurve:cW K t.x_InCurve "InCurve" = true
 xm_TooMuch:mg "TooMuch" = Dn (.ref t.x_TooMuch)
 xd_TooMuch:cW K t.x_TooMuch "TooMuch" = true
 xm_Tied:mg "Tied" = Dn (.ref t.x_Tied)
 xd_Tied:cW K t.x_Tied "Tied" = true
 xm_NoText:mg "NoText" = Dn (.ref t.x_NoText)
 xd_NoText:cW K t.x_NoText "NoText" = true
 xm_NoName:mg "NoName" = Dn (.ref t.x_NoName)
 xd_NoName:cW K t.x_NoName "NoName" = true
 xm_Short:mg "Short" = Dn (.ref t.x_Short)
 xd_Short:cW K t.x_Short "Short" = true
 F_Apart_init:Qm K "__init__" "Apart.__init__" fZ t.f_Apart_init t.d_Apart_init
 b_Apart_init:Binds K t.d_Apart_init ["self", "word", "places"] []
 xi_Apart:HY K t.x_Apart t.f_Apart_init QF "ValueError.__new__" = true
 xf_Apart:WW K (.ref t.f_Apart_init)=true
 xa_Apart:T9 K t.x_Apart "Apart" = true
 xs_Apart:Td K t.x_Apart "word" = true
 xs2_Apart:Td K t.x_Apart "places" = true
section
variable {P:Dz}{w:Cw}{K:Bl}{mg:Str->Option Mk}{base:Heap}{t:Ad}(T:Txt P w K mg base t)
include T
theorem ahg:jE P w K mg base Lf 1 t.f_Apart_init t.d_Apart_init ["self", "word", "places"] (spJ t.x_Apart "word" "places"):=
 ahf (k:=0) T.F_Apart_init yP (by decide) fun cdv A outer s H E hr=>xP (ajg T.xs_Apart (pv 0) (pv 1) (by rfl)) (BW (zbO T.xs2_Apart (pv 0) (pv 2) (by rfl)))
theorem zao:Fk P w K mg base 10 "is_whole" vX:=by
 refine fk (k:=9) ["thing"] T.f0 T.z ?_;intro _ _ _ _ _ _ _ hr nd hc z;exact au<|aH<|Ca (Jb Jc VH<|a2 (vV 0)<|dc (lX (v:=.ty "int") (by rfl) (by exact T.z _ (by decide)) boot_int<|by rfl)<|fun _ _=>by rw [Aj])<|BZ<|Yi<|Jb Jc VH<|a2 (vV 0)<|dc (lX (v:=.ty "bool") (by rfl) (by exact T.z _ (by decide)) boot_bool<|by rfl)<|fun _ _=>by rw [Aj]
theorem oR:Fk P w K mg base 10 "divisor_of_two" jm:=by
 refine fk (k:=9) ["one", "other", "rest"] T.f1 T.z ?_;intro _ _ _ _ _ _ _ hr nd hc z;refine aq (HF 0<|Jb Qe boot_abs<|a1<|vV 0) ?_;refine aq (HF 1<|Jb Qe boot_abs<|a1<|vV 1) ?_;refine aq (Fz Oq (Ir (xY qq) (vV 1) aA)<|aq (HF 2<|bC oV (vV 0)<|vV 1)<|aq (HF 0<|vV 1)<|au<|HF 1<|vV 2) ?_;exact au<|aH<|vV 0
theorem vP:Fk P w K mg base 11 "divisor" tY:=by
 refine fk (k:=10) ["numbers", "found", "number"] T.f2 T.z ?_;intro _ _ _ _ _ _ _ hr nd hc z;refine aq (HF 1 aA) ?_;refine aq (fH Oq hh (bV<|vV 0) (KJ 2)<|au<|HF 1<|Bx (oR T)<|a2 (vV 2)<|vV 1) ?_;exact au<|aH<|vV 1
theorem mQ:Fk P w K mg base 10 "ends_below" jN:=by
 refine fk (k:=9) ["numbers", "number"] T.f3 T.z ?_;intro _ _ _ _ _ _ _ hr nd hc z;refine aq (fH Oq hh (ajp (by rfl) (by exact T.z _ (by decide)) (a1<|vV 0) (aO<|by rfl)<|bJ<|by rfl) (KJ 1)<|au<|bQ (Ir (xY qq) (vV 1) aA) (au<|aH<|O2 YB (vV 1) aA) aP) ?_;exact au<|aH Cq
theorem j6:Fk P w K mg base 12 "plain" jG:=by
 refine fk (k:=11) ["numbers", "factor"] T.f4 T.z ?_;intro _ _ _ _ _ _ _ hr nd hc z;refine aq (HF 1<|Bx (vP T)<|a1<|vV 0) ?_;refine aq (bQ (Ir (nZ qq) (vV 1) aA) (au yG) aP) ?_;refine aq (bQ (c7<|Bx (mQ T)<|a1<|vV 0) (au<|HF 1<|abb<|vV 1) aP) ?_;exact au<|aH<|dct Ku boot_tuple<|a1<|PJ [1] (bV<|vV 0)<|fun _ _ _ _=>(bC Eb (vV 0)<|vV 1)
theorem agJ:Fk P w K mg base 12 "is_plain" pD:=by
 refine fk (k:=11) ["thing", "many"] T.f5 T.z ?_;intro _ _ _ _ _ _ _ hr nd hc z;refine aq (bQ (vA (jT<|c7<|Jb Jc VH<|a2 (vV 0)<|dc (lX (v:=.ty "tuple") (by rfl) (by exact T.z _ (by decide)) boot_tuple<|by rfl)<|fun _ _=>by rw [Aj])<|qj<|Ir (xY qq) (Jb fU N5<|a1<|vV 0)<|vV 1).pt (au<|aH Cq) aP) ?_;refine aq (bQ (jT<|c7<|Jb (XR hh) boot_all<|a1<|PJ [] (bV<|vV 0)<|fun _ _ _ _=>(Bx (zao T)<|a1<|vV 0)) (au<|aH Cq) aP) ?_;exact au<|aH<|Ca (O2 (nZ qq) (Bx (vP T)<|a1<|vV 0) aA)<|BZ<|Yi<|Bx (mQ T)<|a1<|vV 0
theorem zm:Fk P w K mg base 10 "dot" Ie:=by
 refine fk (k:=9) ["one", "other"] T.f6 T.z ?_;intro _ _ _ _ _ _ _ hr nd hc z;exact au<|aH<|bC bH (bC bH (bC bZ (Cp (vV 0) aA)<|Cp (vV 1) aA)<|bC bZ (Cp (vV 0) aA)<|Cp (vV 1) aA)<|bC bZ (Cp (vV 0) aA)<|Cp (vV 1) aA
theorem jf:Fk P w K mg base 10 "cross" oE:=by
 refine fk (k:=9) ["one", "other"] T.f7 T.z ?_;intro _ _ _ _ _ _ _ hr nd hc z;exact au<|aH<|jg<|a3 (bC kW (bC bZ (Cp (vV 0) aA)<|Cp (vV 1) aA)<|bC bZ (Cp (vV 0) aA)<|Cp (vV 1) aA) (bC kW (bC bZ (Cp (vV 0) aA)<|Cp (vV 1) aA)<|bC bZ (Cp (vV 0) aA)<|Cp (vV 1) aA)<|bC kW (bC bZ (Cp (vV 0) aA)<|Cp (vV 1) aA)<|bC bZ (Cp (vV 0) aA)<|Cp (vV 1) aA
theorem rJ:Fk P w K mg base 11 "turn" Nk:=by
 refine fk (k:=10) ["one", "other", "third"] T.f8 T.z ?_;intro _ _ _ _ _ _ _ hr nd hc z;exact au<|aH<|Bx (zm T)<|a2 (Bx (jf T)<|a2 (vV 0)<|vV 1)<|vV 2
theorem vU:Fk P w K mg base 11 "lies_on" zY:=by
 refine fk (k:=10) ["spot", "line"] T.f9 T.z ?_;intro _ _ _ _ _ _ _ hr nd hc z;exact au<|aH<|O2 (nZ qq) (Bx (zm T)<|a2 (vV 0)<|vV 1) aA
theorem agh:Fk P w K mg base 11 "share_one" tB:=by
 refine fk (k:=10) ["rows", "unlike", "shared"] T.f10 T.z ?_;intro _ _ _ _ _ _ _ hr nd hc z;refine aq (xJ [0] (i:=1) (by assumption) (by rfl) (by exact Or.inl rfl) hh (bU<|by rfl) qK (qL<|bU<|by rfl) (bV<|vV 0) (fun _ _ _ _=>(pF<|Ir (xY qq) (vV 0)<|Cp (vV 1) aA))<|fun _ _ _ _=>(vV 0)) ?_;refine aq (bQ (jT<|c7<|vV 1) (au<|aH Cq) aP) ?_;refine aq (HF 2<|Bx (jf T)<|a2 (Cp (vV 0) aA)<|Cp (vV 1) aA) ?_;exact au<|aH<|Jb (XR hh) boot_all<|a1<|PJ [2] (bV<|vV 1)<|fun _ _ _ _=>(O2 (nZ qq) (Bx (zm T)<|a2 (vV 1)<|vV 0) aA)
theorem gZ:Fk P w K mg base 12 "on_line" iz:=by
 refine fk (k:=11) ["spots"] T.f11 T.z ?_;intro _ _ _ _ _ _ _ hr nd hc z;exact au<|aH<|Bx (agh T)<|a1<|vV 0
theorem vq:Fk P w K mg base 13 "plain_cross" nW:=by
 refine fk (k:=12) ["one", "other"] T.f12 T.z ?_;intro _ _ _ _ _ _ _ hr nd hc z;refine aq (bQ (Ir (nZ qq) (vV 0)<|vV 1) (au yG) aP) ?_;exact au<|aH<|Bx (j6 T)<|a1<|Bx (jf T)<|a2 (vV 0)<|vV 1
theorem ajG:Fk P w K mg base 14 "join" M4:=by
 refine fk (k:=13) ["one", "other"] T.f13 T.z ?_;intro _ _ _ _ _ _ _ hr nd hc z;exact au<|aH<|Bx (vq T)<|a2 (vV 0)<|vV 1
theorem uE:Fk P w K mg base 10 "rising" mX:=by
 refine fk (k:=9) ["many", "size", "found", "taken", "longer", "places", "first"] T.f14 T.z ?_;intro _ _ _ _ _ _ _ hr nd hc z;refine aq ?_ ?_
 ·with_reducible exact HF 2 (fD (a1 (jg dZ)))
 refine aq (fH Oq hh (QL<|a1<|vV 1) (KJ 3)<|aq (HF 4<|v8 dZ)<|aq (fH Oq hh (bV<|vV 2) (KJ 5)<|aq (HF 6<|aeB (Ir T7 (vV 3) aA) (bC bH (Cp (vV 5)<|bC kW (vV 3) aA) aA) aA)<|au<|lM<|Gk (vV 4) (a1<|PJ [5] (zaT (by rfl) (by exact T.z _ (by decide))<|a2 (vV 6)<|vV 0)<|fun _ _ _ _=>(bC bH (vV 1)<|jg<|a1<|vV 0)) (by rfl) (Ea<|by rfl) (by rfl) (aO<|by rfl)<|by rfl)<|au<|HF 2<|vV 4) ?_;exact au<|aH<|vV 2
theorem fL:Fk P w K mg base 10 "picked" iI:=by
 refine fk (k:=9) ["things", "places"] T.f15 T.z ?_;intro _ _ _ _ _ _ _ hr nd hc z;exact au<|aH<|PJ [0] (bV<|vV 1)<|fun _ _ _ _=>(Cp (vV 1)<|vV 0)
theorem iB:Fk P w K mg base 10 "rows_of" gW:=by
 refine fk (k:=9) ["table"] T.f16 T.z ?_;intro _ _ _ _ _ _ _ hr nd hc z;exact au<|aH<|fD<|a3 (lU (vV 0) (bR aA)<|bR aA) (lU (vV 0) (bR aA)<|bR aA)<|lU (vV 0) (bR aA)<|bR aA
theorem ahL:Fk P w K mg base 12 "size_of" rE:=by
 refine fk (k:=11) ["numbers", "rows"] T.f17 T.z ?_;intro _ _ _ _ _ _ _ hr nd hc z;refine aq (HF 1<|Bx (iB T)<|a1<|vV 0) ?_;exact au<|aH<|Bx (rJ T)<|a3 (Cp (vV 1) aA) (Cp (vV 1) aA)<|Cp (vV 1) aA
theorem ahH:Fk P w K mg base 13 "is_map" qT:=by
 refine fk (k:=12) ["thing"] T.f18 T.z ?_;intro _ _ _ _ _ _ _ hr nd hc z;exact au<|aH<|Ca (Bx (agJ T)<|a2 (vV 0) aA)<|BZ<|O2 (xY qq) (Bx (ahL T)<|a1<|vV 0) aA
theorem gq:Fk P w K mg base 11 "table_times_row" cJ:=by
 refine fk (k:=10) ["table", "row"] T.f19 T.z ?_;intro _ _ _ _ _ _ _ hr nd hc z;exact au<|aH<|PJ [1] (bV<|Bx (iB T)<|a1<|vV 0)<|fun _ _ _ _=>(Bx (zm T)<|a2 (vV 0)<|vV 1)
theorem vM:Fk P w K mg base 10 "flipped" rA:=by
 refine fk (k:=9) ["table"] T.f20 T.z ?_;intro _ _ _ _ _ _ _ hr nd hc z;exact au<|aH<|PJ [0] (QL<|a1 aA)<|fun _ _ _ _=>(Cp (vV 1)<|bC bH (bC bZ aA<|bC oV (vV 0) aA)<|bC Eb (vV 0) aA)
theorem kO:Fk P w K mg base 11 "table_times_table" cU:=by
 refine fk (k:=10) ["one", "other", "columns", "numbers", "row"] T.f21 T.z ?_;intro _ _ _ _ _ _ _ hr nd hc z;refine aq (HF 2<|Bx (iB T)<|a1<|Bx (vM T)<|a1<|vV 1) ?_;refine aq (HF 3<|v8 dZ) ?_;refine aq (fH Oq hh (bV<|Bx (iB T)<|a1<|vV 0) (KJ 4)<|au<|lM<|Gk (vV 3) (a1<|PJ [4] (bV<|vV 2)<|fun _ _ _ _=>(Bx (zm T)<|a2 (vV 1)<|vV 0)) (by rfl) (Ea<|by rfl) (by rfl) (aO<|by rfl)<|by rfl) ?_;exact au<|aH<|vV 3
theorem z8:Fk P w K mg base 11 "turned" qU:=by
 refine fk (k:=10) ["table", "rows"] T.f22 T.z ?_;intro _ _ _ _ _ _ _ hr nd hc z;refine aq (HF 1<|Bx (iB T)<|a1<|vV 0) ?_;exact au<|aH<|bC bH (bC bH (Bx (jf T)<|a2 (Cp (vV 1) aA)<|Cp (vV 1) aA)<|Bx (jf T)<|a2 (Cp (vV 1) aA)<|Cp (vV 1) aA)<|Bx (jf T)<|a2 (Cp (vV 1) aA)<|Cp (vV 1) aA
theorem Us:Fk P w K mg base 13 "led" aa6:=by
 refine fk (k:=12) ["by", "spot"] T.f23 T.z ?_;intro _ _ _ _ _ _ _ hr nd hc z;exact au<|aH<|Bx (j6 T)<|a1<|Bx (gq T)<|a2 (vV 0)<|vV 1
theorem KC:Fk P w K mg base 13 "then" Lq:=by
 refine fk (k:=12) ["one", "other"] T.f24 T.z ?_;intro _ _ _ _ _ _ _ hr nd hc z;exact au<|aH<|Bx (j6 T)<|a1<|Bx (kO T)<|a2 (vV 1)<|vV 0
theorem Ks:Fk P w K mg base 13 "back" Fj:=by
 refine fk (k:=12) ["by"] T.f25 T.z ?_;intro _ _ _ _ _ _ _ hr nd hc z;exact au<|aH<|Bx (j6 T)<|a1<|Bx (vM T)<|a1<|Bx (z8 T)<|a1<|vV 0
theorem j4:Fk P w K mg base 10 "tiles" oM:=by
 refine fk (k:=9) [] T.f26 T.z ?_;intro _ _ _ _ _ _ _ hr nd hc z;obtain ⟨a_TILES,g_TILES,r_TILES⟩:=T.c_TILES;exact au<|aH<|dct rB V7<|a1<|dc (v:=.ref a_TILES) (yK (by rfl) g_TILES<|by rfl) r_TILES
theorem lN:Fk P w K mg base 12 "are_free" jW:=by
 refine fk (k:=11) ["four", "turns"] T.f27 T.z ?_;intro _ _ _ _ _ _ _ hr nd hc z;refine aq (HF 1<|fD<|aC (Bx (rJ T)<|a3 (Cp (vV 0) aA) (Cp (vV 0) aA)<|Cp (vV 0) aA)<|a3 (Bx (rJ T)<|a3 (Cp (vV 0) aA) (Cp (vV 0) aA)<|Cp (vV 0) aA) (Bx (rJ T)<|a3 (Cp (vV 0) aA) (Cp (vV 0) aA)<|Cp (vV 0) aA)<|Bx (rJ T)<|a3 (Cp (vV 0) aA) (Cp (vV 0) aA)<|Cp (vV 0) aA) ?_;exact au<|aH<|O2 ad0 aA<|vV 1
theorem mZ:Fk P w K mg base 13 "from_tiles" qp:=by
 refine fk (k:=12) ["four", "factors"] T.f28 T.z ?_;intro _ _ _ _ _ _ _ hr nd hc z;refine aq (HF 1<|Bx (gq T)<|a2 (Bx (z8 T)<|a1<|bC bH (bC bH (Cp (vV 0) aA)<|Cp (vV 0) aA)<|Cp (vV 0) aA)<|Cp (vV 0) aA) ?_;exact au<|aH<|Bx (j6 T)<|a1<|PJ [0,1] (QL<|a1 aA)<|fun _ _ _ _=>(bC bZ (Cp (vV 2)<|bC oV (vV 0) aA)<|Cp (Cp (vV 1)<|bC oV (vV 0) aA)<|bC Eb (vV 0) aA)
theorem cO:Fk P w K mg base 14 "map_between" cI:=by
 refine fk (k:=13) ["four", "others"] T.f29 T.z ?_;intro _ _ _ _ _ _ _ hr nd hc z;refine aq (bQ (vA (jT<|c7<|Bx (lN T)<|a1<|vV 0)<|qj<|jT<|c7<|Bx (lN T)<|a1<|vV 1).pt (au yG) aP) ?_;exact au<|aH<|Bx (KC T)<|a2 (Bx (Ks T)<|a1<|Bx (mZ T)<|a1<|vV 0)<|Bx (mZ T)<|a1<|vV 1
theorem bW:RL P w K mg base 1 "check_picture" cH:=by
 refine aek (k:=0) ["picture"] T.f30 T.z ?_;intro _ _ _ _ _ _ _ hr nd z;refine fV ?_;exact Ub (vA (Ir YB (Jb fU N5<|a1<|vV 0) aA)<|qj<|Ir T7 (Jb fU N5<|a1<|vV 0) aA).pt (fV<|agq (by rfl) T.xm_NoPicture T.xq_NoPicture T.xc_NoPicture) Fv
theorem qI:Fk P w K mg base 1 "check_picture" cH:=(bW T).tame
theorem nO:Fk P w K mg base 13 "first_free" gw:=by
 refine fk (k:=12) ["picture", "places"] T.f31 T.z ?_;intro _ _ _ _ _ _ _ hr nd hc z;refine aq (fH Oq hh (bV<|Bx (uE T)<|a2 (Jb fU N5<|a1<|vV 0) aA) (KJ 1)<|au<|bQ (c7<|Bx (lN T)<|a1<|Bx (fL T)<|a2 (vV 0)<|vV 1) (au<|aH<|vV 1) aP) ?_;exact au<|aH lZ
theorem sI:Fk P w K mg base 10 "unlike_spots" lu:=by
 refine fk (k:=9) ["picture", "found", "spot"] T.f32 T.z ?_;intro _ _ _ _ _ _ _ hr nd hc z;refine aq (HF 1<|v8 dZ) ?_;refine aq (fH Oq hh (bV<|vV 0) (KJ 2)<|au<|bQ (Ir (YX qq) (vV 2)<|vV 1) (au<|lM<|q9 (vV 1) (a1<|vV 2) (by rfl) (Ea<|by rfl) (by rfl) (aO<|by rfl)<|by rfl) aP) ?_;exact au<|aH<|vV 1
theorem qC:Fk P w K mg base 15 "line_of_three" jz:=by
 refine fk (k:=14) ["unlike", "places", "three"] T.f33 T.z ?_;intro _ _ _ _ _ _ _ hr nd hc z;refine aq (fH Oq hh (bV<|Bx (uE T)<|a2 (Jb fU N5<|a1<|vV 0) aA) (KJ 1)<|aq (HF 2<|Bx (fL T)<|a2 (vV 0)<|vV 1)<|au<|bQ (c7<|Bx (gZ T)<|a1<|vV 2) (au<|aH<|Bx (ajG T)<|a2 (Cp (vV 2) aA)<|Cp (vV 2) aA) aP) ?_;exact au<|aH lZ
theorem Fy:Fk P w K mg base 11 "units" yM:=by
 refine fk (k:=10) [] T.f34 T.z ?_;intro _ _ _ _ _ _ _ hr nd hc z;exact au<|aH<|lU (U3<|j4 T) jy<|bR aA
theorem jQ:Fk P w K mg base 13 "spot_between" gH:=by
 refine fk (k:=12) ["spots"] T.f35 T.z ?_;intro _ _ _ _ _ _ _ hr nd hc z;exact au<|aH<|Bx (j6 T)<|a1<|PJ [0] (QL<|a1 aA)<|fun _ _ _ _=>(Jb (Zx hh) boot_sum<|a1<|PJ [0] (bV<|vV 1)<|fun _ _ _ _=>(Cp (vV 0)<|vV 1))
theorem nj:Fk P w K mg base 15 "leading_of_line" iD:=by
 refine fk (k:=14) ["unlike", "line", "on", "off"] T.f36 T.z ?_;intro _ _ _ _ _ _ _ hr nd hc z;refine aq (xJ [1] (i:=2) (by assumption) (by rfl) (by exact Or.inl rfl) hh (bU<|by rfl) qK (qL<|bU<|by rfl) (bV<|vV 0) (fun _ _ _ _=>(pF<|c7<|Bx (vU T)<|a2 (vV 0)<|vV 1))<|fun _ _ _ _=>(vV 0)) ?_;refine aq (xJ [1] (i:=3) (by assumption) (by rfl) (by exact Or.inl rfl) hh (bU<|by rfl) qK (qL<|bU<|by rfl) (bV<|bC bH (vV 0)<|U3<|Fy T) (fun _ _ _ _=>(pF<|jT<|c7<|Bx (vU T)<|a2 (vV 0)<|vV 1))<|fun _ _ _ _=>(vV 0)) ?_;refine au ?_;with_reducible exact aH (Bx (by with_unfolding_all exact cO T) (a2 (fD (aC (Cp (vV 2) aA) (a3 (Cp (vV 2) aA) (Cp (vV 3) aA) (Bx (by with_unfolding_all exact jQ T) (a1 (fD (a2 (Cp (vV 3) aA) (Cp (vV 2) aA)))))))) (U3 (by with_unfolding_all exact j4 T))))
theorem z6:Fk P w K mg base 13 "filled_up" rT:=by
 refine fk (k:=12) ["unlike", "three", "unit"] T.f37 T.z ?_;intro _ _ _ _ _ _ _ hr nd hc z;refine aq (HF 1<|dct aie V7<|a1<|vV 0) ?_;refine aq (fH Oq hh (bV<|U3<|Fy T) (KJ 2)<|au<|bQ (wJ (Ir (nZ qq) (Jb fU N5<|a1<|vV 1) aA)<|uO<|Ir (xY qq) (vV 2)<|Cp (vV 1) aA).pt (au<|lM<|q9 (vV 1) (a1<|vV 2) (by rfl) (Ea<|by rfl) (by rfl) (aO<|by rfl)<|by rfl) (au<|bQ (wJ (Ir (nZ qq) (Jb fU N5<|a1<|vV 1) aA)<|uO<|jT<|c7<|Bx (gZ T)<|a1<|bC bH (vV 1)<|fD<|a1<|vV 2).pt (au<|lM<|q9 (vV 1) (a1<|vV 2) (by rfl) (Ea<|by rfl) (by rfl) (aO<|by rfl)<|by rfl) aP)) ?_;exact au<|aH<|vV 1
theorem n8:Fk P w K mg base 15 "leading_of_few" ju:=by
 refine fk (k:=14) ["unlike", "three"] T.f38 T.z ?_;intro _ _ _ _ _ _ _ hr nd hc z;refine aq (HF 1<|Bx (z6 T)<|a1<|vV 0) ?_;exact au<|aH<|Bx (cO T)<|a2 (bC bH (vV 1)<|fD<|a1<|Bx (jQ T)<|a1<|vV 1)<|U3<|j4 T
theorem vJ:Fk P w K mg base 16 "leading" sH:=by
 refine fk (k:=15) ["picture", "places", "unlike", "line"] T.f39 T.z ?_;intro _ _ _ _ _ _ _ hr nd hc z;refine aq (lM<|Bx (qI T)<|a1<|vV 0) ?_;refine aq (HF 1<|Bx (nO T)<|a1<|vV 0) ?_;refine aq (bQ (Ir wu (vV 1) lZ) (au<|aH<|Bx (cO T)<|a2 (Bx (fL T)<|a2 (vV 0)<|vV 1)<|U3<|j4 T) aP) ?_;refine aq (HF 2<|Bx (sI T)<|a1<|vV 0) ?_;refine aq (HF 3<|Bx (qC T)<|a1<|vV 2) ?_;refine aq (bQ (Ir wu (vV 3) lZ) (au<|aH<|Bx (nj T)<|a2 (vV 2)<|vV 3) aP) ?_;exact au<|aH<|Bx (n8 T)<|a1<|vV 2
theorem agA:Fk P w K mg base 11 "place_off" tR:=by
 refine fk (k:=10) ["spots", "unlike", "line"] T.f40 T.z ?_;intro _ _ _ _ _ _ _ hr nd hc z;refine aq (xJ [0] (i:=1) (by assumption) (by rfl) (by exact Or.inl rfl) hh (bU<|by rfl) qK (qL<|bU<|by rfl) (bV<|vV 0) (fun _ _ _ _=>(pF<|Ir (xY qq) (vV 0)<|Cp (vV 1) aA))<|fun _ _ _ _=>(vV 0)) ?_;refine aq (HF 2<|Bx (jf T)<|a2 (Cp (vV 0) aA)<|Cp (vV 1) aA) ?_;exact au<|aH<|Cp (dl1 [2] (QL<|a1 aA) (fun _ _ _ _=>(pF<|Ir (xY qq) (Cp (vV 1)<|vV 0) aA))<|fun _ _ _ _=>(vV 0)) aA
theorem j7:Fk P w K mg base 10 "turn_at" zR:=by
 refine fk (k:=9) ["one", "other", "place", "first", "second"] T.f41 T.z ?_;intro _ _ _ _ _ _ _ hr nd hc z;refine aq (HF 3<|bC oV (bC bH (vV 2) aA) aA) ?_;refine aq (HF 4<|bC oV (bC bH (vV 2) aA) aA) ?_;exact au<|aH<|bC kW (bC bZ (Cp (vV 0)<|vV 3)<|Cp (vV 1)<|vV 4)<|bC bZ (Cp (vV 0)<|vV 4)<|Cp (vV 1)<|vV 3
theorem mG:Fk P w K mg base 10 "has_three_alike" gY:=by
 refine fk (k:=9) ["four"] T.f42 T.z ?_;intro _ _ _ _ _ _ _ hr nd hc z;exact au<|aH<|O2 T7 (Jb (abT hh) boot_max<|a1<|PJ [0] (bV<|vV 0)<|fun _ _ _ _=>(ajJ qq (vV 1) (a1<|vV 0) (by rfl) (Ea<|by rfl) (by rfl) (aO<|by rfl)<|by rfl)) aA
theorem jw:Fk P w K mg base 12 "throw_numbers" jB:=by
 refine fk (k:=11) ["four", "place"] T.f43 T.z ?_;intro _ _ _ _ _ _ _ hr nd hc z;refine aq (HF 1<|Bx (agA T)<|a1<|vV 0) ?_;exact au<|aH<|fD<|a2 (bC bZ (Bx (j7 T)<|a3 (Cp (vV 0) aA) (Cp (vV 0) aA)<|vV 1)<|Bx (j7 T)<|a3 (Cp (vV 0) aA) (Cp (vV 0) aA)<|vV 1)<|bC bZ (Bx (j7 T)<|a3 (Cp (vV 0) aA) (Cp (vV 0) aA)<|vV 1)<|Bx (j7 T)<|a3 (Cp (vV 0) aA) (Cp (vV 0) aA)<|vV 1
theorem vg:Fk P w K mg base 10 "twos_differ" bF:=by
 refine fk (k:=9) ["one", "other"] T.f44 T.z ?_;intro _ _ _ _ _ _ _ hr nd hc z;exact au<|aH<|O2 (xY qq) (O2 (nZ qq) (Cp (vV 0) aA)<|Cp (vV 0) aA)<|O2 (nZ qq) (Cp (vV 1) aA)<|Cp (vV 1) aA
theorem qF:Fk P w K mg base 13 "threes_differ" bf:=by
 refine fk (k:=12) ["one", "other"] T.f45 T.z ?_;intro _ _ _ _ _ _ _ hr nd hc z;exact au<|aH<|O2 (xY qq) (Bx (gZ T)<|a1<|vV 0)<|Bx (gZ T)<|a1<|vV 1
theorem qz:Fk P w K mg base 13 "throws_differ" aY:=by
 refine fk (k:=12) ["one", "other", "mine", "its"] T.f46 T.z ?_;intro _ _ _ _ _ _ _ hr nd hc z;refine aq (bQ (vA (jT<|c7<|Bx (gZ T)<|a1<|vV 0)<|qj<|c7<|Bx (mG T)<|a1<|vV 0).pt (au<|aH Cq) aP) ?_;refine aq (HF 2<|Bx (jw T)<|a1<|vV 0) ?_;refine aq (HF 3<|Bx (jw T)<|a1<|vV 1) ?_;exact au<|aH<|O2 (xY qq) (bC bZ (Cp (vV 2) aA)<|Cp (vV 3) aA)<|bC bZ (Cp (vV 2) aA)<|Cp (vV 3) aA
theorem tG {F_twos_differ F_threes_differ F_throws_differ:Addr}(A_twos_differ:Lb P w K mg base 10 "twos_differ" bF F_twos_differ)(A_threes_differ:Lb P w K mg base 13 "threes_differ" bf F_threes_differ)(A_throws_differ:Lb P w K mg base 13 "throws_differ" aY F_throws_differ):Fk P w K mg base 14 "first_places" (gK F_twos_differ F_threes_differ F_throws_differ):=by
 refine fk (k:=13) ["one", "other", "size", "differs", "places"] T.f47 T.z ?_;intro _ _ _ _ _ _ _ hr nd hc z;refine aq (fH Oq hh (bV<|Bx (uE T)<|a2 (Jb fU N5<|a1<|vV 0)<|vV 2) (KJ 4)<|au<|bQ (c7<|dcv 3 (vfc (k:=13) A_twos_differ<|vfc (k:=13) A_threes_differ<|vfc (k:=13) A_throws_differ Qh.nil) (pv 3)<|a2 (Bx (fL T)<|a2 (vV 0)<|vV 4)<|Bx (fL T)<|a2 (vV 1)<|vV 4) (au<|aH<|vV 4) aP) ?_;exact au<|aH lZ
theorem vC:Fk P w K mg base 15 "fifth_apart" mL:=by
 refine fk (k:=14) ["one", "other", "places", "by", "other_by", "place"] T.f48 T.z ?_;intro _ _ _ _ _ _ _ hr nd hc z;refine aq (HF 2<|Bx (nO T)<|a1<|vV 0) ?_;refine aq (bQ (Ir aeP (vV 2) lZ) (au<|aH lZ) aP) ?_;refine aq (HF 3<|Bx (cO T)<|a2 (Bx (fL T)<|a2 (vV 0)<|vV 2)<|U3<|j4 T) ?_;refine aq (HF 4<|Bx (cO T)<|a2 (Bx (fL T)<|a2 (vV 1)<|vV 2)<|U3<|j4 T) ?_;refine aq (fH Oq hh (QL<|a1<|Jb fU N5<|a1<|vV 0) (KJ 5)<|au<|bQ (Ir (xY qq) (Bx (Us T)<|a2 (vV 3)<|Cp (vV 0)<|vV 5)<|Bx (Us T)<|a2 (vV 4)<|Cp (vV 1)<|vV 5) (au<|aH<|bC bH (vV 2)<|jg<|a1<|vV 5) aP) ?_;exact au<|aH lZ
theorem lO {F_twos_differ F_threes_differ F_throws_differ:Addr}(A_twos_differ:Lb P w K mg base 10 "twos_differ" bF F_twos_differ)(A_threes_differ:Lb P w K mg base 13 "threes_differ" bf F_threes_differ)(A_throws_differ:Lb P w K mg base 13 "throws_differ" aY F_throws_differ):Fk P w K mg base 16 "apart_of_as_many" (fY F_twos_differ F_threes_differ F_throws_differ):=by
 refine fk (k:=15) ["one", "other", "word", "size", "differs", "places"] T.f49 T.z ?_;intro _ _ _ _ _ _ _ hr nd hc z;refine aq ?_ ?_
 ·with_reducible exact fH (hs:=by with_unfolding_all (intro _;rfl)) (by with_unfolding_all exact Oq) hh (bV (fD (a3 (jg (a3 nM aA (dfv 0 (by with_unfolding_all exact A_twos_differ)))) (jg (a3 nM aA (dfv 1 (by with_unfolding_all exact A_threes_differ)))) (jg (a3 nM aA (dfv 2 (by with_unfolding_all exact A_throws_differ))))))) (tQ (hn:=by with_unfolding_all rfl) (hst:=by with_unfolding_all rfl) hh (cD (hs:=by with_unfolding_all rfl) (KJ 2) (cD (hs:=by with_unfolding_all rfl) (KJ 3) (cD (hs:=by with_unfolding_all rfl) (KJ 4) tO)))) (aq (HF 5 (Bx (by with_unfolding_all exact tG T A_twos_differ A_threes_differ A_throws_differ) (aC (vV 0) (a3 (vV 1) (vV 3) (vV 4))))) (au (bQ (Ir wu (vV 5) lZ) (au (aH (jg (a2 (vV 2) (vV 5))))) aP)))
 refine aq (HF 5<|Bx (vC T)<|a2 (vV 0)<|vV 1) ?_;exact au<|aH<|aeB (Ir aeP (vV 5) lZ) lZ<|jg<|a2 nM<|vV 5
theorem uH {F_twos_differ F_threes_differ F_throws_differ:Addr}(A_twos_differ:Lb P w K mg base 10 "twos_differ" bF F_twos_differ)(A_threes_differ:Lb P w K mg base 13 "threes_differ" bf F_threes_differ)(A_throws_differ:Lb P w K mg base 13 "throws_differ" aY F_throws_differ):RL P w K mg base 17 "apart" (pJ F_twos_differ F_threes_differ F_throws_differ):=by
 refine fkX (k:=16) ["one", "other"] T.f50 T.z ?_;intro _ _ _ _ _ _ _ hr nd hc z;refine dX (fun _=>trivial) ?_ ?_
 ·exact mH<|Ot (bW T)<|a1<|vV 0
 refine dX (fun _=>trivial) ?_ ?_
 ·exact mH<|Ot (bW T)<|a1<|vV 1
 refine dX (fun _=>trivial) ?_ ?_
 ·with_reducible exact Ob (bQ (Ir (xY qq) (Jb fU N5 (a1 (vV 0))) (Jb fU N5 (a1 (vV 1)))) (au (aH (jg (a2 nM (jg dZ))))) aP)
 refine fV ?_;exact Ob<|aH<|Bx (lO T A_twos_differ A_threes_differ A_throws_differ)<|a2 (vV 0)<|vV 1
theorem akk {F_twos_differ F_threes_differ F_throws_differ:Addr}(A_twos_differ:Lb P w K mg base 10 "twos_differ" bF F_twos_differ)(A_threes_differ:Lb P w K mg base 13 "threes_differ" bf F_threes_differ)(A_throws_differ:Lb P w K mg base 13 "throws_differ" aY F_throws_differ):Fk P w K mg base 17 "apart" (pJ F_twos_differ F_threes_differ F_throws_differ):=(uH T A_twos_differ A_threes_differ A_throws_differ).tame
theorem zaD:RL P w K mg base 2 "apart" FT:=by
 refine aek (k:=1) ["one", "other"] T.f50 T.z ?_;intro _ _ _ _ _ _ _ hr nd z;refine dX (fun _=>trivial) ?_ ?_
 ·exact mH<|Ot (bW T)<|a1<|vV 0
 refine dX (fun _=>trivial) ?_ ?_
 ·exact mH<|Ot (bW T)<|a1<|vV 1
 exact Bh
theorem zat {F_twos_differ F_threes_differ F_throws_differ:Addr}(A_twos_differ:Lb P w K mg base 10 "twos_differ" bF F_twos_differ)(A_threes_differ:Lb P w K mg base 13 "threes_differ" bf F_threes_differ)(A_throws_differ:Lb P w K mg base 13 "throws_differ" aY F_throws_differ):RL P w K mg base 18 "map_to" (wX F_twos_differ F_threes_differ F_throws_differ):=by
 refine fkX (k:=17) ["one", "other", "found"] T.f51 T.z ?_;intro _ _ _ _ _ _ _ hr nd hc z;refine dX (fun _=>trivial) ?_ ?_
 ·exact yp (i:=2) (by assumption) (by rfl) (by exact Or.inl rfl)<|Ot (uH T A_twos_differ A_threes_differ A_throws_differ)<|a2 (vV 0)<|vV 1
 refine dX (fun _=>trivial) ?_ ?_
 ·exact Ub (Ir wu (vV 2) lZ) (fV<|zaO (by rfl) (by rfl) T.xm_Apart T.xi_Apart T.xf_Apart ((ahg T).mono (by decide)) hr (by exact T.b_Apart_init) T.xa_Apart (by rfl)<|a2 (Cp (vV 2) aA)<|Cp (vV 2) aA) Fv
 refine fV ?_;exact Ob<|aH<|Bx (KC T)<|a2 (Bx (vJ T)<|a1<|vV 0)<|Bx (Ks T)<|a1<|Bx (vJ T)<|a1<|vV 1
theorem zar:RL P w K mg base 3 "map_to" Aa:=by
 refine aek (k:=2) ["one", "other", "found"] T.f51 T.z ?_;intro _ _ _ _ _ _ _ hr nd z;refine dX (fun _=>trivial) ?_ ?_
 ·exact yp (i:=2) (by assumption) (by rfl) (by exact Or.inl rfl)<|Ot (zaD T)<|a2 (vV 0)<|vV 1
 exact Bh
theorem zy:Fk P w K mg base 10 "_law_cell_at" uG:=by
 refine fk (k:=9) ["_law_script", "_law_k"] T.f52 T.z ?_;intro _ _ _ _ _ _ _ hr nd hc z;refine aq (bQ (Ir YB (vV 1)<|Jb fU N5<|a1<|vV 0) (au<|aH<|Cp (vV 0)<|vV 1) aP) ?_;exact au<|aH aA
theorem mF:Fk P w K mg base 11 "_law_rest" qQ:=by
 refine fk (k:=10) ["_law_script", "_law_k", "_law_cell", "_law_one", "_law_big", "_law_j"] T.f53 T.z ?_;intro _ _ _ _ _ _ _ hr nd hc z;refine aq (HF 2<|Bx (zy T)<|a2 (vV 0)<|vV 1) ?_;refine aq (HF 3<|bC oV (bC bZ (bC bH (bC bH (bC oV (bC Eb (vV 2) aA)<|bC Je aA aA)<|bC bZ (bC bZ aA<|vV 1)<|vV 1) aA) aA) aA) ?_;refine aq (HF 4 aA) ?_;refine aq (fH Oq hh (QL<|a1 aA) (KJ 5)<|aq (HF 3<|bC oV (bC bH (bC bH (bC bZ (vV 3) aA)<|bC bZ (vV 5)<|vV 5) aA) aA)<|au<|HF 4<|bC bH (bC bZ (vV 4)<|bC Je aA aA)<|bC oV (bC bZ (vV 3)<|bC bH (vV 3)<|bC bZ aA<|vV 5) aA) ?_;refine aq (bQ (Ir (nZ qq) (bC oV (vV 2) aA) aA) (au<|aH<|v8<|a1<|vV 4) aP) ?_;exact au<|aH<|v8<|a2 (bC Eb (vV 2) aA)<|vV 4
theorem aX:Fk P w K mg base 10 "_law_digit" cY:=by
 refine fk (k:=9) ["_law_rest_here", "_law_many", "_law_digit_here"] T.f54 T.z ?_;intro _ _ _ _ _ _ _ hr nd hc z;refine aq (bQ (wJ (Ir YB (Cp (vV 0) aA) aA)<|uO<|Ir T7 (Jb fU N5<|a1<|vV 0) aA).pt (au<|vR (adw<|vV 0)<|TX (vV 0) aA set_list Hf) aP) ?_;refine aq (HF 2<|bC oV (Cp (vV 0) aA)<|vV 1) ?_;refine aq (vR (bC Eb (Cp (vV 0) aA)<|vV 1)<|TX (vV 0) aA set_list Hf) ?_;exact au<|aH<|vV 2
theorem uM:Fk P w K mg base 11 "_law_number" jX:=by
 refine fk (k:=10) ["_law_rest_here", "_law_far", "_law_way"] T.f55 T.z ?_;intro _ _ _ _ _ _ _ hr nd hc z;refine aq (HF 2<|Bx (aX T)<|a2 (vV 0) aA) ?_;refine aq (bQ (Ir (nZ qq) (vV 2) aA) (au<|aH<|bC kW (Bx (aX T)<|a2 (vV 0) aA) aA) aP) ?_;refine aq (bQ (Ir (nZ qq) (vV 2) aA) (au<|aH<|bC kW (Bx (aX T)<|a2 (vV 0) aA) aA) aP) ?_;exact au<|aH<|bC bH (bC kW (Bx (aX T)<|a2 (vV 0)<|bC kW (bC bZ aA<|vV 1) aA)<|vV 1) aA
theorem agn:Fk P w K mg base 10 "_law_whole" ni:=by
 refine fk (k:=9) ["_law_found"] T.f56 T.z ?_;intro _ _ _ _ _ _ _ hr nd hc z;exact au<|aH<|Ca (Jb Jc VH<|a2 (vV 0)<|dc (lX (v:=.ty "int") (by rfl) (by exact T.z _ (by decide)) boot_int<|by rfl)<|fun _ _=>by rw [Aj])<|BZ<|Yi<|Jb Jc VH<|a2 (vV 0)<|dc (lX (v:=.ty "bool") (by rfl) (by exact T.z _ (by decide)) boot_bool<|by rfl)<|fun _ _=>by rw [Aj]
theorem zae:Fk P w K mg base 10 "_law_divisor" sO:=by
 refine fk (k:=9) ["_law_numbers", "_law_found", "_law_number_here", "_law_one", "_law_other"] T.f57 T.z ?_;intro _ _ _ _ _ _ _ hr nd hc z;refine aq (HF 1 aA) ?_;refine aq (fH Oq hh (bV<|vV 0) (KJ 2)<|aq (HF 3<|Jb (aeo hh) boot_max<|a2 (vV 1)<|Jb Qe boot_abs<|a1<|vV 2)<|aq (HF 4<|Jb (ad8 hh) boot_min<|a2 (vV 1)<|Jb Qe boot_abs<|a1<|vV 2)<|aq (Fz Oq (Ir T7 (vV 4) aA)<|au<|ahj<|Ze (i:=3) (j:=4) hh (by assumption) (by rfl) (by rfl) (by decide) (by rfl) (by rfl) (a2 (vV 4)<|bC oV (vV 3)<|vV 4)<|by rfl)<|au<|HF 1<|vV 3) ?_;exact au<|aH<|vV 1
theorem iy:Fk P w K mg base 11 "_law_plain" fB:=by
 refine fk (k:=10) ["_law_numbers", "_law_by"] T.f58 T.z ?_;intro _ _ _ _ _ _ _ hr nd hc z;refine aq (HF 1<|Bx (zae T)<|a1<|vV 0) ?_;refine aq (bQ (Ir YB (Cp (dl1 [] (bV<|vV 0) (fun _ _ _ _=>(pF<|Ir (xY qq) (vV 0) aA))<|fun _ _ _ _=>(vV 0))<|abb aA) aA) (au<|HF 1<|bC kW aA<|vV 1) aP) ?_;exact au<|aH<|dct Ku boot_tuple<|a1<|PJ [1] (bV<|vV 0)<|fun _ _ _ _=>(bC Eb (vV 0)<|vV 1)
theorem agk:Fk P w K mg base 12 "_law_is_row" jZ:=by
 refine fk (k:=11) ["_law_found", "_law_many"] T.f59 T.z ?_;intro _ _ _ _ _ _ _ hr nd hc z;obtain ⟨_,_,_,o_l_whole,ni,k_l_whole,b_l_whole⟩:=agn T;refine aq ((bQ (vA (jT<|c7<|wU Jc (by rfl) (by exact T.z _ (by decide)) VH (cL (dv 0<|pv 0) (cL (dc (lX (v:=.ty "tuple") (by rfl) (by exact T.z _ (by decide)) boot_tuple<|by rfl)<|fun _ _=>by rw [Aj]) dZ<|aO<|by rfl)<|aO<|by rfl) (by decide) (by decide) (aO<|by rfl)<|bJ<|by rfl)<|vA (rG (xY<|YT hr) (wU fU (by rfl) (by exact T.z _ (by decide)) N5 (cL (dv 0<|pv 0) dZ<|aO<|by rfl) (by decide) (by decide) (aO<|by rfl)<|bJ<|by rfl) (dv 1<|pv 1)<|qg _)<|qj<|jT<|c7<|wU (XR hc) (by rfl) (by exact T.z _ (by decide)) boot_all (cL (acB [] hc (bU<|by rfl) qK (qL<|bU<|by rfl) (bV<|dv 0<|pv 0) (fun _ _ _ _=>gD)<|fun _ _ _ _=>(zj (o_l_whole.mono<|by decide) hr (by rfl) (by exact ni) (by exact k_l_whole) (by exact b_l_whole) (cL (dv 0<|pv 0) dZ<|aO<|by rfl) (by decide) (aO<|by rfl)<|bJ<|by rfl)) dZ<|aO<|by rfl) (by decide) (by decide) (aO<|by rfl)<|bJ<|by rfl).pt (au<|aH Cq) aP)) ?_;exact au<|aH<|Ca (Jb (aeu hh) boot_any<|a1<|PJ [] (bV<|vV 0)<|fun _ _ _ _=>(O2 (xY qq) (vV 0) aA))<|BZ<|O2 (nZ qq) (Bx (iy T)<|a1<|vV 0)<|vV 0
theorem sE:Fk P w K mg base 12 "_law_spot" mK:=by
 refine fk (k:=11) ["_law_rest_here", "_law_far", "_law_numbers"] T.f60 T.z ?_;intro _ _ _ _ _ _ _ hr nd hc z;refine aq (xJ [0,1] (i:=2) (by assumption) (by rfl) (by exact Or.inl rfl) hh (bU<|by rfl) qK (qL<|bU<|by rfl) (QL<|a1 aA) (fun _ _ _ _=>gD)<|fun _ _ _ _=>(Bx (uM T)<|a2 (vV 1)<|vV 2)) ?_;refine aq (bQ (Ir (nZ qq) (vV 2)<|fD<|a3 aA aA aA) (au<|HF 2<|fD<|a3 aA aA aA) aP) ?_;exact au<|aH<|Bx (iy T)<|a1<|vV 2
theorem ahy:Fk P w K mg base 10 "_law_dot" MN:=by
 refine fk (k:=9) ["_law_one", "_law_other"] T.f61 T.z ?_;intro _ _ _ _ _ _ _ hr nd hc z;exact au<|aH<|Jb (Zx hh) boot_sum<|a1<|acB [] hh (bU<|by rfl) abQ (YS hh<|bU<|by rfl) (Ti (by rfl) (by exact T.z _ (by decide)) (a2 (vV 0)<|vV 1) (aO<|by rfl)<|bJ<|by rfl) (fun _ _ _ _=>gD)<|fun _ _ _ _=>(bC bZ (vV 0)<|vV 1)
theorem ahm:Fk P w K mg base 10 "_law_size" GZ:=by
 refine fk (k:=9) ["_law_numbers", "_law_a", "_law_b", "_law_c", "_law_d", "_law_e", "_law_f", "_law_g", "_law_h", "_law_i", "_law_whole_here"] T.f62 T.z ?_;intro _ _ _ _ _ _ _ hr nd hc z;refine aq (vR (lU (vV 0) (bR aA)<|bR aA)<|tQ hh<|cD (KJ 1)<|cD (KJ 2)<|cD (KJ 3) tO) ?_;refine aq (vR (lU (vV 0) (bR aA)<|bR aA)<|tQ hh<|cD (KJ 4)<|cD (KJ 5)<|cD (KJ 6) tO) ?_;refine aq (vR (lU (vV 0) (bR aA)<|bR aA)<|tQ hh<|cD (KJ 7)<|cD (KJ 8)<|cD (KJ 9) tO) ?_;refine aq (HF 10<|bC bZ (vV 1)<|bC kW (bC bZ (vV 5)<|vV 9)<|bC bZ (vV 6)<|vV 8) ?_;refine aq (HF 10<|bC kW (vV 10)<|bC bZ (vV 2)<|bC kW (bC bZ (vV 4)<|vV 9)<|bC bZ (vV 6)<|vV 7) ?_;exact au<|aH<|bC bH (vV 10)<|bC bZ (vV 3)<|bC kW (bC bZ (vV 4)<|vV 8)<|bC bZ (vV 5)<|vV 7
theorem zbA:Fk P w K mg base 12 "_law_map" M8:=by
 refine fk (k:=11) ["_law_rest_here", "_law_far", "_law_numbers"] T.f63 T.z ?_;intro _ _ _ _ _ _ _ hr nd hc z;refine aq (xJ [0,1] (i:=2) (by assumption) (by rfl) (by exact Or.inl rfl) hh (bU<|by rfl) qK (qL<|bU<|by rfl) (QL<|a1 aA) (fun _ _ _ _=>gD)<|fun _ _ _ _=>(Bx (uM T)<|a2 (vV 1)<|vV 2)) ?_;refine aq (bQ (Ir (nZ qq) (Bx (ahm T)<|a1<|vV 2) aA) (au<|HF 2<|fD<|aC aA<|aC aA<|aC (Cp (vV 2) aA)<|aC aA<|aC aA<|aC (Cp (vV 2) aA)<|a3 aA aA aA) aP) ?_;exact au<|aH<|Bx (iy T)<|a1<|vV 2
theorem Gq:Fk P w K mg base 12 "_law_led" pA:=by
 refine fk (k:=11) ["_law_by", "_law_spot_here"] T.f64 T.z ?_;intro _ _ _ _ _ _ _ hr nd hc z;exact au<|aH<|Bx (iy T)<|a1<|PJ [0,1] (QL<|a1 aA)<|fun _ _ _ _=>(Bx (ahy T)<|a2 (lU (vV 1) (bR<|bC bZ aA<|vV 0)<|bR<|bC bH (bC bZ aA<|vV 0) aA)<|vV 2)
theorem oN:Fk P w K mg base 12 "_law_mixed" nJ:=by
 refine fk (k:=11) ["_law_one", "_law_other", "_law_rest_here", "_law_left", "_law_right", "_law_numbers"] T.f65 T.z ?_;intro _ _ _ _ _ _ _ hr nd hc z;refine aq (HF 3<|bC kW (Bx (aX T)<|a2 (vV 2) aA) aA) ?_;refine aq (HF 4<|bC kW (Bx (aX T)<|a2 (vV 2) aA) aA) ?_;refine aq (xJ [3,4] (i:=5) (by assumption) (by rfl) (by exact Or.inl rfl) hh (bU<|by rfl) abQ (YS hh<|bU<|by rfl) (Ti (by rfl) (by exact T.z _ (by decide)) (a2 (vV 0)<|vV 1) (aO<|by rfl)<|bJ<|by rfl) (fun _ _ _ _=>gD)<|fun _ _ _ _=>(bC bH (bC bZ (vV 2)<|vV 0)<|bC bZ (vV 3)<|vV 1)) ?_;refine aq (bQ (Ir (nZ qq) (vV 5)<|fD<|a3 aA aA aA) (au<|aH<|vV 0) aP) ?_;exact au<|aH<|Bx (iy T)<|a1<|vV 5
theorem zaS:Fk P w K mg base 13 "_law_next" Gs:=by
 refine fk (k:=12) ["_law_spots", "_law_style", "_law_rest_here", "_law_way", "_law_one", "_law_other"] T.f66 T.z ?_;intro _ _ _ _ _ _ _ hr nd hc z;refine aq (HF 3<|Bx (aX T)<|a2 (vV 2) aA) ?_;refine aq (HF 4<|Cp (vV 0)<|Bx (aX T)<|a2 (vV 2)<|Jb fU N5<|a1<|vV 0) ?_;refine aq (HF 5<|Cp (vV 0)<|Bx (aX T)<|a2 (vV 2)<|Jb fU N5<|a1<|vV 0) ?_;refine aq (bQ (wJ (Ir (nZ qq) (vV 1) aA)<|wJ (Ir T7 (Jb fU N5<|a1<|vV 0) aA)<|uO<|Ir YB (vV 3) aA).pt (au<|aH<|Bx (oN T)<|a3 (Cp (vV 0) aA) (Cp (vV 0) aA)<|vV 2) aP) ?_;refine aq (bQ (vA (wJ (Ir (nZ qq) (vV 1) aA)<|uO<|Ir T7 (Jb fU N5<|a1<|vV 0) aA).pt (qj<|Ir (nZ qq) (vV 3) aA)).pt (au<|aH<|vV 4) aP) ?_;refine aq (bQ (Ir T7 (vV 3) aA) (au<|aH<|Bx (oN T)<|a3 (vV 4) (vV 5)<|vV 2) aP) ?_;exact au<|aH<|Bx (sE T)<|a2 (vV 2)<|bC Je aA aA
theorem pR:Fk P w K mg base 14 "_law_picture" lR:=by
 refine fk (k:=13) ["_law_rest_here", "_law_most", "_law_many", "_law_style", "_law_spots", "_law_k"] T.f67 T.z ?_;intro _ _ _ _ _ _ _ hr nd hc z;refine aq (HF 2<|Bx (aX T)<|a2 (vV 0)<|vV 1) ?_;refine aq (HF 3<|Bx (aX T)<|a2 (vV 0) aA) ?_;refine aq (HF 4<|v8<|a1<|Bx (sE T)<|a2 (vV 0)<|bC Je aA aA) ?_;refine aq (fH Oq hh (QL<|a1<|vV 2) (KJ 5)<|au<|lM<|q9 (vV 4) (a1<|Bx (zaS T)<|a3 (vV 4) (vV 3)<|vV 0) (by rfl) (Ea<|by rfl) (by rfl) (aO<|by rfl)<|by rfl) ?_;exact au<|aH<|vV 4
theorem zai:Fk P w K mg base 13 "_law_changed" sU:=by
 refine fk (k:=12) ["_law_spots", "_law_rest_here", "_law_at", "_law_way", "_law_one"] T.f68 T.z ?_;intro _ _ _ _ _ _ _ hr nd hc z;refine aq (HF 2<|Bx (aX T)<|a2 (vV 1)<|Jb fU N5<|a1<|vV 0) ?_;refine aq (HF 3<|Bx (aX T)<|a2 (vV 1) aA) ?_;refine aq (HF 4<|Cp (vV 0)<|Bx (aX T)<|a2 (vV 1)<|Jb fU N5<|a1<|vV 0) ?_;refine aq (bQ (Ir (nZ qq) (vV 3) aA) (au<|HF 4<|Bx (oN T)<|a3 (Cp (vV 0)<|vV 2) (vV 4)<|vV 1) aP) ?_;refine aq (bQ (Ir (nZ qq) (vV 3) aA) (au<|HF 4<|Bx (sE T)<|a2 (vV 1)<|bC Je aA aA) aP) ?_;exact au<|aH<|bC bH (bC bH (lU (vV 0) jy<|bR<|vV 2)<|fD<|a1<|vV 4)<|lU (vV 0) (bR<|bC bH (vV 2) aA) jy
theorem akm:Fk P w K mg base 15 "_law_two" Ek:=by
 refine fk (k:=14) ["_law_script", "_law_most", "_law_one", "_law_by", "_law_other", "_law_rest_here", "_law_way"] T.f69 T.z ?_;intro _ _ _ _ _ _ _ hr nd hc z;refine aq (HF 2<|Bx (pR T)<|a2 (Bx (mF T)<|a2 (vV 0) aA)<|vV 1) ?_;refine aq (HF 3<|Bx (zbA T)<|a2 (Bx (mF T)<|a2 (vV 0) aA)<|bC Je aA aA) ?_;refine aq (xJ [3] (i:=4) (by assumption) (by rfl) (by exact Or.inl rfl) hh (bU<|by rfl) qK (qL<|bU<|by rfl) (bV<|vV 2) (fun _ _ _ _=>gD)<|fun _ _ _ _=>(Bx (Gq T)<|a2 (vV 1)<|vV 0)) ?_;refine aq (HF 5<|Bx (mF T)<|a2 (vV 0) aA) ?_;refine aq (HF 6<|Bx (aX T)<|a2 (vV 5) aA) ?_;refine aq (bQ (vA (Ir (nZ qq) (vV 6) aA)<|qj<|Ir (nZ qq) (vV 6) aA).pt (au<|HF 4<|Bx (zai T)<|a2 (vV 4)<|vV 5) aP) ?_;refine aq (bQ (Ir (nZ qq) (vV 6) aA) (aq (HF 4<|Bx (pR T)<|a2 (vV 5)<|vV 1)<|au<|HF 4<|lU (bC bH (vV 4)<|vV 2) jy<|bR<|Jb fU N5<|a1<|vV 2) aP) ?_;refine aq (bQ (Ir (nZ qq) (Bx (aX T)<|a2 (vV 5) aA) aA) (au<|HF 4<|bC bH (bC bH (lU (vV 4) (bR aA) jy)<|lU (vV 4) jy<|bR aA)<|lU (vV 4) jy<|bR aA) aP) ?_;exact au<|aH<|jg<|a2 (vV 2)<|lU (vV 4) jy<|bR aA
theorem iC:Fk P w K mg base 1 "_law_kinds" jL:=by
 refine fkN (k:=0) ["_law_e", "_law_kinds_here"] T.f70 T.z ?_;intro _ _ _ _ _ _ _ hr nd z;refine aq (HF 1<|fD<|aC (U5 T.xm_Nothing T.xd_Nothing<|vV 0)<|a3 (U5 T.xm_Alike T.xd_Alike<|vV 0) (U5 T.xm_NoMap T.xd_NoMap<|vV 0)<|U5 T.xm_NotFree T.xd_NotFree<|vV 0) ?_;refine aq (HF 1<|bC bH (vV 1)<|fD<|aC (U5 T.xm_NotOnLine T.xd_NotOnLine<|vV 0)<|a3 (U5 T.xm_NoThrow T.xd_NoThrow<|vV 0) (U5 T.xm_NoPicture T.xd_NoPicture<|vV 0)<|U5 T.xm_Apart T.xd_Apart<|vV 0) ?_;refine aq (bQ (c7<|S6 (by rfl) (by exact T.z _ (by decide)) (vV 0) (pC T.xm_Stuck T.xd_Stuck<|pC T.xm_NotOnEdge T.xd_NotOnEdge<|pC T.xm_NoPart T.xd_NoPart<|pC T.xm_FourOnLine T.xd_FourOnLine<|pC T.xm_ThreeOnLine T.xd_ThreeOnLine<|pC T.xm_NotRound T.xd_NotRound<|pC T.xm_NotOn T.xd_NotOn<|pC T.xm_InCurve T.xd_InCurve<|pC T.xm_Knot T.xd_Knot<|pC T.xm_TooMuch T.xd_TooMuch QZ.nil) (by exact Xx rfl) (aO<|by rfl) (aO<|by rfl)<|bJ<|by rfl) (au<|aH<|fD dZ) aP) ?_;refine aq (bQ (c7<|S6 (by rfl) (by exact T.z _ (by decide)) (vV 0) (pC T.xm_Tied T.xd_Tied<|pC T.xm_NoText T.xd_NoText<|pC T.xm_NoName T.xd_NoName<|pC T.xm_Short T.xd_Short QZ.nil) (by exact Xx rfl) (aO<|by rfl) (aO<|by rfl)<|bJ<|by rfl) (au<|aH<|fD dZ) aP) ?_;exact au<|aH<|bC bH (vV 1)<|fD<|a1<|Uz (by rfl) (by exact T.z _ (by decide)) (vV 0) (lX (v:=.ty "ValueError") (by rfl) (by exact T.z _ (by decide)) PyProof.Rows.Boot.«ValueError»<|by rfl) Oo.val (aO<|by rfl) (aO<|by rfl)<|bJ<|by rfl
theorem jC:Fk P w K mg base 1 "_law_only" mO:=by
 refine fkN (k:=0) ["_law_kinds_here", "_law_due"] T.f71 T.z ?_;intro _ _ _ _ _ _ _ hr nd z;exact au<|aH<|O2 (nZ qq) (vV 0)<|bC bH (acM [1] (bU<|by rfl) qK (qL<|bU<|by rfl) (by rfl) (by exact T.z _ (by decide)) (a1 aA) (Od<|by rfl) (fun _ _ _ _=>gD)<|fun _ _ _ _=>(O2 (nZ qq) (vV 0)<|vV 1))<|fD<|a1 Cq
theorem zbg {F_twos_differ F_threes_differ F_throws_differ:Addr}(A_twos_differ:Lb P w K mg base 10 "twos_differ" bF F_twos_differ)(A_threes_differ:Lb P w K mg base 13 "threes_differ" bf F_threes_differ)(A_throws_differ:Lb P w K mg base 13 "throws_differ" aY F_throws_differ):Fk P w K mg base 19 "_law_told" (Fg F_twos_differ F_threes_differ F_throws_differ):=by
 refine fk (k:=18) ["_law_one", "_law_other", "_law_found", "_law_e"] T.f72 T.z ?_;intro _ _ _ _ _ _ _ hr nd hc z;refine aq (HF 2 lZ) ?_;refine aq (MF (i:=3) (i':=3) (by assumption) (by rfl) (by rfl) (by rfl) (by rfl) (by rfl) T.xm_Apart T.xd_Apart (by rfl) T.xm_EaselError T.xd_EaselError ⟨rfl,rfl⟩ rfl (fun alP xe σ0=>(fV<|yp (i:=2) (by assumption) (by rfl) (by exact Or.inl rfl)<|Ot (zat T A_twos_differ A_threes_differ A_throws_differ)<|a2 (vV 0)<|vV 1)) (fun a H0=>rhd (a:=a) hr (by decide) fun hr=>(au<|aH<|jg<|aC nM<|a3 (Bx (jC T)<|a2 (Bx (iC T)<|a1<|vV 3) aA) (Gf (vV 3)<|by rfl)<|Gf (vV 3)<|by rfl))<|fun a H0=>rhd (a:=a) hr (by decide) fun hr=>(au<|aH<|jg<|a2 nM<|Bx (jC T)<|a2 (Bx (iC T)<|a1<|vV 3) aA)) ?_;exact au<|aH<|jg<|a2 nM<|vV 2
theorem zaB:Fk P w K mg base 4 "_law_told" zx:=by
 refine fkN (k:=3) ["_law_one", "_law_other", "_law_found", "_law_e"] T.f72 T.z ?_;intro _ _ _ _ _ _ _ hr nd z;refine aq (HF 2 lZ) ?_;refine aq (MF (i:=3) (i':=3) (by assumption) (by rfl) (by rfl) (by rfl) (by rfl) (by rfl) T.xm_Apart T.xd_Apart (by rfl) T.xm_EaselError T.xd_EaselError ⟨rfl,rfl⟩ rfl (fun alP xe σ0=>(fV<|yp (i:=2) (by assumption) (by rfl) (by exact Or.inl rfl)<|Ot (zar T)<|a2 (vV 0)<|vV 1)) (fun a H0=>rhj (a:=a) hr (by decide) fun hr=>(au<|aH<|jg<|aC nM<|a3 (Bx (jC T)<|a2 (Bx (iC T)<|a1<|vV 3) aA) (Gf (vV 3)<|by rfl)<|Gf (vV 3)<|by rfl))<|fun a H0=>rhj (a:=a) hr (by decide) fun hr=>(au<|aH<|jg<|a2 nM<|Bx (jC T)<|a2 (Bx (iC T)<|a1<|vV 3) aA)) ?_;exact agG
theorem jH {F_twos_differ F_threes_differ F_throws_differ:Addr}(A_twos_differ:Lb P w K mg base 10 "twos_differ" bF F_twos_differ)(A_threes_differ:Lb P w K mg base 13 "threes_differ" bf F_threes_differ)(A_throws_differ:Lb P w K mg base 13 "throws_differ" aY F_throws_differ):Fk P w K mg base 20 "_law_no_picture" (lB F_twos_differ F_threes_differ F_throws_differ):=by
 refine fk (k:=19) ["_law_one", "_law_other", "_law_e"] T.f73 T.z ?_;intro _ _ _ _ _ _ _ hr nd hc z;refine aq (aiU (i:=2) (by assumption) (by rfl) (by rfl) (by rfl) T.xm_EaselError T.xd_EaselError ⟨rfl,rfl⟩ rfl (fun alP xe σ0=>(fV<|mH<|Ot (uH T A_twos_differ A_threes_differ A_throws_differ)<|a2 (vV 0)<|vV 1))<|fun a H0=>rhd (a:=a) hr (by decide) fun hr=>(au<|aH<|Ca (Bx (jC T)<|a2 (Bx (iC T)<|a1<|vV 2) aA)<|BZ<|O2 (nZ qq) (Bx (zaB T)<|a2 (vV 0)<|vV 1)<|jg<|a2 nM Cq)) ?_;exact au<|aH Cq
theorem abv {F_twos_differ F_threes_differ F_throws_differ:Addr}(A_twos_differ:Lb P w K mg base 10 "twos_differ" bF F_twos_differ)(A_threes_differ:Lb P w K mg base 13 "threes_differ" bf F_threes_differ)(A_throws_differ:Lb P w K mg base 13 "throws_differ" aY F_throws_differ){f:Addr}{fd:Ln}(F:Qm K "law" "law" W4 f fd):jE P w K mg base Lf 21 f fd ["_law_script"] (lift K (Wk F_twos_differ F_threes_differ F_throws_differ)):=by
 have S:eE ["_law_script", "_law_one", "_law_other", "_law_handed", "_law_gap", "_law_found", "_law_rest_here", "_law_row"] ["_law_script"] (aQ W4):=⟨rfl,rfl,rfl,by decide +kernel,rfl,by decide +kernel,by decide +kernel⟩
 refine adU (k:=20) F S fun _ _ _ _ _ _ hr=>?_;have hc:=hr.calm (by decide);have nd:=S.nd;have z:=T.z;obtain ⟨_,_,_,o_l_is_row,jZ,k_l_is_row,b_l_is_row⟩:=agk T;obtain ⟨_,_,_,o_is_map,qT,k_is_map,b_is_map⟩:=ahH T;obtain ⟨_,_,_,o_l_led,pA,k_l_led,b_l_led⟩:=Gq T;refine aq (vR (Bx (akm T)<|a2 (vV 0) aA)<|tQ hh<|cD (KJ 1)<|cD (KJ 2) tO) ?_;refine aq (HF 3<|fD<|a2 (dct rB V7<|a1<|vV 1)<|dct rB V7<|a1<|vV 2) ?_;refine aq (HF 4<|Bx (akk T A_twos_differ A_threes_differ A_throws_differ)<|a2 (Cp (vV 3) aA)<|Cp (vV 3) aA) ?_;refine aq (HF 5<|Bx (zbg T A_twos_differ A_threes_differ A_throws_differ)<|a2 (Cp (vV 3) aA)<|Cp (vV 3) aA) ?_;refine aq (bQ (Ir (ad1 qq) (vV 3)<|fD<|a2 (vV 1)<|vV 2) (au<|aH Cq) aP) ?_;refine aq ((bQ (rG wu (dv 4<|pv 4) lZ<|qg _) (au<|bQ (rG (xY<|YT hr) (dv 5<|pv 5) (jg<|cL nM (cL Cq (cL (X7 (dv 4<|pv 4) aA (by intro _ _;rfl)) (cL (X7 (dv 4<|pv 4) aA (by intro _ _;rfl)) dZ<|aO<|by rfl)<|aO<|by rfl)<|aO<|by rfl)<|aO<|by rfl)<|qg _) (au<|aH Cq) aP)<|aq (bQ (vA (rG (xY<|YT hr) (X7 (dv 5<|pv 5) aA (by intro _ _;rfl)) nM<|qg _)<|vA (jT<|c7<|zj (o_l_is_row.mono<|by decide) hr (by rfl) (by exact jZ) (by exact k_l_is_row) (by exact b_l_is_row) (cL (X7 (dv 5<|pv 5) aA (by intro _ _;rfl)) (cL aA dZ<|aO<|by rfl)<|aO<|by rfl) (by decide) (aO<|by rfl)<|bJ<|by rfl)<|qj<|rG wu (zj (o_is_map.mono<|by decide) hr (by rfl) (by exact qT) (by exact k_is_map) (by exact b_is_map) (cL (X7 (dv 5<|pv 5) aA (by intro _ _;rfl)) dZ<|aO<|by rfl) (by decide) (aO<|by rfl)<|bJ<|by rfl) Cq<|qg _).pt (au<|aH Cq) aP)<|au<|bQ (rG (xY<|YT hr) (acB [5] hc (bU<|by rfl) qK (qL<|bU<|by rfl) (bV<|dv 1<|pv 1) (fun _ _ _ _=>gD)<|fun _ _ _ _=>(zj (o_l_led.mono<|by decide) hr (by rfl) (by exact pA) (by exact k_l_led) (by exact b_l_led) (cL (X7 (dv 1<|pv 1) aA (by intro _ _;rfl)) (cL (dv 0<|pv 0) dZ<|aO<|by rfl)<|aO<|by rfl) (by decide) (aO<|by rfl)<|bJ<|by rfl)) (dv 2<|pv 2)<|qg _) (au<|aH Cq) aP)) ?_;refine aq (HF 6<|Bx (mF T)<|a2 (vV 0) aA) ?_;refine aq (xJ [1,6] (i:=7) (by assumption) (by rfl) (by exact Or.inl rfl) hh (bU<|by rfl) qK (qL<|bU<|by rfl) (QL<|a1<|Cp (fD<|a2 aA<|bC bH aA<|Bx (aX T)<|a2 (vV 6) aA)<|Bx (aX T)<|a2 (vV 6) aA) (fun _ _ _ _=>gD)<|fun _ _ _ _=>(Cp (vV 1)<|Bx (aX T)<|a2 (vV 2)<|Jb fU N5<|a1<|vV 1)) ?_;exact au<|aH<|Ca (Bx (jH T A_twos_differ A_threes_differ A_throws_differ)<|a2 (dct rB V7<|a1<|vV 7)<|dct rB V7<|a1<|vV 2)<|BZ<|Bx (jH T A_twos_differ A_threes_differ A_throws_differ)<|a2 (dct rB V7<|a1<|vV 2)<|dct rB V7<|a1<|vV 7
end
variable {mg : Str->Option Mk}{K : Bl}
def fO (x:Str)(s:Stmt)(oc:Mk)(od:Option Addr)(kV dc pm:Mk)(an:Option Addr)(cd ct:Mk)(sl:Array (Option Mk)):Option Obj:=Dn ⟨oc,od,.func (U8 x x (lY s) (cT s) (aQ s) .none kV dc pm an cd ct),sl⟩
def sR (f:Addr):Option (Option Mk):=Dn (Dn (.ref f))
def fM (x q:Str)(s:Stmt)(oc:Mk)(od:Option Addr)(kV dc pm:Mk)(an:Option Addr)(cd ct:Mk)(sl:Array (Option Mk)):Option Obj:=Dn ⟨oc,od,.func (U8 x q (lY s) (cT s) (aQ s) .none kV dc pm an cd ct),sl⟩
def cA (K:Bl)(x:Str)(s:Stmt):Prop:=∃ f oc od kV dc pm an cd ct sl,Iw K IK x=sR f/\K.lookup f=fO x s oc od kV dc pm an cd ct sl/\W9 K cd x=true/\Og K (.ref f)=true
theorem La {x:Str}{s:Stmt}{f:Addr}{oc:Mk}{od:Option Addr}{kV dc pm:Mk}{an:Option Addr}{cd ct:Mk}{sl:Array (Option Mk)}(a:Iw K IK x=sR f)(l:K.lookup f=fO x s oc od kV dc pm an cd ct sl)(c:W9 K cd x=true)(k:Og K (.ref f)=true):cA K x s:=⟨f,oc,od,kV,dc,pm,an,cd,ct,sl,a,l,c,k⟩
theorem aW {h:Heap}{x:Str}{st:Stmt}{ps:List Str}(X:K.In h)(G:h.Ns IK mg)(H:cA K x st)(hb:∀ (kV doc pm:Mk) (an:Option Addr) (cdv ct:Mk) (us:List Mk),us.length=ps.length->bindArgs (U8 x x (lY st) (cT st) (aQ st) .none kV doc pm an cdv ct) ⟨us,[]⟩=pure (ps.zip us):=by intro _ _ _ _ _ _ us hl;first | (match us,hl with | [],_=>rfl) | (match us,hl with | [_],_=>rfl) | (match us,hl with | [_,_],_=>rfl) | (match us,hl with | [_,_,_],_=>rfl) | (match us,hl with | [_,_,_,_],_=>rfl)):At K mg x st ps:=by
 obtain ⟨f,oc,od,kV,dc,pm,an,cd,ct,sl,a,l,c,k⟩:=H;exact ⟨f,_,Gx (st:=st) l c k,Ld X G a,(Gx (st:=st) l c k).binds hb⟩
theorem zc {n:Str}{l:List Str}(a:mg n=JI)(b:∀ m∈l,mg m=JI):∀ m∈n::l,mg m=JI:=List.forall_mem_cons.2 ⟨a,b⟩
theorem all_mk {l:PySem.W.OpenLaw}{w:Cw}{h:Heap}{fa:Addr}(hlaw:∀ (F_twos_differ F_threes_differ F_throws_differ:Addr),∀ ns:List Int,ns.length<=63->Wk F_twos_differ F_threes_differ F_throws_differ [.kls (ns.map W.int)] g0 (fun w _=>w=.bl true) EF)(X:K.In h)(G:h.Ns IK mg)(hfa:mg "law" = Dn (.ref fa))
  (h0:cA K "is_whole" (top 25))
  (h1:cA K "divisor_of_two" (top 26))
  (h2:cA K "divisor" (top 27))
  (h3:cA K "ends_below" (top 28))
  (h4:cA K "plain" (top 29))
  (h5:cA K "is_plain" (top 30))
  (h6:cA K "dot" (top 32))
  (h7:cA K "cross" (top 33))
  (h8:cA K "turn" (top 34))
  (h9:cA K "lies_on" (top 35))
  (h10:cA K "share_one" (top 36))
  (h11:cA K "on_line" (top 37))
  (h12:cA K "plain_cross" (top 38))
  (h13:cA K "join" (top 39))
  (h14:cA K "rising" (top 41))
  (h15:cA K "picked" (top 42))
  (h16:cA K "rows_of" (top 45))
  (h17:cA K "size_of" (top 46))
  (h18:cA K "is_map" (top 47))
  (h19:cA K "table_times_row" (top 48))
  (h20:cA K "flipped" (top 49))
  (h21:cA K "table_times_table" (top 50))
  (h22:cA K "turned" (top 51))
  (h23:cA K "led" (top 52))
  (h24:cA K "then" (top 53))
  (h25:cA K "back" (top 54))
  (h26:cA K "tiles" (top 55))
  (h27:cA K "are_free" (top 56))
  (h28:cA K "from_tiles" (top 57))
  (h29:cA K "map_between" (top 58))
  (h30:cA K "check_picture" (top 60))
  (h31:cA K "first_free" (top 61))
  (h32:cA K "unlike_spots" (top 62))
  (h33:cA K "line_of_three" (top 63))
  (h34:cA K "units" (top 64))
  (h35:cA K "spot_between" (top 65))
  (h36:cA K "leading_of_line" (top 66))
  (h37:cA K "filled_up" (top 67))
  (h38:cA K "leading_of_few" (top 68))
  (h39:cA K "leading" (top 69))
  (h40:cA K "place_off" (top 71))
  (h41:cA K "turn_at" (top 72))
  (h42:cA K "has_three_alike" (top 73))
  (h43:cA K "throw_numbers" (top 74))
  (h44:cA K "twos_differ" (top 77))
  (h45:cA K "threes_differ" (top 78))
  (h46:cA K "throws_differ" (top 79))
  (h47:cA K "first_places" (top 76))
  (h48:cA K "fifth_apart" (top 80))
  (h49:cA K "apart_of_as_many" (top 81))
  (h50:cA K "apart" (top 82))
  (h51:cA K "map_to" (top 83))
  (h52:cA K "_law_cell_at" (top 85))
  (h53:cA K "_law_rest" (top 86))
  (h54:cA K "_law_digit" (top 87))
  (h55:cA K "_law_number" (top 88))
  (h56:cA K "_law_whole" (top 89))
  (h57:cA K "_law_divisor" (top 90))
  (h58:cA K "_law_plain" (top 91))
  (h59:cA K "_law_is_row" (top 92))
  (h60:cA K "_law_spot" (top 93))
  (h61:cA K "_law_dot" (top 95))
  (h62:cA K "_law_size" (top 96))
  (h63:cA K "_law_map" (top 97))
  (h64:cA K "_law_led" (top 98))
  (h65:cA K "_law_mixed" (top 99))
  (h66:cA K "_law_next" (top 100))
  (h67:cA K "_law_picture" (top 101))
  (h68:cA K "_law_changed" (top 102))
  (h69:cA K "_law_two" (top 103))
  (h70:cA K "_law_kinds" (top 104))
  (h71:cA K "_law_only" (top 105))
  (h72:cA K "_law_told" (top 106))
  (h73:cA K "_law_no_picture" (top 107))
  (h74:cA K "law" (top 108))
  (z_ValueError:Iw K IK "ValueError" = Dn JI)
  (z_abs:Iw K IK "abs" = Dn JI)
  (z_all:Iw K IK "all" = Dn JI)
  (z_any:Iw K IK "any" = Dn JI)
  (z_bool:Iw K IK "bool" = Dn JI)
  (z_int:Iw K IK "int" = Dn JI)
  (z_isinstance:Iw K IK "isinstance" = Dn JI)
  (z_len:Iw K IK "len" = Dn JI)
  (z_list:Iw K IK "list" = Dn JI)
  (z_max:Iw K IK "max" = Dn JI)
  (z_min:Iw K IK "min" = Dn JI)
  (z_range:Iw K IK "range" = Dn JI)
  (z_reversed:Iw K IK "reversed" = Dn JI)
  (z_sum:Iw K IK "sum" = Dn JI)
  (z_tuple:Iw K IK "tuple" = Dn JI)
  (z_zip:Iw K IK "zip" = Dn JI)
  {rM:Addr} {slk_TILES:Array (Option Mk)} {nk_TILES:Nat} {k_TILES_0:Addr} {slk_TILES_0:Array (Option Mk)} {nk_TILES_0:Nat} {t_TILES_0_0:_} {t_TILES_0_1:_} {t_TILES_0_2:_} {k_TILES_1:Addr} {slk_TILES_1:Array (Option Mk)} {nk_TILES_1:Nat} {t_TILES_1_0:_} {t_TILES_1_1:_} {t_TILES_1_2:_} {k_TILES_2:Addr} {slk_TILES_2:Array (Option Mk)} {nk_TILES_2:Nat} {t_TILES_2_0:_} {t_TILES_2_1:_} {t_TILES_2_2:_} {k_TILES_3:Addr} {slk_TILES_3:Array (Option Mk)} {nk_TILES_3:Nat} {t_TILES_3_0:_} {t_TILES_3_1:_} {t_TILES_3_2:_}
  (gk_TILES:Iw K IK "TILES" = Dn (Dn (.ref rM)))
  (lk_TILES:K.lookup rM=Dn ⟨.type "tuple",JI,.seq #[(.ref k_TILES_0),(.ref k_TILES_1),(.ref k_TILES_2),(.ref k_TILES_3)] nk_TILES,slk_TILES⟩)
  (lk_TILES_0:K.lookup k_TILES_0=Dn ⟨.type "tuple",JI,.seq #[(.int 1 t_TILES_0_0),(.int 0 t_TILES_0_1),(.int 0 t_TILES_0_2)] nk_TILES_0,slk_TILES_0⟩)
  (lk_TILES_1:K.lookup k_TILES_1=Dn ⟨.type "tuple",JI,.seq #[(.int 0 t_TILES_1_0),(.int 1 t_TILES_1_1),(.int 0 t_TILES_1_2)] nk_TILES_1,slk_TILES_1⟩)
  (lk_TILES_2:K.lookup k_TILES_2=Dn ⟨.type "tuple",JI,.seq #[(.int 0 t_TILES_2_0),(.int 0 t_TILES_2_1),(.int 1 t_TILES_2_2)] nk_TILES_2,slk_TILES_2⟩)
  (lk_TILES_3:K.lookup k_TILES_3=Dn ⟨.type "tuple",JI,.seq #[(.int 1 t_TILES_3_0),(.int 1 t_TILES_3_1),(.int 1 t_TILES_3_2)] nk_TILES_3,slk_TILES_3⟩)
  {x_EaselError:Addr}
  {x_Nothing:Addr}
  {x_Alike:Addr}
  {x_NoMap:Addr}
  {x_NotFree:Addr}
  {x_NotOnLine:Addr}
  {x_NoThrow:Addr}
  {x_NoPicture:Addr}
  {x_Apart:Addr}
  {x_Stuck:Addr}
  {x_NotOnEdge:Addr}
  {x_NoPart:Addr}
  {x_FourOnLine:Addr}
  {x_ThreeOnLine:Addr}
  {x_Knot:Addr}
  {x_NotRound:Addr}
  {x_NotOn:Addr}
  {x_InCurve:Addr}
  {x_TooMuch:Addr}
  {x_Tied:Addr}
  {x_NoText:Addr}
  {x_NoName:Addr}
  {x_Short:Addr}
  {fi_Apart:Addr} {odi_Apart ani_Apart:Option Addr} {sli_Apart:Array (Option Mk)} {oci_Apart kVi_Apart dci_Apart pmi_Apart cdi_Apart cti_Apart:Mk}
  (gx_EaselError:Iw K IK "EaselError" = sR x_EaselError) (xd_EaselError:cW K x_EaselError "EaselError" = true)
  (gx_Nothing:Iw K IK "Nothing" = sR x_Nothing) (xd_Nothing:cW K x_Nothing "Nothing" = true)
  (gx_Alike:Iw K IK "Alike" = sR x_Alike) (xd_Alike:cW K x_Alike "Alike" = true)
  (gx_NoMap:Iw K IK "NoMap" = sR x_NoMap) (xd_NoMap:cW K x_NoMap "NoMap" = true)
  (gx_NotFree:Iw K IK "NotFree" = sR x_NotFree) (xd_NotFree:cW K x_NotFree "NotFree" = true)
  (gx_NotOnLine:Iw K IK "NotOnLine" = sR x_NotOnLine) (xd_NotOnLine:cW K x_NotOnLine "NotOnLine" = true)
  (gx_NoThrow:Iw K IK "NoThrow" = sR x_NoThrow) (xd_NoThrow:cW K x_NoThrow "NoThrow" = true)
  (gx_NoPicture:Iw K IK "NoPicture" = sR x_NoPicture) (xd_NoPicture:cW K x_NoPicture "NoPicture" = true)
  (xc_NoPicture:u0 K x_NoPicture "NoPicture" = true) (xq_NoPicture:WY K x_NoPicture QF "ValueError.__new__" = true)
  (gx_Apart:Iw K IK "Apart" = sR x_Apart) (xd_Apart:cW K x_Apart "Apart" = true)
  (gx_Stuck:Iw K IK "Stuck" = sR x_Stuck) (xd_Stuck:cW K x_Stuck "Stuck" = true)
  (gx_NotOnEdge:Iw K IK "NotOnEdge" = sR x_NotOnEdge) (xd_NotOnEdge:cW K x_NotOnEdge "NotOnEdge" = true)
  (gx_NoPart:Iw K IK "NoPart" = sR x_NoPart) (xd_NoPart:cW K x_NoPart "NoPart" = true)
  (gx_FourOnLine:Iw K IK "FourOnLine" = sR x_FourOnLine) (xd_FourOnLine:cW K x_FourOnLine "FourOnLine" = true)
  (gx_ThreeOnLine:Iw K IK "ThreeOnLine" = sR x_ThreeOnLine) (xd_ThreeOnLine:cW K x_ThreeOnLine "ThreeOnLine" = true)
  (gx_Knot:Iw K IK "Knot" = sR x_Knot) (xd_Knot:cW K x_Knot "Knot" = true)
  (gx_NotRound:Iw K IK "NotRound" = sR x_NotRound) (xd_NotRound:cW K x_NotRound "NotRound" = true)
  (gx_NotOn:Iw K IK "NotOn" = sR x_NotOn) (xd_NotOn:cW K x_NotOn "NotOn" = true)
  (gx_InCurve:Iw K IK "InCurve" = sR x_InCurve) (xd_InCurve:cW K x_InCurve "InCurve" = true)
  (gx_TooMuch:Iw K IK "TooMuch" = sR x_TooMuch) (xd_TooMuch:cW K x_TooMuch "TooMuch" = true)
  (gx_Tied:Iw K IK "Tied" = sR x_Tied) (xd_Tied:cW K x_Tied "Tied" = true)
  (gx_NoText:Iw K IK "NoText" = sR x_NoText) (xd_NoText:cW K x_NoText "NoText" = true)
  (gx_NoName:Iw K IK "NoName" = sR x_NoName) (xd_NoName:cW K x_NoName "NoName" = true)
  (gx_Short:Iw K IK "Short" = sR x_Short) (xd_Short:cW K x_Short "Short" = true)
  (ai_Apart:M6 K (.ref x_Apart) "__init__" = sR fi_Apart) (li_Apart:K.lookup fi_Apart=fM "__init__" "Apart.__init__" fZ oci_Apart odi_Apart kVi_Apart dci_Apart pmi_Apart ani_Apart cdi_Apart cti_Apart sli_Apart) (ci_Apart:W9 K cdi_Apart "Apart.__init__" = true) (ki_Apart:Og K (.ref fi_Apart)=true)
  (xi_Apart:HY K x_Apart fi_Apart QF "ValueError.__new__" = true) (xf_Apart:WW K (.ref fi_Apart)=true) (xa_Apart:T9 K x_Apart "Apart" = true) (xs_Apart:Td K x_Apart "word" = true) (xs2_Apart:Td K x_Apart "places" = true)
  : ∃ fd:Ln,(∀ (s:Af) (v:Mk),BindsTo s fd ⟨[v],[]⟩ [("_law_script",v)])/\∀ base:Heap,K.In base->base.Ns IK mg->jE l.prog w K mg base Lf 21 fa fd ["_law_script"] (Rp K):=by
 have Fi_Apart:=Gx (st:=fZ) li_Apart ci_Apart ki_Apart;have bi_Apart:=Fi_Apart.binds (ps:=["self", "word", "places"]) fun _ _ _ _ _ _ us hl=>match us,hl with | [_,_,_],_=>rfl
 have T:∀ base,Txt l.prog w K mg base ⟨x_EaselError,x_Nothing,x_Alike,x_NoMap,x_NotFree,x_NotOnLine,x_NoThrow,x_NoPicture,x_Apart,x_Stuck,x_NotOnEdge,x_NoPart,x_FourOnLine,x_ThreeOnLine,x_Knot,x_NotRound,x_NotOn,x_InCurve,x_TooMuch,x_Tied,x_NoText,x_NoName,x_Short,fi_Apart,_⟩:=fun _=>⟨aW X G h0,aW X G h1,aW X G h2,aW X G h3,aW X G h4,aW X G h5,aW X G h6,aW X G h7,aW X G h8,aW X G h9,aW X G h10,aW X G h11,aW X G h12,aW X G h13,aW X G h14,aW X G h15,aW X G h16,aW X G h17,aW X G h18,aW X G h19,aW X G h20,aW X G h21,aW X G h22,aW X G h23,aW X G h24,aW X G h25,aW X G h26,aW X G h27,aW X G h28,aW X G h29,aW X G h30,aW X G h31,aW X G h32,aW X G h33,aW X G h34,aW X G h35,aW X G h36,aW X G h37,aW X G h38,aW X G h39,aW X G h40,aW X G h41,aW X G h42,aW X G h43,aW X G h44,aW X G h45,aW X G h46,aW X G h47,aW X G h48,aW X G h49,aW X G h50,aW X G h51,aW X G h52,aW X G h53,aW X G h54,aW X G h55,aW X G h56,aW X G h57,aW X G h58,aW X G h59,aW X G h60,aW X G h61,aW X G h62,aW X G h63,aW X G h64,aW X G h65,aW X G h66,aW X G h67,aW X G h68,aW X G h69,aW X G h70,aW X G h71,aW X G h72,aW X G h73,zc (Pg X G z_ValueError) (zc (Pg X G z_abs) (zc (Pg X G z_all) (zc (Pg X G z_any) (zc (Pg X G z_bool) (zc (Pg X G z_int) (zc (Pg X G z_isinstance) (zc (Pg X G z_len) (zc (Pg X G z_list) (zc (Pg X G z_max) (zc (Pg X G z_min) (zc (Pg X G z_range) (zc (Pg X G z_reversed) (zc (Pg X G z_sum) (zc (Pg X G z_tuple) (zc (Pg X G z_zip) (fun _ h=>nomatch h)))))))))))))))),⟨_,Ld X G gk_TILES,fun _ _=>((mR lk_TILES (by simp <;> decide) (.cons acz (.cons acz (.cons acz (.cons acz .nil)))) fun _ _=>(j8 ((mR lk_TILES_0 (by simp <;> decide) (.cons Jp (.cons Jp (.cons Jp .nil))) fun _ _=>(j8 Jq (j8 Jq (j8 Jq M9)))) _ _) (j8 ((mR lk_TILES_1 (by simp <;> decide) (.cons Jp (.cons Jp (.cons Jp .nil))) fun _ _=>(j8 Jq (j8 Jq (j8 Jq M9)))) _ _) (j8 ((mR lk_TILES_2 (by simp <;> decide) (.cons Jp (.cons Jp (.cons Jp .nil))) fun _ _=>(j8 Jq (j8 Jq (j8 Jq M9)))) _ _) (j8 ((mR lk_TILES_3 (by simp <;> decide) (.cons Jp (.cons Jp (.cons Jp .nil))) fun _ _=>(j8 Jq (j8 Jq (j8 Jq M9)))) _ _) M9))))) _ _)⟩,Ld X G gx_EaselError,xd_EaselError,Ld X G gx_Nothing,xd_Nothing,Ld X G gx_Alike,xd_Alike,Ld X G gx_NoMap,xd_NoMap,Ld X G gx_NotFree,xd_NotFree,Ld X G gx_NotOnLine,xd_NotOnLine,Ld X G gx_NoThrow,xd_NoThrow,Ld X G gx_NoPicture,xd_NoPicture,xc_NoPicture,xq_NoPicture,Ld X G gx_Apart,xd_Apart,Ld X G gx_Stuck,xd_Stuck,Ld X G gx_NotOnEdge,xd_NotOnEdge,Ld X G gx_NoPart,xd_NoPart,Ld X G gx_FourOnLine,xd_FourOnLine,Ld X G gx_ThreeOnLine,xd_ThreeOnLine,Ld X G gx_Knot,xd_Knot,Ld X G gx_NotRound,xd_NotRound,Ld X G gx_NotOn,xd_NotOn,Ld X G gx_InCurve,xd_InCurve,Ld X G gx_TooMuch,xd_TooMuch,Ld X G gx_Tied,xd_Tied,Ld X G gx_NoText,xd_NoText,Ld X G gx_NoName,xd_NoName,Ld X G gx_Short,xd_Short,Fi_Apart,bi_Apart,xi_Apart,xf_Apart,xa_Apart,xs_Apart,xs2_Apart⟩
 obtain ⟨f,oc,od,kV,dc,pm,an,cd,ct,sl,a,l,c,k⟩:=h74;have e:=hfa.symm.trans (Ld X G a);cases e;exact ⟨_,fun s v=>.of_eq rfl,fun base _ _=>by
  obtain ⟨F_twos_differ,A_twos_differ⟩:=(vg (T base)).at
  obtain ⟨F_threes_differ,A_threes_differ⟩:=(qF (T base)).at
  obtain ⟨F_throws_differ,A_throws_differ⟩:=(qz (T base)).at
  exact aiI (hlaw F_twos_differ F_threes_differ F_throws_differ) (abv (T base) A_twos_differ A_threes_differ A_throws_differ (Gx (st:=W4) l c k))⟩
variable {XP : (Str->Option Mk)->Heap->Prop}
theorem walk {l:PySem.W.OpenLaw}{q:Dz}{loose:List Str}{YP:Cw->Heap->Prop}{d:DefRec}{K:Params->Bl}(hn:l.most=Dn 63)(hdf:d.params.defaults=[])
  (hY:∀ (w:Cw) (h:Heap),YP w h->(K w.params).In h)
  (F:∀ (w:Cw) (mg:Str->Option Mk) (fa:Addr) (h:Heap),(K w.params).In h->h.Ns IK mg->mg d.name=Dn (.ref fa) ->
   ∃ fd:Ln,(∀ (s:Af) (u:Mk),BindsTo s fd ⟨[u],[]⟩ [("_law_script",u)])/\∀ base:Heap,(K w.params).In base->base.Ns IK mg->jE l.prog w (K w.params) mg base Lf 21 fa fd ["_law_script"] (Rp (K w.params))) :
  PySem.W.WalkO q loose XP YP l.row.toRowW d [] (fun f vs=>PySem.call f vs):=
 L2.Ny (n:=63) (k:=21) (x := "_law_script") (CX:=fun _=>Lf) (sp:=fun w=>Rp (K w.params)) hn (by decide) hdf ⟨fun _=>rfl,by decide,by decide⟩ hY F (fun _ _ a ns hl hO hS=>⟨a,ns,rfl,hS,hO,hl,fun _=>rfl⟩) fun _ _ _ _ _ z=>z
local macro_rules | `(tactic| trivial) => `(tactic| with_reducible exact Sm.lit (by decide))
local macro_rules | `(tactic| trivial) => `(tactic| with_reducible exact Sm.zero)
local macro_rules | `(tactic| trivial) => `(tactic| with_reducible exact Sm.neg (by trivial))
local macro_rules | `(tactic| trivial) => `(tactic| with_reducible exact Sm.sub (by trivial) (by trivial))
local macro_rules | `(tactic| trivial) => `(tactic| with_reducible exact Sm.add (by trivial) (by trivial))
local macro_rules | `(tactic| trivial) => `(tactic| with_reducible exact Sm.mul (by trivial) (by trivial))
local macro_rules | `(tactic| trivial) => `(tactic| with_reducible assumption)
theorem qG (h:Gh)(n:Nat)(c:Cell):(h.set n c).c n=Dn c:=by show (if n=n then Dn c else h.c n)=Dn c;rw [if_pos rfl]
variable {h : Gh}{n : Nat}
theorem rD {m:Nat}{c:Cell}(e:m≠n):(h.set n c).c m=h.c m:=by show (if m=n then Dn c else h.c m)=_;rw [if_neg e]
theorem CQ (h:Gh)(c:Cell):(h.new c).c h.nx=Dn c:=by show (if h.nx=h.nx then Dn c else h.c h.nx)=Dn c;rw [if_pos rfl]
theorem v7 {m:Nat}{c:Cell}(e:m≠h.nx):(h.new c).c m=h.c m:=by show (if m=h.nx then Dn c else h.c m)=_;rw [if_neg e]
variable {ws : List W}
theorem cX (e:h.c n=Dn (.lst ws)):view h (.loc n)=Dn ws:=by simp only [view,cZ,e]
def Rs (h:Gh)(n:Nat):Prop:=(∃ a,h.c n=Dn (.lst [.int a]))\/∃ a b,h.c n=Dn (.lst [.int a,.int b])
def MH (n:Nat)(h h':Gh):Prop:=h'.nx=h.nx/\∀ m,m≠n->h'.c m=h.c m
theorem MH.refl (n:Nat)(h:Gh):MH n h h:=⟨rfl,fun _ _=>rfl⟩
theorem MH.trans {n:Nat}{a b c:Gh}(x:MH n a b)(y:MH n b c):MH n a c:=⟨y.1.trans x.1,fun m e=>(y.2 m e).trans (x.2 m e)⟩
theorem MH.set {n:Nat}{h:Gh}{c:Cell}:MH n h (h.set n c):=⟨rfl,fun _ e=>rD e⟩
theorem mD {a b:Int}(h:0<b):a.fmod b=a % b:=Int.fmod_eq_emod_of_nonneg a (Int.le_of_lt h)
variable {c : Bool}
theorem BX {A B:Prop}(e:c=true)(h:A):Ib c A B:=by subst e;exact h
theorem Xa {A B:Prop}(e:c=false)(h:B):Ib c A B:=by subst e;exact h
theorem El {c:Prop}[Decidable c]{A B:Prop}(h1:c->A)(h2:¬ c->B):Ib (decide c) A B:=by
 by_cases h:c
 ·rw [decide_eq_true h];exact h1 h
 ·rw [decide_eq_false h];exact h2 h
variable {Q : WK}
theorem iM {a many:Int}{r:List W}(hr:r=[]\/∃ b,r=[.int b])(e:h.c n=Dn (.lst (.int a::r)))(hm:0<many)(hb:Sm 8000 many)(k:∀ d h',0<=d->d<many->Rs h' n->MH n h h'->Q (.int d) h'):
  aV (bx (Ae qR (Ae CR (ao 0) (mC (.int 0))) (ao 1)) (kI 2)) (aV (bx (Ae Ar (Ae CR (ao 0) (mC (.int 0))) (ao 1)) (aaT (ao 0) (mC (.int 0)) JM)) (bD (ao 2)))
   { nx:=fun _ h'=>Q .non h',rt:=fun w h'=>Q w h' } [Dn (.loc n),Dn (.int many),JI] h:=by
 have hm0:many≠0:=by lia
 have ev:=cX e;rcases hr with rfl | ⟨b,rfl⟩
 all_goals
  conv=>whnf
  rw [ev];conv=>whnf
  refine ⟨hm0,?_⟩;conv=>whnf
  rw [ev];conv=>whnf
  refine ⟨⟨hm0,8000,by decide,hb⟩,?_⟩;conv=>whnf
  rw [e];show Q (.int (a.fmod many)) (h.set n _);rw [mD hm];refine k _ _ (Int.emod_nonneg _ hm0) (Int.emod_lt_of_pos _ hm) ?_ MH.set
 ·exact .inl ⟨_,qG _ _ _⟩
 ·exact .inr ⟨_,_,qG _ _ _⟩
def iY (c:AP):Prop:=∀ {h:Gh} {n:Nat} {many:Int} {Q:WK} {E:Bo},Rs h n->0<many->Sm 8000 many->(∀ d h',0<=d->d<many->Rs h' n->MH n h h'->Q (.int d) h')->c [.loc n,.int many] h Q E
theorem ajD:iY Bs:=by
 intro h n many Q E e hm hb k;rcases e with ⟨a,e⟩ | ⟨a,b,e⟩
 ·have ev:=cX e;conv=>whnf
  rw [ev];show br (decide (a<2)) _ _;refine nH (fun _=>?_)<|fun _=>?_
  ·conv=>whnf
   rw [ev];refine jY rfl ?_;exact iM (r:=[]) (.inl rfl) e hm hb k
  ·refine jY rfl ?_;exact iM (r:=[]) (.inl rfl) e hm hb k
 ·have ev:=cX e;conv=>whnf
  rw [ev];show br (decide (a<2)) _ _;refine nH (fun _=>?_)<|fun _=>?_
  ·conv=>whnf
   rw [ev];refine vo rfl ?_;conv=>whnf
   rw [e];conv=>whnf
   rw [e];conv=>whnf
   rw [qG];refine iM (r:=[]) (h:=(h.set n<|.lst [.int a]).set n (.lst [.int b])) (.inl rfl) (qG _ _ _) hm hb fun d h' d0 d1 r o=>?_;exact k d h' d0 d1 r<|MH.set.trans<|MH.set.trans o
  ·refine jY rfl ?_;exact iM (r:=[.int b]) (.inr ⟨b,rfl⟩) e hm hb k
def qX (c:AP):Prop:=∀ {h:Gh} {n:Nat} {far:Int} {Q:WK} {E:Bo},Rs h n->20<far->Sm 7000 far->(∀ x h',-far<x->x<far->Rs h' n->MH n h h'->Q (.int x) h')->c [.loc n,.int far] h Q E
variable {dg : AP}
theorem ahV (hd:iY dg):qX (wj dg):=by
 intro h n far Q E e hf hb k;conv=>whnf
 refine hd (n:=n) (many:=3) e (by decide) (by unfold Sm;decide +kernel) fun d h1 d0 d1 r1 o1=>?_;refine ⟨fun h0=>?_,fun h0=>?_⟩
 ·conv=>whnf
  refine hd (n:=n) (many:=7) r1 (by decide) (by unfold Sm;decide +kernel) fun d h2 e0 e1 r2 o2=>?_;exact k _ _ (by lia) (by lia) r2<|o1.trans o2
 ·refine ⟨fun h0=>?_,fun h0=>?_⟩
  ·conv=>whnf
   refine hd (n:=n) (many:=41) r1 (by decide) (by unfold Sm;decide +kernel) fun d h2 e0 e1 r2 o2=>?_;exact k _ _ (by lia) (by lia) r2<|o1.trans o2
  ·conv=>whnf
   refine ⟨⟨3,7000,by decide,by decide,by unfold Sm;decide +kernel,hb⟩,?_⟩;conv=>whnf
   refine hd (n:=n) (many:=2*far - 1) r1 (by lia) ?_ fun d h2 e0 e1 r2 o2=>?_
   ·have:Sm 7004 (2*far - 1):=(Sm.sub (m:=7003) (n:=1) (Sm.mul (m:=3) (n:=7000) (by unfold Sm;decide +kernel) hb) (by unfold Sm;decide +kernel))
    exact this.mono<|by decide
   ·exact k _ _ (by lia) (by lia) r2<|o1.trans o2
variable {ws0 : List W}{g : MG}{b : MS}{D : bI}
theorem oY (I:Nat->Sw->Gh->Prop)
  (step:∀ (i:Nat) (w:W) (σ : Sw) (h:Gh) (N:Sw->Gh->Prop),(∀ σ' h',I (i+1) σ' h'->N σ' h')->ws[i]?=Dn w->I i σ h->g w σ h fun σ1 h1=>b { D with nx:=N,ct:=N,bk:=D.nx } σ1 h1)
  (fin:∀ σ h,I ws.length σ h->D.nx σ h):∀ {σ : Sw} {h:Gh},I 0 σ h->dR ⟨ws0,JI⟩ g b D ws σ h:=by
 induction ws generalizing I with
 | nil=>intro σ h h0;exact fin σ h h0
 | cons w ws ih=>
  intro σ h h0;refine step 0 w σ h _ (fun σ' h' q=>?_) rfl h0;exact ih (fun i=>I<|i+1) (fun i w σ h N hN e hi=>step (i+1) w σ h N hN (by simpa using e) hi) (fun σ h q=>fin σ h q) q
variable {ix : List Nat}{te : ME}{tt : MT}{σ : Sw}{own : W->Option (List W)}
theorem lE (I:Nat->List W->Gh->Prop)
  (step:∀ (i:Nat) (w:W) (acc:List W) (h:Gh) (N:List W->Gh->Prop),(∀ acc' h',I (i+1) acc' h'->N acc' h')->ws[i]?=Dn w->I i acc h ->
   ∃ vs,own w=Dn vs/\tt (vs.map Dn++qO ix σ) h fun c h1=>Ib c (te (vs.map Dn++qO ix σ) h1 fun v h2=>N (acc++[v]) h2) (N acc h1))
  (fin:∀ acc h,I ws.length acc h->Q (.lst acc) h):∀ {acc:List W} {h:Gh},I 0 acc h->nY ⟨ws0,JI⟩ own ix tt te σ Q ws acc h:=by
 induction ws generalizing I with
 | nil=>intro acc h h0;exact fin acc h h0
 | cons w ws ih=>
  intro acc h h0;obtain ⟨vs,ev,q⟩:=step 0 w acc h _ (fun acc' h' q=>ih (fun i=>I (i+1)) (fun i w acc h N hN e hi=>step (i+1) w acc h N hN (by simpa using e) hi) (fun acc h q=>fin acc h q) q) rfl h0;show (match own w with
   | some vs=>_
   | none=>False)
  rw [ev];exact q
variable {i : Nat}{w : W}
theorem Hh {lo:Int}(e:(BL lo n)[i]?=Dn w):i<n/\w=.int (lo+(i:Int)):=by
 have hi:i<n:=by
  have:=(Pn.mp e).1
  simpa [BL] using this
 unfold BL at e;rw [N7,List.getElem?_range hi] at e;exact ⟨hi,(JD e).symm⟩
theorem xQ {lo:Int}:(BL lo n).length=n:=by simp [BL]
variable {j : Int}{ma : MA}
theorem agL (hm:∀ R,ma σ h R=R [.int j] h)(h1:-(2^62)<=j)(h2:j<2^62)(I:Nat->Sw->Gh->Prop)
  (step:∀ (i:Nat) (σ : Sw) (h:Gh) (N:Sw->Gh->Prop),(∀ σ' h',I (i+1) σ' h'->N σ' h')->i<j.toNat->I i σ h->g (.int (i:Int)) σ h fun σ1 h1=>b { D with nx:=N,ct:=N,bk:=D.nx } σ1 h1)
  (fin:∀ σ h,I j.toNat σ h->D.nx σ h) (h0:I 0 σ h):rK (dh ma) g b D σ h:=by
 unfold rK dh;rw [hm];refine Ao.mk h1 h2 ?_;refine oY I (fun i w σ h N hN e hi=>?_) (fun σ h q=>fin σ h (by rw [xQ] at q;exact q)) h0;obtain ⟨hlt,rfl⟩:=Hh e;rw [Int.zero_add];exact step i σ h N hN hlt hi
variable {k : Int}{ns : List Int}
theorem agD (h0:0<=k)(h1:k<((ns.map W.int).length:Int)):Lg (ns.map W.int) k=Dn (.int (ns.getD k.toNat 0)):=by
 have hk:k.toNat<ns.length:=by rw [Hu] at h1;lia
 have e:(ns.map W.int)[k.toNat]?=Dn (.int (ns.getD k.toNat 0)):=by
  rw [N7,Jx hk,Pr,Jx hk];rfl
 have:=uo e
 rwa [show ((k.toNat:Nat):Int)=k by lia] at this
def Fp (c:AP):Prop:=∀ {h:Gh} {ns:List Int} {k:Int} {Q:WK} {E:Bo},0<=k->Q (.int (ns.getD k.toNat 0)) h->c [.kls (ns.map .int),.int k] h Q E
theorem agP:Fp rQ:=by
 intro h ns k Q E h0 q;show br (decide (k<((ns.map W.int).length:Int))) _ _;refine nH (fun hk=>?_)<|fun hk=>?_
 ·conv=>whnf
  rw [agD h0 hk];exact q
 ·have e:ns.getD k.toNat 0=0:=by
   rw [Pr,Xh (by rw [Hu] at hk;lia)];rfl
  rw [e] at q;exact q
def Hs (c:AP):Prop:=∀ {h:Gh} {ns:List Int} {k:Int} {Q:WK} {E:Bo},0<=k->k<=1000->(∀ h',Rs h' h.nx->h'.nx=h.nx+1->(∀ m,m≠h.nx->h'.c m=h.c m)->Q (.loc h.nx) h')->c [.kls (ns.map .int),.int k] h Q E
theorem ahK {big one:Int}(h0:0<=big)(h1:Sm (50*i) big)(m0:0<=one)(m1:one<1000000000039):0<=big*10^12+one/\Sm (50*(i+1)) (big*10^12+one):=by
 have e:(2:Nat)^(50*(i+1))=2^(50*i)*2^50:=by rw [Nat.mul_add,Nat.pow_add]
 unfold Sm at h1 |-
 rw [e];have p:(10:Int)^12=1000000000000:=by decide
 rw [p];have q:(2:Nat)^50=1125899906842624:=by decide
 rw [q];generalize 2^(50*i)=t at h1 |-
 refine ⟨by lia,by lia⟩
theorem aa7 {ca:AP}(hca:Fp ca):Hs (Ho ca):=by
 intro h ns k Q E h0 h1 q;conv=>whnf
 refine hca h0 ?_;generalize ns.getD k.toNat 0=cell;have c1:(10:Int)^(18:Int).toNat=1000000000000000000:=by decide
 have c2:(10:Int)^(12:Int).toNat=1000000000000:=by decide
 conv=>whnf
 refine ⟨⟨by decide,64,by decide,.lit rfl⟩,?_⟩;conv=>whnf
 refine ⟨⟨by decide,by decide,by decide⟩,?_⟩;conv=>whnf
 refine ⟨by decide,?_⟩;conv=>whnf
 rw [c1,mD (by decide)];have y0:=Int.emod_nonneg (cell.fdiv 2) (show (1000000000000000000:Int)≠0 by decide);have y1:=Int.emod_lt_of_pos (cell.fdiv 2) (show (0:Int)<1000000000000000000 by decide);generalize cell.fdiv 2 % 1000000000000000000=y at y0 y1 |-
 refine ⟨.of (n:=10) (.lit rfl) (vB (by lia)<|by lia) (by decide)<|by decide,?_⟩;conv=>whnf
 refine ⟨.of (m:=23) (n:=10) (vB (by lia)<|by lia) (vB (by lia)<|by lia) (by decide)<|by decide,?_⟩;conv=>whnf
 have k0:0<=k*k:=Int.mul_nonneg h0 h0;have k1:k*k<=1000*1000:=Int.mul_le_mul h1 h1 h0 (by decide);have kk:7919*k*k=7919*(k*k):=Int.mul_assoc ..;rw [kk];generalize k*k=k2 at k0 k1 |-
 refine ⟨.of (m:=64) (vB (by lia)<|by lia) (.lit rfl) (by decide)<|by decide,?_⟩;conv=>whnf
 refine ⟨by decide,?_⟩;rw [mD (by decide)];generalize hz:(y+7919*k2+1)*48271 % 999999000001=one;have z0:0<=one:=by lia
 have z1:one<999999000001:=by lia
 dsimp only [kI,aV,bx,mC];refine agL (j:=60) (fun _=>rfl) (by decide) (by decide) (fun i σ h'=>h'=h/\∃ one big o,σ = [Dn<|.kls<|ns.map .int,Dn<|.int k,Dn<|.int cell,Dn<|.int one,Dn<|.int big,o]/\0<=one/\one<999999000001/\0<=big/\Sm (50*i) big) ?_ ?_ ⟨rfl,one,0,JI,rfl,z0,z1,Int.le_refl _,Sm.zero⟩
 ·rintro i σ h' N hN hi ⟨rfl,one,big,o,rfl,o0,o1,b0,b1⟩;have hi:i<60:=hi;conv=>whnf
  refine ⟨.of (m:=40) (vB (by lia)<|by lia) (.lit rfl) (by decide)<|by decide,?_⟩;conv=>whnf
  refine ⟨.of (m:=6) (n:=6) (vB (by lia)<|by lia) (vB (by lia)<|by lia) (by decide)<|by decide,?_⟩;conv=>whnf
  refine ⟨by decide,?_⟩;rw [mD (by decide)];generalize hj:(i:Int)*(i:Int)=jj;generalize hz:(one*69621+jj+1) % 999999000001=one';have z0:0<=one':=by lia
  have z1:one'<999999000001:=by lia
  conv=>whnf
  refine ⟨⟨by decide,by decide,by decide⟩,?_⟩;conv=>whnf
  rw [c2];refine ⟨.of (m:=50*i) b1 (.lit rfl) (by lia)<|by decide,?_⟩;conv=>whnf
  refine ⟨.of (n:=6) (.lit rfl) (vB (by lia)<|by lia) (by decide)<|by decide,?_⟩;conv=>whnf
  refine ⟨.of (m:=40) (n:=41) (vB (by lia)<|by lia) (vB (by lia)<|by lia) (by decide)<|by decide,?_⟩;conv=>whnf
  refine ⟨by decide,?_⟩;rw [mD (by decide)];generalize hm:one'*(one'+31*(i:Int)) % 1000000000039=m;obtain ⟨g0,g1⟩:=ahK (one:=m) (i:=i) b0 b1 (by lia) (by lia);have g2:(10:Int)^12=1000000000000:=by decide
  rw [g2] at g0 g1;exact hN _ _ ⟨rfl,one',_,_,rfl,z0,z1,g0,g1⟩
 ·rintro σ h' ⟨rfl,one,big,o,rfl,o0,o1,b0,b1⟩;conv=>whnf
  refine ⟨by decide,?_⟩;refine ⟨fun _=>?_,fun _=>?_⟩
  ·exact q _ (.inl ⟨_,CQ _ _⟩) rfl fun m hm=>v7 hm
  ·conv=>whnf
   refine ⟨⟨by decide,64,by decide,.lit rfl⟩,?_⟩;exact q _ (.inr ⟨_,_,CQ _ _⟩) rfl fun m hm=>v7 hm
def gF (f n:Int):Int:=((O6 n f:Nat):Int)
def gL (ns:List Int):Int:=ns.foldl gF 0
theorem JX (ns:List Int)(n:Int):gL (ns++[n])=gF (gL ns) n:=by unfold gL;rw [List.foldl_append];rfl
theorem ab3 (f n:Int):0<=gF f n:=Int.natCast_nonneg _
theorem abu (ns:List Int):0<=gL ns:=by
 rcases List.eq_nil_or_concat ns with rfl | ⟨l,a,rfl⟩
 ·exact Int.le_refl _
 ·rw [List.concat_eq_append,JX];exact ab3 _ _
theorem Es {x y:Int}(hx:0<=x)(hy:0<y):O6 y (x.fmod y)=O6 x y/\0<=x.fmod y/\x.fmod y<y:=by
 rw [Int.fmod_eq_emod_of_nonneg x (Int.le_of_lt hy)];refine ⟨?_,Int.emod_nonneg _<|by lia,Int.emod_lt_of_pos _ hy⟩;obtain ⟨m,rfl⟩:=XF hx;obtain ⟨n,rfl⟩:=XF (Int.le_of_lt hy);rw [<-Int.natCast_emod,Int.gcd_natCast_natCast,Int.gcd_natCast_natCast,Nat.gcd_comm m n,Nat.gcd_rec n m,Nat.gcd_comm]
theorem G3 (a:Int):0<=(if a<0 then -a else a):=by split <;> lia
theorem abs_eq (a:Int):(if a<0 then -a else a)=(a.natAbs:Int):=by split <;> lia
theorem ajA (a b:Int):O6 (if a<0 then -a else a) (if b<0 then -b else b)=O6 a b:=by
 rw [abs_eq,abs_eq];simp [O6]
theorem uQ {x:Int}(h:0<=x):((O6 x 0:Nat):Int)=x:=by
 rw [Int.gcd_zero_right];lia
def Y6 (c:AP):Prop:=∀ {h:Gh} {a b:Int} {Q:WK} {E:Bo},Q (.int (gF b a)) h->c [.int a,.int b] h Q E
theorem Zw:Y6 jl:=by
 intro h a b Q E q;conv=>whnf
 refine ⟨fun m σ h'=>h'=h/\∃ x y r,σ = [Dn<|.int x,Dn<|.int y,r]/\0<=x/\0<=y/\O6 x y=O6 a b/\m=y.toNat,⟨_,rfl,_,_,JI,rfl,G3 a,G3 b,ajA a b,rfl⟩,?_⟩;rintro m σ h' ⟨rfl,x,y,r,rfl,x0,y0,hg,rfl⟩;refine ⟨fun e=>?_,fun e=>?_⟩
 ·have hy:y≠0:=by simpa [Cj] using e
  obtain ⟨g1,g2,g3⟩:=Es x0 (by lia:0<y);conv=>whnf
  refine ⟨hy,?_⟩;refine ⟨(x.fmod y).toNat,by lia,rfl,y,x.fmod y,_,rfl,y0,g2,g1.trans hg,rfl⟩
 ·have hy:y=0:=by simpa [Cj] using e
  subst hy;have:gF b a=x:=by unfold gF;rw [<-hg];exact uQ x0
  rw [this] at q;exact q
def Ints (w:W)(ns:List Int):Prop:=w=.lst (ns.map .int)\/w=.tup (ns.map .int)
def jA (c:AP):Prop:=∀ {h:Gh} {w:W} {ns:List Int} {Q:WK} {E:Bo},Ints w ns->Q (.int (gL ns)) h->c [w] h Q E
theorem ints_get (e:(ns.map W.int)[i]?=Dn w):∃ n,ns[i]?=Dn n/\w=.int n:=by
 rw [N7] at e;cases q:ns[i]? with
 | none=>rw [q] at e;cases e
 | some n=>rw [q] at e;exact ⟨n,rfl,(JD e).symm⟩
theorem K4 {n:Int}(e:ns[i]?=Dn n):gL (ns.take (i+1))=gF (gL (ns.take i)) n:=by
 rw [Nh,e,<-JX];rfl
theorem Ah {tw:AP}(ht:Y6 tw):jA (yW tw):=by
 intro h w ns Q E hw q;have key:dR ⟨ns.map .int,JI⟩ (kI 2) (bx (aD tw E (aj (ao 2) (aj (ao 1) aG))) (kI 1)) { nx:=uz tw E { nx:=fun _ h'=>Q .non h',rt:=fun w h'=>Q w h' },rt:=fun w h'=>Q w h' } (ns.map .int) [Dn w,Dn (.int 0),JI] h:=by
  refine oY (fun i σ h'=>h'=h/\∃ o,σ = [Dn w,Dn<|.int<|gL<|ns.take i,o]) ?_ ?_ ⟨rfl,JI,rfl⟩
  ·rintro i x σ h' N hN e ⟨rfl,o,rfl⟩;obtain ⟨n,en,rfl⟩:=ints_get e;conv=>whnf
   refine ht ?_;refine hN _ _ ⟨rfl,Dn<|.int n,?_⟩;rw [K4 en];rfl
  ·rintro σ h' ⟨rfl,o,rfl⟩;rw [Hu,OJ];exact q
 rcases hw with rfl | rfl <;> exact key
theorem aaU (f n:Int)(hf:0<=f):O6 (if (if n<0 then -n else n)>f then (if n<0 then -n else n) else f) (if (if n<0 then -n else n)<f then (if n<0 then -n else n) else f)=O6 n f:=by
 rw [abs_eq];have e:O6 (n.natAbs:Int) f=O6 n f:=by simp [O6]
 rw [<-e];generalize (n.natAbs:Int)=m;by_cases h1:m>f
 ·rw [if_pos h1,if_neg (by lia)]
 ·rw [if_neg h1];by_cases h2:m<f
  ·rw [if_pos h2,Int.gcd_comm]
  ·rw [if_neg h2,show m=f by lia]
theorem agm:jA uN:=by
 intro h w ns Q E hw q;have key:∀ D:bI,D.nx=mV E { nx:=fun _ h'=>Q .non h',rt:=fun w h'=>Q w h' } ->
   dR ⟨ns.map .int,JI⟩ (kI 2) (aV (bx (Hv acp (aj (ao 1) (aj (Hv O9 (aj (ao 2) aG)) aG))) (kI 3))
    (aV (bx (Hv acd (aj (ao 1) (aj (Hv O9 (aj (ao 2) aG)) aG))) (kI 4))
    (aV (Et (aZ (Ae QJ (ao 4) (mC (.int 0)))) (adT 3 4 (aj (ao 4) (aj (Ae qR (ao 3) (ao 4)) aG))))
    (bx (ao 3) (kI 1))))) D (ns.map .int) [Dn w,Dn (.int 0),JI,JI,JI] h:=by
  intro D hD;refine oY (fun i σ h'=>h'=h/\∃ o p r,σ = [Dn w,Dn<|.int<|gL<|ns.take i,o,p,r]) ?_ ?_ ⟨rfl,JI,JI,JI,rfl⟩
  ·rintro i x σ h' N hN e ⟨rfl,o,p,r,rfl⟩;obtain ⟨n,en,rfl⟩:=ints_get e;have f0:=abu (ns.take i);generalize hf:gL (ns.take i)=f at f0;conv=>whnf
   refine ⟨fun m σ h2=>h2=h'/\∃ x y,σ = [Dn w,Dn<|.int f,Dn<|.int n,Dn<|.int x,Dn<|.int y]/\0<=x/\0<=y/\O6 x y=O6 n f/\m=y.toNat,⟨_,rfl,_,_,rfl,?_,?_,aaU f n f0,rfl⟩,?_⟩
   ·have:=G3 n;split <;> lia
   ·have:=G3 n;split <;> lia
   ·rintro m σ h2 ⟨rfl,x,y,rfl,x0,y0,hg,rfl⟩;refine ⟨fun e=>?_,fun e=>?_⟩
    ·have hy:0<y:=by simpa using e
     obtain ⟨g1,g2,g3⟩:=Es x0 hy;conv=>whnf
     refine ⟨by lia,?_⟩;refine ⟨(x.fmod y).toNat,by lia,rfl,y,x.fmod y,rfl,y0,g2,g1.trans hg,rfl⟩
    ·have hy:y=0:=by
      have:¬ 0<y:=by simpa using e
      lia
     subst hy;refine hN _ _ ⟨rfl,Dn<|.int n,Dn<|.int x,Dn<|.int 0,?_⟩;have:gL (ns.take (i+1))=x:=by rw [K4 en,hf];unfold gF;rw [<-hg];exact uQ x0
     rw [this];rfl
  ·rintro σ h' ⟨rfl,o,p,r,rfl⟩;rw [Hu,OJ];rw [hD];exact q
 rcases hw with rfl | rfl <;> exact key _ rfl
theorem aam (f n k:Int)(hf:0<=f):gF (f*(k.natAbs:Int)) (n*k)=gF f n*(k.natAbs:Int):=by
 unfold gF;rw [<-Int.natCast_mul];congr 1
 unfold O6;rw [Int.natAbs_mul,Int.natAbs_mul,Int.natAbs_natCast,Nat.gcd_mul_right]
theorem G6 (k:Int)(ns:List Int):gL (ns.map (· * k))=gL ns*(k.natAbs:Int):=by
 have:∀ (ns:List Int) (f:Int),0<=f->(ns.map (· * k)).foldl gF (f*(k.natAbs:Int))=ns.foldl gF f*(k.natAbs:Int):=by
  intro ns;induction ns with
  | nil=>intro f _;rfl
  | cons n ns ih=>intro f hf;rw [Lz,List.foldl_cons,List.foldl_cons,aam f n k hf];exact ih _ (ab3 _ _)
 have h:=this ns 0 (Int.le_refl _);rw [Int.zero_mul] at h;exact h
theorem ac9 {m:Nat}{f n:Int}(hf:Sm m f)(hn:Sm m n):Sm m (gF f n):=by
 unfold gF Sm at *;rw [Int.natAbs_natCast];unfold O6;by_cases e:n.natAbs=0
 ·rw [e,Nat.gcd_zero_left];exact hf
 ·exact Vh (Nat.gcd_le_left _<|Nat.pos_of_ne_zero e) hn
theorem aaL {m:Nat}(h:∀ n∈ns,Sm m n):Sm m (gL ns):=by
 have:∀ (ns:List Int) (f:Int),Sm m f->(∀ n∈ns,Sm m n)->Sm m (ns.foldl gF f):=by
  intro ns;induction ns with
  | nil=>intro f hf _;exact hf
  | cons n ns ih=>intro f hf h;exact ih _ (ac9 hf (h n (by simp))) fun x hx=>h x (by simp [hx])
 exact this ns 0 Sm.zero h
def lV:List Int->Int
 | []=>0
 | n::ns=>if n=0 then lV ns else n
def eX (ns:List Int):Int:=lV ns.reverse
def Ox (ns:List Int):Prop:=gL ns=1/\0<eX ns
def NZ (ns:List Int):Prop:=∃ n∈ns,n≠0
theorem cG (hk:k≠0)(x:Int):x*k=0↔x=0:=by
 rw [Q7];exact ⟨fun h=>h.elim id fun h=>absurd h hk,.inl⟩
theorem Bg {k:Int}(hk:k≠0):∀ ns:List Int,lV (ns.map (· * k))=lV ns*k
 | []=>(Int.zero_mul k).symm
 | n::ns=>by
  rw [Lz,lV,lV];by_cases h:n=0
  ·rw [if_pos h,if_pos ((cG hk n).mpr h),Bg hk ns]
  ·rw [if_neg h,if_neg (fun e=>h ((cG hk n).mp e))]
theorem uP (hk:k≠0)(ns:List Int):eX (ns.map (· * k))=eX ns*k:=by
 unfold eX;rw [<-List.map_reverse,Bg hk]
theorem ain (h:NZ ns):lV ns≠0:=by
 induction ns with
 | nil=>obtain ⟨n,hn,_⟩:=h;cases hn
 | cons a ns ih=>
  rw [lV];by_cases e:a=0
  ·rw [if_pos e];refine ih ?_;obtain ⟨n,hn,n0⟩:=h;rcases JN.mp hn with rfl | hn
   ·exact absurd e n0
   ·exact ⟨n,hn,n0⟩
  ·rw [if_neg e];exact e
theorem xU (h:NZ ns):eX ns≠0:=by
 obtain ⟨n,hn,n0⟩:=h;exact ain ⟨n,List.mem_reverse.mpr hn,n0⟩
theorem Ut (f n:Int):gF f n ∣ f/\gF f n ∣ n:=⟨Int.gcd_dvd_right ..,Int.gcd_dvd_left ..⟩
theorem RZ:∀ n∈ns,gL ns ∣ n:=by
 have:∀ (ns:List Int) (f:Int),ns.foldl gF f ∣ f/\∀ n∈ns,ns.foldl gF f ∣ n:=by
  intro ns;induction ns with
  | nil=>intro f;exact ⟨Int.dvd_refl _,fun n hn=>absurd hn (by simp)⟩
  | cons a ns ih=>
   intro f;obtain ⟨h1,h2⟩:=ih (gF f a);refine ⟨Int.dvd_trans h1 (Ut f a).1,fun n hn=>?_⟩;rcases JN.mp hn with rfl | hn
   ·exact Int.dvd_trans h1 (Ut f n).2
   ·exact h2 n hn
 exact (this ns 0).2
theorem Xm (h:NZ ns):0<gL ns:=by
 have h0:=abu ns;obtain ⟨n,hn,n0⟩:=h;have hd:=RZ n hn;by_cases e:gL ns=0
 ·rw [e] at hd;exact absurd (Int.zero_dvd.mp hd) n0
 ·lia
theorem Ox.nz (h:Ox ns):NZ ns:=by
 have:∀ l:List Int,0<lV l->NZ l:=by
  intro l;induction l with
  | nil=>intro h;exact absurd h (by decide)
  | cons a l ih=>
   intro h;rw [lV] at h;by_cases e:a=0
   ·rw [if_pos e] at h;obtain ⟨n,hn,n0⟩:=ih h;exact ⟨n,Ph _ hn,n0⟩
   ·exact ⟨a,by simp,e⟩
 obtain ⟨n,hn,n0⟩:=this _ h.2;exact ⟨n,List.mem_reverse.mp hn,n0⟩
theorem Jv {by':Int}(h:NZ ns)(hb:by'=if eX ns<0 then 0 - gL ns else gL ns):
  by'≠0/\Ox (ns.map (·.fdiv by'))/\ns=(ns.map (·.fdiv by')).map (· * by'):=by
 have g0:=Xm h;have hn:by'≠0:=by rw [hb];split <;> lia
 have hd:∀ t,gL ns ∣ t->by' ∣ t:=fun t ht=>by
  rw [hb];split
  ·rw [Int.zero_sub];exact Int.neg_dvd.mpr ht
  ·exact ht
 have e:ns=(ns.map (·.fdiv by')).map (· * by'):=by
  rw [List.map_map];conv=>lhs;rw [<-List.map_id ns]
  refine List.map_congr_left fun n hn'=>?_;obtain ⟨m,hm⟩:=hd n (RZ n hn');show n=n.fdiv by'*by'
  conv=>lhs;rw [hm]
  conv=>rhs;rw [hm]
  rw [Int.mul_fdiv_cancel_left _ hn,V9]
 refine ⟨hn,?_,e⟩;generalize hms:ns.map (·.fdiv by')=ms at e;have e1:gL ns=gL ms*(by'.natAbs:Int):=by rw [e];exact G6 by' ms
 have e2:(by'.natAbs:Int)=gL ns:=by rw [hb];split <;> lia
 have e3:eX ns=eX ms*by':=by rw [e];exact uP hn ms
 have l0:=xU h;refine ⟨?_,?_⟩
 ·rw [e2] at e1;have e1':gL ms*gL ns=1*gL ns:=by rw [<-e1,Int.one_mul]
  exact Int.eq_of_mul_eq_mul_right (by lia) e1'
 ·by_cases hs:eX ns<0
  ·rw [if_pos hs] at hb;have:by'<0:=by lia
   rw [e3] at hs;by_cases q:0<eX ms
   ·exact q
   ·have:=Int.mul_nonneg_of_nonpos_of_nonpos (show eX ms<=0 by lia) (Int.le_of_lt this)
    lia
  ·rw [if_neg hs] at hb;have:0<by':=by lia
   have hp:0<eX ns:=by lia
   rw [e3] at hp;by_cases q:0<eX ms
   ·exact q
   ·have:=Int.mul_nonpos_of_nonpos_of_nonneg (show eX ms<=0 by lia) (Int.le_of_lt this)
    lia
theorem tU {k:Int}(hk:k≠0):∀ {ns ms:List Int},ns.map (· * k)=ms.map (· * k)->ns=ms
 | [],[],_=>rfl
 | [],_::_,h=>by simp at h
 | _::_,[],h=>by simp at h
 | a::ns,b::ms,h=>by
  rw [Lz,Lz] at h;obtain ⟨h1,h2⟩:=List.cons.inj h;rw [Int.eq_of_mul_eq_mul_right hk h1,tU hk h2]
variable {ms : List Int}
theorem T3 (hn:Ox ns)(hm:Ox ms){s t:Int}(hs:s≠0)(ht:t≠0)(h:ns.map (· * s)=ms.map (· * t)):ns=ms:=by
 have e1:gL ns*(s.natAbs:Int)=gL ms*(t.natAbs:Int):=by rw [<-G6,<-G6,h]
 rw [hn.1,hm.1] at e1;have e2:eX ns*s=eX ms*t:=by rw [<-uP hs,<-uP ht,h]
 have a:=hn.2;have b:=hm.2;have st:s=t:=by
  rcases Int.lt_or_gt_of_ne hs with s0 | s0 <;> rcases Int.lt_or_gt_of_ne ht with t0 | t0
  ·lia
  ·have x:=Int.mul_neg_of_pos_of_neg a s0;have y:=Int.mul_pos b t0;lia
  ·have x:=Int.mul_pos a s0;have y:=Int.mul_neg_of_pos_of_neg b t0;lia
  ·lia
 subst st;exact tU hs h
def uZ (c0:AP):Prop:=∀ {h:Gh} {w:W} {ns:List Int} {m:Nat} {Q:WK} {E:Bo},Ints w ns->NZ ns->(∀ n∈ns,Sm m n)->m<=8000->ns.length<=1000 ->
 (∀ (ms:List Int) (k:Int),k≠0->ns=ms.map (· * k)->Ox ms->(∀ n∈ms,Sm m n)->Q (.tup (ms.map .int)) h)->c0 [w] h Q E
theorem bY (a b:Int):Cj (.int a) (.int b)=(a==b):=by rw [Cj]
theorem aiW {m:Nat}{a a':Int}(h:Sm m a)(e:a=a'*k)(hk:k≠0):Sm m a':=by
 refine h.le ?_;rw [e,Int.natAbs_mul];exact Nat.le_mul_of_pos_right _<|by lia
theorem GK {m:Nat}(h:∀ n∈ns,Sm m n)(hk:k≠0)(e:ns=ms.map (· * k)):∀ n∈ms,Sm m n:=fun n hn=>
 aiW (h (n*k) (by rw [e];exact Pz.mpr ⟨n,hn,rfl⟩)) rfl hk
theorem ado (hv:σ[i]?=Dn (Dn w))(hs:qY h w=Dn ⟨ns.map .int,JI⟩)(hz:ns.length<=Ht)(k:Q (.lst ((ns.filter (·≠0)).map .int)) h):
  HW Hz ix (Ik (ao i)) (aZ (Ae Jk (ao 0) (mC (.int 0)))) (ao 0) σ h Q:=by
 unfold HW Ik ao;rw [hv];dsimp only;rw [hs];refine fW.mk (by rw [Hu];exact hz) ?_;refine lE (fun i acc h'=>h'=h/\acc=((ns.take i).filter (·≠0)).map W.int) ?_ ?_ ⟨rfl,rfl⟩
 ·rintro i w acc h' N hN e ⟨rfl,rfl⟩;obtain ⟨n,en,rfl⟩:=ints_get e;refine ⟨[.int n],rfl,?_⟩;show Ib (!Cj (.int n) (.int 0)) (N (_++[W.int n]) h') _;rw [bY];by_cases h0:n=0
  ·refine Xa (by simp [h0])<|hN _ _ ⟨rfl,?_⟩
   rw [Nh,en];simp [h0]
  ·refine BX (by simp [h0])<|hN _ _ ⟨rfl,?_⟩
   rw [Nh,en];simp [h0]
 ·rintro acc h' ⟨rfl,rfl⟩;rw [Hu,OJ];exact k
theorem agQ (h:NZ ns):Lg ((ns.filter (·≠0)).map W.int) (-1)=Dn (.int (eX ns)):=by
 have key:∀ l:List Int,lV l≠0->∃ r,l.filter (·≠0)=lV l::r:=by
  intro l;induction l with
  | nil=>intro h;exact absurd rfl h
  | cons a l ih=>
   intro h;rw [lV] at h |-
   by_cases e:a=0
   ·rw [if_pos e] at h |-
    obtain ⟨r,hr⟩:=ih h;exact ⟨r,by rw [List.filter_cons,if_neg<|by simp [e]];exact hr⟩
   ·rw [if_neg e];exact ⟨_,by rw [List.filter_cons,if_pos<|by simp [e]]⟩
 obtain ⟨r,hr⟩:=key ns.reverse (xU h);have hf:ns.filter (·≠0)=r.reverse++[eX ns]:=by
  rw [List.filter_reverse] at hr;have:=congrArg List.reverse hr
  rw [List.reverse_reverse,List.reverse_cons] at this;exact this
 rw [hf,Qg];exact aht _ _
theorem T8 {by':Int}{m:Nat}(hs:qY h w=Dn ⟨ns.map .int,JI⟩)(hb:by'≠0)(hm:m<=8000)(hs':Sm m by')(hz:ns.length<=Ht)(hv:σ[0]?=Dn (Dn w))(hx:qO ix σ = [Dn (.int by')])(k:Q (.lst ((ns.map (·.fdiv by')).map .int)) h):
  HW Hz ix (Ik (ao 0)) eN (Ae Ar (ao 0) (ao 1)) σ h Q:=by
 unfold HW Ik ao;rw [hv];dsimp only;rw [hs];refine fW.mk (by rw [Hu];exact hz) ?_;refine lE (fun i acc h'=>h'=h/\acc=((ns.take i).map (·.fdiv by')).map W.int) ?_ ?_ ⟨rfl,rfl⟩
 ·rintro i w acc h' N hN e ⟨rfl,rfl⟩;obtain ⟨n,en,rfl⟩:=ints_get e;refine ⟨[.int n],rfl,?_⟩;rw [hx];refine ⟨⟨hb,m,hm,hs'⟩,?_⟩;refine hN _ _ ⟨rfl,?_⟩;rw [Nh,en];simp
 ·rintro acc h' ⟨rfl,rfl⟩;rw [Hu,OJ];exact k
theorem agz {ld:AP}(hld:jA ld):uZ (yZ ld):=by
 intro h w ns m Q E hw h0 hs hm hl q;have hg0:=Xm h0;have hgs:Sm m (gL ns):=aaL hs;have hz:ns.length<=Ht:=J4 hl (by decide);have src:qY h w=Dn ⟨ns.map .int,JI⟩:=by rcases hw with rfl | rfl <;> rfl
 have fin:∀ by',(by'=if eX ns<0 then 0 - gL ns else gL ns)->uT ld E { nx:=fun _ h'=>Q .non h',rt:=fun w h'=>Q w h' } [Dn w,Dn (.int by')] h:=by
  intro by' e
  obtain ⟨hn,pl,eq⟩:=Jv h0 e;have hbs:Sm m by':=by refine hgs.le ?_;rw [e];split <;> lia
  show HW Hz [1] (Ik (ao 0)) eN (Ae Ar (ao 0) (ao 1)) [Dn w,Dn (.int by')] h _;refine T8 (w:=w) (ns:=ns) src hn hm hbs hz rfl rfl ?_;exact q _ by' hn eq pl<|GK hs hn eq
 refine hld hw ?_;show HW Hz [] (Ik (ao 0)) (aZ (Ae Jk (ao 0) (mC (.int 0)))) (ao 0) [Dn w,Dn (.int (gL ns))] h _;refine ado (ns:=ns) (w:=w) (i:=0) rfl src hz ?_;have el:=agQ h0;generalize (ns.filter (·≠0)).map W.int=F at el;show (match Lg F (-1) with
   | some w=>_
   | none=>False)
 rw [el];refine nH (fun hl=>?_)<|fun hl=>?_
 ·exact fin _<|by rw [if_pos hl]
 ·exact fin _<|by rw [if_neg hl]
def Wt (c0:AP):Prop:=∀ {h:Gh} {w:W} {ns:List Int} {Q:WK} {E:Bo},Ints w ns->Q (.bl (decide (eX ns<0))) h->c0 [w] h Q E
theorem KZ:Wt pP:=by
 intro h w ns Q E hw q;have key:∀ (l:List Int) (s:Src) (o:Option W),s.cell=JI->Q (.bl (decide (lV l<0))) h->dR s (kI 1) (d7 (aZ (Ae Jk (ao 1) (mC (.int 0)))) (bD (Ae kLt (ao 1) (mC (.int 0)))) bK)
   { nx:=lD E { nx:=fun _ h'=>Q .non h',rt:=fun w h'=>Q w h' },rt:=fun w h'=>Q w h' } (l.map .int) [Dn w,o] h:=by
  intro l;induction l with
  | nil=>
   intro s o hs q;obtain ⟨ws,ix⟩:=s;cases hs;exact q
  | cons n l ih=>
   intro s o hs q;obtain ⟨ws,ix⟩:=s;cases hs;rw [lV] at q;refine ⟨fun e=>?_,fun e=>?_⟩
   ·rw [bY] at e;rw [if_neg (by simpa using e)] at q;exact q
   ·rw [bY] at e;rw [if_pos (by simpa using e)] at q;exact ih _ _ rfl q
 have k2:=key ns.reverse ⟨(ns.map .int).reverse,JI⟩ JI rfl q;rw [List.map_reverse] at k2;rcases hw with rfl | rfl <;> exact k2
theorem zbf {dv en:AP}(hdv:jA dv)(hen:Wt en):uZ (Km dv en):=by
 intro h w ns m Q E hw h0 hs hm hl q;have hg0:=Xm h0;have hgs:Sm m (gL ns):=aaL hs;have hz:ns.length<=Ht:=J4 hl (by decide);have src:qY h w=Dn ⟨ns.map .int,JI⟩:=by rcases hw with rfl | rfl <;> rfl
 have fin:∀ by',(by'=if eX ns<0 then 0 - gL ns else gL ns)->zZ dv en E { nx:=fun _ h'=>Q .non h',rt:=fun w h'=>Q w h' } [Dn w,Dn (.int by')] h:=by
  intro by' e
  obtain ⟨hn,pl,eq⟩:=Jv h0 e;have hbs:Sm m by':=by refine hgs.le ?_;rw [e];split <;> lia
  show HW Hz [1] (Ik (ao 0)) eN (Ae Ar (ao 0) (ao 1)) [Dn w,Dn (.int by')] h _;refine T8 (w:=w) (ns:=ns) src hn hm hbs hz rfl rfl ?_;exact q _ by' hn eq pl<|GK hs hn eq
 refine hdv hw ?_;refine jY (by rw [bY];simp;lia) ?_;refine hen hw ?_;refine nH (fun hl=>?_)<|fun hl=>?_
 ·exact fin _<|by rw [if_pos hl,Int.zero_sub]
 ·exact fin _<|by rw [if_neg hl]
abbrev Tr:=Int×Int×Int
def tl (t:Tr):List Int:=[t.1,t.2.1,t.2.2]
def tw (t:Tr):W:=.tup [.int t.1,.int t.2.1,.int t.2.2]
def Pl (t:Tr):Prop:=Ox (tl t)
def Cr (m:Nat)(t:Tr):Prop:=Sm m t.1/\Sm m t.2.1/\Sm m t.2.2
def sc (k:Int)(t:Tr):Tr:=(t.1*k,t.2.1*k,t.2.2*k)
def Jj (u t:Tr):Prop:=∃ k,k≠0/\u=sc k t
def crs (p q:Tr):Tr:=(p.2.1*q.2.2 - p.2.2*q.2.1,p.2.2*q.1 - p.1*q.2.2,p.1*q.2.1 - p.2.1*q.1)
def dt3 (p q:Tr):Int:=p.1*q.1+p.2.1*q.2.1+p.2.2*q.2.2
theorem Cr.mono {m n:Nat}{t:Tr}(h:Cr m t)(e:m<=n):Cr n t:=⟨h.1.mono e,h.2.1.mono e,h.2.2.mono e⟩
theorem Cr.all {m:Nat}{t:Tr}(h:Cr m t):∀ n∈tl t,Sm m n:=by
 intro n hn;simp only [tl,JN,O7,or_false] at hn;rcases hn with rfl | rfl | rfl
 ·exact h.1
 ·exact h.2.1
 ·exact h.2.2
theorem CV {t:Tr}:t=(0,0,0)↔t.1=0/\t.2.1=0/\t.2.2=0:=by
 obtain ⟨a,b,c⟩:=t;simp
theorem Ym {t:Tr}(h:t≠(0,0,0)):NZ (tl t):=by
 by_cases a:t.1=0
 ·by_cases b:t.2.1=0
  ·by_cases c:t.2.2=0
   ·exact absurd (CV.mpr ⟨a,b,c⟩) h
   ·exact ⟨_,by simp [tl],c⟩
  ·exact ⟨_,by simp [tl],b⟩
 ·exact ⟨_,by simp [tl],a⟩
theorem R9 {t:Tr}(e:tl t=ms.map (· * k)):∃ u:Tr,ms=tl u/\t=sc k u:=by
 match ms,congrArg List.length e,e with
 | [a,b,c],_,e=>
  simp only [tl,Lz,WT,List.cons.injEq,and_true] at e;exact ⟨(a,b,c),rfl,by obtain ⟨x,y,z⟩:=t;simp only [sc];simp only at e;rw [e.1,e.2.1,e.2.2]⟩
variable {c0 : AP}{u : Tr}{E : Bo}
theorem uZ.tr (hc:uZ c0){m:Nat}(hw:w=tw u\/w=.lst [.int u.1,.int u.2.1,.int u.2.2])(h0:u≠(0,0,0))(hs:Cr m u)(hm:m<=8000)
  (q:∀ t:Tr,Pl t->Jj u t->Cr m t->Q (tw t) h):c0 [w] h Q E:=by
 refine hc (ns:=tl u) (m:=m) ?_ (Ym h0) hs.all hm (show 3<=1000 by decide) fun ms k hk e pl sm=>?_
 ·rcases hw with rfl | rfl
  ·exact .inr rfl
  ·exact .inl rfl
 ·obtain ⟨t,rfl,e'⟩:=R9 e;exact q t pl ⟨k,hk,e'⟩ ⟨sm _<|by simp [tl],sm _<|by simp [tl],sm _<|by simp [tl]⟩
theorem oH {t:Tr}(hk:k≠0):sc k t=(0,0,0)↔t=(0,0,0):=by
 rw [CV,CV];show (t.1*k=0/\t.2.1*k=0/\t.2.2*k=0)↔_;rw [cG hk,cG hk,cG hk]
theorem Pl.ne {t:Tr}(h:Pl t):t≠(0,0,0):=by
 rintro rfl;obtain ⟨n,hn,n0⟩:=h.nz;simp [tl] at hn;exact n0 hn
variable {p q : Tr}
theorem Ep (hp:Pl p)(hq:Pl q)(h1:Jj u p)(h2:Jj u q):p=q:=by
 obtain ⟨s,hs,e⟩:=h1;obtain ⟨t,ht,e'⟩:=h2;have h:sc s p=sc t q:=by rw [<-e,<-e']
 have:=T3 hp hq hs ht (by
  have:=congrArg tl h
  simpa [tl,sc] using this)
 obtain ⟨a,b,c⟩:=p;obtain ⟨x,y,z⟩:=q;simp only [tl,List.cons.injEq,and_true] at this;rw [this.1,this.2.1,this.2.2]
theorem Jj.refl (t:Tr):Jj t t:=⟨1,by decide,by simp [sc]⟩
theorem u5 (a b:Int)(t:Tr):sc a (sc b t)=sc (b*a) t:=by simp only [sc,Int.mul_assoc]
theorem ray (hp:p≠(0,0,0))(h:crs p q=(0,0,0)):∃ s t:Int,s≠0/\sc s q=sc t p:=by
 obtain ⟨a,b,c⟩:=p;obtain ⟨x,y,z⟩:=q;have h1:b*z - c*y=0:=congrArg (·.1) h;have h2:c*x - a*z=0:=congrArg (·.2.1) h;have h3:a*y - b*x=0:=congrArg (·.2.2) h;by_cases ha:a=0
 ·by_cases hb:b=0
  ·by_cases hc:c=0
   ·exact absurd (by rw [ha,hb,hc]) hp
   ·refine ⟨c,z,hc,?_⟩;simp only [sc];refine J7 ?_ (J7 ?_ ?_) <;> simp only <;> grind
  ·refine ⟨b,y,hb,?_⟩;simp only [sc];refine J7 ?_ (J7 ?_ ?_) <;> simp only <;> grind
 ·refine ⟨a,x,ha,?_⟩;simp only [sc];refine J7 ?_ (J7 ?_ ?_) <;> simp only <;> grind
theorem qZ (hp:Pl p)(hq:Pl q)(h:crs p q=(0,0,0)):p=q:=by
 obtain ⟨s,t,hs,e⟩:=ray hp.ne h;have ht:t≠0:=by
  rintro rfl;have:sc s q=(0,0,0):=by rw [e];simp [sc]
  exact hq.ne<|(oH hs).mp this
 exact Ep (u:=sc t p) hp hq ⟨t,ht,rfl⟩ ⟨s,hs,e.symm⟩
theorem tZ (hp:Pl p)(hq:Pl q)(h:p≠q):crs p q≠(0,0,0):=fun e=>h (qZ hp hq e)
variable {r : Tr}
theorem flat {n:Tr}(hn:n≠(0,0,0))(hp:dt3 n p=0)(hq:dt3 n q=0)(hr:dt3 n r=0):dt3 (crs p q) r=0:=by
 obtain ⟨n1,n2,n3⟩:=n;obtain ⟨p1,p2,p3⟩:=p;obtain ⟨q1,q2,q3⟩:=q;obtain ⟨r1,r2,r3⟩:=r;simp only [dt3,crs] at *;generalize hd:(p2*q3 - p3*q2)*r1+(p3*q1 - p1*q3)*r2+(p1*q2 - p2*q1)*r3=d;have e1:n1*d=0:=by grind
 have e2:n2*d=0:=by grind
 have e3:n3*d=0:=by grind
 by_cases h:d=0
 ·exact h
 ·have f:∀ x:Int,x*d=0->x=0:=fun x e=>by
   rcases Q7.mp e with e | e
   ·exact e
   ·exact absurd e h
  exact absurd (by rw [f _ e1,f _ e2,f _ e3]) hn
theorem cj (p q:Tr):dt3 p q=dt3 q p:=by simp only [dt3,V9]
theorem uI (k:Int)(p q:Tr):dt3 (sc k p) q=dt3 p q*k:=by simp only [dt3,sc];grind
theorem mj (k:Int)(p q:Tr):dt3 p (sc k q)=dt3 p q*k:=by simp only [dt3,sc];grind
theorem mz {t n:Tr}(h:Jj u t):dt3 n u=0↔dt3 n t=0:=by
 obtain ⟨k,hk,rfl⟩:=h;rw [mj,cG hk]
theorem yO {t n:Tr}(h:Jj u t):dt3 u n=0↔dt3 t n=0:=by rw [cj,mz h,cj]
theorem Bc (k l:Int)(p q:Tr):crs (sc k p) (sc l q)=sc (k*l) (crs p q):=by
 simp only [crs,sc];refine J7 ?_ (J7 ?_ ?_) <;> simp only <;> grind
theorem GR (p q:Tr):dt3 (crs p q) p=0:=by simp only [dt3,crs];grind
theorem xZ (p q:Tr):dt3 (crs p q) q=0:=by simp only [dt3,crs];grind
theorem gk {m:Nat}(hp:Cr m p)(hq:Cr m q):Cr (m+m+1) (crs p q):=
 ⟨(hp.2.1.mul hq.2.2).sub (hp.2.2.mul hq.2.1) |>.mono (by lia),(hp.2.2.mul hq.1).sub (hp.1.mul hq.2.2) |>.mono (by lia),(hp.1.mul hq.2.1).sub (hp.2.1.mul hq.1) |>.mono (by lia)⟩
theorem yj (p q:Tr):Cj (tw p) (tw q)=decide (p=q):=by
 obtain ⟨a,b,c⟩:=p;obtain ⟨x,y,z⟩:=q;unfold tw;rw [Cj,lC,lC,lC,lC,bY,bY,bY];by_cases ha:a=x <;> by_cases hb:b=y <;> by_cases hc:c=z <;> simp [ha,hb,hc]
theorem Zf (a b c:Int):Cj (.lst [.int a,.int b,.int c]) (.lst [.int 0,.int 0,.int 0])=decide (a=0/\b=0/\c=0):=by
 rw [Cj,lC,lC,lC,lC,bY,bY,bY];by_cases ha:a=0 <;> by_cases hb:b=0 <;> by_cases hc:c=0 <;> simp [ha,hb,hc]
def O8 (c0:AP):Prop:=∀ {h:Gh} {p q:Tr} {m:Nat} {Q:WK} {E:Bo},m<=10000->Cr m p->Cr m q->Q (tw (crs p q)) h->c0 [tw p,tw q] h Q E
def HB (c0:AP):Prop:=∀ {h:Gh} {p q:Tr} {m:Nat} {Q:WK} {E:Bo},m<=10000->Cr m p->Cr m q->Q (.int (dt3 p q)) h->c0 [tw p,tw q] h Q E
theorem ahF (e:h.c n=Dn (.lst ws)):cZ h (.loc n)=Dn ws:=by simp only [cZ,e]
theorem Ce:O8 Cu:=by
 intro h p q m Q E hm hp hq k;obtain ⟨a,b,c⟩:=p;obtain ⟨x,y,z⟩:=q;obtain ⟨ha,hb,hc⟩:=hp;obtain ⟨hx,hy,hz⟩:=hq;simp only at ha hb hc hx hy hz
 ((conv=>whnf);repeat (refine And.intro (by exact eV.of (by trivial) (by trivial) (by lia) (by lia)) ?_;conv=>whnf))
 exact k
theorem aac:HB Wn:=by
 intro h p q m Q E hm hp hq k;obtain ⟨a,b,c⟩:=p;obtain ⟨x,y,z⟩:=q;obtain ⟨ha,hb,hc⟩:=hp;obtain ⟨hx,hy,hz⟩:=hq;simp only at ha hb hc hx hy hz
 ((conv=>whnf);repeat (refine And.intro (by exact eV.of (by trivial) (by trivial) (by lia) (by lia)) ?_;conv=>whnf))
 exact k
theorem SN:HB Ng:=by
 intro h p q m Q E hm hp hq k;obtain ⟨a,b,c⟩:=p;obtain ⟨x,y,z⟩:=q;obtain ⟨ha,hb,hc⟩:=hp;obtain ⟨hx,hy,hz⟩:=hq;simp only at ha hb hc hx hy hz
 ((conv=>whnf);repeat (refine And.intro (by exact eV.of (by trivial) (by trivial) (by lia) (by lia)) ?_;conv=>whnf))
 show Q (.int (a*x+(b*y+(c*z+0)))) h;have e:a*x+(b*y+(c*z+0))=dt3 (a,b,c) (x,y,z):=by simp only [dt3];lia
 rw [e];exact k
theorem GC {fm:Nat}{far x:Int}(h:Sm fm far)(h0:-far<x)(h1:x<far):Sm fm x:=h.le (by lia)
def zQ (c0:AP):Prop:=∀ {h:Gh} {n:Nat} {far:Int} {fm:Nat} {Q:WK} {E:Bo},Rs h n->20<far->Sm fm far->fm<=7000->(∀ t h',Pl t->Cr fm t->Rs h' n->MH n h h'->Q (tw t) h')->c0 [.loc n,.int far] h Q E
variable {pl : AP}
theorem ZK {nb:AP}(hnb:qX nb)(hpl:uZ pl):zQ (yI nb pl):=by
 intro h n far fm Q E hr hf hb hm q;have f1:Sm 7000 far:=hb.mono hm;unfold yI;conv=>whnf
 refine hnb (n:=n) hr hf f1 fun a h1 a0 a1 r1 o1=>?_;conv=>whnf
 refine hnb (n:=n) r1 hf f1 fun b h2 b0 b1 r2 o2=>?_;conv=>whnf
 refine hnb (n:=n) r2 hf f1 fun c h3 c0 c1 r3 o3=>?_;have ha:=GC hb a0 a1;have hb':=GC hb b0 b1;have hc:=GC hb c0 c1;have o:=o1.trans (o2.trans o3);show br (Cj (.lst [.int a,.int b,.int c]) (.lst [.int 0,.int 0,.int 0])) _ _;rw [Zf];refine nH (fun hz=>?_)<|fun hz=>?_
 ·exact hpl.tr (u:=(0,0,1)) (m:=fm) (.inr rfl) (by decide) ⟨Sm.zero,Sm.zero,hb.le (by show (1:Int).natAbs<=_;lia)⟩ (by lia) fun t p _ s=>q t h3 p s r3 o
 ·exact hpl.tr (u:=(a,b,c)) (m:=fm) (.inr rfl) (fun e=>hz<|by simpa using e) ⟨ha,hb',hc⟩ (by lia) fun t p _ s=>q t h3 p s r3 o
def JoinOk (c0:AP):Prop:=∀ {h:Gh} {p q:Tr} {m:Nat} {Q:WK} {E:Bo},m<=3900->Cr m p->Cr m q->Pl p->Pl q->p≠q->(∀ t:Tr,Pl t->Jj (crs p q) t->Cr (m+m+1) t->Q (tw t) h)->c0 [tw p,tw q] h Q E
variable {cr : AP}
theorem zbD (hpl:uZ pl)(hcr:O8 cr):JoinOk (mJ pl cr):=by
 intro h p q m Q E hm sp sq pp pq hne k;show br (Cj (tw p) (tw q)) _ _;rw [yj];refine jY (decide_eq_false hne) ?_;show cr [tw p,tw q] h _ _;refine hcr (m:=m) (by lia) sp sq ?_;show pl [tw (crs p q)] h _ _;exact hpl.tr (u:=crs p q) (m:=m+m+1) (.inl rfl) (tZ pp pq hne) (gk sp sq) (by lia) k
theorem ab5 {pc:AP}(hpc:JoinOk pc):JoinOk (Uv pc):=by
 intro h p q m Q E hm sp sq pp pq hne k;show pc [tw p,tw q] h _ _;exact hpc hm sp sq pp pq hne k
def Sd (c0:AP):Prop:=∀ {h:Gh} {p q:Tr} {m:Nat} {Q:WK} {E:Bo},m<=10000->Cr m p->Cr m q->Q (.bl (decide (dt3 p q=0))) h->c0 [tw p,tw q] h Q E
variable {dt : AP}
theorem Z7 (hdt:HB dt):Sd (Aq dt):=by
 intro h p q m Q E hm hp hq k;show dt [tw p,tw q] h _ _;refine hdt hm hp hq ?_;show Q (.bl (Cj (.int (dt3 p q)) (.int 0))) h;rw [bY];by_cases e:dt3 p q=0
 ·rw [decide_eq_true e] at k;rw [e];exact k
 ·rw [decide_eq_false e] at k;rw [show (dt3 p q==0)=false by simpa using e];exact k
def AllP (ts:List Tr):Prop:=∀ p∈ts,∀ q∈ts,∀ r∈ts,dt3 (crs q r) p=0
def Z3 (ts:List Tr)(a b c:Nat):Prop:=∀ p q r,ts[a]?=Dn p->ts[b]?=Dn q->ts[c]?=Dn r->dt3 (crs q r) p=0
open Classical in
noncomputable def j9 (ts:List Tr):Bool:=decide (AllP ts)
variable {ts : List Tr}
open Classical in
theorem tX (h:AllP ts):j9 ts=true:=by unfold j9;exact decide_eq_true h
open Classical in
theorem Np (h:¬ AllP ts):j9 ts=false:=by unfold j9;exact decide_eq_false h
theorem rO (p q r:Tr):dt3 (crs q r) p=dt3 (crs r p) q:=by simp only [dt3,crs];grind
theorem ahJ (p q r:Tr):dt3 (crs q r) p = - dt3 (crs r q) p:=by simp only [dt3,crs];grind
theorem mU (p q:Tr):dt3 (crs q q) p=0:=by simp only [dt3,crs];grind
theorem p7 (H:∀ k j i,k<j->j<i->Z3 ts k j i):AllP ts:=by
 intro p hp q hq r hr;obtain ⟨a,ea⟩:=List.getElem?_of_mem hp;obtain ⟨b,eb⟩:=List.getElem?_of_mem hq;obtain ⟨c,ec⟩:=List.getElem?_of_mem hr;have rot:∀ {p q r:Tr},dt3 (crs q r) p=0->dt3 (crs r p) q=0:=fun {p q r} h=>by rw [<-rO];exact h
 have sw:∀ {p q r:Tr},dt3 (crs q r) p=0->dt3 (crs r q) p=0:=fun {p q r} h=>by rw [ahJ,h];rfl
 have ab:a=b->p=q:=fun e=>by subst e;rw [ea] at eb;exact JD eb
 have bc:b=c->q=r:=fun e=>by subst e;rw [eb] at ec;exact JD ec
 have ac:a=c->p=r:=fun e=>by subst e;rw [ea] at ec;exact JD ec
 by_cases h1:a=b
 ·rw [ab h1];exact rot (mU r q)
 by_cases h2:b=c
 ·rw [bc h2];exact mU p r
 by_cases h3:a=c
 ·rw [ac h3];exact rot (rot (mU q r))
 by_cases l1:a<b
 ·by_cases l2:b<c
  ·exact H a b c l1 l2 _ _ _ ea eb ec
  ·by_cases l3:a<c
   ·exact sw<|H a c b l3 (by lia) _ _ _ ea ec eb
   ·exact rot<|H c a b (by lia) l1 _ _ _ ec ea eb
 ·by_cases l2:b<c
  ·by_cases l3:a<c
   ·exact sw<|rot<|H b a c (by lia) l3 _ _ _ eb ea ec
   ·exact rot<|rot<|H b c a l2 (by lia) _ _ _ eb ec ea
  ·exact sw<|rot<|rot<|H c b a (by lia) (by lia) _ _ _ ec eb ea
theorem ajO (ts:List Tr)(h:ts.length<=2):AllP ts:=by
 refine p7 fun k j i h1 h2 p q r _ _ e=>?_;have:=(Pn.mp e).1
 lia
theorem agF {t0:Tr}(h0:t0∈ts)(hu:u∈ts)(hne:u≠t0)(hp:∀ t∈ts,Pl t):(∀ t∈ts,t≠t0->dt3 (crs t0 u) t=0)↔AllP ts:=by
 refine ⟨fun H=>?_,fun H t ht _=>H t ht t0 h0 u hu⟩;have hn:=tZ (hp _ h0) (hp _ hu) (Jo hne);have H':∀ t∈ts,dt3 (crs t0 u) t=0:=fun t ht=>by
  by_cases e:t=t0
  ·subst e;rw [rO,rO];exact mU _ _
  ·exact H t ht e
 intro p hp q hq r hr;exact flat hn (H' q hq) (H' r hr)<|H' p hp
theorem ahk {t0:Tr}(H:∀ t∈ts,t=t0):AllP ts:=by
 intro p hp q hq r hr;rw [H q hq,H r hr];exact mU _ _
theorem wR (e:(ts.map tw)[i]?=Dn w):∃ t,ts[i]?=Dn t/\w=tw t:=by
 rw [N7] at e;cases q:ts[i]? with
 | none=>rw [q] at e;cases e
 | some n=>rw [q] at e;exact ⟨n,rfl,(JD e).symm⟩
theorem TY:∀ ts:List Tr,lC (ts.map tw) (ts.map tw)=true
 | []=>rfl
 | t::ts=>by rw [Lz,lC,TY ts,yj,Bool.and_true,decide_eq_true rfl]
theorem Av (n:Nat)(t:Tr):DY (n+1) (tw t)=true:=by cases n <;> rfl
theorem aa4 (n:Nat)(ts:List Tr):DY (n+2) (.lst (ts.map tw))=true:=by
 show (ts.map tw).all (DY (n+1))=true;rw [Nr];intro w hw;obtain ⟨t,_,rfl⟩:=Pz.mp hw;exact Av n t
theorem xq:∀ bs:List Bool,Jl (bs.map W.bl)=Dn bs
 | []=>rfl
 | b::bs=>by rw [Lz,Jl,xq bs];rfl
theorem CK {s:Src}(I:Nat->List W->Gh->Prop)
  (go:∀ i acc h,I i acc h->∀ P:Prop,P->s.go h P)
  (step:∀ (i:Nat) (w:W) (acc:List W) (h:Gh) (N:List W->Gh->Prop),(∀ acc' h',I (i+1) acc' h'->N acc' h')->ws[i]?=Dn w->I i acc h ->
   ∃ vs,own w=Dn vs/\tt (vs.map Dn++qO ix σ) h fun c h1=>Ib c (te (vs.map Dn++qO ix σ) h1 fun v h2=>N (acc++[v]) h2) (N acc h1))
  (fin:∀ acc h,I ws.length acc h->Q (.lst acc) h):∀ {acc:List W} {h:Gh},I 0 acc h->nY s own ix tt te σ Q ws acc h:=by
 induction ws generalizing I with
 | nil=>intro acc h h0;exact go 0 acc h h0 _ (fin acc h h0)
 | cons w ws ih=>
  intro acc h h0;obtain ⟨vs,ev,q⟩:=step 0 w acc h _ (fun acc' h' q=>ih (fun i=>I (i+1)) (fun i=>go (i+1)) (fun i w acc h N hN e hi=>step (i+1) w acc h N hN (by simpa using e) hi) (fun acc h q=>fin acc h q) q) rfl h0;refine go 0 acc h h0 _ ?_;show (match own w with
   | some vs=>_
   | none=>False)
  rw [ev];exact q
theorem aee (hv:σ[i]?=Dn (Dn w))(hs:qY h w=Dn ⟨ws,JI⟩)(hz:ws.length<=Ht)(k:nY ⟨ws,JI⟩ own ix eN te σ Q ws [] h):HW own ix (Ik (ao i)) eN te σ h Q:=by
 unfold HW Ik ao;rw [hv];dsimp only;rw [hs];exact fW.mk hz k
def dD (h:Gh)(w:W)(ts:List Tr):Prop:=w=.lst (ts.map tw)\/∃ n,w=.loc n/\h.c n=Dn (.lst (ts.map tw))
theorem dD.src (e:dD h w ts):view h w=Dn (ts.map tw)/\∃ s:Src,qY h w=Dn s/\s.ws=ts.map tw/\∀ P:Prop,P->s.go h P:=by
 rcases e with rfl | ⟨n,rfl,e⟩
 ·exact ⟨rfl,_,rfl,rfl,fun _ p=>p⟩
 ·refine ⟨cX e,⟨ts.map tw,Dn (n,ts.map tw)⟩,by simp only [qY,e],rfl,fun P p=>⟨e,p⟩⟩
theorem Em (t0:Tr)(r:List Tr):Lg ((t0::r).map tw) 0=Dn (tw t0):=uo (j:=0) rfl
theorem Ay {t0:Tr}{r:List Tr}{o1 o2:Option W}(e:dD h w (t0::r))(hl:(t0::r).length<=1000)(q:Q (.lst (((t0::r).filter (·≠t0)).map tw)) h):
  HW Hz [0] (Ik (ao 0)) (aZ (Ae Jk (ao 0) (Ae CR (ao 1) (mC (.int 0))))) (ao 0) [Dn w,o1,o2] h Q:=by
 obtain ⟨ev,s,es,ew,go⟩:=e.src;generalize hts:t0::r=ts at *;have a0:Lg (ts.map tw) 0=Dn (tw t0):=by rw [<-hts];exact Em _ _
 show (match qY h w with
  | some s=>_
  | none=>False)
 rw [es];show fW s.ws.length (nY s _ _ _ _ _ _ s.ws [] h);rw [ew];refine fW.mk (by rw [Hu];exact J4 hl (by decide)) ?_;refine CK (fun i acc h'=>h'=h/\acc=((ts.take i).filter (·≠t0)).map tw) ?_ ?_ ?_ ⟨rfl,rfl⟩
 ·rintro i acc h' ⟨rfl,_⟩;exact go
 ·rintro i w2 acc h' N hN e2 ⟨rfl,rfl⟩;obtain ⟨t,et,rfl⟩:=wR e2;refine ⟨[tw t],rfl,?_⟩;show (match view h' w with
   | some ws=>(match Lg ws 0 with
    | some w=>_
    | none=>False)
   | none=>False)
  rw [ev];dsimp only;rw [a0];show Ib (DY 30 (tw t)&&DY 30 (tw t0)) (Ib (!Cj (tw t) (tw t0)) (N (_++[tw t]) h') _) False;rw [Av 29,Av 29,yj];show Ib (!decide (t=t0)) _ _;by_cases h0:t=t0
  ·refine Xa (by simp [h0])<|hN _ _ ⟨rfl,?_⟩
   rw [Nh,et];simp [h0]
  ·refine BX (by simp [h0])<|hN _ _ ⟨rfl,?_⟩
   rw [Nh,et];simp [h0]
 ·rintro acc h' ⟨rfl,rfl⟩;rw [Hu,OJ];exact q
def jM (c0:AP):Prop:=∀ {h:Gh} {w:W} {ts:List Tr} {M:Nat} {Q:WK} {E:Bo},dD h w ts->ts.length<=1000->M<=4000->(∀ t∈ts,Pl t/\Cr M t)->Q (.bl (j9 ts)) h->c0 [w] h Q E
theorem ajT {dot:AP}(hdot:HB dot)(hcr:O8 cr):jM (tH dot cr):=by
 intro h w ts M Q E e hl hM hs q;show HW Hz [0] (Ik (ao 0)) (aZ (Ae Jk (ao 0) (Ae CR (ao 1) (mC (.int 0))))) (ao 0) [Dn w,JI,JI] h _;match ts,e,hl,hs,q with
 | [],e,hl,hs,q=>
  obtain ⟨ev,s,es,ew,go⟩:=e.src;rw [tX (ajO [] (by decide))] at q;show (match qY h w with
   | some s=>_
   | none=>False)
  rw [es];show fW s.ws.length (nY s _ _ _ _ _ _ s.ws [] h);rw [ew];show s.go h _;refine go _ ?_;exact vo rfl q
 | t0::r,e,hl,hs,q=>
  refine Ay e hl ?_;generalize hts:t0::r=ts at *;have m0:t0∈ts:=by rw [<-hts];simp
  have hus:∀ t,t∈ts.filter (·≠t0)↔t∈ts/\t≠t0:=fun t=>by rw [Oh];simp
  have hlu:(ts.filter (·≠t0)).length<=ts.length:=List.length_filter_le ..;generalize ts.filter (·≠t0)=us at hus hlu;match us,hus,hlu with
  | [],hus,_=>
   rw [tX (ahk (t0:=t0) fun t ht=>by
    by_cases e:t=t0
    ·exact e
    ·exact absurd ((hus t).mpr ⟨ht,e⟩) (by simp))] at q
   exact vo rfl q
  | u::us,hus,hlu=>
   have hu:=(hus u).mp (by simp);refine jY rfl ?_;obtain ⟨ev,s,es,ew,go⟩:=e.src;show (match view h w with
    | some ws=>(match Lg ws 0 with
     | some w=>_
     | none=>False)
    | none=>False)
   rw [ev];dsimp only;rw [show Lg (ts.map tw) 0=Dn (tw t0) by rw [<-hts];exact Em _ _];show (match Lg ((u::us).map tw) 0 with
    | some w=>_
    | none=>False)
   rw [Em];show cr [tw t0,tw u] h _ _;refine hcr (m:=M) (by lia) (hs _ m0).2 (hs _ hu.1).2 ?_;have sc:=gk (hs _ m0).2 (hs _ hu.1).2;have it:=agF (u:=u) m0 hu.1 hu.2 fun t ht=>(hs t ht).1
   generalize crs t0 u=n at sc it;generalize hvs:u::us=vs at *;show HW Hz [2] (Ik (ao 1)) eN (Ae JZ (aD dot E (aj (ao 1) (aj (ao 0) aG))) (mC (.int 0))) [Dn w,Dn (.lst (vs.map tw)),Dn (tw n)] h _;refine aee (w:=.lst (vs.map tw)) (ws:=vs.map tw) rfl rfl (by rw [Hu];exact J4 (J4 hlu hl) (by decide)) ?_;refine lE (fun i acc h'=>h'=h/\acc=((vs.take i).map fun t=>dt3 n t==0).map W.bl) ?_ ?_ ⟨rfl,rfl⟩
   ·rintro i w2 acc h' N hN e2 ⟨rfl,rfl⟩;obtain ⟨t,et,rfl⟩:=wR e2;have mt:=(hus t).mp (Q0 et);refine ⟨[tw t],rfl,?_⟩;show dot [tw n,tw t] h' _ _;refine hdot (m:=M+M+1) (by lia) sc ((hs t mt.1).2.mono (by lia)) ?_;show N (_++[W.bl (Cj (.int (dt3 n t)) (.int 0))]) h';rw [bY];refine hN _ _ ⟨rfl,?_⟩;rw [Nh,et];simp
   ·rintro acc h' ⟨rfl,rfl⟩;rw [Hu,OJ];show (match Jl ((vs.map fun t=>dt3 n t==0).map W.bl) with
     | some bs=>Q (.bl (bs.all id)) h'
     | none=>False)
    rw [xq];have ef:(vs.map fun t=>dt3 n t==0).all id=j9 ts:=by
     by_cases H:AllP ts
     ·rw [tX H,Nr];intro b hb;obtain ⟨t,ht,rfl⟩:=Pz.mp hb;have:=it.mpr H t ((hus t).mp ht).1 ((hus t).mp ht).2
      simp [this]
     ·rw [Np H];refine Bool.eq_false_iff.mpr fun hb=>H<|it.mp fun t ht hne=>?_
      rw [Nr] at hb;have:=hb _ (Pz.mpr ⟨t,(hus t).mpr ⟨ht,hne⟩,rfl⟩)
      simpa using this
    dsimp only;rw [ef];exact q
theorem zaJ {sh:AP}(hsh:jM sh):jM (zN sh):=by
 intro h w ts M Q E e hl hM hs q;show sh [w] h _ _;exact hsh e hl hM hs q
theorem Hl {s:Src}(I:Nat->Sw->Gh->Prop)(go:∀ i σ h,I i σ h->∀ P:Prop,P->s.go h P)
  (step:∀ (i:Nat) (w:W) (σ : Sw) (h:Gh) (N:Sw->Gh->Prop),(∀ σ' h',I (i+1) σ' h'->N σ' h')->ws[i]?=Dn w->I i σ h->g w σ h fun σ1 h1=>b { D with nx:=N,ct:=N,bk:=D.nx } σ1 h1)
  (fin:∀ σ h,I ws.length σ h->D.nx σ h):∀ {σ : Sw} {h:Gh},I 0 σ h->dR s g b D ws σ h:=by
 induction ws generalizing I with
 | nil=>intro σ h h0;exact go 0 σ h h0 _ (fin σ h h0)
 | cons w ws ih=>
  intro σ h h0;refine go 0 σ h h0 _ ?_;refine step 0 w σ h _ (fun σ' h' q=>?_) rfl h0;exact ih (fun i=>I<|i+1) (fun i=>go<|i+1) (fun i w σ h N hN e hi=>step (i+1) w σ h N hN (by simpa using e) hi) (fun σ h q=>fin σ h q) q
theorem zbB (hv:σ[i]?=Dn (Dn w))(e:dD h w ts)(I:Nat->Sw->Gh->Prop)
  (go:∀ i σ h',I i σ h'->dD h' w ts)
  (step:∀ (i:Nat) (t:Tr) (σ : Sw) (h:Gh) (N:Sw->Gh->Prop),(∀ σ' h',I (i+1) σ' h'->N σ' h')->ts[i]?=Dn t->I i σ h->g (tw t) σ h fun σ1 h1=>b { D with nx:=N,ct:=N,bk:=D.nx } σ1 h1)
  (fin:∀ σ h,I ts.length σ h->D.nx σ h) (h0:I 0 σ h):rK (Ik (ao i)) g b D σ h:=by
 unfold rK Ik ao;rw [hv];dsimp only;have gen:∀ s:Src,qY h w=Dn s->s.ws=ts.map tw->(∀ h',dD h' w ts->∀ P:Prop,P->s.go h' P)->(match qY h w with
   | some s=>dR s g b D s.ws σ h
   | none=>False):=by
  intro s es ew hg;rw [es];show dR s g b D s.ws σ h;rw [ew];refine Hl I (fun i σ h' hi=>hg h'<|go i σ h' hi) (fun i w σ h N hN e hi=>?_) (fun σ h q=>fin σ h<|by rwa [Hu] at q) h0;obtain ⟨t,et,rfl⟩:=wR e;exact step i t σ h N hN et hi
 rcases e with rfl | ⟨n,rfl,e⟩
 ·exact gen ⟨ts.map tw,JI⟩ rfl rfl fun _ _ _ p=>p
 ·refine gen ⟨ts.map tw,Dn (n,ts.map tw)⟩ (by simp only [qY,e]) rfl fun h' e' P p=>⟨?_,p⟩;rcases e' with e' | ⟨n',e',q⟩
  ·cases e'
  ·cases e';exact q
variable {us : List W}
theorem R7 (e:h.c n=Dn (.lst us))(hz:us.length<Ht)(k:Q .non (h.set n (.lst (us++[w])))):gG (.loc n) [w] h Q:=by
 show (match h.c n with
  | some (Cell.lst us)=>_
  | _=>False)
 rw [e];exact ⟨hz,k⟩
variable {zs : List W}
theorem FW (e:h.c n=Dn (.lst us))(hz:us.length+zs.length<=Ht)(k:Q .non (h.set n (.lst (us++zs)))):iV (.loc n) [.lst zs] h Q:=by
 dsimp only [iV];rw [e];exact fW.mk hz k
theorem K6 (hm:∀ R,ma σ h R=R [.int j] h)(h1:-(2^62)<=j)(h2:j<2^62)(hz:j.toNat<=Ht)(I:Nat->List W->Gh->Prop)
  (step:∀ (i:Nat) (acc:List W) (h:Gh) (N:List W->Gh->Prop),(∀ acc' h',I (i+1) acc' h'->N acc' h')->i<j.toNat->I i acc h ->
   ∃ vs,own (.int (i:Int))=Dn vs/\tt (vs.map Dn++qO ix σ) h fun c h1=>Ib c (te (vs.map Dn++qO ix σ) h1 fun v h2=>N (acc++[v]) h2) (N acc h1))
  (fin:∀ acc h,I j.toNat acc h->Q (.lst acc) h) (h0:I 0 [] h):HW own ix (dh ma) tt te σ h Q:=by
 unfold HW dh;rw [hm];refine Ao.mk h1 h2<|fW.mk (by rw [xQ];exact hz) ?_
 refine lE I (fun i w acc h N hN e hi=>?_) (fun acc h q=>fin acc h (by rw [xQ] at q;exact q)) h0;obtain ⟨hlt,rfl⟩:=Hh e;rw [Int.zero_add];exact step i acc h N hN hlt hi
abbrev Mt:=Tr×Tr×Tr
def vm (M:Mt)(v:Tr):Tr:=(dt3 M.1 v,dt3 M.2.1 v,dt3 M.2.2 v)
def tr (M:Mt):Mt:=((M.1.1,M.2.1.1,M.2.2.1),(M.1.2.1,M.2.1.2.1,M.2.2.2.1),(M.1.2.2,M.2.1.2.2,M.2.2.2.2))
def mm (M N:Mt):Mt:=(vm (tr N) M.1,vm (tr N) M.2.1,vm (tr N) M.2.2)
def MJ (M:Mt):Mt:=(crs M.2.1 M.2.2,crs M.2.2 M.1,crs M.1 M.2.1)
def adj (M:Mt):Mt:=tr (MJ M)
def det (M:Mt):Int:=dt3 (crs M.1 M.2.1) M.2.2
def sM (k:Int)(M:Mt):Mt:=(sc k M.1,sc k M.2.1,sc k M.2.2)
def RP:Mt:=((1,0,0),(0,1,0),(0,0,1))
theorem Oc (h1:p.1=q.1)(h2:p.2.1=q.2.1)(h3:p.2.2=q.2.2):p=q:=J7 h1 (J7 h2 h3)
variable {M : Mt}
theorem mt3 {N:Mt}(h1:M.1=N.1)(h2:M.2.1=N.2.1)(h3:M.2.2=N.2.2):M=N:=J7 h1 (J7 h2 h3)
theorem Hj (x:Tr)(N:Mt)(v:Tr):dt3 (vm (tr N) x) v=dt3 x (vm N v):=by
 simp only [dt3,vm,tr];grind
theorem CP (M N:Mt)(v:Tr):vm (mm M N) v=vm M (vm N v):=by
 simp only [mm];exact Oc (Hj _ _ _) (Hj _ _ _)<|Hj _ _ _
theorem adI (M N:Mt):tr (mm M N)=mm (tr N) (tr M):=by
 simp only [mm,tr,vm];refine mt3 (Oc ?_ ?_ ?_) (Oc ?_ ?_ ?_) (Oc ?_ ?_ ?_) <;> exact cj _ _
theorem cQ (M:Mt)(k:Int)(v:Tr):vm M (sc k v)=sc k (vm M v):=Oc (mj _ _ _) (mj _ _ _) (mj _ _ _)
theorem vG (M:Mt)(k:Int)(v:Tr):vm (sM k M) v=sc k (vm M v):=Oc (uI _ _ _) (uI _ _ _) (uI _ _ _)
theorem ad7 (M:Mt)(k:Int):tr (sM k M)=sM k (tr M):=rfl
theorem KQ (v:Tr):vm RP v=v:=by
 obtain ⟨a,b,c⟩:=v;simp [vm,RP,dt3]
theorem abU (M:Mt):mm M (adj M)=sM (det M) RP:=by
 obtain ⟨⟨a,b,c⟩,⟨d,e,f⟩,⟨g,h,i⟩⟩:=M;simp only [mm,vm,adj,tr,MJ,det,sM,RP,sc,dt3,crs];refine mt3 (Oc ?_ ?_ ?_) (Oc ?_ ?_ ?_) (Oc ?_ ?_ ?_) <;> simp only <;> grind
theorem zF (M:Mt):mm (adj M) M=sM (det M) RP:=by
 obtain ⟨⟨a,b,c⟩,⟨d,e,f⟩,⟨g,h,i⟩⟩:=M;simp only [mm,vm,adj,tr,MJ,det,sM,RP,sc,dt3,crs];refine mt3 (Oc ?_ ?_ ?_) (Oc ?_ ?_ ?_) (Oc ?_ ?_ ?_) <;> simp only <;> grind
theorem Nt (M:Mt)(p q:Tr):crs (vm M p) (vm M q)=vm (MJ M) (crs p q):=by
 obtain ⟨⟨a,b,c⟩,⟨d,e,f⟩,⟨g,h,i⟩⟩:=M;obtain ⟨p1,p2,p3⟩:=p;obtain ⟨q1,q2,q3⟩:=q;simp only [vm,MJ,dt3,crs];refine Oc ?_ ?_ ?_ <;> simp only <;> grind
theorem ajl (M:Mt)(x v:Tr):dt3 (vm (MJ M) x) (vm M v)=det M*dt3 x v:=by
 show dt3 (vm (tr (adj M)) x) (vm M v)=_;rw [Hj,<-CP,zF,vG,KQ,mj,V9]
theorem RX (M:Mt)(p q r:Tr):dt3 (crs (vm M p) (vm M q)) (vm M r)=det M*dt3 (crs p q) r:=by rw [Nt,ajl]
theorem Sg (M:Mt):det (tr M)=det M:=by
 obtain ⟨⟨a,b,c⟩,⟨d,e,f⟩,⟨g,h,i⟩⟩:=M;simp only [det,tr,dt3,crs];grind
theorem zO (M N:Mt):det (mm M N)=det M*det N:=by
 show dt3 (crs (vm (tr N) M.1) (vm (tr N) M.2.1)) (vm (tr N) M.2.2)=_;rw [RX,Sg,V9];rfl
theorem S9 (k:Int)(M:Mt):det (sM k M)=det M*(k*k*k):=by
 simp only [det,sM];rw [Bc,uI,mj];grind
theorem ajY (hk:k≠0):det (sM k M)≠0↔det M≠0:=by
 rw [S9];have:k*k*k≠0:=fun h=>(Q7.mp h).elim (fun h=>(Q7.mp h).elim hk hk) hk
 rw [ne_eq,cG this]
theorem YK:det RP=1:=by decide
theorem Ef (h:det M≠0):det (adj M)≠0:=by
 have e:=zO M (adj M);rw [abU,S9,YK] at e;intro z;rw [z,VB,Int.one_mul] at e;exact (Q7.mp e).elim (fun e=>(Q7.mp e).elim h h) h
theorem LK {v:Tr}(h:det M≠0)(hv:v≠(0,0,0)):vm M v≠(0,0,0):=by
 intro e;have e2:vm (adj M) (vm M v)=(0,0,0):=by rw [e];simp [vm,dt3]
 rw [<-CP,zF,vG,KQ] at e2;exact hv<|(oH h).mp e2
def ml (M:Mt):List Int:=tl M.1++(tl M.2.1++tl M.2.2)
def mw (M:Mt):W:=.tup [.int M.1.1,.int M.1.2.1,.int M.1.2.2,.int M.2.1.1,.int M.2.1.2.1,.int M.2.1.2.2,.int M.2.2.1,.int M.2.2.2.1,.int M.2.2.2.2]
def Oe (M:Mt):W:=.lst [.int M.1.1,.int M.1.2.1,.int M.1.2.2,.int M.2.1.1,.int M.2.1.2.1,.int M.2.1.2.2,.int M.2.2.1,.int M.2.2.2.1,.int M.2.2.2.2]
def Ql (M:Mt):Prop:=Ox (ml M)
def Io (m:Nat)(M:Mt):Prop:=Cr m M.1/\Cr m M.2.1/\Cr m M.2.2
def Jt (U M:Mt):Prop:=∃ k,k≠0/\U=sM k M
theorem Io.mono {m n:Nat}{M:Mt}(h:Io m M)(e:m<=n):Io n M:=⟨h.1.mono e,h.2.1.mono e,h.2.2.mono e⟩
theorem Io.all {m:Nat}{M:Mt}(h:Io m M):∀ n∈ml M,Sm m n:=by
 intro n hn;unfold ml at hn;rcases Py.mp hn with hn | hn
 ·exact h.1.all n hn
 ·rcases Py.mp hn with hn | hn
  ·exact h.2.1.all n hn
  ·exact h.2.2.all n hn
theorem acH (h:det M≠0):NZ (ml M):=by
 by_cases h1:M.1=(0,0,0)
 ·exact absurd (by unfold det;rw [h1];simp [crs,dt3]) h
 ·obtain ⟨n,hn,n0⟩:=Ym h1;exact ⟨n,XQ _ hn,n0⟩
theorem aa0 (e:ml M=ms.map (· * k)):∃ N:Mt,ms=ml N/\M=sM k N:=by
 match ms,congrArg List.length e,e with
 | [a,b,c,d,e',f,g,h,i],_,e=>
  simp only [ml,tl,List.cons_append,List.nil_append,Lz,WT,List.cons.injEq,and_true] at e;refine ⟨((a,b,c),(d,e',f),(g,h,i)),rfl,?_⟩;obtain ⟨e1,e2,e3,e4,e5,e6,e7,e8,e9⟩:=e;exact mt3 (Oc e1 e2 e3) (Oc e4 e5 e6)<|Oc e7 e8 e9
theorem Jt.det {U M:Mt}(h:Jt U M):My.det U≠0↔My.det M≠0:=by
 obtain ⟨k,hk,rfl⟩:=h;exact ajY hk
theorem uZ.mt (hc:uZ c0){U:Mt}{m:Nat}(hw:w=mw U\/w=Oe U)(h0:My.det U≠0)(hs:Io m U)(hm:m<=8000)
  (q:∀ M:Mt,Ql M->Jt U M->Io m M->Q (mw M) h):c0 [w] h Q E:=by
 refine hc (ns:=ml U) (m:=m) ?_ (acH h0) hs.all hm (show 9<=1000 by decide) fun ms k hk e pl sm=>?_
 ·rcases hw with rfl | rfl
  ·exact .inr rfl
  ·exact .inl rfl
 ·obtain ⟨M,rfl,e'⟩:=aa0 e;refine q M pl ⟨k,hk,e'⟩ ⟨⟨sm _ ?_,sm _ ?_,sm _ ?_⟩,⟨sm _ ?_,sm _ ?_,sm _ ?_⟩,⟨sm _ ?_,sm _ ?_,sm _ ?_⟩⟩ <;> simp [ml,tl]
theorem Kh {m:Nat}(hp:Cr m p)(hq:Cr n q):Sm (m+n+2) (dt3 p q):=
 ((hp.1.mul hq.1).add (hp.2.1.mul hq.2.1)).add (hp.2.2.mul hq.2.2) |>.mono (by lia)
theorem Lw {m:Nat}(h:Io m M):Io m (tr M):=⟨⟨h.1.1,h.2.1.1,h.2.2.1⟩,⟨h.1.2.1,h.2.1.2.1,h.2.2.2.1⟩,⟨h.1.2.2,h.2.1.2.2,h.2.2.2.2⟩⟩
theorem Dh {m:Nat}{v:Tr}(h:Io m M)(hv:Cr n v):Cr (m+n+2) (vm M v):=⟨Kh h.1 hv,Kh h.2.1 hv,Kh h.2.2 hv⟩
theorem aal {m:Nat}{N:Mt}(h:Io m M)(h':Io n N):Io (n+m+2) (mm M N):=⟨Dh (Lw h') h.1,Dh (Lw h') h.2.1,Dh (Lw h') h.2.2⟩
theorem JB {m:Nat}(h:Io m M):Io (m+m+1) (MJ M):=⟨gk h.2.1 h.2.2,gk h.2.2 h.1,gk h.1 h.2.1⟩
theorem abH {m:Nat}(h:Io m M):Io (m+m+1) (adj M):=Lw (JB h)
def Pq:W->Bool
 | .non | .bl _ | .int _ | .str _ | .tup _ | .lst _=>true
 | _=>false
def jJ:W->Bool
 | .int _=>true
 | _=>false
def uq (c0:AP):Prop:=∀ {h:Gh} {w:W} {Q:WK} {E:Bo},Pq w=true->Q (.bl (jJ w)) h->c0 [w] h Q E
theorem aic:uq wz:=by
 intro h w Q E hs q;cases w <;> first | exact q | cases hs
theorem ahO:uq zq:=by
 intro h w Q E hs q;cases w <;> first | exact q | cases hs
def intsOf:List W->Option (List Int)
 | []=>Dn []
 | .int n::ws=>(intsOf ws).map (n::·)
 | _=>JI
theorem pB:∀ ns:List Int,intsOf (ns.map W.int)=Dn ns
 | []=>rfl
 | n::ns=>by rw [Lz,intsOf,pB ns];rfl
theorem jD:∀ {ws:List W},ws.all jJ=true->∃ ns:List Int,ws=ns.map W.int
 | [],_=>⟨[],rfl⟩
 | w::ws,h=>by
  rw [Rh,Jw] at h;obtain ⟨ns,rfl⟩:=jD h.2;cases w with
  | int n=>exact ⟨n::ns,rfl⟩
  | _=>exact absurd h.1 Ky
theorem oW:∀ {ws:List W},ws.all jJ=false->intsOf ws=JI
 | [],h=>by simp at h
 | w::ws,h=>by
  cases w with
  | int n=>
   have:ws.all jJ=false:=by simpa [Rh,jJ] using h
   rw [intsOf,oW this];rfl
  | _=>rfl
instance (ns:List Int):Decidable (Ox ns):=inferInstanceAs (Decidable (_/\_))
def acn (many:Int):W->Bool
 | .tup ws=>decide ((ws.length:Int)=many)&&(match intsOf ws with
  | some ns=>decide (Ox ns)
  | none=>false)
 | _=>false
def okW (m:Nat):W->Prop
 | .tup ws=>ws.length<=1000/\m<=8000/\(∀ w∈ws,Pq w=true)/\∀ n,W.int n∈ws->Sm m n
 | w=>Pq w=true
theorem Fw {wh:AP}(hwh:uq wh)(hv:σ[i]?=Dn (Dn w))(hs:qY h w=Dn ⟨ws,JI⟩)(hz:ws.length<=Ht)(hw:∀ w∈ws,Pq w=true)(k:Q (.lst ((ws.map jJ).map .bl)) h):
  HW Hz ix (Ik (ao i)) eN (aD wh E (aj (ao 0) aG)) σ h Q:=by
 unfold HW Ik ao;rw [hv];dsimp only;rw [hs];refine fW.mk hz ?_;refine lE (fun i acc h'=>h'=h/\acc=((ws.take i).map jJ).map W.bl) ?_ ?_ ⟨rfl,rfl⟩
 ·rintro i w acc h' N hN e ⟨rfl,rfl⟩;refine ⟨[w],rfl,?_⟩;refine hwh (hw w<|Q0 e) ?_;refine hN _ _ ⟨rfl,?_⟩;rw [Nh,e];simp
 ·rintro acc h' ⟨rfl,rfl⟩;rw [OJ];exact k
theorem LR {us:List Bool}(k:Q (.bl (us.all id)) h):Uc [.lst (us.map .bl)] h Q:=by
 show (match Jl (us.map W.bl) with
  | some bs=>Q (.bl (bs.all id)) h
  | none=>False)
 rw [xq];exact k
theorem ajH {us:List Bool}(k:Q (.bl (us.any id)) h):YC [.lst (us.map .bl)] h Q:=by
 show (match Jl (us.map W.bl) with
  | some bs=>Q (.bl (bs.any id)) h
  | none=>False)
 rw [xq];exact k
theorem T5 (ws:List W):(ws.map jJ).all id=ws.all jJ:=by rw [List.all_map];rfl
def Eh (c0:AP):Prop:=∀ {h:Gh} {w:W} {many:Int} {m:Nat} {Q:WK} {E:Bo},okW m w->Q (.bl (acn many w)) h->c0 [w,.int many] h Q E
theorem acD {a b:Int}:(!Cj (.int a) (.int b)) = !decide (a=b):=by rw [bY];rfl
theorem zaP {wh dv en:AP}(hwh:uq wh)(hdv:jA dv)(hen:Wt en):Eh (vO wh dv en):=by
 intro h w many m Q E ok q;cases w with
 | tup ws=>
  obtain ⟨hl,hm,hs,hn⟩:=ok;refine jY rfl ?_;show br (!Cj (.int (ws.length:Int)) (.int many)) _ _;rw [acD];dsimp only [acn] at q;by_cases e:(ws.length:Int)=many
  ·rw [decide_eq_true e,Bool.true_and] at q;refine jY (by rw [decide_eq_true e];rfl) ?_;show HW Hz [] (Ik (ao 0)) eN (aD wh E (aj (ao 0) aG)) [Dn (.tup ws),Dn (.int many)] h _;refine Fw hwh (w:=.tup ws) rfl rfl (J4 hl<|by decide) hs ?_;dsimp only [aG];refine LR ?_;rw [T5];cases ea:ws.all jJ with
   | false=>
    rw [oW ea] at q;exact vo rfl q
   | true=>
    refine jY rfl ?_;obtain ⟨ns,rfl⟩:=jD ea;rw [pB] at q;show dv [.tup (ns.map .int)] h _ _;refine hdv (.inr rfl) ?_;show (match W.bl (Cj (.int (gL ns)) (.int 1)) with
     | .bl true=>_
     | .bl false=>_
     | _=>False)
    rw [bY];by_cases e1:gL ns=1
    ·rw [show (gL ns==1)=true by simpa using e1];show en [.tup (ns.map .int)] h _ _;refine hen (.inr rfl) ?_;have e2:decide (Ox ns) = !decide (eX ns<0):=by
      have l0:eX ns≠0:=xU (by
       by_cases z:NZ ns
       ·exact z
       ·exfalso;have:∀ l:List Int,(¬ NZ l)->gL l=0:=by
         intro l hl;have hz:∀ n∈l,n=0:=fun n hn=>by
          by_cases e:n=0
          ·exact e
          ·exact absurd ⟨n,hn,e⟩ hl
         have:l=l.map (· * 0):=by
          conv=>lhs;rw [<-List.map_id l]
          exact List.map_congr_left fun n hn=>by rw [hz n hn];rfl
         rw [this,G6];simp
        rw [this ns z] at e1;exact absurd e1 (by decide))
      by_cases e3:eX ns<0
      ·rw [decide_eq_true e3];exact decide_eq_false fun z=>by have:=z.2;lia
      ·rw [decide_eq_false e3];exact decide_eq_true ⟨e1,by lia⟩
     dsimp only at q;rw [e2] at q;exact q
    ·rw [show (gL ns==1)=false by simpa using e1];dsimp only at q;rw [decide_eq_false fun z=>e1 z.1] at q;exact q
  ·rw [decide_eq_false e,Bool.false_and] at q;exact vo (by rw [decide_eq_false e];rfl) q
 | _=>first | (refine vo rfl (vo rfl ?_);exact q) | cases ok
theorem Gb (n:Nat)(ns:List Int):DY (n+1) (.tup (ns.map W.int))=true:=by
 show (ns.map W.int).all (DY n)=true;rw [List.all_map,Nr];intro x _;cases n <;> rfl
theorem Gu:∀ ns ms:List Int,lC (ns.map W.int) (ms.map W.int)=decide (ns=ms)
 | [],[]=>rfl
 | [],_::_=>rfl
 | _::_,[]=>rfl
 | a::ns,b::ms=>by
  rw [Lz,Lz,lC,bY,Gu ns ms];by_cases e:a=b <;> by_cases e':ns=ms <;> simp [e,e']
theorem ajz (ns ms:List Int):Cj (.tup (ns.map W.int)) (.tup (ms.map W.int))=decide (ns=ms):=by rw [Cj,Gu]
theorem aik (k:Q (.bl (decide (ns=ms))) h):JZ (.tup (ns.map .int)) (.tup (ms.map .int)) h Q:=by
 show Ib (DY 30 (.tup (ns.map W.int))&&DY 30 (.tup (ms.map W.int))) (Q (.bl (Cj (.tup (ns.map W.int)) (.tup (ms.map W.int)))) h) False;rw [Gb 29,Gb 29,ajz];exact k
theorem abx (hv:σ[i]?=Dn (Dn w))(hs:qY h w=Dn ⟨ns.map .int,JI⟩)(hz:ns.length<=Ht)(k:Q (.lst ((ns.map fun n=>decide (n≠0)).map .bl)) h):
  HW Hz ix (Ik (ao i)) eN (Ae Jk (ao 0) (mC (.int 0))) σ h Q:=by
 unfold HW Ik ao;rw [hv];dsimp only;rw [hs];refine fW.mk (by rw [Hu];exact hz) ?_;refine lE (fun i acc h'=>h'=h/\acc=((ns.take i).map fun n=>decide<|n≠0).map W.bl) ?_ ?_ ⟨rfl,rfl⟩
 ·rintro i w acc h' N hN e ⟨rfl,rfl⟩;obtain ⟨n,en,rfl⟩:=ints_get e;refine ⟨[.int n],rfl,?_⟩;show N (_++[W.bl (!Cj (.int n) (.int 0))]) h';refine hN _ _ ⟨rfl,?_⟩;rw [Nh,en,acD];simp
 ·rintro acc h' ⟨rfl,rfl⟩;rw [Hu,OJ];exact k
theorem Ss (ns:List Int):(ns.map fun n=>decide (n≠0)).any id=true↔NZ ns:=by
 rw [List.any_map,List.any_eq_true];exact ⟨fun ⟨n,hn,h⟩=>⟨n,hn,by simpa using h⟩,fun ⟨n,hn,h⟩=>⟨n,hn,by simpa using h⟩⟩
theorem zbh {wh:AP}(hwh:uq wh)(hpl:uZ pl):Eh (wB wh pl):=by
 intro h w many m Q E ok q;cases w with
 | tup ws=>
  obtain ⟨hl,hm,hs,hn⟩:=ok;have hz:ws.length<=Ht:=J4 hl (by decide);refine jY rfl ?_;show br (!Cj (.int (ws.length:Int)) (.int many)) _ _;rw [acD];dsimp only [acn] at q;by_cases e:(ws.length:Int)=many
  ·rw [decide_eq_true e,Bool.true_and] at q;refine jY (by rw [decide_eq_true e];rfl) ?_;show HW Hz [] (Ik (ao 0)) eN (aD wh E (aj (ao 0) aG)) [Dn (.tup ws),Dn (.int many)] h _;refine Fw hwh (w:=.tup ws) rfl rfl hz hs ?_;dsimp only [aG];refine LR ?_;rw [T5];cases ea:ws.all jJ with
   | false=>
    rw [oW ea] at q;exact vo rfl q
   | true=>
    refine jY rfl ?_;obtain ⟨ns,rfl⟩:=jD ea;rw [pB] at q;rw [Hu] at hz hl;show HW Hz [] (Ik (ao 0)) eN (Ae Jk (ao 0) (mC (.int 0))) [Dn (.tup (ns.map .int)),Dn (.int many)] h _;refine abx (w:=.tup (ns.map .int)) rfl rfl hz ?_;dsimp only [aG];refine ajH ?_;by_cases z:NZ ns
    ·rw [(Ss ns).mpr z];show pl [.tup (ns.map .int)] h _ _;refine hpl (.inr rfl) z (fun n hn'=>hn n<|Pz.mpr ⟨n,hn',rfl⟩) hm hl fun ms k hk em pm sm=>?_;refine aik ?_;have:(ms=ns)↔Ox ns:=⟨fun e=>e ▸ pm,fun p=>T3 pm p (s:=k) (t:=1) hk (by decide) (by rw [<-em];simp)⟩
     rw [show decide (ms=ns)=decide (Ox ns) from decide_eq_decide.mpr this];exact q
    ·have:(ns.map fun n=>decide (n≠0)).any id=false:=Bool.eq_false_iff.mpr fun e=>z ((Ss ns).mp e)
     rw [this];dsimp only at q;rw [decide_eq_false fun p=>z p.nz] at q;exact q
  ·rw [decide_eq_false e,Bool.false_and] at q;exact vo (by rw [decide_eq_false e];rfl)<|vo rfl q
 | _=>first | (refine vo rfl (vo rfl ?_);exact q) | cases ok
def lw (t:Tr):W:=.lst [.int t.1,.int t.2.1,.int t.2.2]
def Iu (b:Bool)(t:Tr):W:=if b then tw t else lw t
def Ls (b:Bool)(M:Mt):W:=if b then mw M else Oe M
def adZ (c0:AP):Prop:=∀ {h:Gh} {p q:Tr} {m:Nat} {Q:WK} {E:Bo} (b b':Bool),m<=10000->Cr m p->Cr m q->Q (tw (crs p q)) h->c0 [Iu b p,Iu b' q] h Q E
def ab9 (c0:AP):Prop:=∀ {h:Gh} {p q:Tr} {m:Nat} {Q:WK} {E:Bo} (b b':Bool),m<=10000->Cr m p->Cr m q->Q (.int (dt3 p q)) h->c0 [Iu b p,Iu b' q] h Q E
theorem yc:adZ Cu:=by
 intro h p q m Q E b b' hm hp hq k;obtain ⟨x,y,z⟩:=q;obtain ⟨a,b2,c⟩:=p;obtain ⟨ha,hb,hc⟩:=hp;obtain ⟨hx,hy,hz⟩:=hq;simp only at ha hb hc hx hy hz;cases b <;> cases b'
 ·((conv=>whnf);repeat (refine And.intro (by exact eV.of (by trivial) (by trivial) (by lia) (by lia)) ?_;conv=>whnf))
  exact k
 ·((conv=>whnf);repeat (refine And.intro (by exact eV.of (by trivial) (by trivial) (by lia) (by lia)) ?_;conv=>whnf))
  exact k
 ·((conv=>whnf);repeat (refine And.intro (by exact eV.of (by trivial) (by trivial) (by lia) (by lia)) ?_;conv=>whnf))
  exact k
 ·((conv=>whnf);repeat (refine And.intro (by exact eV.of (by trivial) (by trivial) (by lia) (by lia)) ?_;conv=>whnf))
  exact k
theorem FZ:ab9 Wn:=by
 intro h p q m Q E b b' hm hp hq k;obtain ⟨x,y,z⟩:=q;obtain ⟨a,b2,c⟩:=p;obtain ⟨ha,hb,hc⟩:=hp;obtain ⟨hx,hy,hz⟩:=hq;simp only at ha hb hc hx hy hz;cases b <;> cases b'
 ·((conv=>whnf);repeat (refine And.intro (by exact eV.of (by trivial) (by trivial) (by lia) (by lia)) ?_;conv=>whnf))
  exact k
 ·((conv=>whnf);repeat (refine And.intro (by exact eV.of (by trivial) (by trivial) (by lia) (by lia)) ?_;conv=>whnf))
  exact k
 ·((conv=>whnf);repeat (refine And.intro (by exact eV.of (by trivial) (by trivial) (by lia) (by lia)) ?_;conv=>whnf))
  exact k
 ·((conv=>whnf);repeat (refine And.intro (by exact eV.of (by trivial) (by trivial) (by lia) (by lia)) ?_;conv=>whnf))
  exact k
def vK (c0:AP):Prop:=∀ {h:Gh} {M:Mt} {Q:WK} {E:Bo} (b:Bool),Q (.lst [Iu b M.1,Iu b M.2.1,Iu b M.2.2]) h->c0 [Ls b M] h Q E
theorem S8:vK Bt:=by
  intro h M Q E b k;cases b
  . exact k
  . first
    | exact k
    | (refine And.intro (by decide:¬ ((0:Nat)=0/\(3:Nat)=9)) (And.intro (by decide:¬ ((3:Nat)=0/\(6:Nat)=9)) (And.intro (by decide:¬ ((6:Nat)=0/\(9:Nat)=9)) ?_))
       exact k)
def qP (c0:AP):Prop:=∀ {h:Gh} {M:Mt} {m:Nat} {Q:WK} {E:Bo} (b:Bool),m<=10000->Io m M->Q (mw (MJ M)) h->c0 [Ls b M] h Q E
theorem ajv {ro:AP}(hcr:adZ cr)(hro:vK ro):qP (Ge cr ro):=by
 intro h M m Q E b hm hs k;show ro [Ls b M] h _ _;refine hro b ?_;show cr [Iu b M.2.1,Iu b M.2.2] h _ _;refine hcr b b hm hs.2.1 hs.2.2 ?_;show cr [Iu b M.2.2,Iu b M.1] h _ _;refine hcr b b hm hs.2.2 hs.1 ?_;show cr [Iu b M.1,Iu b M.2.1] h _ _;refine hcr b b hm hs.1 hs.2.1 ?_;exact k
def JW (c0:AP):Prop:=∀ {h:Gh} {M:Mt} {m:Nat} {Q:WK} {E:Bo} (b:Bool),m<=4000->Io m M->Q (.int (det M)) h->c0 [Ls b M] h Q E
def UL (c0:AP):Prop:=∀ {h:Gh} {p q r:Tr} {m:Nat} {Q:WK} {E:Bo} (b:Bool),m<=4000->Cr m p->Cr m q->Cr m r->Q (.int (dt3 (crs p q) r)) h->c0 [Iu b p,Iu b q,Iu b r] h Q E
theorem Oa (hdt:ab9 dt)(hcr:adZ cr):UL (Ur dt cr):=by
 intro h p q r m Q E b hm hp hq hr k;show cr [Iu b p,Iu b q] h _ _;refine hcr (m:=m) b b (by lia) hp hq ?_;show dt [Iu true (crs p q),Iu b r] h _ _;exact hdt (m:=m+m+1) true b (by lia) (gk hp hq) (hr.mono<|by lia) k
theorem w_size {tu ro:AP}(htu:UL tu)(hro:vK ro):JW (zU tu ro):=by
 intro h M m Q E b hm hs k;show ro [Ls b M] h _ _;refine hro b ?_;show tu [Iu b M.1,Iu b M.2.1,Iu b M.2.2] h _ _;exact htu b hm hs.1 hs.2.1 hs.2.2 k
def KH (c0:AP):Prop:=∀ {h:Gh} {M:Mt} {Q:WK} {E:Bo} (b:Bool),Q (Oe (tr M)) h->c0 [Ls b M] h Q E
theorem akj {b:Bool}:∀ (i:Nat) (w:W),[W.int M.1.1,.int M.2.1.1,.int M.2.2.1,.int M.1.2.1,.int M.2.1.2.1,.int M.2.2.2.1,.int M.1.2.2,.int M.2.1.2.2,.int M.2.2.2.2][i]?=Dn w->Q w h ->
  Ae CR (ao 1) (Ae bG (Ae cR (mC (.int 3)) (Ae qR (ao 0) (mC (.int 3)))) (Ae Ar (ao 0) (mC (.int 3)))) [Dn (.int (i:Int)),Dn (Ls b M)] h Q:=by
 have c:∀ a b:Int,QS (a.natAbs+1) (2^64)=true->QS (b.natAbs+1) (2^64)=true->eV a b:=fun a b h1 h2=>.of (Sm.lit h1) (Sm.lit h2) (by decide) (by decide)
 have d:Hi 0 3:=⟨by decide,64,by decide,.lit rfl⟩
 intro i w e q;match i,e with
 | 0,e | 1,e | 2,e | 3,e | 4,e | 5,e | 6,e | 7,e | 8,e=>
  have e':=JD e;subst e';refine And.intro (by decide)<|And.intro (c _ _ rfl rfl)<|And.intro d ?_
  cases b
  ·exact q
  ·exact q
theorem Ug:KH zp:=by
 intro h M Q E b k;show HW Hz [0] (dh (aj (mC (.int 9)) aG)) eN (Ae CR (ao 1) (Ae bG (Ae cR (mC (.int 3)) (Ae qR (ao 0) (mC (.int 3)))) (Ae Ar (ao 0) (mC (.int 3))))) [Dn (Ls b M)] h _;refine K6 (j:=9) (fun _=>rfl) (by decide) (by decide) (by decide) (fun i acc h'=>h'=h/\acc=[W.int M.1.1,.int M.2.1.1,.int M.2.2.1,.int M.1.2.1,.int M.2.1.2.1,.int M.2.2.2.1,.int M.1.2.2,.int M.2.1.2.2,.int M.2.2.2.2].take i) ?_ ?_ ⟨rfl,rfl⟩
 ·rintro i acc h' N hN hlt ⟨rfl,rfl⟩;refine ⟨[.int (i:Int)],rfl,?_⟩;have hi:i < [W.int M.1.1,.int M.2.1.1,.int M.2.2.1,.int M.1.2.1,.int M.2.1.2.1,.int M.2.2.2.1,.int M.1.2.2,.int M.2.1.2.2,.int M.2.2.2.2].length:=hlt;refine akj (b:=b) (M:=M) i _ (Jx hi) ?_;refine hN _ _ ⟨rfl,?_⟩;rw [Nh,Jx hi];rfl
 ·rintro acc h' ⟨rfl,rfl⟩;exact k
def OD (c0:AP):Prop:=∀ {h:Gh} {M N:Mt} {m:Nat} {Q:WK} {E:Bo} (b b':Bool),m<=8000->Io m M->Io m N->Q (Oe (mm M N)) h->c0 [Ls b M,Ls b' N] h Q E
theorem acL {ro fl:AP}(hdt:ab9 dt)(hro:vK ro)(hfl:KH fl):OD (fQ dt ro fl):=by
 intro h M N m Q E b b' hm hM hN k;have hT:=Lw hN;show fl [Ls b' N] h _ _;refine hfl b' ?_;show ro [Ls false (tr N)] h _ _;refine hro false ?_;show ro [Ls b M] (h.new (.lst [])) _ _;refine hro b ?_;have dots:∀ (g:Gh) (r:Tr) (s0 s1 s3:Option W) (Q':WK),Cr m r->Q' (.lst [.int (dt3 r (tr N).1),.int (dt3 r (tr N).2.1),.int (dt3 r (tr N).2.2)]) g ->
   HW Hz [4] (Ik (ao 2)) eN (aD dt E (aj (ao 1) (aj (ao 0) aG))) [s0,s1,Dn (.lst [lw (tr N).1,lw (tr N).2.1,lw (tr N).2.2]),s3,Dn (Iu b r)] g Q':=by
  intro g r s0 s1 s3 Q' hr q;show dt [Iu b r,Iu false (tr N).1] g _ _;refine hdt b false (by lia) hr hT.1 ?_;show dt [Iu b r,Iu false (tr N).2.1] g _ _;refine hdt b false (by lia) hr hT.2.1 ?_;show dt [Iu b r,Iu false (tr N).2.2] g _ _;refine hdt b false (by lia) hr hT.2.2 ?_;exact q
 show (match (h.new (.lst [])).c h.nx with
  | some (Cell.lst us)=>_
  | _=>False)
 rw [CQ];refine dots _ _ _ _ _ _ hM.1 ?_;dsimp only [aG];refine FW (CQ _ _) (by simp;decide) ?_;show (match ((h.new (.lst [])).set h.nx _).c h.nx with
  | some (Cell.lst us)=>_
  | _=>False)
 rw [qG];refine dots _ _ _ _ _ _ hM.2.1 ?_;dsimp only [aG];refine FW (qG _ _ _) (by simp;decide) ?_;show (match (((h.new (.lst [])).set h.nx _).set h.nx _).c h.nx with
  | some (Cell.lst us)=>_
  | _=>False)
 rw [qG];refine dots _ _ _ _ _ _ hM.2.2 ?_;dsimp only [aG];refine FW (qG _ _ _) (by simp;decide) ?_;refine ⟨fun n c hn e=>?_,.inr ⟨h.nx,_,rfl,Ig _,qG _ _ _,?_,?_⟩⟩
 ·rw [rD (by lia),rD (by lia),rD (by lia),v7 (by lia)];exact e
 ·simp [Lo,Le]
 ·have e:Oe (mm M N)=.lst [.int (dt3 M.1 (tr N).1),.int (dt3 M.1 (tr N).2.1),.int (dt3 M.1 (tr N).2.2),.int (dt3 M.2.1 (tr N).1),.int (dt3 M.2.1 (tr N).2.1),.int (dt3 M.2.1 (tr N).2.2),.int (dt3 M.2.2 (tr N).1),.int (dt3 M.2.2 (tr N).2.1),.int (dt3 M.2.2 (tr N).2.2)]:=by
   simp only [Oe,mm,vm,cj]
  rw [e] at k;exact k
def Eu (c0:AP):Prop:=∀ {h:Gh} {M:Mt} {m:Nat} {Q:WK} {E:Bo},m<=3000->Io m M->det M≠0->(∀ N,Ql N->Jt (adj M) N->Io (m+m+1) N->Q (mw N) h)->c0 [mw M] h Q E
theorem aae {fl tu:AP}(hpl:uZ pl)(hfl:KH fl)(htu:qP tu):Eu (Uh pl fl tu):=by
 intro h M m Q E hm sM dM k;show tu [Ls true M] h _ _;refine htu true (by lia) sM ?_;show fl [Ls true (MJ M)] h _ _;refine hfl true ?_;show pl [Oe (adj M)] h _ _;exact hpl.mt (m:=m+m+1) (.inr rfl) (Ef dM) (abH sM) (by lia) k
theorem afj (h:Ql M):acn 9 (mw M)=true:=by
 show (decide ((9:Int)=9)&&decide (Ox (ml M)))=true;rw [decide_eq_true (p:=Ox (ml M)) h];rfl
theorem okM {m:Nat}(hm:m<=8000)(h:Io m M):okW m (mw M):=by
 refine ⟨show 9<=1000 by decide,hm,fun w hw=>?_,fun n hn=>?_⟩
 ·simp only [JN,O7,or_false] at hw;rcases hw with rfl | rfl | rfl | rfl | rfl | rfl | rfl | rfl | rfl <;> rfl
 ·refine h.all n ?_;simp only [JN,O7,or_false,W.int.injEq] at hn;simp only [ml,tl,List.cons_append,List.nil_append,JN,O7,or_false];exact hn
theorem Eh.m {c0:AP}(hc:Eh c0){h:Gh}{M:Mt}{m:Nat}{Q:WK}{E:Bo}(hm:m<=8000)(hs:Io m M)(hp:Ql M)(q:Q (.bl true) h):c0 [mw M,.int 9] h Q E:=hc (okM hm hs) (by rw [afj hp];exact q)
def Mv (c0:AP):Prop:=∀ {h:Gh} {M:Mt} {m:Nat} {Q:WK} {E:Bo},m<=4000->Io m M->Ql M->det M≠0->Q (.bl true) h->c0 [mw M] h Q E
theorem aif {ip sz:AP}(hip:Eh ip)(hsz:JW sz):Mv (GP ip sz):=by
 intro h M m Q E hm hs hp hd q;show ip [mw M,.int 9] h _ _;refine hip.m (by lia) hs hp ?_;show sz [Ls true M] h _ _;refine hsz true hm hs ?_;show Q (.bl (!Cj (.int (det M)) (.int 0))) h;rw [acD,decide_eq_false hd];exact q
def JC (c0:AP):Prop:=∀ {h:Gh} {M:Mt} {m:Nat} {Q:WK} {E:Bo},m<=4000->Io m M->Q (.int (det M)) h->c0 [Oe M] h Q E
theorem zaZ {m:Nat}{a b c d e f g i:Int}(hm:m<=4000)(s1:Sm m a)(s2:Sm m b)(s3:Sm m c)(s4:Sm m d)(s5:Sm m e)(s6:Sm m f)(s7:Sm m g)(s8:Sm m i)(s9:Sm m j)(q:Q (.int (a*(e*j - f*i) - b*(d*j - f*g)+c*(d*i - e*g))) h):
  (aV (bx (Ae cR (ao 1) (Ae uD (Ae cR (ao 5) (ao 9)) (Ae cR (ao 6) (ao 8)))) (kI 10))
  (aV (bx (Ae uD (ao 10) (Ae cR (ao 2) (Ae uD (Ae cR (ao 4) (ao 9)) (Ae cR (ao 6) (ao 7))))) (kI 10))
  (bD (Ae bG (ao 10) (Ae cR (ao 3) (Ae uD (Ae cR (ao 4) (ao 8)) (Ae cR (ao 5) (ao 7)))))))) { nx:=fun _ h'=>Q .non h',rt:=fun w h'=>Q w h' }
   [Dn w,Dn (.int a),Dn (.int b),Dn (.int c),Dn (.int d),Dn (.int e),Dn (.int f),Dn (.int g),Dn (.int i),Dn (.int j),JI] h:=by
 ((conv=>whnf);repeat (refine And.intro (by exact eV.of (by trivial) (by trivial) (by lia) (by lia)) ?_;conv=>whnf))
 exact q
theorem aiC:JC FP:=by
 intro h M m Q E hm hs q;obtain ⟨⟨a,b,c⟩,⟨d,e,f⟩,⟨g,i,j⟩⟩:=M;obtain ⟨⟨s1,s2,s3⟩,⟨s4,s5,s6⟩,⟨s7,s8,s9⟩⟩:=hs;have ed:det ((a,b,c),(d,e,f),(g,i,j))=a*(e*j - f*i) - b*(d*j - f*g)+c*(d*i - e*g):=by
  simp only [det,dt3,crs];grind
 rw [ed] at q;exact zaZ (w:=Oe ((a,b,c),(d,e,f),(g,i,j))) hm s1 s2 s3 s4 s5 s6 s7 s8 s9 q
def Uw (c0:AP):Prop:=∀ {h:Gh} {n:Nat} {far:Int} {fm:Nat} {Q:WK} {E:Bo},Rs h n->20<far->Sm fm far->fm<=4000->(∀ M h',Ql M->det M≠0->Io fm M->Rs h' n->MH n h h'->Q (mw M) h')->c0 [.loc n,.int far] h Q E
theorem aa3 {nb sz:AP}(hnb:qX nb)(hpl:uZ pl)(hsz:JC sz):Uw (M7 nb pl sz):=by
 intro h n far fm Q E hr hf hb hm q;have f1:Sm 7000 far:=hb.mono (by lia);show HW Hz [0,1] (dh (aj (mC (.int 9)) aG)) eN (aD nb E (aj (ao 1) (aj (ao 2) aG))) [Dn (.loc n),Dn (.int far),JI] h _;refine K6 (j:=9) (fun _=>rfl) (by decide) (by decide) (by decide) (fun i acc h'=>∃ ns:List Int,ns.length=i/\acc=ns.map W.int/\(∀ x∈ns,Sm fm x)/\Rs h' n/\MH n h h') ?_ ?_ ⟨[],rfl,rfl,fun x hx=>absurd hx<|by simp,hr,.refl _ _⟩
 ·rintro i acc h' N hN hlt ⟨ns,hl,rfl,hs,r1,o1⟩;refine ⟨[.int (i:Int)],rfl,?_⟩;show nb [.loc n,.int far] h' _ _;refine hnb (n:=n) r1 hf f1 fun x h2 x0 x1 r2 o2=>?_;refine hN _ _ ⟨ns++[x],by simp [hl],by simp,fun y hy=>?_,r2,o1.trans o2⟩;rcases Py.mp hy with hy | hy
  ·exact hs y hy
  ·rw [Nz.mp hy];exact GC hb x0 x1
 ·rintro acc h' ⟨ns,hl,rfl,hs,r1,o1⟩;have hl:ns.length=9:=hl;obtain ⟨M,rfl⟩:∃ M:Mt,ns=ml M:=by
   match ns,hl with
   | [a,b,c,d,e,f,g,i,j],_=>exact ⟨((a,b,c),(d,e,f),(g,i,j)),rfl⟩
  have sM:Io fm M:=by
   refine ⟨⟨hs _ ?_,hs _ ?_,hs _ ?_⟩,⟨hs _ ?_,hs _ ?_,hs _ ?_⟩,⟨hs _ ?_,hs _ ?_,hs _ ?_⟩⟩ <;> simp [ml,tl]
  show sz [Oe M] h' _ _;refine hsz hm sM ?_;show br (Cj (.int (det M)) (.int 0)) _ _;rw [show Cj (.int (det M)) (.int 0)=decide (det M=0) by rw [bY];rfl];have s1:Sm fm 1:=hb.le (by show (1:Int).natAbs<=_;lia);refine nH (fun hz=>?_)<|fun hz=>?_
  ·show pl [Oe ((1,0,M.1.2.2),(0,1,M.2.1.2.2),(0,0,1))] h' _ _;refine hpl.mt (m:=fm) (.inr rfl) ?_ ⟨⟨s1,Sm.zero,sM.1.2.2⟩,⟨Sm.zero,s1,sM.2.1.2.2⟩,⟨Sm.zero,Sm.zero,s1⟩⟩ (by lia) fun N pN par sN=>q N h' pN ?_ sN r1 o1
   ·simp [det,dt3,crs]
   ·exact par.det.mp<|by simp [det,dt3,crs]
  ·show pl [Oe M] h' _ _;exact hpl.mt (m:=fm) (.inr rfl) hz sM (by lia) fun N pN par sN=>q N h' pN (par.det.mp hz) sN r1 o1
def Zk (c0:AP):Prop:=∀ {h:Gh} {M:Mt} {v:Tr} {m:Nat} {Q:WK} {E:Bo},m<=3000->Io m M->Cr m v->det M≠0->v≠(0,0,0)->(∀ t,Pl t->Jj (vm M v) t->Cr (m+m+2) t->Q (tw t) h)->c0 [mw M,tw v] h Q E
def Ou (c0:AP):Prop:=∀ {h:Gh} {M:Mt} {v:Tr} {m:Nat} {Q:WK} {E:Bo} (b:Bool),m<=8000->Io m M->Cr m v->Q (lw (vm M v)) h->c0 [Ls b M,tw v] h Q E
theorem adL {ro:AP}(hdt:ab9 dt)(hro:vK ro):Ou (iG dt ro):=by
 intro h M v m Q E b hm sM sv k;show ro [Ls b M] h _ _;refine hro b ?_;show dt [Iu b M.1,Iu true v] h _ _;refine hdt b true (by lia) sM.1 sv ?_;show dt [Iu b M.2.1,Iu true v] h _ _;refine hdt b true (by lia) sM.2.1 sv ?_;show dt [Iu b M.2.2,Iu true v] h _ _;refine hdt b true (by lia) sM.2.2 sv ?_;exact k
theorem ac3 {tt:AP}(hpl:uZ pl)(htt:Ou tt):Zk (aa9 pl tt):=by
 intro h M v m Q E hm sM sv dM hv k;show tt [Ls true M,tw v] h _ _;refine htt true (by lia) sM sv ?_;show pl [lw (vm M v)] h _ _;exact hpl.tr (u:=vm M v) (m:=m+m+2) (.inr rfl) (LK dM hv) (Dh sM sv) (by lia) k
def kfl (n:Str):List Bool:=[HI n "Nothing",HI n "Alike",HI n "NoMap",HI n "NotFree",HI n "NotOnLine",HI n "NoThrow",HI n "NoPicture",HI n "Apart"]
def kot (n:Str):Bool:=(HI n "Stuck")||((HI n "NotOnEdge")||((HI n "NoPart")||((HI n "FourOnLine")||((HI n "ThreeOnLine")||((HI n "NotRound")||((HI n "NotOn")||((HI n "InCurve")||((HI n "Knot")||((HI n "TooMuch")||false)))))))))
def kou (n:Str):Bool:=(HI n "Tied")||((HI n "NoText")||((HI n "NoName")||((HI n "Short")||false)))
def KindsOk (c:AP):Prop:=∀ {h:Gh} {n:Str} {Q:WK} {E:Bo},kot n=false->kou n=false->Q (.lst ((kfl n++[true]).map .bl)) h->c [.exc n] h Q E
theorem aiJ:KindsOk uc:=by
 intro h n Q E h1 h2 q;refine jY h1 ?_;refine jY h2 ?_;exact q
def Ak (c:AP):Prop:=∀ {h:Gh} {b0 b1 b2 b3 b4 b5 b6 b7:Bool} {d:Int} {Q:WK} {E:Bo},
 Q (.bl (b0==decide (0=d)&&(b1==decide (1=d)&&(b2==decide (2=d)&&(b3==decide (3=d)&&(b4==decide (4=d)&&(b5==decide (5=d)&&(b6==decide (6=d)&&b7==decide (7=d))))))))) h->c [.lst ([b0,b1,b2,b3,b4,b5,b6,b7,true].map .bl),.int d] h Q E
theorem Zm:Ak GQ:=by
 intro h b0 b1 b2 b3 b4 b5 b6 b7 d Q E q;have e:Cj (.lst ([b0,b1,b2,b3,b4,b5,b6,b7,true].map .bl)) (.lst ([decide ((0:Int)=d),decide ((1:Int)=d),decide ((2:Int)=d),decide ((3:Int)=d),decide ((4:Int)=d),decide ((5:Int)=d),decide ((6:Int)=d),decide ((7:Int)=d),true].map .bl)) =
   (b0==decide (0=d)&&(b1==decide (1=d)&&(b2==decide (2=d)&&(b3==decide (3=d)&&(b4==decide (4=d)&&(b5==decide (5=d)&&(b6==decide (6=d)&&b7==decide (7=d)))))))):=by
  simp only [Lz,WT,Cj,lC,Bool.and_true,beq_self_eq_true]
 rw [<-e] at q;have ei:∀ i:Int,Cj (.int i) (.int d)=decide (i=d):=fun i=>by rw [bY];by_cases z:i=d <;> simp [z]
 rw [<-ei,<-ei,<-ei,<-ei,<-ei,<-ei,<-ei,<-ei] at q;exact q
def tells (n:Str)(d:Int):Bool:=match kfl n with
 | [b0,b1,b2,b3,b4,b5,b6,b7]=>b0==decide (0=d)&&(b1==decide (1=d)&&(b2==decide (2=d)&&(b3==decide (3=d)&&(b4==decide (4=d)&&(b5==decide (5=d)&&(b6==decide (6=d)&&b7==decide (7=d)))))))
 | _=>false
def lG (p q r s:Tr):Mt:=tr (sc (vm (MJ (p,q,r)) s).1 p,sc (vm (MJ (p,q,r)) s).2.1 q,sc (vm (MJ (p,q,r)) s).2.2 r)
structure afP (A:Mt) (p q r s:Tr):Prop where
 a:Jj (vm A (1,0,0)) p
 b:Jj (vm A (0,1,0)) q
 c:Jj (vm A (0,0,1)) r
 d:Jj (vm A (1,1,1)) s
theorem aaX (a b c:Tr):vm (tr (a,b,c)) (1,0,0)=a:=by simp [vm,tr,dt3]
theorem abS (a b c:Tr):vm (tr (a,b,c)) (0,1,0)=b:=by simp [vm,tr,dt3]
theorem abP (a b c:Tr):vm (tr (a,b,c)) (0,0,1)=c:=by simp [vm,tr,dt3]
theorem afw (X:Mt):vm X (1,1,1)=((vm X (1,0,0)).1+(vm X (0,1,0)).1+(vm X (0,0,1)).1,(vm X (1,0,0)).2.1+(vm X (0,1,0)).2.1+(vm X (0,0,1)).2.1,(vm X (1,0,0)).2.2+(vm X (0,1,0)).2.2+(vm X (0,0,1)).2.2):=by
 obtain ⟨⟨a,b,c⟩,⟨d,e,f⟩,⟨g,h,i⟩⟩:=X;simp [vm,dt3]
theorem ajd (p q r s:Tr):vm (lG p q r s) (1,1,1)=sc (det (p,q,r)) s:=by
 have e:vm (lG p q r s) (1,1,1)=vm (tr (p,q,r)) (vm (MJ (p,q,r)) s):=by
  rw [afw];unfold lG;rw [aaX,abS,abP];generalize vm (MJ (p,q,r)) s=f;obtain ⟨f0,f1,f2⟩:=f;simp only [vm,tr,dt3,sc]
 have k:MJ (p,q,r)=tr (adj (p,q,r)):=rfl;rw [e,<-CP,k,<-adI,zF,ad7,show tr RP=RP from rfl,vG,KQ]
theorem aiM (a b c:Int)(p q r:Tr):det (tr (sc a p,sc b q,sc c r))=det (p,q,r)*(a*b*c):=by
 rw [Sg];simp only [det];rw [Bc,uI,mj];grind
theorem nz2 {a b:Int}(h1:a≠0)(h2:b≠0):a*b≠0:=fun z=>(Q7.mp z).elim h1 h2
variable {s : Tr}
theorem uU (h1:dt3 (crs p q) r≠0)(h2:dt3 (crs p q) s≠0)(h3:dt3 (crs p r) s≠0)(h4:dt3 (crs q r) s≠0):det (lG p q r s)≠0:=by
 unfold lG;rw [aiM];refine nz2 h1<|nz2 (nz2 h4 ?_) h2
 show dt3 (crs r p) s≠0;intro e;refine h3 ?_;have:dt3 (crs p r) s = - dt3 (crs r p) s:=by simp only [dt3,crs];grind
 rw [this,e];rfl
def Sh (c0:AP):Prop:=∀ {h:Gh} {p q r s:Tr} {m:Nat} {Q:WK} {E:Bo},m<=1000->Cr m p->Cr m q->Cr m r->Cr m s->dt3 (crs p q) r≠0->dt3 (crs p q) s≠0->dt3 (crs p r) s≠0->dt3 (crs q r) s≠0 ->
 (∀ G,Ql G->Jt (lG p q r s) G->Io (4*m+4) G->Q (mw G) h)->c0 [.lst [tw p,tw q,tw r,tw s]] h Q E
theorem Yg {f:Tr}{m:Nat}(hm:m<=1000)(sp:Cr m p)(sq:Cr m q)(sr:Cr m r)(sf:Cr (3*m+3) f):∀ (i:Nat) (w:W),
  [W.int (f.1*p.1),.int (f.2.1*q.1),.int (f.2.2*r.1),.int (f.1*p.2.1),.int (f.2.1*q.2.1),.int (f.2.2*r.2.1),.int (f.1*p.2.2),.int (f.2.1*q.2.2),.int (f.2.2*r.2.2)][i]?=Dn w->Q w h ->
  Ae cR (Ae CR (ao 2) (Ae qR (ao 0) (mC (.int 3)))) (Ae CR (Ae CR (ao 1) (Ae qR (ao 0) (mC (.int 3)))) (Ae Ar (ao 0) (mC (.int 3)))) [Dn (.int (i:Int)),Dn (.lst [tw p,tw q,tw r,tw s]),Dn (lw f)] h Q:=by
 have c:∀ {a b:Int},Sm (3*m+3) a->Sm m b->eV a b:=fun h1 h2=>.of h1 h2 (by lia) (by lia)
 have d:Hi 0 3:=⟨by decide,64,by decide,.lit rfl⟩
 intro i w e k;match i,e with
 | 0,e=>cases e;exact And.intro (by decide) (And.intro (by decide) (And.intro d (And.intro (c sf.1 sp.1) k)))
 | 1,e=>cases e;exact And.intro (by decide) (And.intro (by decide) (And.intro d (And.intro (c sf.2.1 sq.1) k)))
 | 2,e=>cases e;exact And.intro (by decide) (And.intro (by decide) (And.intro d (And.intro (c sf.2.2 sr.1) k)))
 | 3,e=>cases e;exact And.intro (by decide) (And.intro (by decide) (And.intro d (And.intro (c sf.1 sp.2.1) k)))
 | 4,e=>cases e;exact And.intro (by decide) (And.intro (by decide) (And.intro d (And.intro (c sf.2.1 sq.2.1) k)))
 | 5,e=>cases e;exact And.intro (by decide) (And.intro (by decide) (And.intro d (And.intro (c sf.2.2 sr.2.1) k)))
 | 6,e=>cases e;exact And.intro (by decide) (And.intro (by decide) (And.intro d (And.intro (c sf.1 sp.2.2) k)))
 | 7,e=>cases e;exact And.intro (by decide) (And.intro (by decide) (And.intro d (And.intro (c sf.2.1 sq.2.2) k)))
 | 8,e=>cases e;exact And.intro (by decide) (And.intro (by decide) (And.intro d (And.intro (c sf.2.2 sr.2.2) k)))
theorem aaP {tt tu:AP}(hpl:uZ pl)(htt:Ou tt)(htu:qP tu):Sh (pQ pl tt tu):=by
 intro h p q r s m Q E hm sp sq sr ss f1 f2 f3 f4 k;have sP:Io m (p,q,r):=⟨sp,sq,sr⟩
 have sf:Cr (3*m+3) (vm (MJ (p,q,r)) s):=(Dh (JB sP) ss).mono (by lia);show tu [Ls true (p,q,r)] h _ _;refine htu true (by lia) sP ?_;show tt [Ls true (MJ (p,q,r)),tw s] h _ _;refine htt (m:=m+m+1) true (by lia) (JB sP) (ss.mono<|by lia) ?_;have hd:=uU f1 f2 f3 f4;have eT:lG p q r s=tr (sc (vm (MJ (p,q,r)) s).1 p,sc (vm (MJ (p,q,r)) s).2.1 q,sc (vm (MJ (p,q,r)) s).2.2 r):=rfl;generalize vm (MJ (p,q,r)) s=f at sf eT;show HW Hz [0,1] (dh (aj (mC (.int 9)) aG)) eN (Ae cR (Ae CR (ao 2) (Ae qR (ao 0) (mC (.int 3)))) (Ae CR (Ae CR (ao 1) (Ae qR (ao 0) (mC (.int 3)))) (Ae Ar (ao 0) (mC (.int 3))))) [Dn (.lst [tw p,tw q,tw r,tw s]),Dn (lw f)] h _;refine K6 (j:=9) (fun _=>rfl) (by decide) (by decide) (by decide) (fun i acc h'=>h'=h/\acc=[W.int<|f.1*p.1,.int<|f.2.1*q.1,.int<|f.2.2*r.1,.int<|f.1*p.2.1,.int<|f.2.1*q.2.1,.int<|f.2.2*r.2.1,.int<|f.1*p.2.2,.int<|f.2.1*q.2.2,.int<|f.2.2*r.2.2].take i) ?_ ?_ ⟨rfl,rfl⟩
 ·rintro i acc h' N hN hlt ⟨rfl,rfl⟩;refine ⟨[.int (i:Int)],rfl,?_⟩;have hi:i < [W.int (f.1*p.1),.int (f.2.1*q.1),.int (f.2.2*r.1),.int (f.1*p.2.1),.int (f.2.1*q.2.1),.int (f.2.2*r.2.1),.int (f.1*p.2.2),.int (f.2.1*q.2.2),.int (f.2.2*r.2.2)].length:=hlt;refine Yg hm sp sq sr sf i _ (Jx hi) ?_;refine hN _ _ ⟨rfl,?_⟩;rw [Nh,Jx hi];rfl
 ·rintro acc h' ⟨rfl,rfl⟩;have e:Oe (lG p q r s)=.lst [W.int (f.1*p.1),.int (f.2.1*q.1),.int (f.2.2*r.1),.int (f.1*p.2.1),.int (f.2.1*q.2.1),.int (f.2.2*r.2.1),.int (f.1*p.2.2),.int (f.2.1*q.2.2),.int (f.2.2*r.2.2)]:=by
   rw [eT];simp only [Oe,tr,sc,V9]
  show pl [.lst [W.int (f.1*p.1),.int (f.2.1*q.1),.int (f.2.2*r.1),.int (f.1*p.2.1),.int (f.2.1*q.2.1),.int (f.2.2*r.2.1),.int (f.1*p.2.2),.int (f.2.1*q.2.2),.int (f.2.2*r.2.2)]] h' _ _;rw [<-e];refine hpl.mt (m:=4*m+4) (.inr rfl) hd ?_ (by lia) k;rw [eT];have g:∀ {a b:Int},Sm m a->Sm (3*m+3) b->Sm (4*m+4) (a*b):=fun h1 h2=>(h1.mul h2).mono (by lia)
  exact ⟨⟨g sp.1 sf.1,g sq.1 sf.2.1,g sr.1 sf.2.2⟩,⟨g sp.2.1 sf.1,g sq.2.1 sf.2.1,g sr.2.1 sf.2.2⟩,⟨g sp.2.2 sf.1,g sq.2.2 sf.2.1,g sr.2.2 sf.2.2⟩⟩
structure Four (m:Nat) (p q r s:Tr):Prop where
 a:Cr m p
 b:Cr m q
 c:Cr m r
 d:Cr m s
def tK (Q:Bool->Gh->Prop):WK:=fun w h=>match w with
 | .bl c=>Q c h
 | _=>False
def uK (Q:Bool->Gh->Prop):WK:=fun w h=>match acj h w with
 | some b=>Q b h
 | none=>False
def aK (b:ME)(σ : Sw)(Q:WK):WK:=fun x h=>match x with
 | .bl true=>b σ h Q
 | .bl false=>Q (.bl false) h
 | _=>False
def oK (b:ME)(σ : Sw)(Q:WK):WK:=fun x h=>match x with
 | .bl false=>b σ h Q
 | .bl true=>Q (.bl true) h
 | _=>False
def nK (Q:WK):WK:=fun x h=>match x with
 | .bl c=>Q (.bl (!c)) h
 | _=>False
def iK (R:Src->Gh->Prop):WK:=fun w h=>match qY h w with
 | some s=>R s h
 | none=>False
def xK (f:Str->Bool)(Q:WK):WK:=fun w h=>match w with
 | .exc n=>Q (.bl (f n)) h
 | .exa n _=>Q (.bl (f n)) h
 | _=>False
def pK (Q:Option Int->Gh->Prop):WK:=fun w h=>match w with
 | .int i=>Q (Dn i) h
 | _=>False
def ae3 (g:MG)(b:MS)(D:bI)(σ : Sw):Src->Gh->Prop:=fun s h=>dR s g b D s.ws σ h
def lcK (own:W->Option (List W))(ix:List Nat)(tt:MT)(te:ME)(σ : Sw)(Q:WK):Src->Gh->Prop:=fun s h=>fW s.ws.length (nY s own ix tt te σ Q s.ws [] h)
def rgK (R:Src->Gh->Prop):List W->Gh->Prop:=fun ws h=>match ws with
 | [.int j]=>Ao j (R ⟨BL 0 j.toNat,JI⟩ h)
 | _=>False
def zpK (R:Src->Gh->Prop):List W->Gh->Prop:=fun ws h=>match ws with
 | [x,y]=>(match Ud h x y with
  | some s=>R s h
  | none=>False)
 | _=>False
theorem bw {m u:MS}(x:m { D with nx:=u D } σ h):aV m u D σ h:=x
variable {N : Sw->Gh->Prop}
theorem gR {b c:Sw->Gh->Prop}{r:WK}(x:N σ h):bI.nx ⟨N,r,b,c⟩ σ h:=x
theorem afH {b c:Sw->Gh->Prop}{r:WK}(x:b σ h):bI.bk ⟨N,r,b,c⟩ σ h:=x
theorem afZ {b c:Sw->Gh->Prop}{r:WK}(x:c σ h):bI.ct ⟨N,r,b,c⟩ σ h:=x
theorem Jg {b c:Sw->Gh->Prop}{r:WK}(x:r w h):bI.rt ⟨N,r,b,c⟩ w h:=x
theorem aiZ (x:D.rt w h):bI.rt (bI.lost D) w h:=x
theorem ajQ (x:D.nx (σ.map fun _=>JI) h):bI.nx (bI.lost D) σ h:=x
theorem oJ (x:D.nx σ h):bK D σ h:=x
theorem cC {m:ME}(x:m σ h fun w h1=>g w σ h1 D.nx):bx m g D σ h:=x
theorem gP {m:ME}(x:m σ h fun _ h1=>D.nx σ h1):kZ m D σ h:=x
theorem fP {m:ME}(x:m σ h D.rt):bD m D σ h:=x
theorem zby {c:Str}(x:E ⟨c,[]⟩ h):rP c E D σ h:=x
theorem jx {t:MT}{a:MS}(x:t σ h fun c h1=>br c (a D σ h1) (b D σ h1)):d7 t a b D σ h:=x
theorem Zy {t:MT}{a b:ME}(x:t σ h fun c h1=>br c (a σ h1 Q) (b σ h1 Q)):mIf t a b σ h Q:=x
variable {mh : MS}{d : Str}{mb : Bo->MS}
theorem aaK (x:mb (fun x h'=>Ib (HI x.cls d) (mh D.lost (σ.set i (Dn (yN x))) h') False) D σ h):afN i d mb mh D σ h:=x
theorem Kw {g:QC}(e:w=.tup ws)(b:Nq ws.length n=true)(x:g ws σ h N):vp n g w σ h N:=by
 subst e;unfold vp;dsimp only;rw [b];exact x
theorem aiT {g:QC}(e:w=.lst ws)(b:Nq ws.length n=true)(x:g ws σ h N):vp n g w σ h N:=by
 subst e;unfold vp;dsimp only;rw [b];exact x
theorem abz {g:QC}(e:w=.tup ws)(b:Nq ws.length n=true)(x:g ws σ h N):aeM n g w σ h N:=by
 subst e;unfold aeM;dsimp only;rw [b];exact x
theorem CW {r:QC}(x:g w σ h fun σ1 h1=>r ws σ1 h1 N):kY g r (w::ws) σ h N:=x
theorem Tn (x:N σ h):UW [] σ h N:=x
theorem aF (e:σ[i]?=Dn (Dn w))(x:Q w h):ao i σ h Q:=by
 unfold ao;rw [e];exact x
theorem eU (x:Q w h):mC w σ h Q:=x
theorem bL {r:M2}{ma mb:ME}(x:ma σ h fun a h1=>mb σ h1 fun b h2=>r a b h2 Q):Ae r ma mb σ h Q:=x
theorem adg {r:W->Gh->WK->Prop}{ma:ME}(x:ma σ h fun a h1=>r a h1 Q):mUn r ma σ h Q:=x
theorem aaJ {i:Int}(x:Q (.int (-i)) h):aci (.int i) h Q:=x
theorem aB {a:ME}{r:MA}{Q:List W->Gh->Prop}(x:a σ h fun w h1=>r σ h1 fun ws h2=>Q (w::ws) h2):aj a r σ h Q:=x
theorem aL {Q:List W->Gh->Prop}(x:Q [] h):aG σ h Q:=x
theorem cV {P:Prop}(e:QS n 1000=true)(x:P):fW n P:=by
 unfold fW;rw [e];exact x
theorem lF {t:MA}(x:t σ h fun ws h1=>fW ws.length (Q (.tup ws) h1)):tV t σ h Q:=x
theorem qy {t:MA}(x:t σ h fun ws h1=>fW ws.length (Q (.lst ws) h1)):qD t σ h Q:=x
theorem aR {c:AP}(x:ma σ h fun ws h1=>c ws h1 Q E):aD c E ma σ h Q:=x
theorem o8 {r:MC}(x:ma σ h fun ws h1=>r ws h1 Q):Hv r ma σ h Q:=x
theorem dH {m:ME}{Q:Bool->Gh->Prop}(x:m σ h (tK Q)):aZ m σ h Q:=x
theorem Jr {Q:Bool->Gh->Prop}(x:Q c h):tK Q (.bl c) h:=x
theorem yV {m:ME}{Q:Bool->Gh->Prop}(x:m σ h (uK Q)):vD m σ h Q:=x
theorem aco {b:Bool}{Q:Bool->Gh->Prop}(e:acj h w=Dn b)(x:Q b h):uK Q w h:=by
 unfold uK;rw [e];exact x
theorem Kz {t:MT}{Q:Bool->Gh->Prop}(x:t σ h fun c h1=>Q (!c) h1):Ji t σ h Q:=x
theorem aao {t u:MT}{Q:Bool->Gh->Prop}(x:t σ h fun c h1=>br c (u σ h1 Q) (Q false h1)):TJ t u σ h Q:=x
theorem Wf {t u:MT}{Q:Bool->Gh->Prop}(x:t σ h fun c h1=>br c (Q true h1) (u σ h1 Q)):QG t u σ h Q:=x
theorem wM {Q:Bool->Gh->Prop}(x:Q true h):eN σ h Q:=x
theorem Ej {a b:ME}(x:a σ h (aK b σ Q)):xX a b σ h Q:=x
theorem abl {a b:ME}(x:a σ h (oK b σ Q)):afF a b σ h Q:=x
theorem aiy {a:ME}(x:a σ h (nK Q)):KD a σ h Q:=x
theorem adz {b:ME}(x:br c (b σ h Q) (Q (.bl false) h)):aK b σ Q (.bl c) h:=by
 cases c with
 | true=>exact x.1 rfl
 | false=>exact x.2 rfl
theorem afv {b:ME}(x:br c (Q (.bl true) h) (b σ h Q)):oK b σ Q (.bl c) h:=by
 cases c with
 | true=>exact x.1 rfl
 | false=>exact x.2 rfl
theorem afk (x:Q (.bl (!c)) h):nK Q (.bl c) h:=x
variable {f : Str->Bool}
theorem abh {m:ME}(x:m σ h (xK f Q)):Cd f m σ h Q:=x
theorem af0 {n:Str}(x:Q (.bl (f n)) h):xK f Q (.exc n) h:=x
variable {a : Prop}
theorem WM {b:Prop}(x:a):br true a b:=vo rfl x
theorem aaW {b:Prop}(x:b):br false a b:=jY rfl x
theorem Z4 {b:Prop}(x:b):br (!true) a b:=aaW x
theorem YM {b:Prop}(x:a):br (!false) a b:=WM x
theorem wA {b:Prop}(x:a):Ib true a b:=x
theorem T4 {b:Prop}(x:b):Ib false a b:=x
theorem Sq {i:Int}(x:Q (.int (i - j)) h):uD (.int i) (.int j) h Q:=x
theorem Cg {i:Int}(x:Q (.int (i+j)) h):bG (.int i) (.int j) h Q:=x
theorem Zq {i:Int}(c:eV i j)(x:Q (.int (i*j)) h):cR (.int i) (.int j) h Q:=⟨c,x⟩
theorem vY {i:Int}(c:j≠0)(x:Q (.int (i.fmod j)) h):qR (.int i) (.int j) h Q:=⟨c,x⟩
theorem adG {i:Int}(x:Q (.bl (decide (i<j))) h):kLt (.int i) (.int j) h Q:=x
theorem Zu {i:Int}(x:Q (.bl (decide (i>j))) h):QJ (.int i) (.int j) h Q:=x
theorem ade {i:Int}(x:Q (.bl (decide (i=j))) h):JZ (.int i) (.int j) h Q:=by
 have e:Cj (.int i) (.int j)=decide (i=j):=bY i j;show Q (.bl (Cj (.int i) (.int j))) h;rw [e];exact x
theorem aed {i:Int}(x:Q (.bl (decide (i≠j))) h):Jk (.int i) (.int j) h Q:=by
 have e:(!Cj (.int i) (.int j))=decide (i≠j):=by rw [bY];by_cases z:i=j <;> simp [z]
 show Q (.bl (!Cj (.int i) (.int j))) h;rw [e];exact x
theorem ac1 {i j:Bool}(x:Q (.bl (decide (i=j))) h):JZ (.bl i) (.bl j) h Q:=by
 have e:Cj (.bl i) (.bl j)=decide (i=j):=by rw [Cj];cases i <;> cases j <;> rfl
 show Q (.bl (Cj (.bl i) (.bl j))) h;rw [e];exact x
theorem adn {i j:Bool}(x:Q (.bl (decide (i≠j))) h):Jk (.bl i) (.bl j) h Q:=by
 have e:(!Cj (.bl i) (.bl j))=decide (i≠j):=by rw [Cj];cases i <;> cases j <;> rfl
 show Q (.bl (!Cj (.bl i) (.bl j))) h;rw [e];exact x
theorem ZD (x:Q (.bl (decide (p=q))) h):JZ (tw p) (tw q) h Q:=by
 show Q (.bl (Cj (tw p) (tw q))) h;rw [yj];exact x
theorem Va (x:Q (.bl (decide (p≠q))) h):Jk (tw p) (tw q) h Q:=by
 have e:(!Cj (tw p) (tw q))=decide (p≠q):=by rw [yj];by_cases z:p=q <;> simp [z]
 show Q (.bl (!Cj (tw p) (tw q))) h;rw [e];exact x
theorem aem {a b c:Int}(x:Q (.bl (decide (p=(a,b,c)))) h):JZ (tw p) (.tup [.int a,.int b,.int c]) h Q:=ZD (q:=(a,b,c)) x
theorem acO {a b c:Int}(x:Q (.bl (decide (p≠(a,b,c)))) h):Jk (tw p) (.tup [.int a,.int b,.int c]) h Q:=Va (q:=(a,b,c)) x
theorem je {x:W}{i:Int}(e:view h x=Dn ws)(a:Lg ws i=Dn w)(k:Q w h):CR x (.int i) h Q:=by
 unfold CR;dsimp only;rw [e];dsimp only;rw [a];exact k
theorem ZP {T:String}{b:Bool}(e:acv h w T=Dn b)(x:Q (.bl b) h):Om [w,.ty T] h Q:=by
 unfold Om;dsimp only;rw [e];exact x
theorem pW {xs:List W}(e:view h w=Dn xs)(x:Q (.int (xs.length:Int)) h):Il [w] h Q:=by
 unfold Il;dsimp only;rw [e];exact x
theorem zbr (x:Q (.tup us) h):z9 [.lst us] h Q:=x
variable {bs : List Bool}
theorem Z8 (e:cZ h w=Dn us)(b:Jl us=Dn bs)(x:Q (.bl (bs.any id)) h):YC [w] h Q:=by
 unfold YC;dsimp only;rw [e];dsimp only;rw [b];exact x
theorem Zv (e:cZ h w=Dn us)(b:Jl us=Dn bs)(x:Q (.bl (bs.all id)) h):Uc [w] h Q:=by
 unfold Uc;dsimp only;rw [e];dsimp only;rw [b];exact x
theorem aaw (e:cZ h w=Dn us)(b:Ii us=Dn ns)(x:Q (.int ns.sum) h):YD [w] h Q:=by
 unfold YD;dsimp only;rw [e];dsimp only;rw [b];exact x
theorem aa8 {i:Int}(x:Q (.int (if i<0 then -i else i)) h):O9 [.int i] h Q:=x
theorem aan {b:Bool}(x:Q (.int (if b then 1 else 0)) h):afW [.bl b] h Q:=x
theorem sV {mi:MI}(x:mi σ h (ae3 g b D σ)):rK mi g b D σ h:=x
variable {o : Option (Nat×List W)}
theorem p8 (x:dR ⟨ws,o⟩ g b D ws σ h):ae3 g b D σ ⟨ws,o⟩ h:=x
theorem aiz (x:D.nx σ h):dR ⟨ws,JI⟩ g b D [] σ h:=x
theorem Kr {r:List W}(x:g w σ h fun σ1 h1=>b { D with nx:=dR ⟨ws,JI⟩ g b D r,ct:=dR ⟨ws,JI⟩ g b D r,bk:=D.nx } σ1 h1):dR ⟨ws,JI⟩ g b D (w::r) σ h:=x
variable {R : Src->Gh->Prop}
theorem yh {m:ME}(x:m σ h (iK R)):Ik m σ h R:=x
theorem RW (e:qY h w=Dn ⟨ws,o⟩)(x:R ⟨ws,o⟩ h):iK R w h:=by
 unfold iK;rw [e];exact x
theorem rR (x:ma σ h (rgK R)):dh ma σ h R:=x
theorem adE (x:R ⟨[.int 0,.int 1,.int 2],JI⟩ h):rgK R [.int 3] h:=x
theorem ad2 (x:R ⟨[.int 0,.int 1],JI⟩ h):rgK R [.int 2] h:=x
theorem abR (x:ma σ h (zpK R)):acu ma σ h R:=x
variable {as : List W}
theorem adO {a b:W}{bs:List W}(e:tL a=Dn as)(e':tL b=Dn bs)(z:uw as bs=zs)(x:R ⟨zs,JI⟩ h):zpK R [a,b] h:=by
 subst z;have es:Ud h a b=Dn ⟨uw as bs,JI⟩:=by unfold Ud;rw [e,e']
 unfold zpK;dsimp only;rw [es];exact x
theorem aer {b:W}{bs:List W}(e:h.c n=Dn (.lst as))(e':tL b=Dn bs)(z:uw as bs=zs)(x:R ⟨zs,Dn (n,as)⟩ h):zpK R [.loc n,b] h:=by
 subst z;have es:Ud h (.loc n) b=Dn ⟨uw as bs,Dn (n,as)⟩:=by unfold Ud;rw [e'];dsimp only [tL];rw [e]
 unfold zpK;dsimp only;rw [es];exact x
theorem aeG {bs:List W}:uw [] bs=[]:=by cases bs <;> rfl
theorem ae4 {a:W}:uw (a::as) []=[]:=rfl
theorem ad9 {a b:W}{bs l:List W}(e:uw as bs=l):uw (a::as) (b::bs)=.tup [a,b]::l:=by rw [uw,e]
theorem Ai {mi:MI}(x:mi σ h (lcK own ix tt te σ Q)):HW own ix mi tt te σ h Q:=x
theorem adK (e:QS ws.length 1000=true)(x:nY ⟨ws,o⟩ own ix tt te σ Q ws [] h):lcK own ix tt te σ Q ⟨ws,o⟩ h:=cV e x
variable {acc : List W}
theorem abF (x:Q (.lst acc) h):nY ⟨ws,JI⟩ own ix tt te σ Q [] acc h:=x
theorem Zd {r vs:List W}(e:own w=Dn vs)(x:tt (vs.map Dn++qO ix σ) h fun c h1=>Ib c (te (vs.map Dn++qO ix σ) h1 fun v h2=>nY ⟨ws,JI⟩ own ix tt te σ Q r (acc++[v]) h2) (nY ⟨ws,JI⟩ own ix tt te σ Q r acc h1)):nY ⟨ws,JI⟩ own ix tt te σ Q (w::r) acc h:=by
 unfold nY;show match own w with
  | some vs=>tt (vs.map Dn++qO ix σ) h fun c h1=>Ib c (te (vs.map Dn++qO ix σ) h1 fun v h2=>nY ⟨ws,JI⟩ own ix tt te σ Q r (acc++[v]) h2) (nY ⟨ws,JI⟩ own ix tt te σ Q r acc h1)
  | none=>False
 rw [e];exact x
variable {body : Bo->MS}
theorem adq {N:Nat}(hl:Nq ws.length n=true)(x:body E { nx:=fun _ h'=>Q .non h',rt:=Q } (ws.map Dn++Qf (N - ws.length) JI) h):Ec n N false body ws h Q E:=by
 unfold Ec;rw [hl];exact x
theorem yu {r:W->Option Int->Option Int->Gh->WK->Prop}{m:ME}{l u:MO}(x:m σ h fun a h1=>l σ h1 fun lo h2=>u σ h2 fun hi h3=>r a lo hi h3 Q):Mh r m l u σ h Q:=x
theorem Mw {m:ME}{Q:Option Int->Gh->Prop}(x:m σ h (pK Q)):cP m σ h Q:=x
theorem aeX {i:Int}{Q:Option Int->Gh->Prop}(x:Q (Dn i) h):pK Q (.int i) h:=x
def p3K (i j k:Nat)(D:bI)(σ : Sw):List W->Gh->Prop:=fun ws h=>match ws with
 | [x,y,z]=>D.nx (((σ.set i (Dn x)).set j (Dn y)).set k (Dn z)) h
 | _=>False
theorem ajj {j k:Nat}{ta:MA}(x:ta σ h (p3K i j k D σ)):acJ i j k ta D σ h:=x
theorem aaA {xs:List W}{n:Int}{b:Prop}(e:decide ((xs.length:Int)≠n)=false)(x:b):br (decide ((xs.length:Int)≠n)) a b:=jY e x
theorem aib {b:Prop}(e:bs.all id=true)(x:b):br (!(bs.all id)) a b:=jY (by rw [e];rfl) x
theorem adM {n:Str}{b:Prop}(e:HI n d=true)(x:a):Ib (HI n d) a b:=BX e x
theorem ac7 {n:Str}{b:Prop}(e:HI n d=true)(x:a):br (HI n d) a b:=vo e x
theorem acQ {n:Str}{b:Prop}(e:HI n d=false)(x:b):br (HI n d) a b:=jY e x
theorem Yy {α : Type}{a x:α}{l:List α}:(a::l).set 0 x=x::l:=rfl
theorem Yz {α : Type}{a x:α}{l l':List α}(e:l.set n x=l'):(a::l).set (n+1) x=a::l':=by rw [List.set_cons_succ,e]
theorem bO {σ' : Sw}(e:σ.set i (Dn w) = σ')(x:N σ' h):kI i w σ h N:=by
 subst e;exact x
theorem nV {σ' : Sw}(x:N σ' h)(e:σ.set i (Dn w) = σ':=by repeat (first | with_reducible exact Yy | with_reducible apply Yz)):kI i w σ h N:=bO e x
theorem ad6 {j k:Nat}{σ1 σ2 σ3 : Sw}{x y z:W}(e1:σ.set i (Dn x) = σ1)(e2:σ1.set j (Dn y) = σ2)(e3:σ2.set k (Dn z) = σ3)(q:D.nx σ3 h):p3K i j k D σ [x,y,z] h:=by
 subst e1 e2 e3;exact q
def ini (ws:List W)(n:Nat):Sw:=ws.map Dn++Qf (n - ws.length) JI
theorem aeC:ini [] 0=[]:=rfl
theorem afc {l:Sw}(e:ini [] n=l):ini [] (n+1)=JI::l:=by
 subst e;rfl
theorem aeI {l:Sw}(e:ini ws n=l):ini (w::ws) (n+1)=Dn w::l:=by
 subst e;unfold ini;rw [Qy,Nat.add_sub_add_right];rfl
theorem eZ {N:Nat}(hl:Nq ws.length n=true)(e:ini ws N = σ)(x:body E { nx:=fun _ h'=>Q .non h',rt:=Q } σ h):Ec n N false body ws h Q E:=by
 subst e;exact adq hl x
theorem adi {n:Str}{fs:List (Str×W)}{σ' : Sw}(e:HI n d=true)(s:σ.set i (Dn (yN ⟨n,fs⟩)) = σ')(x:mh D σ' h):Ib (HI (Xw.mk n fs).cls d) (mh D (σ.set i (Dn (yN (Xw.mk n fs)))) h) False:=by
 subst s;exact BX e x
theorem abr {mi:MI}(x:HW own ix mi tt te σ h (aeW Q)):afx own ix mi tt te σ h Q:=x
theorem ab4 {mo mi:ME}{ms:Zi}(x:mo σ h fun o h1=>mi σ h1 fun i h2=>ms o i w h2 fun h3=>N σ h3):aaT mo mi ms w σ h N:=x
theorem zbK {r:List W}(e:h.c n=Dn (.lst us))(x:g w σ h fun σ1 h1=>b { D with nx:=dR ⟨ws,Dn (n,us)⟩ g b D r,ct:=dR ⟨ws,Dn (n,us)⟩ g b D r,bk:=D.nx } σ1 h1):dR ⟨ws,Dn (n,us)⟩ g b D (w::r) σ h:=⟨e,x⟩
theorem aiq (e:h.c n=Dn (.lst us))(x:D.nx σ h):dR ⟨ws,Dn (n,us)⟩ g b D [] σ h:=⟨e,x⟩
theorem ahW (e:h.c n=Dn (.lst us))(x:Q (.lst acc) h):nY ⟨ws,Dn (n,us)⟩ own ix tt te σ Q [] acc h:=⟨e,x⟩
theorem Yh {r vs:List W}(ec:h.c n=Dn (.lst us))(e:own w=Dn vs)(x:tt (vs.map Dn++qO ix σ) h fun c h1=>Ib c (te (vs.map Dn++qO ix σ) h1 fun v h2=>nY ⟨ws,Dn (n,us)⟩ own ix tt te σ Q r (acc++[v]) h2) (nY ⟨ws,Dn (n,us)⟩ own ix tt te σ Q r acc h1)):nY ⟨ws,Dn (n,us)⟩ own ix tt te σ Q (w::r) acc h:=by
 unfold nY;refine ⟨ec,?_⟩;show match own w with
  | some vs=>tt (vs.map Dn++qO ix σ) h fun c h1=>Ib c (te (vs.map Dn++qO ix σ) h1 fun v h2=>nY ⟨ws,Dn (n,us)⟩ own ix tt te σ Q r (acc++[v]) h2) (nY ⟨ws,Dn (n,us)⟩ own ix tt te σ Q r acc h1)
  | none=>False
 rw [e];exact x
theorem af6 (e:h.c n=Dn (.lst ws))(x:R ⟨ws,Dn (n,ws)⟩ h):iK R (.loc n) h:=RW (by simp only [qY,e]) x
theorem adX {i:Int}(e:h.c n=Dn (.lst ws))(a:Lg ws i=Dn w)(k:Q w h):CR (.loc n) (.int i) h Q:=je (cX e) a k
theorem JL {N:Nat}(hl:Nq ws.length n=true)(e:ini ws N = σ)(x:body E { nx:=fun _ h'=>zV true h .non h' Q,rt:=fun w h'=>zV true h w h' Q } σ h):Ec n N true body ws h Q E:=by
 subst e;unfold Ec;rw [hl];exact x
theorem aiD {a b:List W}(e:QS (a.length+b.length) 1000=true)(x:Q (.lst (a++b)) h):bG (.lst a) (.lst b) h Q:=cV e x
theorem adb {a b:Bool}(x:Q (.bl (a==b)) h):kIs (.bl a) (.bl b) h Q:=x
theorem aiL {a b:Bool}(x:Q (.bl (!(a==b))) h):qJ (.bl a) (.bl b) h Q:=x
theorem adQ {a b:Str}(x:Q (.bl (decide (a=b))) h):JZ (.str a) (.str b) h Q:=by
 have e:Cj (.str a) (.str b)=decide (a=b):=by rw [Cj];by_cases z:a=b <;> simp [z]
 show Q (.bl (Cj (.str a) (.str b))) h;rw [e];exact x
theorem aep {a b:Str}(x:Q (.bl (decide (a≠b))) h):Jk (.str a) (.str b) h Q:=by
 have e:(!Cj (.str a) (.str b))=decide (a≠b):=by rw [Cj];by_cases z:a=b <;> simp [z]
 show Q (.bl (!Cj (.str a) (.str b))) h;rw [e];exact x
theorem aau {b:Prop}(e:bs.any id=false)(x:b):br (bs.any id) a b:=jY e x
local macro_rules | `(tactic| rfl') => `(tactic| repeat (first
 | with_reducible (first | refine bw ?_ | refine cC ?_ | refine aR ?_ | refine aB ?_ | refine aL ?_)
 | ((with_reducible apply aF);exact rfl) | with_reducible refine eU ?_ | with_reducible refine bL ?_ | with_reducible refine bO (by repeat (first | with_reducible exact Yy | with_reducible apply Yz)) ?_ | with_reducible (first | refine aiZ ?_ | refine ajQ ?_ | refine gR ?_ | refine Jg ?_ | refine afH ?_ | refine afZ ?_)
 | with_reducible (first | refine jx ?_ | refine Zy ?_ | refine fP ?_ | refine gP ?_ | refine oJ ?_ | refine aaK ?_ | refine zby ?_)
 | with_reducible (first | refine dH ?_ | refine Jr ?_ | refine yV ?_) | ((with_reducible apply aco);exact rfl) | with_reducible (first | refine Kz ?_ | refine aao ?_ | refine Wf ?_ | refine wM ?_)
 | with_reducible (first | refine Ej ?_ | refine abl ?_ | refine aiy ?_ | refine adz ?_ | refine afv ?_ | refine afk ?_ | refine abh ?_ | refine af0 ?_)
 | with_reducible (first | refine WM ?_ | refine aaW ?_ | refine Z4 ?_ | refine YM ?_ | refine wA ?_ | refine T4 ?_)
 | with_reducible refine lF ?_ | with_reducible refine qy ?_ | ((with_reducible apply cV);exact rfl) | with_reducible (first | refine o8 ?_ | refine adg ?_ | refine aaJ ?_)
 | ((with_reducible apply Kw);exact rfl;exact rfl) | ((with_reducible apply aiT);exact rfl;exact rfl) | ((with_reducible apply abz);exact rfl;exact rfl) | with_reducible refine CW ?_ | with_reducible refine Tn ?_
 | with_reducible refine Sq ?_ | with_reducible refine Cg ?_ | ((with_reducible apply Zq);exact eV.of (by trivial) (by trivial) (by lia) (by lia)) | with_reducible refine adG ?_ | with_reducible refine Zu ?_
 | with_reducible (first | refine ade ?_ | refine aed ?_ | refine ac1 ?_ | refine adn ?_ | refine ZD ?_ | refine Va ?_ | refine aem ?_ | refine acO ?_)
 | ((with_reducible apply je);exact rfl;exact rfl) | ((with_reducible apply ZP);exact rfl) | ((with_reducible apply pW);exact rfl) | with_reducible refine zbr ?_ | ((with_reducible apply Z8);exact rfl;exact rfl) | ((with_reducible apply Zv);exact rfl;exact rfl) | ((with_reducible apply aaw);exact rfl;exact rfl) | with_reducible refine aan ?_ | with_reducible refine aa8 ?_
 | with_reducible (first | refine sV ?_ | refine p8 ?_ | refine aiz ?_ | refine Kr ?_ | refine yh ?_) | ((with_reducible apply RW);exact rfl) | with_reducible (first | refine rR ?_ | refine adE ?_ | refine ad2 ?_ | refine abR ?_) | ((with_reducible apply adO);exact rfl;exact rfl;(repeat (first | with_reducible exact aeG | with_reducible exact ae4 | with_reducible apply ad9)))
 | with_reducible refine Ai ?_ | ((with_reducible apply adK);exact rfl) | with_reducible refine abF ?_ | ((with_reducible apply Zd);exact rfl) | ((with_reducible apply eZ);exact rfl;repeat (first | with_reducible exact aeC | with_reducible apply aeI | with_reducible apply afc)) | with_reducible (first | refine yu ?_ | refine Mw ?_ | refine aeX ?_ | refine ajj ?_) | with_reducible refine ad6 (by repeat (first | with_reducible exact Yy | with_reducible apply Yz)) (by repeat (first | with_reducible exact Yy | with_reducible apply Yz)) (by repeat (first | with_reducible exact Yy | with_reducible apply Yz)) ?_ | ((with_reducible apply aaA);exact rfl) | ((with_reducible apply aib);exact rfl) | ((with_reducible apply adi);decide +kernel;(repeat (first | with_reducible exact Yy | with_reducible apply Yz))) | ((with_reducible apply adM);decide +kernel) | ((with_reducible apply ac7);decide +kernel) | ((with_reducible apply acQ);decide +kernel) | with_reducible refine abr ?_ | with_reducible refine ab4 ?_ | ((with_reducible apply af6);(with_reducible assumption)) | ((with_reducible apply zbK);(with_reducible assumption)) | ((with_reducible apply aiq);(with_reducible assumption)) | ((with_reducible apply ahW);(with_reducible assumption)) | ((with_reducible apply Yh);(with_reducible assumption);exact rfl) | ((with_reducible apply adX);(with_reducible assumption);exact rfl) | ((with_reducible apply aer);(with_reducible assumption);exact rfl;(repeat (first | with_reducible exact aeG | with_reducible exact ae4 | with_reducible apply ad9))) | ((with_reducible apply JL);exact rfl;(repeat (first | with_reducible exact aeC | with_reducible apply aeI | with_reducible apply afc))) | ((with_reducible apply aiD);exact rfl) | with_reducible (first | refine adb ?_ | refine aiL ?_ | refine adQ ?_ | refine aep ?_) | ((with_reducible apply aau);decide +kernel)))
def q4 (p q r s:Tr):W:=.lst [tw p,tw q,tw r,tw s]
def oG (p q r s:Tr):Bool:=decide (dt3 (crs p q) r≠0)&&(decide (dt3 (crs p q) s≠0)&&(decide (dt3 (crs p r) s≠0)&&decide (dt3 (crs q r) s≠0)))
def Free (p q r s:Tr):Prop:=dt3 (crs p q) r≠0/\dt3 (crs p q) s≠0/\dt3 (crs p r) s≠0/\dt3 (crs q r) s≠0
theorem rW (h:Free p q r s):oG p q r s=true:=by
 unfold oG;rw [decide_eq_true h.1,decide_eq_true h.2.1,decide_eq_true h.2.2.1,decide_eq_true h.2.2.2];rfl
theorem Nx (h:oG p q r s=true):Free p q r s:=by
 unfold oG at h;simp only [Jw,decide_eq_true_eq] at h;exact h
theorem Nf (h:¬ Free p q r s):oG p q r s=false:=Bool.eq_false_iff.mpr fun e=>h (Nx e)
def Qz (c0:AP):Prop:=∀ {h:Gh} {p q r s:Tr} {m:Nat} {Q:WK} {E:Bo},m<=4000->Cr m p->Cr m q->Cr m r->Cr m s->Q (.bl (oG p q r s)) h->c0 [q4 p q r s] h Q E
theorem ahY {tu:AP}(htu:UL tu):Qz (vQ tu):=by
 intro h p q r s m Q E hm sp sq sr ss k;show tu [Iu true p,Iu true q,Iu true r] h _ _;refine htu true hm sp sq sr ?_;show tu [Iu true p,Iu true q,Iu true s] h _ _;refine htu true hm sp sq ss ?_;show tu [Iu true p,Iu true r,Iu true s] h _ _;refine htu true hm sp sr ss ?_;show tu [Iu true q,Iu true r,Iu true s] h _ _;refine htu true hm sq sr ss ?_;show Q (.bl (!(([W.int (dt3 (crs p q) r),.int (dt3 (crs p q) s),.int (dt3 (crs p r) s),.int (dt3 (crs q r) s)]).any fun w=>Cj w (.int 0)))) h;have e:(!(([W.int (dt3 (crs p q) r),.int (dt3 (crs p q) s),.int (dt3 (crs p r) s),.int (dt3 (crs q r) s)]).any fun w=>Cj w (.int 0)))=oG p q r s:=by
  simp only [Vi,List.any_nil,bY,oG];by_cases f1:dt3 (crs p q) r=0 <;> by_cases f2:dt3 (crs p q) s=0 <;> by_cases f3:dt3 (crs p r) s=0 <;> by_cases f4:dt3 (crs q r) s=0 <;> simp [f1,f2,f3,f4]
 rw [e];exact k
def To (M:Mt)(p o:Tr):Prop:=∃ a b:Int,a≠0/\b≠0/\sc a (vm M p)=sc b o
theorem To.eq {o t:Tr}(h:To M p o)(ho:Pl o)(ht:Pl t)(hp:Jj (vm M p) t):t=o:=by
 obtain ⟨a,b,a0,b0,e⟩:=h;obtain ⟨j,j0,ej⟩:=hp;rw [ej,u5] at e;exact Ep (u:=sc b o) ht ho ⟨j*a,Lp j0 a0,e.symm⟩ ⟨b,b0,rfl⟩
theorem Oz {G Go N:Mt}{e o:Tr}(dG:det G≠0)(h1:To G e p)(h2:To Go e o)(hN:Jt (adj G) N)(hM:Jt (mm Go N) M):To M p o:=by
 obtain ⟨a,b,a0,b0,ea⟩:=h1;obtain ⟨a',b',a0',b0',eb⟩:=h2;obtain ⟨k,k0,ek⟩:=hN;obtain ⟨c,c0,ec⟩:=hM;have e1:sc (k*b) (vm N p)=sc (det G*a) e:=by
  have:vm (adj G) (sc a (vm G e))=sc a (sc (det G) e):=by rw [cQ,<-CP,zF,vG,KQ]
  rw [ea,ek,cQ,vG,u5,u5] at this;exact this
 have e2:sc c (vm M p)=vm Go (vm N p):=by rw [<-CP,ec,vG]
 refine ⟨c*(k*b)*a',b'*(det G*a),Lp (Lp c0<|Lp k0 b0) a0',Lp b0'<|Lp dG a0,?_⟩;rw [<-u5,<-u5,e2,<-cQ,e1,cQ,<-u5 (det G*a) b' o,<-eb,u5,u5,V9]
theorem sX (f:Free p q r s){G:Mt}(h:Jt (lG p q r s) G):To G (1,0,0) p/\To G (0,1,0) q/\To G (0,0,1) r/\To G (1,1,1) s:=by
 obtain ⟨f1,f2,f3,f4⟩:=f;obtain ⟨k,k0,e⟩:=h;have g:∀ {v t:Tr} {c:Int},c≠0->vm (lG p q r s) v=sc c t->To G v t:=fun c0 e'=>⟨k,_,k0,c0,by rw [<-vG,<-e,e']⟩
 refine ⟨g ?_<|aaX _ _ _,g ?_<|abS _ _ _,g ?_<|abP _ _ _,g ?_<|ajd p q r s⟩
 ·exact f4
 ·intro z;refine f3 ?_;have:dt3 (crs p r) s = - dt3 (crs r p) s:=by simp only [dt3,crs];grind
  rw [this,show dt3 (crs r p) s=0 from z];rfl
 ·exact f2
 ·exact f1
def ZC (c0:AP):Prop:=∀ {h:Gh} {A B:Mt} {m n:Nat} {Q:WK} {E:Bo},m<=4000->n<=3000->Io m A->Io n B->det A≠0->det B≠0->(∀ M,Ql M->Jt (mm B A) M->Io (m+n+2) M->Q (mw M) h)->c0 [mw A,mw B] h Q E
theorem ahi {tt:AP}(hpl:uZ pl)(htt:OD tt):ZC (Lj pl tt):=by
 intro h A B m n Q E hm hn sA sB dA dB k;show tt [Ls true B,Ls true A] h _ _;refine htt (m:=max m n) true true (by lia) (sB.mono<|by lia) (sA.mono<|by lia) ?_;show pl [Oe (mm B A)] h _ _;refine hpl.mt (m:=m+n+2) (.inr rfl) ?_ (aal sB sA) (by lia) k;rw [zO];exact fun h=>(Q7.mp h).elim dB dA
def acX (c0:AP):Prop:=∀ {h:Gh} {M:Mt} {v:Tr} {m n:Nat} {Q:WK} {E:Bo},m<=4000->n<=3000->Io m M->Cr n v->det M≠0->v≠(0,0,0)->(∀ t,Pl t->Jj (vm M v) t->Cr (m+n+2) t->Q (tw t) h)->c0 [mw M,tw v] h Q E
theorem ajE (hpl:uZ pl)(hdt:HB dt):acX (CZ pl dt):=by
 intro h M v m n Q E hm hn sM0 sv0 dM hv k;have sM:=sM0.mono (show m<=max m n by lia);have sv:=sv0.mono (show n<=max m n by lia);have c:∀ b:Int,QS (b.natAbs+1) (2^64)=true->eV 3 b:=fun b h2=>.of (m:=64) (n:=64) (Sm.lit rfl) (Sm.lit h2) (by decide) (by decide)
 first | show HW Hz [0,1] (dh (aj (mC (.int 3)) aG)) eN (aD dt E (aj (Mh vh (ao 1) (cP (Ae cR (mC (.int 3)) (ao 0))) (cP (Ae bG (Ae cR (mC (.int 3)) (ao 0)) (mC (.int 3))))) (aj (ao 2) aG))) [Dn (mw M),Dn (tw v)] h _ | show HW Hz [0,1] (dh (aj (mC (.int 3)) aG)) eN (aD dt E (aj (Mh kSl (ao 1) (cP (Ae cR (mC (.int 3)) (ao 0))) (cP (Ae bG (Ae cR (mC (.int 3)) (ao 0)) (mC (.int 3))))) (aj (ao 2) aG))) [Dn (mw M),Dn (tw v)] h _
 first | refine And.intro (c _ rfl) (And.intro (c _ rfl) (And.intro (by decide:¬ ((0:Nat)=0/\(3:Nat)=9)) ?_)) | refine And.intro (c _ rfl) (And.intro (c _ rfl) ?_)
 show dt [tw M.1,tw v] h _ _;refine hdt (by lia) sM.1 sv ?_;first | refine And.intro (c _ rfl) (And.intro (c _ rfl) (And.intro (by decide:¬ ((3:Nat)=0/\(6:Nat)=9)) ?_)) | refine And.intro (c _ rfl) (And.intro (c _ rfl) ?_)
 show dt [tw M.2.1,tw v] h _ _;refine hdt (by lia) sM.2.1 sv ?_;first | refine And.intro (c _ rfl) (And.intro (c _ rfl) (And.intro (by decide:¬ ((6:Nat)=0/\(9:Nat)=9)) ?_)) | refine And.intro (c _ rfl) (And.intro (c _ rfl) ?_)
 show dt [tw M.2.2,tw v] h _ _;refine hdt (by lia) sM.2.2 sv ?_;show pl [lw (vm M v)] h _ _;exact hpl.tr (u:=vm M v) (m:=m+n+2) (.inr rfl) (LK dM hv) (Dh sM0 sv0) (by lia) k
theorem Bb {r:MM}{mo:ME}(x:mo σ h fun x h1=>CG h1 x (ma σ h1 fun xs h2=>r x xs h2 Q)):LC r mo ma σ h Q:=x
theorem tW {P:Prop}(e:h.c n=Dn (.lst us))(p:P):CG h (.loc n) P:=by
 simp only [CG,e];exact p
theorem N8 (hm:∀ R,ma σ h R=R ws h)(hz:QS ws.length 1000=true)(x:∀ g:Gh,g.c h.nx=Dn (.lst ws)->(∀ n,n≠h.nx->g.c n=h.c n)->g.nx=h.nx+1->Q (.loc h.nx) g):vd ma σ h Q:=by
 unfold vd;rw [hm];exact cV hz<|x _ (CQ _ _) (fun _ e=>v7 e) rfl
theorem aeh (e:h.c n=Dn (.lst us))(hz:us.length+zs.length<=1000)(k:∀ g:Gh,g.c n=Dn (.lst (us++zs))->(∀ m,m≠n->g.c m=h.c m)->g.nx=h.nx->Q .non g):iV (.loc n) [.lst zs] h Q:=
 FW e (J4 hz (by decide)) (k _ (qG _ _ _) (fun _ e=>rD e) rfl)
theorem aas (e:h.c n=Dn (.lst us))(hz:us.length<=1000)(k:∀ g:Gh,g.c n=Dn (.lst (us++[w]))->(∀ m,m≠n->g.c m=h.c m)->g.nx=h.nx->Q .non g):gG (.loc n) [w] h Q:=
 R7 e (Vh hz (by decide)) (k _ (qG _ _ _) (fun _ e=>rD e) rfl)
theorem ab7 {α β : Type}{v:α->W}{ws0:List W}{g:MG}{b:MS}{D:bI}(f:α->Option β)(R:β->Prop)(I:Sw->Gh->Prop):∀ (xs:List α),
  (∀ x,x∈xs->∀ σ h N,I σ h->(f x=JI->∀ σ' h',I σ' h'->N σ' h')->(∀ y,f x=Dn y->R y)->g (v x) σ h fun σ1 h1=>b { D with nx:=N,ct:=N,bk:=D.nx } σ1 h1) ->
  (xs.findSome? f=JI->∀ σ h,I σ h->D.nx σ h)->(∀ y,xs.findSome? f=Dn y->R y)->∀ (σ : Sw) (h:Gh),I σ h->dR ⟨ws0,JI⟩ g b D (xs.map v) σ h
 | [],_,fin,_,σ,h,h0=>fin rfl σ h h0
 | x::xs,step,fin,ret,σ,h,h0=>by
  refine Kr<|step x Ow σ h _ h0 (fun e σ' h' h1=>?_) fun y e=>ret y ?_
  ·refine ab7 f R I xs (fun z hz=>step z<|Ph _ hz) (fun e2=>fin ?_) (fun y e2=>ret y ?_) σ' h' h1
   ·rw [Vs,e];exact e2
   ·rw [Vs,e];exact e2
  ·rw [Vs,e]
theorem acw {α β : Type}{v:α->W}(f:α->Option β)(R:β->Prop)(I:Sw->Gh->Prop)(xs:List α)
  (step:∀ x,x∈xs->∀ σ h N,I σ h->(f x=JI->∀ σ' h',I σ' h'->N σ' h')->(∀ y,f x=Dn y->R y)->g (v x) σ h fun σ1 h1=>b { D with nx:=N,ct:=N,bk:=D.nx } σ1 h1)
  (fin:xs.findSome? f=JI->∀ σ h,I σ h->D.nx σ h) (ret:∀ y,xs.findSome? f=Dn y->R y) {σ : Sw} {h:Gh} (h0:I σ h):dR ⟨ws0,JI⟩ g b D (xs.map v) σ h:=ab7 f R I xs step fin ret σ h h0
def rng (a m:Nat):List Nat:=List.range' a (m - a)
theorem lK {a m x:Nat}:x∈rng a m↔a<=x/\x<m:=by
 unfold rng;rw [List.mem_range'_1];lia
theorem GD (a m:Nat):BL (a:Int) ((m:Int) - (a:Int)).toNat=(rng a m).map fun x:Nat=>W.int (x:Int):=by
 unfold BL rng;rw [List.range'_eq_map_range,List.map_map,show ((m:Int) - (a:Int)).toNat=m - a by lia];refine List.map_congr_left fun x _=>?_;simp
theorem ahp (m:Nat):BL 0 ((m:Nat):Int).toNat=(rng 0 m).map fun x:Nat=>W.int (x:Int):=by
 have:=GD 0 m
 rw [show ((m:Int) - ((0:Nat):Int)).toNat=((m:Nat):Int).toNat by lia] at this;exact this
def ae2 (R:Src->Gh->Prop):List W->Gh->Prop:=fun ws h=>match ws with
 | [.int i,.int j]=>Ao i (Ao j (R ⟨BL i (j - i).toNat,JI⟩ h))
 | _=>False
theorem akd (x:ma σ h (ae2 R)):KY ma σ h R:=x
theorem abk {a:Int}{m:Nat}(ha:a=(n:Int))(h1:n<=1000)(h2:m<=1000)(x:R ⟨(rng n m).map fun x:Nat=>W.int (x:Int),JI⟩ h):ae2 R [.int a,.int (m:Int)] h:=by
 subst ha;rw [<-GD] at x;exact Ao.mk (by lia) (by lia)<|Ao.mk (by lia) (by lia) x
theorem PK {m:Nat}(h2:m<=1000)(x:R ⟨(rng 0 m).map fun x:Nat=>W.int (x:Int),JI⟩ h):rgK R [.int (m:Int)] h:=by
 rw [<-ahp] at x;exact Ao.mk (by lia) (by lia) x
def nxt (l:List Nat):Nat:=match l.getLast? with
 | none=>0
 | some x=>x+1
def grow (m:Nat)(l:List Nat):List (List Nat):=(rng (nxt l) m).map fun p=>l++[p]
def DW (m:Nat):Nat->List (List Nat)
 | 0=>[[]]
 | k+1=>(DW m k).flatMap (grow m)
def cM (l:List Nat):W:=.tup (l.map fun x:Nat=>.int (x:Int))
theorem dz {m:Nat}:∀ {k:Nat} {l:List Nat},l∈DW m k->l.length=k
 | 0,l,h=>by
  rw [DW,Nz] at h;rw [h];rfl
 | k+1,l,h=>by
  rw [DW,XC] at h;obtain ⟨u,hu,hl⟩:=h;obtain ⟨p,_,rfl⟩:=Pz.mp hl;rw [Mf,dz hu];rfl
theorem Zc {m:Nat}:∀ {k:Nat} {l:List Nat},l∈DW m k->nxt l<=m
 | 0,l,h=>by
  rw [DW,Nz] at h;rw [h];exact U7 _
 | k+1,l,h=>by
  rw [DW,XC] at h;obtain ⟨u,hu,hl⟩:=h;obtain ⟨p,hp,rfl⟩:=Pz.mp hl;have:=(lK.mp hp).2
  unfold nxt;rw [List.getLast?_append];simp;lia
theorem zaN:∀ m,m<=12->∀ k,k<=4->(DW m k).length<=1000:=by
 have:(Ni 13).all (fun m=>(Ni 5).all fun k=>decide ((DW m k).length<=1000))=true:=by decide +kernel
 intro m hm k hk;rw [Nr] at this;have h1:=this m (Px.mpr (by lia));rw [Nr] at h1;exact of_decide_eq_true<|h1 k<|Px.mpr<|by lia
def acg (h:Gh)(w:W)(ws:List W):Prop:=w=.lst ws\/∃ n,w=.loc n/\h.c n=Dn (.lst ws)
theorem zbz {α : Type}{v:α->W}{xs:List α}(hv:σ[i]?=Dn (Dn w))(e:acg h w (xs.map v))(I:Nat->Sw->Gh->Prop)
  (go:∀ i σ h',I i σ h'->acg h' w (xs.map v))
  (step:∀ (i:Nat) (x:α) (σ : Sw) (h:Gh) (N:Sw->Gh->Prop),(∀ σ' h',I (i+1) σ' h'->N σ' h')->xs[i]?=Dn x->I i σ h->g (v x) σ h fun σ1 h1=>b { D with nx:=N,ct:=N,bk:=D.nx } σ1 h1)
  (fin:∀ σ h,I xs.length σ h->D.nx σ h) (h0:I 0 σ h):rK (Ik (ao i)) g b D σ h:=by
 unfold rK Ik ao;rw [hv];dsimp only;have gen:∀ s:Src,qY h w=Dn s->s.ws=xs.map v->(∀ h',acg h' w (xs.map v)->∀ P:Prop,P->s.go h' P)->(match qY h w with
   | some s=>dR s g b D s.ws σ h
   | none=>False):=by
  intro s es ew hg;rw [es];show dR s g b D s.ws σ h;rw [ew];refine Hl I (fun i σ h' hi=>hg h'<|go i σ h' hi) (fun i w σ h N hN e hi=>?_) (fun σ h q=>fin σ h<|by rwa [Hu] at q) h0;rw [N7] at e;cases q:xs[i]? with
  | none=>rw [q] at e;cases e
  | some x=>
   rw [q] at e;cases e;exact step i x σ h N hN q hi
 rcases e with rfl | ⟨n,rfl,e⟩
 ·exact gen ⟨xs.map v,JI⟩ rfl rfl fun _ _ _ p=>p
 ·refine gen ⟨xs.map v,Dn (n,xs.map v)⟩ (by simp only [qY,e]) rfl fun h' e' P p=>⟨?_,p⟩;rcases e' with e' | ⟨n',e',q⟩
  ·cases e'
  ·cases e';exact q
theorem Ga {a b:List W}(hz:a.length+b.length<=1000)(x:Q (.tup (a++b)) h):bG (.tup a) (.tup b) h Q:=by
 cases a with
 | nil=>exact x
 | cons a0 a=>exact fW.mk (J4 (by simpa using hz) (by decide:1000<=Ht)) x
variable {l : List Nat}
theorem zbT {m:Nat}(hm:m<=12)(hl:l.length<=4)(hn:nxt l<=m)(h5:σ[5]?=Dn (Dn (cM l)))(h6:σ[6]?=Dn (Dn (.int (nxt l:Int))))(h0:σ[0]?=Dn (Dn (.int (m:Int))))(x:Q (.lst ((grow m l).map cM)) h):
  HW Hz [5] (KY (aj (ao 6) (aj (ao 0) aG))) eN (Ae bG (ao 1) (tV (aj (ao 0) aG))) σ h Q:=by
 refine Ai<|akd<|aB<|aF h6<|aB<|aF h0<|aL ?_
 refine abk rfl (by lia) (by lia) ?_;have hb:qO [5] σ = [Dn (cM l)]:=by
  show [(σ[5]?).getD JI]=_;rw [h5];rfl
 have hz:((rng (nxt l) m).map fun x:Nat=>W.int (x:Int)).length<=Ht:=by
  rw [Hu];unfold rng;rw [Vr];exact J4 (by lia) (by decide:12<=Ht)
 refine fW.mk hz ?_;refine lE (fun i acc h'=>h'=h/\acc=(((rng (nxt l) m).take i).map fun p=>l++[p]).map cM) ?_ ?_ ⟨rfl,rfl⟩
 ·rintro i w acc h' N hN e ⟨rfl,rfl⟩;rw [N7] at e;cases q:(rng (nxt l) m)[i]? with
  | none=>rw [q] at e;cases e
  | some p=>
   rw [q] at e;cases e;refine ⟨[W.int (p:Int)],rfl,?_⟩;rw [hb];refine wM<|wA<|bL<|aF rfl<|lF<|aB<|aF rfl<|aL<|cV rfl ?_
   refine Ga (a:=l.map fun x:Nat=>.int (x:Int)) (by rw [Hu];simp;lia) ?_;refine hN _ _ ⟨rfl,?_⟩;rw [Nh,q];simp [cM]
 ·rintro acc h' ⟨rfl,rfl⟩;rw [Hu,OJ];exact x
def oh (c0:AP):Prop:=∀ {h:Gh} {m k:Nat} {Q:WK} {E:Bo},m<=12->k<=4->Q (.lst ((DW m k).map cM)) h->c0 [.int (m:Int),.int (k:Int)] h Q E
theorem ahX (h:l.length=i+1):∃ x,l.getLast?=Dn x/\Lg (l.map fun x:Nat=>W.int (x:Int)) (i:Int)=Dn (.int (x:Int)):=by
 have hi:i<l.length:=by lia
 refine ⟨l[i],?_,?_⟩
 ·rw [List.getLast?_eq_getElem?,h,Nat.add_sub_cancel,Jx hi]
 ·exact uo (by rw [N7,Jx hi];rfl)
theorem aeR (n:Nat):∀ l:List Nat,Le n (l.map fun x:Nat=>W.int (x:Int))
 | []=>by simp [Le]
 | x::l=>by
  have:=aeR n l
  rw [Lz,Le];exact ⟨by simp [Lo],this⟩
theorem ahz (n:Nat)(l:List Nat):Lo n (cM l):=by
 unfold cM;rw [Lo];exact aeR n l
theorem yQ (n:Nat):∀ ls:List (List Nat),Le n (ls.map cM)
 | []=>by simp [Le]
 | l::ls=>by
  have:=yQ n ls
  rw [Lz,Le];exact ⟨ahz n l,this⟩
theorem aiv {a m x:Nat}(e:(rng a m)[i]?=Dn x):x=a+i/\x<m:=by
 have hx:=lK.mp (Q0 e);unfold rng at e;have hl:=(Pn.mp e).1;rw [Vr] at hl;rw [Jx (by rw [Vr];exact hl),List.getElem_range'] at e;have:=JD e
 lia
theorem ahM:oh yE:=by
 intro h m k Q E hm hk q;unfold yE;refine JL rfl (σ:=[Dn<|.int (m:Int),Dn<|.int (k:Int),JI,JI,JI,JI,JI]) rfl ?_;refine bw<|cC<|qy<|aB<|lF<|aL<|cV rfl<|aL<|cV rfl ?_
 refine nV<|gR ?_
 refine bw<|sV<|rR<|aB<|aF rfl<|aL<|PK (by lia)<|p8 ?_
 refine oY (fun i σ h'=>∃ w s3 s4 s5 s6,σ = [Dn<|.int (m:Int),Dn<|.int (k:Int),Dn w,s3,s4,s5,s6]/\(w=.lst ((DW m i).map cM)\/∃ n,w=.loc n/\h.nx<=n/\n<h'.nx/\h'.c n=Dn (.lst<|(DW m i).map cM))/\h.nx<=h'.nx/\∀ n,n<h.nx->h'.c n=h.c n) ?_ ?_ ⟨_,_,_,_,_,rfl,.inl rfl,Ig _,fun _ _=>rfl⟩
 ·rintro i w0 σ h' N hN e ⟨w,s3,s4,s5,s6,rfl,hw,hx,ho⟩;rw [N7] at e;cases qe:(rng 0 k)[i]? with
  | none=>rw [qe] at e;cases e
  | some i'=>
   rw [qe] at e;cases e;obtain ⟨ei,hik⟩:=aiv qe;rw [Nat.zero_add] at ei;subst ei;refine nV ?_;refine bw<|cC<|N8 (ws:=[]) (fun R=>rfl) rfl fun g eg og xg=>?_
   refine nV<|gR ?_
   refine bw ?_;have sw:∀ g':Gh,(∀ n,n≠h'.nx->g'.c n=h'.c n)->acg g' w ((DW m i').map cM):=by
    intro g' hg;rcases hw with rfl | ⟨n,rfl,h1,h2,h3⟩
    ·exact .inl rfl
    ·exact .inr ⟨n,rfl,by rw [hg n<|by lia];exact h3⟩
   refine zbz (i:=2) (w:=w) (v:=cM) (xs:=DW m i') rfl (sw g og) (fun j σ g'=>∃ s5 s6,σ = [Dn<|.int (m:Int),Dn<|.int (k:Int),Dn w,Dn<|.int (i':Int),Dn<|.loc h'.nx,s5,s6]/\g'.c h'.nx=Dn (.lst<|(((DW m i').take j).flatMap (grow m)).map cM)/\g'.nx=h'.nx+1/\∀ n,n≠h'.nx->g'.c n=h'.c n) ?_ ?_ ?_ ⟨_,_,rfl,eg,xg,og⟩
   ·rintro j σ g' ⟨s5,s6,rfl,h1,h2,h3⟩;exact sw g' h3
   ·rintro j l σ g' N2 hN2 el ⟨s5,s6,rfl,h1,h2,h3⟩;have ml:=Q0 el;have ll:=dz ml;have ln:=Zc ml;refine nV ?_;have fin:∀ σ,σ = [Dn (.int (m:Int)),Dn (.int (k:Int)),Dn w,Dn (.int (i':Int)),Dn (.loc h'.nx),Dn (cM l),Dn (.int (nxt l:Int))]->kZ (LC iV (ao 4) (aj (HW Hz [5] (KY (aj (ao 6) (aj (ao 0) aG))) eN (Ae bG (ao 1) (tV (aj (ao 0) aG)))) aG)) { nx:=N2,rt:=fun w h'=>zV true h w h' Q,bk:=fun _ _=>False,ct:=N2 } σ g':=by
     rintro σ rfl;refine gP<|Bb<|aF rfl<|tW h1<|aB<|zbT hm (by lia) ln rfl rfl rfl<|aL<|aeh h1 ?_ fun g2 e2 o2 x2=>?_
     ·rw [Hu,Hu,<-Mf,show grow m l=[l].flatMap (grow m) by simp,<-List.flatMap_append];have hp:(DW m i').take (j+1)=(DW m i').take j++[l]:=by rw [Nh,el];rfl
      rw [<-hp];have hr:=zaN m hm (i'+1) (by lia);rw [DW,<-List.take_append_drop (j+1) (DW m i'),List.flatMap_append,Mf] at hr;lia
     ·refine hN2 _ _ ⟨_,_,rfl,?_,by rw [x2];exact h2,fun n hn=>by rw [o2 n hn];exact h3 n hn⟩;rw [e2,Nh,el,List.flatMap_append,Qg];simp
    refine bw<|cC<|Zy<|dH<|bL<|aF rfl<|eU<|Zu<|Jr ?_
    refine nH (fun hp=>?_) fun hp=>?_
    ·obtain ⟨x,ex,ax⟩:=ahX (l:=l) (i:=i' - 1) (by lia);have en:nxt l=x+1:=by unfold nxt;rw [ex]
     refine bL<|bL<|aF rfl<|bL<|aF rfl<|eU<|Sq<|je (x:=cM l) (i:=(i':Int) - 1) (w:=.int (x:Int)) rfl ?_<|eU<|Cg ?_
     ·rw [show (i':Int) - 1=((i' - 1:Nat):Int) by lia];exact ax
     ·refine bO (σ':=[Dn<|.int (m:Int),Dn<|.int (k:Int),Dn w,Dn<|.int (i':Int),Dn<|.loc h'.nx,Dn<|cM l,Dn<|.int (nxt l:Int)]) (by rw [en];rfl)<|gR<|fin _ rfl
    ·have l0:l=[]:=Y0 (by lia);have en:nxt l=0:=by rw [l0];rfl
     refine eU ?_;refine bO (σ':=[Dn<|.int (m:Int),Dn<|.int (k:Int),Dn w,Dn<|.int (i':Int),Dn<|.loc h'.nx,Dn<|cM l,Dn<|.int (nxt l:Int)]) (by rw [en];rfl)<|gR<|fin _ rfl
   ·rintro σ g' ⟨s5,s6,rfl,h1,h2,h3⟩;rw [OJ] at h1;refine gR ?_;refine cC ?_;refine aF rfl ?_;refine nV<|gR ?_
    exact hN _ _ ⟨_,_,_,_,_,rfl,.inr ⟨_,rfl,hx,by lia,h1⟩,by lia,fun n hn=>by rw [h3 n<|by lia];exact ho n hn⟩
 ·rintro σ h' ⟨w,s3,s4,s5,s6,rfl,hw,hx,ho⟩;have hl:((rng 0 k).map fun x:Nat=>W.int (x:Int)).length=k:=by
   rw [Hu];unfold rng;rw [Vr];lia
  rw [hl] at hw;unfold wI;refine gR ?_;refine fP ?_;refine aF rfl ?_;refine Jg ?_;refine ⟨fun n c hn e=>by rw [ho n hn];exact e,?_⟩;rcases hw with rfl | ⟨n,rfl,h1,h2,h3⟩
  ·exact .inl ⟨by rw [Lo];exact yQ _ _,q⟩
  ·exact .inr ⟨n,_,rfl,h1,h3,yQ _ _,q⟩
def gt (ts:List Tr)(i:Nat):Tr:=ts.getD i (0,0,0)
def JV (h:Gh)(w:W)(ts:List Tr):Prop:=w=.lst (ts.map tw)\/∃ n,w=.loc n/\n<h.nx/\h.c n=Dn (.lst (ts.map tw))
theorem JV.t (e:JV h w ts):dD h w ts:=by
 rcases e with e | ⟨n,e,_,q⟩
 ·exact .inl e
 ·exact .inr ⟨n,e,q⟩
def HX (m:Nat)(ts:List Tr):Prop:=∀ t∈ts,Pl t/\Cr m t
theorem bT (hi:i<ts.length):gt ts i∈ts:=by
 unfold gt;rw [Pr,Jx hi];exact Wc hi
theorem dO (hi:i<ts.length):ts[i]?=Dn (gt ts i):=by
 unfold gt;rw [Pr,Jx hi];rfl
theorem dD.at (e:dD h w ts)(hi:i<ts.length)(k:Q (tw (gt ts i)) h):CR w (.int (i:Int)) h Q:=
 je e.src.1 (uo (by rw [N7,dO hi];rfl)) k
theorem mW (e:dD h w ts)(k:Q (.int (ts.length:Int)) h):Il [w] h Q:=by
 refine pW e.src.1 ?_;rw [Hu];exact k
def Ax (c0:AP):Prop:=∀ {h:Gh} {w:W} {ts:List Tr} {l:List Nat} {Q:WK} {E:Bo},dD h w ts->(∀ i∈l,i<ts.length)->l.length<=1000->Q (.lst ((l.map (gt ts)).map tw)) h->c0 [w,cM l] h Q E
theorem zbl:Ax xR:=by
 intro h w ts l Q E e hl hz q;unfold xR;refine eZ rfl (σ:=[Dn w,Dn<|cM l]) rfl<|fP<|Ai<|yh<|aF rfl<|RW (ws:=l.map fun x:Nat=>.int (x:Int)) (o:=JI) rfl ?_
 refine fW.mk (by rw [Hu];exact J4 hz (by decide)) ?_;refine lE (fun i acc h'=>h'=h/\acc=((l.take i).map (gt ts)).map tw) ?_ ?_ ⟨rfl,rfl⟩
 ·rintro i w2 acc h' N hN e2 ⟨rfl,rfl⟩;rw [N7] at e2;cases qe:l[i]? with
  | none=>rw [qe] at e2;cases e2
  | some p=>
   rw [qe] at e2;cases e2;refine ⟨[W.int (p:Int)],rfl,?_⟩;refine wM<|bL<|aF rfl<|aF rfl<|e.at (hl p<|Q0 qe) ?_
   refine hN _ _ ⟨rfl,?_⟩;rw [Nh,qe];simp
 ·rintro acc h' ⟨rfl,rfl⟩;rw [Hu,OJ];exact Jg q
theorem Xo {α β γ : Type}(f:α->List β)(g:β->Option γ):∀ xs:List α,(xs.flatMap f).findSome? g=xs.findSome? fun x=>(f x).findSome? g
 | []=>rfl
 | x::xs=>by
  rw [List.flatMap_cons,List.findSome?_append,Xo f g xs,Vs];cases (f x).findSome? g <;> rfl
def pass (P:List Nat->Bool)(l:List Nat):Option (List Nat):=if P l then Dn l else JI
variable {P : List Nat->Bool}
theorem Am (h:P l=true):pass P l=Dn l:=by
 unfold pass;rw [h];rfl
theorem GJ (h:P l=false):pass P l=JI:=by
 unfold pass;rw [h];rfl
theorem Ue {α β : Type}(f:α->Option β)(x:α):[x].findSome? f=f x:=by
 rw [Vs];cases f x <;> rfl
def Zj (m:Nat)(P:List Nat->Bool):Option (List Nat):=(rng 0 m).findSome? fun i=>(rng (i+1) m).findSome? fun j=>(rng (j+1) m).findSome? fun k=>(rng (k+1) m).findSome? fun x=>pass P [i,j,k,x]
def Wz (m:Nat)(P:List Nat->Bool):Option (List Nat):=(rng 0 m).findSome? fun i=>(rng (i+1) m).findSome? fun j=>(rng (j+1) m).findSome? fun k=>pass P [i,j,k]
theorem Oi {γ : Type}(m:Nat)(l:List Nat)(g:List Nat->Option γ):(grow m l).findSome? g=(rng (nxt l) m).findSome? fun p=>g (l++[p]):=by
 unfold grow;rw [List.findSome?_map];rfl
theorem MP (m:Nat)(P:List Nat->Bool):(DW m 4).findSome? (pass P)=Zj m P:=by
 simp only [DW,Xo,Oi,Ue];rfl
theorem NT (m:Nat)(P:List Nat->Bool):(DW m 3).findSome? (pass P)=Wz m P:=by
 simp only [DW,Xo,Oi,Ue];rfl
theorem d9 {m:Nat}:∀ {k:Nat} {l:List Nat},l∈DW m k->∀ i∈l,i<m
 | 0,l,h=>by
  rw [DW,Nz] at h;subst h;intro i hi;cases hi
 | k+1,l,h=>by
  rw [DW,XC] at h;obtain ⟨u,hu,hl⟩:=h;obtain ⟨p,hp,rfl⟩:=Pz.mp hl;intro i hi;rcases Py.mp hi with hi | hi
  ·exact d9 hu i hi
  ·rw [Nz.mp hi];exact (lK.mp hp).2
theorem oA {m k a b:Nat}{r:List Nat}:l++[a,b]++r∈DW m k->a<b:=by
 intro h;induction k generalizing r with
 | zero=>
  rw [DW,Nz] at h;simp at h
 | succ k ih=>
  rw [DW,XC] at h;obtain ⟨u,hu,hl⟩:=h;obtain ⟨p,hp,e⟩:=Pz.mp hl;rcases List.eq_nil_or_concat r with rfl | ⟨r',z,rfl⟩
  ·rw [Vv,show l++[a,b]=l++[a]++[b] by simp] at e;obtain ⟨e1,e2⟩:=List.append_inj' e rfl;cases e2;subst e1;have:=(lK.mp hp).1
   unfold nxt at this;rw [List.getLast?_append] at this;simp at this;lia
  ·rw [List.concat_eq_append,<-List.append_assoc] at e;obtain ⟨e1,e2⟩:=List.append_inj' e rfl;subst e1;exact ih hu
def Eo (ts:List Tr):List Nat->Bool
 | [a,b,c,d]=>oG (gt ts a) (gt ts b) (gt ts c) (gt ts d)
 | _=>false
def FF (ts:List Tr):Option (List Nat):=Zj ts.length (Eo ts)
def G7 (c0:AP):Prop:=∀ {h:Gh} {w:W} {ts:List Tr} {m:Nat} {Q:WK} {E:Bo},m<=4000->dD h w ts->ts.length<=12->HX m ts->(FF ts=JI->Q .non h)->(∀ l,FF ts=Dn l->Q (cM l) h)->c0 [w] h Q E
variable {pi : AP}
theorem ajt {ri fr:AP}(hri:oh ri)(hpi:Ax pi)(hfr:Qz fr):G7 (jO ri pi fr):=by
 intro h w ts m Q E hm e hl hs k0 k1;unfold jO;refine eZ rfl (σ:=[Dn w,JI]) rfl<|bw<|sV<|yh<|aR<|aB<|o8<|aB<|aF rfl<|aL<|mW e ?_
 refine aB<|eU<|aL<|hri (m:=ts.length) (k:=4) hl (by decide)<|RW rfl<|p8 ?_
 have hff:=MP ts.length (Eo ts);refine acw (v:=cM) (pass<|Eo ts) (fun l=>Q (cM l) h) (fun σ h'=>∃ s1,σ = [Dn w,s1]/\h'=h) (DW ts.length 4) ?_ ?_ ?_ ⟨JI,rfl,rfl⟩
 ·rintro l ml σ h' N ⟨s1,rfl,rfl⟩ hN hR;have ll:=dz ml;have li:=d9 ml;match l,ll with
  | [a,b,c,d],_=>
   have ga:∀ i∈[a,b,c,d],Cr m (gt ts i):=fun i hi=>(hs _ (bT (li i hi))).2
   refine bO (σ':=[Dn w,Dn<|cM [a,b,c,d]]) rfl ?_;rfl'
   refine hpi e li (by simp) ?_;rfl'
   refine hfr (p:=gt ts a) (q:=gt ts b) (r:=gt ts c) (s:=gt ts d) (m:=m) hm (ga a<|by simp) (ga b<|by simp) (ga c<|by simp) (ga d<|by simp) ?_;cases hb:oG (gt ts a) (gt ts b) (gt ts c) (gt ts d) with
   | true=>
    rfl'
    exact hR [a,b,c,d]<|Am hb
   | false=>
    rfl'
    exact hN (GJ hb) _ _ ⟨_,rfl,rfl⟩
 ·rintro hn σ h' ⟨s1,rfl,rfl⟩;unfold lA;rfl'
  exact k0<|hff.symm.trans hn
 ·intro l hy;exact k1 l<|hff.symm.trans hy
def Hy (ts:List Tr):List Tr:=ts.foldl (fun acc t=>if t∈acc then acc else acc++[t]) []
theorem xW (ts:List Tr)(t:Tr):Hy (ts++[t])=if t∈Hy ts then Hy ts else Hy ts++[t]:=by
 unfold Hy;rw [List.foldl_append];rfl
theorem jP (ts:List Tr):(Hy ts).Nodup/\(∀ t,t∈Hy ts↔t∈ts)/\(Hy ts).length<=ts.length:=by
 have:∀ n,(Hy (ts.take n)).Nodup/\(∀ t,t∈Hy (ts.take n)↔t∈ts.take n)/\(Hy (ts.take n)).length<=(ts.take n).length:=by
  intro n;induction n with
  | zero=>exact ⟨List.nodup_nil,fun t=>Iff.rfl,Ig _⟩
  | succ n ih=>
   obtain ⟨h1,h2,h3⟩:=ih;rw [Nh];cases e:ts[n]? with
   | none=>
    rw [Option.toList_none,Vv];exact ⟨h1,h2,h3⟩
   | some t=>
    rw [Option.toList_some,xW];by_cases hm:t∈Hy (ts.take n)
    ·rw [if_pos hm];refine ⟨h1,fun u=>?_,by rw [Mf];lia⟩;rw [h2,Py,Nz];refine ⟨.inl,fun h=>h.elim id fun e=>?_⟩;rw [e,<-h2];exact hm
    ·rw [if_neg hm];refine ⟨?_,fun u=>?_,by rw [Mf,Mf];simp only [List.length_singleton];lia⟩
     ·rw [List.nodup_append];refine ⟨h1,by simp,fun a ha b hb=>?_⟩;rw [Nz] at hb;subst hb;intro e;subst e;exact hm ha
     ·rw [Py,Py,h2]
 have:=this ts.length
 rwa [OJ] at this
theorem adx {y:W}{us:List Tr}{t:Tr}(e:cZ h y=Dn (us.map tw))(k:Q (.bl (!decide (t∈us))) h):RD (tw t) y h Q:=by
 have ea:(us.map tw).all (DY 20)=true:=by
  rw [Nr];intro w hw;obtain ⟨u,_,rfl⟩:=Pz.mp hw;exact Av 19 u
 have ec:(us.map tw).any (fun u=>Cj u (tw t))=decide (t∈us):=by
  rw [List.any_map];by_cases hm:t∈us
  ·rw [decide_eq_true hm,List.any_eq_true];exact ⟨t,hm,by show Cj (tw t) (tw t)=true;rw [yj];exact decide_eq_true rfl⟩
  ·rw [decide_eq_false hm,List.any_eq_false];intro u hu;show ¬ Cj (tw u) (tw t)=true;rw [yj,decide_eq_true_eq];intro e;subst e;exact hm hu
 show (match cZ h y with
  | some us=>Ib (DY 20 (tw t)&&us.all (DY 20)) (Q (.bl (!(us.any fun u=>Cj u (tw t)))) h) False
  | none=>False)
 rw [e];dsimp only;rw [Av 19,ea,ec];exact k
theorem Sx (n:Nat):∀ ts:List Tr,Le n (ts.map tw)
 | []=>by simp [Le]
 | t::ts=>by
  have:=Sx n ts
  rw [Lz,Le];exact ⟨by unfold tw;simp [Lo,Le],this⟩
def UnX (c0:AP):Prop:=∀ {h:Gh} {w:W} {ts:List Tr} {Q:WK} {E:Bo},JV h w ts->ts.length<=100->Q (.lst ((Hy ts).map tw)) h->c0 [w] h Q E
theorem aha:UnX gJ:=by
 intro h w ts Q E e hl q;unfold gJ;refine JL rfl (σ:=[Dn w,JI,JI]) rfl ?_;refine bw<|cC<|N8 (ws:=[]) (fun R=>rfl) rfl fun g eg og xg=>?_
 refine bO (σ':=[Dn w,Dn<|.loc h.nx,JI]) rfl<|gR<|bw ?_
 have sw:∀ g':Gh,(∀ n,n≠h.nx->g'.c n=h.c n)->dD g' w ts:=by
  intro g' hg;rcases e with e | ⟨n,e,hn,ec⟩
  ·exact .inl e
  ·exact .inr ⟨n,e,by rw [hg n<|by lia];exact ec⟩
 refine zbB (i:=0) (w:=w) (ts:=ts) rfl (sw g og) (fun i σ h'=>∃ s2,σ = [Dn w,Dn<|.loc h.nx,s2]/\h'.c h.nx=Dn (.lst<|(Hy<|ts.take i).map tw)/\h'.nx=h.nx+1/\∀ n,n≠h.nx->h'.c n=h.c n) ?_ ?_ ?_ ⟨JI,rfl,eg,xg,og⟩
 ·rintro i σ h' ⟨s2,rfl,h1,h2,h3⟩;exact sw h' h3
 ·rintro i t σ h' N hN et ⟨s2,rfl,h1,h2,h3⟩;have hu:Hy (ts.take (i+1))=if t∈Hy (ts.take i) then Hy (ts.take i) else Hy (ts.take i)++[t]:=by
   rw [Nh,et,Option.toList_some,xW]
  have hz:=(jP (ts.take i)).2.2;have hz2:(ts.take i).length<=ts.length:=by rw [Q8];lia
  refine bO (σ':=[Dn w,Dn<|.loc h.nx,Dn<|tw t]) rfl ?_;rfl'
  refine adx (ahF h1) ?_;by_cases hm:t∈Hy (ts.take i)
  ·rw [decide_eq_true hm];rw [if_pos hm] at hu;rfl'
   exact hN _ _ ⟨_,rfl,by rw [hu];exact h1,h2,h3⟩
  ·rw [decide_eq_false hm];rw [if_neg hm] at hu;rfl'
   refine Bb<|aF rfl<|tW h1<|aB<|aF rfl<|aL<|aas h1 (by rw [Hu];lia) fun g2 e2 o2 x2=>?_
   rfl'
   exact hN _ _ ⟨_,rfl,by rw [hu,e2,Qg];rfl,by rw [x2];exact h2,fun n hn=>by rw [o2 n hn];exact h3 n hn⟩
 ·rintro σ h' ⟨s2,rfl,h1,h2,h3⟩;rw [OJ] at h1;unfold jq;refine gR ?_;refine fP ?_;refine aF rfl ?_;refine Jg ?_;exact ⟨fun n c hn ec=>by rw [h3 n<|by lia];exact ec,.inr ⟨h.nx,_,rfl,Ig _,h1,Sx _ _,q⟩⟩
noncomputable def Kl (ts:List Tr):List Nat->Bool
 | [a,b,c]=>j9 [gt ts a,gt ts b,gt ts c]
 | _=>false
noncomputable def LL (ts:List Tr):Option (List Nat):=Wz ts.length (Kl ts)
theorem Ds (p q r:Tr):j9 [p,q,r]=decide (dt3 (crs p q) r=0):=by
 by_cases h:dt3 (crs p q) r=0
 ·rw [decide_eq_true h];refine tX<|p7 fun k j i kj ji a b c ea eb ec=>?_
  have hi:=(Pn.mp ec).1;simp only [Qy,List.length_nil] at hi;have hc:k=0/\j=1/\i=2:=by lia
  obtain ⟨rfl,rfl,rfl⟩:=hc;simp at ea eb ec;subst ea eb ec;rw [rO,rO];exact h
 ·rw [decide_eq_false h];exact Np fun a=>h<|a r (by simp) p (by simp) q<|by simp
theorem Gg {i:Int}(c:adp i j)(x:Q (.int (i^j.toNat)) h):QD (.int i) (.int j) h Q:=⟨c,x⟩
noncomputable def kd (ts:List Tr):Str:=if (FF ts).isSome then "four" else if (LL (Hy ts)).isSome then "line" else "few"
def Ac (c0:AP):Prop:=∀ {h:Gh} {w:W} {ts:List Tr} {Q:WK} {E:Bo},dD h w ts->(1<=ts.length->ts.length<=12->Q .non h)->(¬ (1<=ts.length/\ts.length<=12)->E ⟨"NoPicture",[]⟩ h)->c0 [w] h Q E
theorem yS:Ac fG:=by
 intro h w ts Q E e k k1;unfold fG;refine eZ rfl (σ:=[Dn w]) rfl ?_;rfl'
 refine mW e ?_;rfl'
 refine nH (fun h1=>?_) fun h1=>?_
 ·rfl'
  exact k1<|by lia
 ·rfl'
  refine mW e ?_;rfl'
  refine nH (fun h2=>?_) fun h2=>?_
  ·rfl'
   exact k1<|by lia
  ·rfl'
   exact k (by lia)<|by lia
theorem iT (k:Q (.bl false) h):qJ .non .non h Q:=k
theorem jd (k:Q (.bl true) h):qJ (.tup ws) .non h Q:=k
theorem fj {Q:Option Int->Gh->Prop}(x:Q JI h):gB σ h Q:=x
theorem SM {lo hi:Option Int}(e:BK ws lo hi=us)(x:Q (.lst us) h):vh (.lst ws) lo hi h Q:=by
 subst e;exact x
def lmK (Q:WK):List W->Gh->Prop:=fun ws h1=>fW ws.length (Q (.loc h1.nx) (h1.new (.lst ws)))
theorem air (x:ma σ h (lmK Q)):vd ma σ h Q:=x
theorem adS (hz:QS ws.length 1000=true)(x:∀ g:Gh,g.c h.nx=Dn (.lst ws)->(∀ n,n≠h.nx->g.c n=h.c n)->g.nx=h.nx+1->Q (.loc h.nx) g):lmK Q ws h:=cV hz (x _ (CQ _ _) (fun _ e=>v7 e) rfl)
theorem acq:(20:Int)<10^(9:Int).toNat/\Sm 31 ((10:Int)^(9:Int).toNat):=by
 rw [show (10:Int)^(9:Int).toNat=1000000000 by decide];exact ⟨by decide,by unfold Sm;decide +kernel⟩
theorem Yx {n:Int}(h0:0<=n)(h1:n<=30):Sm 8000 n:=Sm.le (i:=30) (.mono (m:=64) (.lit rfl) (by decide)) (by lia)
theorem afe {d:Int}(h0:0<=d)(h1:d<41):Sm 6 (d - 20):=Sm.le (i:=20) (by unfold Sm;decide +kernel) (by lia)
theorem ajq {a b c:Int}(k:Q (.bl (decide ((a,b,c)=((0,0,0):Tr)))) h):JZ (.lst [.int a,.int b,.int c]) (.lst [.int 0,.int 0,.int 0]) h Q:=by
 show Q (.bl (Cj (.lst [.int a,.int b,.int c]) (.lst [.int 0,.int 0,.int 0]))) h;rw [Zf];have e:decide (a=0/\b=0/\c=0)=decide ((a,b,c)=((0,0,0):Tr)):=decide_eq_decide.mpr (by simp);rw [e];exact k
def acA (c0:AP):Prop:=∀ {h:Gh} {n m:Nat} {p q:Tr} {Q:WK} {E:Bo},m<=1000->Rs h n->Pl p->Cr m p->Cr m q->(∀ (t:Tr) (h':Gh),Pl t->Cr (m+7) t->Rs h' n->MH n h h'->Q (tw t) h')->c0 [tw p,tw q,.loc n] h Q E
theorem zbQ (hdg:iY dg)(hpl:uZ pl):acA (uy dg pl):=by
 intro h n m p q Q E hm hr pp sp sq k;unfold uy;rfl'
 refine hdg (n:=n) (many:=41) hr (by decide) (by unfold Sm;decide +kernel) fun d1 h1 d10 d11 r1 o1=>?_;rfl'
 refine hdg (n:=n) (many:=41) r1 (by decide) (by unfold Sm;decide +kernel) fun d2 h2 d20 d21 r2 o2=>?_;have s1:=afe d10 d11;have s2:=afe d20 d21;have kp:=k p h2 pp (sp.mono (by lia)) r2 (o1.trans o2);obtain ⟨x1,x2,x3⟩:=p;obtain ⟨y1,y2,y3⟩:=q;obtain ⟨a1,a2,a3⟩:=sp;obtain ⟨b1,b2,b3⟩:=sq;simp only at a1 a2 a3 b1 b2 b3;have sv:Cr (m+7) ((d1 - 20)*x1+(d2 - 20)*y1,(d1 - 20)*x2+(d2 - 20)*y2,(d1 - 20)*x3+(d2 - 20)*y3):=⟨((s1.mul a1).add (s2.mul b1)).mono (by lia),((s1.mul a2).add (s2.mul b2)).mono (by lia),((s1.mul a3).add (s2.mul b3)).mono (by lia)⟩
 rfl'
 refine ajq ?_;rfl'
 refine nH (fun _=>?_) fun nz=>?_
 ·rfl'
  exact kp
 ·rfl'
  unfold uf;rfl'
  exact hpl.tr (u:=((d1 - 20)*x1+(d2 - 20)*y1,(d1 - 20)*x2+(d2 - 20)*y2,(d1 - 20)*x3+(d2 - 20)*y3)) (m:=m+7) (.inr rfl) nz sv (by lia) fun t pt _ st=>k t h2 pt st r2<|o1.trans o2
theorem dD.ati (e:dD h w ts){d:Int}(h0:0<=d)(h1:d<(ts.length:Int))(k:∀ t,t∈ts->Q (tw t) h):CR w (.int d) h Q:=by
 have hi:d.toNat<ts.length:=by lia
 have:=e.at hi (k _ (bT hi))
 rwa [show ((d.toNat:Nat):Int)=d by lia] at this
def aaE (c0:AP):Prop:=∀ {h:Gh} {n r m:Nat} {ts:List Tr} {st:Int} {Q:WK} {E:Bo},31<=m->m<=900->h.c n=Dn (.lst (ts.map tw))->n≠r->Rs h r->HX m ts->1<=ts.length->ts.length<=12->(∀ (t:Tr) (h':Gh),Pl t->Cr (m+7) t->Rs h' r->MH r h h'->Q (tw t) h')->c0 [.loc n,.int st,.loc r] h Q E
theorem w_next {sp mx:AP}(hdg:iY dg)(hsp:zQ sp)(hmx:acA mx):aaE (yd dg sp mx):=by
 intro h n r m ts st Q E hm0 hm ec hne hr hs l1 l2 k;obtain ⟨f0,f1⟩:=acq;unfold yd;rfl'
 refine hdg (n:=r) (many:=6) hr (by decide) (by unfold Sm;decide +kernel) fun way h1 w0 w1 r1 o1=>?_;have ec1:dD h1 (.loc n) ts:=.inr ⟨n,rfl,by rw [o1.2 _ hne];exact ec⟩;rfl'
 refine mW ec1 ?_;rfl'
 refine hdg (n:=r) (many:=(ts.length:Int)) r1 (by lia) (Yx (by lia)<|by lia) fun d1 h2 d10 d11 r2 o2=>?_;have o2:=o1.trans o2;have ec2:dD h2 (.loc n) ts:=.inr ⟨n,rfl,by rw [o2.2 _ hne];exact ec⟩;refine ec2.ati d10 d11 fun one m1=>?_;rfl'
 refine mW ec2 ?_;rfl'
 refine hdg (n:=r) (many:=(ts.length:Int)) r2 (by lia) (Yx (by lia)<|by lia) fun d2 h3 d20 d21 r3 o3=>?_;have o3:=o2.trans o3;have ec3:dD h3 (.loc n) ts:=.inr ⟨n,rfl,by rw [o3.2 _ hne];exact ec⟩;refine ec3.ati d20 d21 fun oth m2=>?_;have k3:∀ (t:Tr) (h':Gh),Pl t->Cr (m+7) t->Rs h' r->MH r h3 h'->Q (tw t) h':=fun t h' a b c d=>k t h' a b c (o3.trans d)
 have mix:∀ {p q:Tr} {E':Bo},p∈ts->q∈ts->mx [tw p,tw q,.loc r] h3 Q E':=fun hp hq=>hmx (m:=m) (by lia) r3 (hs _ hp).1 (hs _ hp).2 (hs _ hq).2 k3
 have t4:oX dg sp mx E { nx:=fun _ h'=>Q .non h',rt:=Q } [Dn (.loc n),Dn (.int st),Dn (.loc r),Dn (.int way),Dn (tw one),Dn (tw oth)] h3:=by
  have t5:pI dg sp mx E { nx:=fun _ h'=>Q .non h',rt:=Q } [Dn (.loc n),Dn (.int st),Dn (.loc r),Dn (.int way),Dn (tw one),Dn (tw oth)] h3:=by
   unfold pI;rfl'
   refine nH (fun _=>?_) fun _=>?_
   ·rfl'
    exact mix m1 m2
   ·rfl'
    unfold wk;rfl'
    refine Gg ⟨by decide,by decide,by decide⟩ ?_;rfl'
    exact hsp (n:=r) r3 f0 f1 (by decide) fun t h4 pt st r4 o4=>k3 t h4 pt (st.mono<|by lia) r4 o4
  have ko:=k3 one h3 (hs _ m1).1 ((hs _ m1).2.mono (by lia)) r3 (.refl _ _);unfold oX;rfl'
  refine nH (fun _=>?_) fun _=>?_
  ·rfl'
   refine mW ec3 ?_;rfl'
   refine nH (fun _=>?_) fun _=>?_
   ·rfl'
    exact ko
   ·rfl'
    refine nH (fun _=>?_) fun _=>?_
    ·rfl'
     exact ko
    ·rfl'
     exact t5
  ·rfl'
   refine nH (fun _=>?_) fun _=>?_
   ·rfl'
    exact ko
   ·rfl'
    exact t5
 rfl'
 refine nH (fun _=>?_) fun _=>?_
 ·rfl'
  refine mW ec3 ?_;rfl'
  refine nH (fun hl=>?_) fun _=>?_
  ·rfl'
   refine nH (fun _=>?_) fun _=>?_
   ·rfl'
    refine ec3.at (i:=0) (by lia) ?_;rfl'
    refine ec3.at (i:=1) (by lia) ?_;rfl'
    exact mix (bT<|by lia)<|bT<|by lia
   ·rfl'
    exact t4
  ·rfl'
   exact t4
 ·rfl'
  exact t4
theorem Gj {r:MM}{mo:ME}(x:mo σ h fun x h1=>vZ h1 x (ma σ h1 fun xs h2=>r x xs h2 Q)):ac4 r mo ma σ h Q:=x
theorem acr {P:Prop}(e:cZ h w=Dn us)(x:P):vZ h w P:=by
 unfold vZ;rw [e];exact x
def co (i:Int)(t:Tr):Int:=if i=0 then t.1 else if i=1 then t.2.1 else t.2.2
def cn (l:List Tr)(t:Tr):Nat:=l.countP fun u=>decide (u=t)
def pZ (p q r s:Tr):Prop:=(p=q/\q=r)\/(p=q/\q=s)\/(p=r/\r=s)\/(q=r/\r=s)
instance (p q r s:Tr):Decidable (pZ p q r s):=inferInstanceAs (Decidable (_\/_))
theorem Qj {x:W}{t:Tr}(e:cZ h x=Dn (ts.map tw))(k:Q (.int (cn ts t:Int)) h):Az x [tw t] h Q:=by
 have ea:(ts.map tw).all (DY 20)=true:=by
  rw [Nr];intro w hw;obtain ⟨u,_,rfl⟩:=Pz.mp hw;exact Av 19 u
 have ec:(ts.map tw).countP (fun u=>Cj u (tw t))=cn ts t:=by
  unfold cn;rw [List.countP_map];congr 1
  funext u;exact yj u t
 show (match cZ h x with
  | some us=>Ib (DY 20 (tw t)&&us.all (DY 20)) (Q (.int (us.countP fun u=>Cj u (tw t))) h) False
  | none=>False)
 rw [e];dsimp only;rw [Av 19,ea,ec];exact k
theorem cn4 (p q r s x:Tr):(cn [p,q,r,s] x:Int)=(if p=x then 1 else 0)+(if q=x then 1 else 0)+(if r=x then 1 else 0)+(if s=x then 1 else 0):=by
 simp only [cn,List.countP_cons,List.countP_nil,decide_eq_true_eq];by_cases a:p=x <;> by_cases b:q=x <;> by_cases c:r=x <;> by_cases d:s=x <;> simp [a,b,c,d]
theorem adP {M:Int}(hm:M∈[(cn [p,q,r,s] p:Int),(cn [p,q,r,s] q:Int),(cn [p,q,r,s] r:Int),(cn [p,q,r,s] s:Int)])(hle:∀ a,a∈[(cn [p,q,r,s] p:Int),(cn [p,q,r,s] q:Int),(cn [p,q,r,s] r:Int),(cn [p,q,r,s] s:Int)]->a<=M):decide (M>2)=decide (pZ p q r s):=by
 refine decide_eq_decide.mpr ⟨fun g=>?_,fun g=>?_⟩
 ·have:∃ x,(cn [p,q,r,s] x:Int)=M:=by
   simp only [JN,O7,or_false] at hm;rcases hm with h | h | h | h <;> exact ⟨_,h.symm⟩
  obtain ⟨x,hx⟩:=this;rw [cn4] at hx;by_cases a:p=x <;> by_cases b:q=x <;> by_cases c:r=x <;> by_cases d:s=x <;> first | exact .inl ⟨a.trans b.symm,b.trans c.symm⟩ | exact .inr (.inl ⟨a.trans b.symm,b.trans d.symm⟩) | exact .inr (.inr (.inl ⟨a.trans c.symm,c.trans d.symm⟩)) | exact .inr (.inr (.inr ⟨b.trans c.symm,c.trans d.symm⟩)) | (simp [a,b,c,d] at hx;lia)
 ·have h1:=hle (cn [p,q,r,s] p) (by simp);have h2:=hle (cn [p,q,r,s] q) (by simp);rw [cn4] at h1 h2;rcases g with ⟨rfl,rfl⟩ | ⟨rfl,rfl⟩ | ⟨rfl,rfl⟩ | ⟨rfl,rfl⟩
  ·simp only [if_true] at h1;split at h1 <;> lia
  ·simp only [if_true] at h1;split at h1 <;> lia
  ·simp only [if_true] at h1;split at h1 <;> lia
  ·simp only [if_true] at h2;split at h2 <;> lia
def Uk (c0:AP):Prop:=∀ {h:Gh} {p q r s:Tr} {Q:WK} {E:Bo},Q (.bl (decide (pZ p q r s))) h->c0 [q4 p q r s] h Q E
theorem akh:Uk dF:=by
 intro h p q r s Q E k;unfold dF q4;rfl'
 refine Gj ?_;rfl'
 refine acr (us:=[tw p,tw q,tw r,tw s]) rfl ?_;rfl'
 refine Qj (ts:=[p,q,r,s]) rfl ?_;rfl'
 refine Gj ?_;rfl'
 refine acr (us:=[tw p,tw q,tw r,tw s]) rfl ?_;rfl'
 refine Qj (ts:=[p,q,r,s]) rfl ?_;rfl'
 refine Gj ?_;rfl'
 refine acr (us:=[tw p,tw q,tw r,tw s]) rfl ?_;rfl'
 refine Qj (ts:=[p,q,r,s]) rfl ?_;rfl'
 refine Gj ?_;rfl'
 refine acr (us:=[tw p,tw q,tw r,tw s]) rfl ?_;rfl'
 refine Qj (ts:=[p,q,r,s]) rfl ?_;rfl'
 refine ⟨[(cn [p,q,r,s] p:Int),(cn [p,q,r,s] q:Int),(cn [p,q,r,s] r:Int),(cn [p,q,r,s] s:Int)],rfl,Nat.succ_pos _,fun M hM hle=>?_⟩;rfl'
 rw [adP hM hle];exact k
def Uj (c0:AP):Prop:=∀ {h:Gh} {p q:Tr} {i:Int} {m:Nat} {Q:WK} {E:Bo},i=0\/i=1\/i=2->m<=4000->Cr m p->Cr m q->Q (.int (co i (crs p q))) h->c0 [tw p,tw q,.int i] h Q E
theorem agU:Uj tE:=by
 intro h p q i m Q E hi hm sp sq k;obtain ⟨p1,p2,p3⟩:=p;obtain ⟨q1,q2,q3⟩:=q;obtain ⟨a1,a2,a3⟩:=sp;obtain ⟨b1,b2,b3⟩:=sq;simp only at a1 a2 a3 b1 b2 b3;unfold tE;rcases hi with rfl | rfl | rfl
 ·rfl'
  refine vY (by decide) ?_;rfl'
  refine vY (by decide) ?_;rfl'
  exact k
 ·rfl'
  refine vY (by decide) ?_;rfl'
  refine vY (by decide) ?_;rfl'
  exact k
 ·rfl'
  refine vY (by decide) ?_;rfl'
  refine vY (by decide) ?_;rfl'
  exact k
theorem zK {i:Int}{m:Nat}{t:Tr}(h:Cr m t):Sm m (co i t):=by
 unfold co;split
 ·exact h.1
 split
 ·exact h.2.1
 ·exact h.2.2
def U0 (t:Tr):Int:=if t.1≠0 then 0 else if t.2.1≠0 then 1 else 2
theorem ZV (t:Tr):U0 t=0\/U0 t=1\/U0 t=2:=by
 unfold U0;split
 ·exact .inl rfl
 split
 ·exact .inr<|.inl rfl
 ·exact .inr<|.inr rfl
def fo (p q r s:Tr):Tr:=if q≠p then q else if r≠p then r else s
def ixp (p q r s:Tr):Int:=U0 (crs p (fo p q r s))
def tn (p q r s:Tr):Int×Int:=(co (ixp p q r s) (crs p r)*co (ixp p q r s) (crs q s),co (ixp p q r s) (crs p s)*co (ixp p q r s) (crs q r))
theorem aef (p q r s:Tr):fo p q r s∈[p,q,r,s]:=by
 unfold fo;split
 ·simp
 split
 ·simp
 ·simp
theorem aeg (h:¬ (q=p/\r=p/\s=p)):fo p q r s≠p:=by
 unfold fo;split
 ·assumption
 split
 ·assumption
 ·rename_i a b;rw [VP] at a b;exact fun c=>h ⟨a,b,c⟩
theorem ahZ (h:¬ (q=p/\r=p/\s=p)):∃ us,[p,q,r,s].filter (·≠p)=fo p q r s::us:=by
 unfold fo;by_cases a:q=p
 ·by_cases b:r=p
  ·have c:s≠p:=fun c=>h ⟨a,b,c⟩
   exact ⟨[],by simp [a,b,c]⟩
  ·exact ⟨_,by rw [if_neg<|by simp [a],if_pos b];simp [a,b];rfl⟩
 ·exact ⟨_,by rw [if_pos a];simp [a];rfl⟩
def SJ (c0:AP):Prop:=∀ {h:Gh} {p q r s:Tr} {m:Nat} {Q:WK} {E:Bo},m<=4000->(∀ t∈[p,q,r,s],Pl t/\Cr m t)->¬ (q=p/\r=p/\s=p)->Q (.int (ixp p q r s)) h->c0 [q4 p q r s] h Q E
theorem ajZ (hcr:O8 cr):SJ (lH cr):=by
 intro h p q r s m Q E hm hs hne k;obtain ⟨us,eus⟩:=ahZ hne;have mu:=aef p q r s;have nu:=aeg hne;unfold ixp at k;unfold lH;refine eZ rfl (σ:=[Dn<|q4 p q r s,JI,JI]) rfl<|bw<|cC ?_
 refine Ay (t0:=p) (r:=[q,r,s]) (.inl rfl) (by simp) ?_;rw [eus];generalize fo p q r s=u at mu nu k eus;have c0:=tZ (hs p (by simp)).1 (hs u mu).1 (Jo nu);refine bO (σ':=[Dn<|q4 p q r s,Dn<|.lst (tw u::us.map tw),JI]) rfl<|gR ?_
 unfold q4;rfl'
 refine je (ws:=tw u::us.map tw) (w:=tw u) rfl (uo (j:=0) rfl) ?_;rfl'
 refine hcr (m:=m) (by lia) (hs p<|by simp).2 (hs u mu).2 ?_;generalize crs p u=L at c0 k;obtain ⟨x,y,z⟩:=L;unfold U0 at k;dsimp only at k;rfl'
 refine El (fun x0=>?_) fun x0=>?_
 ·rw [if_pos x0] at k;rfl'
  refine El (fun y0=>?_) fun y0=>?_
  ·rfl'
   refine El (fun z0=>?_) fun z0=>?_
   ·rfl'
    exact k
   ·rfl'
    exact k
  ·rfl'
   refine El (fun z0=>?_) fun z0=>?_
   ·rfl'
    exact k
   ·rfl'
    exact k
 ·rw [if_neg x0] at k;rfl'
  refine El (fun y0=>?_) fun y0=>?_
  ·rw [if_pos y0] at k;rfl'
   refine El (fun z0=>?_) fun z0=>?_
   ·rfl'
    exact k
   ·rfl'
    exact k
  ·rw [if_neg y0] at k;rfl'
   refine El (fun z0=>?_) fun z0=>?_
   ·rfl'
    exact k
   ·refine absurd ?_ c0;rw [VP] at x0 y0 z0;exact J7 x0<|J7 y0 z0
def aeN (c0:AP):Prop:=∀ {h:Gh} {p q r s:Tr} {m:Nat} {Q:WK} {E:Bo},m<=1000->(∀ t∈[p,q,r,s],Pl t/\Cr m t)->¬ (q=p/\r=p/\s=p)->Q (.lst [.int (tn p q r s).1,.int (tn p q r s).2]) h->c0 [q4 p q r s] h Q E
theorem YW {po ta:AP}(hpo:SJ po)(hta:Uj ta):aeN (fK po ta):=by
 intro h p q r s m Q E hm hs hne k;have sp:=(hs p (by simp)).2;have sq:=(hs q (by simp)).2;have sr:=(hs r (by simp)).2;have ss:=(hs s (by simp)).2;unfold fK;rfl'
 refine hpo (m:=m) (by lia) hs hne ?_;have hi:=ZV (crs p (fo p q r s));unfold tn at k;change ixp p q r s=0\/ixp p q r s=1\/ixp p q r s=2 at hi
 generalize ixp p q r s=i at k hi;have s1:=zK (i:=i) (gk sp sr);have s2:=zK (i:=i) (gk sq ss);have s3:=zK (i:=i) (gk sp ss);have s4:=zK (i:=i) (gk sq sr);unfold q4;rfl'
 refine hta hi (by lia) sp sr ?_;rfl'
 refine hta hi (by lia) sq ss ?_;rfl'
 refine hta hi (by lia) sp ss ?_;rfl'
 refine hta hi (by lia) sq sr ?_;rfl'
 exact k
def imv (a b c d s:Tr):Tr:=(dt3 (crs s b) c*dt3 (crs a d) c*dt3 (crs a b) d,dt3 (crs a s) c*dt3 (crs d b) c*dt3 (crs a b) d,dt3 (crs a b) s*dt3 (crs d b) c*dt3 (crs a d) c)
theorem af4 (a b c s:Tr):sc (dt3 (crs a b) c) s=(dt3 (crs s b) c*a.1+dt3 (crs a s) c*b.1+dt3 (crs a b) s*c.1,dt3 (crs s b) c*a.2.1+dt3 (crs a s) c*b.2.1+dt3 (crs a b) s*c.2.1,dt3 (crs s b) c*a.2.2+dt3 (crs a s) c*b.2.2+dt3 (crs a b) s*c.2.2):=by
 obtain ⟨a1,a2,a3⟩:=a;obtain ⟨b1,b2,b3⟩:=b;obtain ⟨c1,c2,c3⟩:=c;obtain ⟨s1,s2,s3⟩:=s;simp only [sc,dt3,crs];refine J7 ?_ (J7 ?_ ?_) <;> simp only <;> grind
theorem zbC {a b c d:Tr}(f:Free a b c d):dt3 (crs a d) c≠0/\dt3 (crs d b) c≠0:=by
 have e1:dt3 (crs a d) c = - dt3 (crs a c) d:=by simp only [dt3,crs];grind
 have e2:dt3 (crs d b) c=dt3 (crs b c) d:=by simp only [dt3,crs];grind
 exact ⟨by rw [e1];exact fun z=>f.2.2.1<|by lia,by rw [e2];exact f.2.2.2⟩
def abN (c0:AP):Prop:=∀ {h:Gh} {a b c d:Tr} {Q:WK} {E:Bo},Q (.bl (decide (decide (a=b)≠decide (c=d)))) h->c0 [.lst [tw a,tw b],.lst [tw c,tw d]] h Q E
theorem YL:abN iH:=by
 intro h a b c d Q E k;unfold iH;rfl'
 exact k
def Mq (c0:AP):Prop:=∀ {h:Gh} {p q r p' q' r':Tr} {m:Nat} {Q:WK} {E:Bo},m<=4000->HX m [p,q,r]->HX m [p',q',r']->Q (.bl (decide (decide (dt3 (crs p q) r=0)≠decide (dt3 (crs p' q') r'=0)))) h->c0 [.lst [tw p,tw q,tw r],.lst [tw p',tw q',tw r']] h Q E
theorem zbL {ol:AP}(hol:jM ol):Mq (fJ ol):=by
 intro h p q r p' q' r' m Q E hm o1 o2 k;unfold fJ;rfl'
 refine hol (ts:=[p,q,r]) (M:=m) (.inl rfl) (by simp) hm o1 ?_;rw [Ds];rfl'
 refine hol (ts:=[p',q',r']) (M:=m) (.inl rfl) (by simp) hm o2 ?_;rw [Ds];rfl'
 exact k
noncomputable def thB (p q r s p' q' r' s':Tr):Bool:=j9 [p,q,r,s]&&(!decide (pZ p q r s)&&decide ((tn p q r s).1*(tn p' q' r' s').2≠(tn p q r s).2*(tn p' q' r' s').1))
theorem abd {m:Nat}(h:∀ t∈[p,q,r,s],Pl t/\Cr m t):Sm (4*m+2) (tn p q r s).1/\Sm (4*m+2) (tn p q r s).2:=by
 have sp:=(h p (by simp)).2;have sq:=(h q (by simp)).2;have sr:=(h r (by simp)).2;have ss:=(h s (by simp)).2;exact ⟨((zK<|gk sp sr).mul (zK<|gk sq ss)).mono (by lia),((zK<|gk sp ss).mul (zK<|gk sq sr)).mono (by lia)⟩
theorem afD (h:¬ pZ p q r s):¬ (q=p/\r=p/\s=p):=fun ⟨a,b,_⟩=>h (.inl ⟨a.symm,a.trans b.symm⟩)
def Ka (c0:AP):Prop:=∀ {h:Gh} {p q r s p' q' r' s':Tr} {m:Nat} {Q:WK} {E:Bo},m<=900->HX m [p,q,r,s]->HX m [p',q',r',s']->(¬ pZ p q r s->¬ (q'=p'/\r'=p'/\s'=p'))->Q (.bl (thB p q r s p' q' r' s')) h->c0 [q4 p q r s,q4 p' q' r' s'] h Q E
theorem zbk {ol th tn':AP}(hol:jM ol)(hth:Uk th)(htn:aeN tn'):Ka (eY ol th tn'):=by
 intro h p q r s p' q' r' s' m Q E hm o1 o2 hne k;unfold thB at k;obtain ⟨s1,s2⟩:=abd o1;obtain ⟨s3,s4⟩:=abd o2;unfold eY;rfl'
 refine hol (ts:=[p,q,r,s]) (M:=m) (.inl rfl) (by simp) (by lia) o1 ?_;cases hf:j9 [p,q,r,s] with
 | false=>
  rw [hf] at k;rfl'
  exact k
 | true=>
  rw [hf] at k;rfl'
  refine hth ?_;rfl'
  refine nH (fun ha=>?_) fun ha=>?_
  ·rw [decide_eq_true ha] at k;rfl'
   exact k
  ·rw [decide_eq_false ha] at k;rfl'
   unfold g8;rfl'
   refine htn (m:=m) (by lia) o1 (afD ha) ?_;rfl'
   refine htn (m:=m) (by lia) o2 (hne ha) ?_;generalize tn p q r s=u at k s1 s2;generalize tn p' q' r' s'=v at k s3 s4;rfl'
   exact k
def e0:Tr:=(1,0,0)
def e1:Tr:=(0,1,0)
def e2:Tr:=(0,0,1)
def e3:Tr:=(1,1,1)
theorem zav:Free e0 e1 e2 e3:=⟨by decide,by decide,by decide,by decide⟩
theorem FQ:Cr 2 e0/\Cr 2 e1/\Cr 2 e2/\Cr 2 e3:=by
 have o:Sm 2 1:=by unfold Sm;decide +kernel
 have z:Sm 2 0:=by unfold Sm;decide +kernel
 exact ⟨⟨o,z,z⟩,⟨z,o,z⟩,⟨z,z,o⟩,⟨o,o,o⟩⟩
def Bq (p q r s:Tr)(M:Mt):Prop:=det M≠0/\To M p e0/\To M q e1/\To M r e2/\To M s e3
def MbG (c0:AP):Prop:=∀ {h:Gh} {p q r s:Tr} {m:Nat} {Q:WK} {E:Bo},m<=210->Cr m p->Cr m q->Cr m r->Cr m s->Free p q r s->(∀ M,Bq p q r s M->Io (8*m+23) M->Q (mw M) h)->c0 [q4 p q r s,q4 e0 e1 e2 e3] h Q E
theorem acS {th ba fr fm:AP}(hth:ZC th)(hba:Eu ba)(hfr:Qz fr)(hfm:Sh fm):MbG (jc th ba fr fm):=by
 intro h p q r s m Q E hm sp sq sr ss f k;obtain ⟨sa,sb,sc',sd⟩:=FQ;have g:=zav;unfold jc;rfl'
 refine hfr (m:=m) (by lia) sp sq sr ss ?_;rw [rW f];rfl'
 refine hfr (m:=2) (by decide) sa sb sc' sd ?_;rw [rW g];rfl'
 unfold jV;rfl'
 refine hfm (m:=m) (by lia) sp sq sr ss f.1 f.2.1 f.2.2.1 f.2.2.2 fun G pG parG sG=>?_;have dG:det G≠0:=parG.det.mp (uU f.1 f.2.1 f.2.2.1 f.2.2.2);rfl'
 refine hba (m:=4*m+4) (by lia) sG dG fun N pN parN sN=>?_;have dN:det N≠0:=parN.det.mp (Ef dG);rfl'
 refine hfm (m:=2) (by decide) sa sb sc' sd g.1 g.2.1 g.2.2.1 g.2.2.2 fun Go pGo parGo sGo=>?_;have dGo:det Go≠0:=parGo.det.mp (uU g.1 g.2.1 g.2.2.1 g.2.2.2);have sGo:Io 12 Go:=sGo;rfl'
 refine hth (m:=4*m+4+(4*m+4)+1) (n:=12) (by lia) (by decide) sN sGo dN dGo fun M pM parM sM'=>?_;have dM:det M≠0:=parM.det.mp (by rw [zO];exact Lp dGo dN);obtain ⟨l1,l2,l3,l4⟩:=sX f parG;obtain ⟨m1,m2,m3,m4⟩:=sX g parGo;rfl'
 exact k M ⟨dM,Oz dG l1 m1 parN parM,Oz dG l2 m2 parN parM,Oz dG l3 m3 parN parM,Oz dG l4 m4 parN parM⟩<|sM'.mono<|by lia
def ab0 (p q r s:Tr)(M:Mt):Prop:=det M≠0/\Io 1623 M/\To M p e0/\To M q e1/\To M r e2/\To M s e3
def MbV (c0:AP):Prop:=∀ {h:Gh} {p q r s:Tr} {Q:WK} {E:Bo},Cr 200 p->Cr 200 q->Cr 200 r->Cr 200 s->Free p q r s->(∀ M,ab0 p q r s M->Q (mw M) h)->c0 [q4 p q r s,q4 e0 e1 e2 e3] h Q E
theorem aiw {mb:AP}(h:MbG mb):MbV mb:=fun sp sq sr ss f k=>h (by decide) sp sq sr ss f fun M l b=>k M ⟨l.1,b,l.2⟩
def YF (c0:AP):Prop:=∀ {h:Gh} {Q:WK} {E:Bo},Q (q4 e0 e1 e2 e3) h->c0 [] h Q E
theorem zG:YF Dq:=by
 intro h Q E k;unfold Dq;rfl'
 exact k
theorem aiB (M:Mt)(a b c:Tr)(x y z:Int):vm M (x*a.1+y*b.1+z*c.1,x*a.2.1+y*b.2.1+z*c.2.1,x*a.2.2+y*b.2.2+z*c.2.2)=(x*(vm M a).1+y*(vm M b).1+z*(vm M c).1,x*(vm M a).2.1+y*(vm M b).2.1+z*(vm M c).2.1,x*(vm M a).2.2+y*(vm M b).2.2+z*(vm M c).2.2):=by
 obtain ⟨⟨m1,m2,m3⟩,⟨m4,m5,m6⟩,m7,m8,m9⟩:=M;obtain ⟨a1,a2,a3⟩:=a;obtain ⟨b1,b2,b3⟩:=b;obtain ⟨c1,c2,c3⟩:=c;simp only [vm,dt3];refine J7 ?_ (J7 ?_ ?_) <;> simp only <;> grind
def Ray (t w:Tr):Prop:=∃ u v:Int,u≠0/\v≠0/\sc u t=sc v w
theorem Ray.par {t w:Tr}(h:Ray t w)(p:Jj t u):Ray u w:=by
 obtain ⟨a,b,a0,b0,e⟩:=h;obtain ⟨k,k0,ek⟩:=p;exact ⟨k*a,b,Lp k0 a0,b0,by rw [<-u5,<-ek];exact e⟩
theorem K8 {t t' w w':Tr}(ht:Pl t)(ht':Pl t')(h:Ray t w)(h':Ray t' w'):t≠t'↔crs w w'≠(0,0,0):=by
 obtain ⟨a,b,a0,b0,e⟩:=h;obtain ⟨a',b',a0',b0',e'⟩:=h';have key:sc (a*a') (crs t t')=sc (b*b') (crs w w'):=by rw [<-Bc,<-Bc,e,e']
 refine not_congr ⟨fun q=>?_,fun q=>?_⟩
 ·subst q;have z:crs t t=(0,0,0):=by
   obtain ⟨x,y,z⟩:=t;simp only [crs,Vk];exact ⟨by grind,by grind,by grind⟩
  rw [z] at key;refine (oH<|Lp b0 b0').mp (key.symm.trans ?_);simp [sc]
 ·rw [q] at key;refine qZ ht ht'<|(oH<|Lp a0 a0').mp (key.trans ?_)
  simp [sc]
theorem z7 {x y z:Int}(h:To M p (x,y,z)):∃ k:Int,k≠0/\∃ a:Int,a≠0/\a*(vm M p).1=k*x/\a*(vm M p).2.1=k*y/\a*(vm M p).2.2=k*z:=by
 obtain ⟨a,b,a0,b0,e⟩:=h;simp only [sc,Vk] at e;exact ⟨b,b0,a,a0,by grind,by grind,by grind⟩
theorem xu {a b c d:Tr}(f:Free a b c d)(h:Bq a b c d M):Ray (vm M s) (imv a b c d s):=by
 obtain ⟨_,h1,h2,h3,h4⟩:=h;obtain ⟨ka,ka0,xa,xa0,a1,a2,a3⟩:=z7 h1;obtain ⟨kb,kb0,xb,xb0,b1,b2,b3⟩:=z7 h2;obtain ⟨kc,kc0,xc,xc0,c1,c2,c3⟩:=z7 h3;obtain ⟨kd,kd0,xd,xd0,d1,d2,d3⟩:=z7 h4;have z:∀ {x y k:Int},x≠0->x*y=k*0->y=0:=fun hx e=>(Q7.mp (e.trans (VB _))).resolve_left hx
 have za2:=z xa0 a2;have za3:=z xa0 a3;have zb1:=z xb0 b1;have zb3:=z xb0 b3;have zc1:=z xc0 c1;have zc2:=z xc0 c2;have ed2:(vm M d).2.1=(vm M d).1:=Xr xd0 (d2.trans d1.symm);have ed3:(vm M d).2.2=(vm M d).1:=Xr xd0 (d3.trans d1.symm);have d0:(vm M d).1≠0:=fun e=>by
  rw [e,VB,Int.mul_one] at d1;exact kd0 d1.symm
 have ls:∀ t,sc (dt3 (crs a b) c) (vm M t)=(dt3 (crs t b) c*(vm M a).1,dt3 (crs a t) c*(vm M b).2.1,dt3 (crs a b) t*(vm M c).2.2):=fun t=>by
  rw [<-cQ,af4 a b c t,aiB,za2,za3,zb1,zb3,zc1,zc2];simp
 have l1:=ls s;have l2:=ls d;obtain ⟨g1,g2⟩:=zbC f;refine ⟨dt3 (crs a b) c*(dt3 (crs d b) c*dt3 (crs a d) c*dt3 (crs a b) d),dt3 (crs a b) c*(vm M d).1,Lp f.1<|Lp (Lp g2 g1) f.2.1,Lp f.1 d0,?_⟩;simp only [sc,Vk] at l1 l2;rw [ed2,ed3] at l2;obtain ⟨p1,p2,p3⟩:=l1;obtain ⟨q1,q2,q3⟩:=l2;unfold imv;generalize dt3 (crs a b) c=D at *;generalize dt3 (crs d b) c=E1 at *;generalize dt3 (crs a d) c=E2 at *;generalize dt3 (crs a b) d=E3 at *;generalize dt3 (crs s b) c=S1 at *;generalize dt3 (crs a s) c=S2 at *;generalize dt3 (crs a b) s=S3 at *;generalize (vm M d).1=V at *;generalize (vm M a).1=A at *;generalize (vm M b).2.1=B at *;generalize (vm M c).2.2=C at *;simp only [sc];refine J7 ?_ (J7 ?_ ?_) <;> simp only
 ·rw [show (vm M s).1*(D*(E1*E2*E3))=(vm M s).1*D*(E1*E2*E3) by grind,p1,show S1*A*(E1*E2*E3)=(E1*A)*(S1*E2*E3) by grind,<-q1];grind
 ·rw [show (vm M s).2.1*(D*(E1*E2*E3))=(vm M s).2.1*D*(E1*E2*E3) by grind,p2,show S2*B*(E1*E2*E3)=(E2*B)*(S2*E1*E3) by grind,<-q2];grind
 ·rw [show (vm M s).2.2*(D*(E1*E2*E3))=(vm M s).2.2*D*(E1*E2*E3) by grind,p3,show S3*C*(E1*E2*E3)=(E3*C)*(S3*E1*E2) by grind,<-q3];grind
theorem Jy {a b c d:Tr}(f:Free a b c d)(h:ab0 a b c d M):Ray (vm M s) (imv a b c d s):=xu f ⟨h.1,h.2.2⟩
def d2 (x y:List Tr):List Nat->Bool
 | [i,j]=>decide (decide (gt x i=gt x j)≠decide (gt y i=gt y j))
 | _=>false
def d3 (x y:List Tr):List Nat->Bool
 | [i,j,k]=>decide (decide (dt3 (crs (gt x i) (gt x j)) (gt x k)=0)≠decide (dt3 (crs (gt y i) (gt y j)) (gt y k)=0))
 | _=>false
noncomputable def d4 (x y:List Tr):List Nat->Bool
 | [a,b,c,d]=>thB (gt x a) (gt x b) (gt x c) (gt x d) (gt y a) (gt y b) (gt y c) (gt y d)
 | _=>false
def d5 (x y:List Tr)(l:List Nat)(k:Nat):Option (List Nat):=match l with
 | [a,b,c,d]=>if crs (imv (gt x a) (gt x b) (gt x c) (gt x d) (gt x k)) (imv (gt y a) (gt y b) (gt y c) (gt y d) (gt y k))≠(0,0,0) then Dn (l++[k]) else JI
 | _=>JI
def s2 (x y:List Tr):Option (List Nat):=(DW x.length 2).findSome? (pass (d2 x y))
def s3 (x y:List Tr):Option (List Nat):=(DW x.length 3).findSome? (pass (d3 x y))
noncomputable def s4 (x y:List Tr):Option (List Nat):=(DW x.length 4).findSome? (pass (d4 x y))
def s5 (x y:List Tr):Option (List Nat):=match FF x with
 | none=>JI
 | some l=>(rng 0 x.length).findSome? (d5 x y l)
noncomputable def En (x y:List Tr):Option (Str×List Nat):=if x.length≠y.length then Dn ("many",[]) else match s2 x y with
 | some l=>Dn ("two",l)
 | none=>match s3 x y with
  | some l=>Dn ("three",l)
  | none=>match s4 x y with
   | some l=>Dn ("throw",l)
   | none=>match s5 x y with
    | some l=>Dn ("five",l)
    | none=>JI
def dW:Option (Str×List Nat)->W
 | none=>.non
 | some x=>.tup [.str x.1,cM x.2]
theorem nA {ls:List (List Nat)}(h:ls.findSome? (pass P)=JI):∀ l∈ls,P l=false:=fun l hl=>by
 have:=List.findSome?_eq_none_iff.mp h l hl
 cases hb:P l with
 | false=>rfl
 | true=>rw [Am hb] at this;cases this
theorem nR {m k p:Nat}(hl:l∈DW m k)(h1:nxt l<=p)(h2:p<m):l++[p]∈DW m (k+1):=by
 rw [DW,XC];exact ⟨l,hl,Pz.mpr ⟨p,lK.mpr ⟨h1,h2⟩,rfl⟩⟩
theorem Tv {m j:Nat}(h1:i<j)(h2:j<m):[i,j]∈DW m 2:=
 nR (l:=[i]) (nR (l:=[]) (by rw [DW];simp) (U7 _) (by lia)) (show i+1<=j by lia) h2
theorem Fq {m j k:Nat}(h1:i<j)(h2:j<k)(h3:k<m):[i,j,k]∈DW m 3:=nR (l:=[i,j]) (Tv h1 (by lia)) (show j+1<=k by lia) h3
variable {x y : List Tr}
theorem HN (h:s2 x y=JI){j:Nat}(hi:i<x.length)(hj:j<x.length):gt x i=gt x j↔gt y i=gt y j:=by
 have g:∀ {i j:Nat},i<j->j<x.length->(gt x i=gt x j↔gt y i=gt y j):=fun {i j} h1 h2=>by
  have:=nA h _ (Tv h1 h2)
  exact decide_eq_decide.mp<|VP.mp<|of_decide_eq_false this
 rcases Nat.lt_trichotomy i j with c | c | c
 ·exact g c hj
 ·subst c;exact ⟨fun _=>rfl,fun _=>rfl⟩
 ·have:=g c hi
  exact ⟨fun e=>(this.mp e.symm).symm,fun e=>(this.mpr e.symm).symm⟩
theorem Mg (h:s3 x y=JI){j k:Nat}(h1:i<j)(h2:j<k)(h3:k<x.length):dt3 (crs (gt x i) (gt x j)) (gt x k)=0↔dt3 (crs (gt y i) (gt y j)) (gt y k)=0:=by
 have:=nA h _ (Fq h1 h2 h3)
 exact decide_eq_decide.mp<|VP.mp<|of_decide_eq_false this
theorem up4 {m a b c d:Nat}(h:[a,b,c,d]∈DW m 4):a<b/\b<c/\c<d/\d<m:=⟨oA (l:=[]) (r:=[c,d]) h,oA (l:=[a]) (r:=[d]) h,oA (l:=[a,b]) (r:=[]) h,d9 h d (by simp)⟩
theorem rF (h:s3 x y=JI){a b c d:Nat}(hr:[a,b,c,d]∈DW x.length 4):Free (gt x a) (gt x b) (gt x c) (gt x d)↔Free (gt y a) (gt y b) (gt y c) (gt y d):=by
 obtain ⟨u1,u2,u3,u4⟩:=up4 hr;unfold Free;rw [Ne,Ne,Ne,Ne,Mg h u1 u2 (by lia),Mg h u1 (by lia:b<d) u4,Mg h (by lia:a<c) u3 u4,Mg h u2 u3 u4]
theorem W2 (h:FF x=Dn l):∃ a b c d,l=[a,b,c,d]/\[a,b,c,d]∈DW x.length 4/\Free (gt x a) (gt x b) (gt x c) (gt x d):=by
 unfold FF at h;rw [<-MP] at h;obtain ⟨l',ml,e⟩:=List.exists_of_findSome?_eq_some h;cases hb:Eo x l' with
 | false=>rw [GJ hb] at e;cases e
 | true=>
  rw [Am hb] at e;cases e;match l,dz ml with
  | [a,b,c,d],_=>exact ⟨a,b,c,d,rfl,ml,Nx hb⟩
theorem zbE {fs:List (Addr×AP)}{j:Nat}{f:Addr}{ms:AP}(e:σ[i]?=Dn (Dn (.fnv f j)))(e2:fs[j]?=Dn (f,ms))(k:ma σ h fun ws h1=>ms ws h1 Q EF):wC fs i ma σ h Q:=by
 unfold wC;rw [e];dsimp only;rw [e2];exact ⟨rfl,k⟩
theorem Dm {ri c1 c2:AP}{F0 F1 F2 F:Addr}{ms:AP}{j z:Nat}(hri:oh ri)(hpi:Ax pi)(ej:[(F0,c0),(F1,c1),(F2,c2)][j]?=Dn (F,ms)){wx wy:W}{xs ys:List Tr}
  (ex:dD h wx xs) (ey:dD h wy ys) (hl:xs.length=ys.length) (hn:xs.length<=12) (hz:z<=4)
  (hP:∀ l∈DW xs.length z,∀ (R:WK) (E':Bo),R (.bl (P l)) h->ms [.lst ((l.map (gt xs)).map tw),.lst ((l.map (gt ys)).map tw)] h R E')
  (k0:(DW xs.length z).findSome? (pass P)=JI->Q .non h) (k1:∀ l,(DW xs.length z).findSome? (pass P)=Dn l->Q (cM l) h) :
  dJ F0 F1 F2 ri pi c0 c1 c2 [wx,wy,.int (z:Int),.fnv F j] h Q E:=by
 unfold dJ;refine eZ rfl (σ:=[Dn wx,Dn wy,Dn<|.int (z:Int),Dn<|.fnv F j,JI]) rfl<|bw<|sV<|yh<|aR<|aB<|o8<|aB<|aF rfl<|aL<|mW ex ?_
 refine aB<|aF rfl<|aL<|hri (m:=xs.length) (k:=z) hn hz<|RW rfl<|p8 ?_
 refine acw (v:=cM) (pass P) (fun l=>Q (cM l) h) (fun σ h'=>∃ s1,σ = [Dn wx,Dn wy,Dn<|.int (z:Int),Dn<|.fnv F j,s1]/\h'=h) (DW xs.length z) ?_ ?_ ?_ ⟨JI,rfl,rfl⟩
 ·rintro l ml σ h' N ⟨s1,rfl,rfl⟩ hN hR;have ll:=dz ml;have li:=d9 ml;refine bO (σ':=[Dn wx,Dn wy,Dn<|.int (z:Int),Dn<|.fnv F j,Dn<|cM l]) rfl ?_;refine jx<|yV<|zbE rfl ej<|aB<|aR<|aB<|aF rfl<|aB<|aF rfl<|aL<|hpi ex li (by lia) ?_
  refine aB<|aR<|aB<|aF rfl<|aB<|aF rfl<|aL<|hpi ey (by rw [<-hl];exact li) (by lia)<|aL<|hP l ml _ _ ?_
  cases hb:P l with
  | true=>
   rfl'
   exact hR l<|Am hb
  | false=>
   rfl'
   exact hN (GJ hb) _ _ ⟨_,rfl,rfl⟩
 ·rintro hn σ h' ⟨s1,rfl,rfl⟩;unfold jt;rfl'
  exact k0 hn
 ·intro l hy;exact k1 l hy
theorem xV {m:Nat}(h:HX m x)(hl:∀ i∈l,i<x.length):HX m (l.map (gt x)):=fun t ht=>by
 obtain ⟨i,hi,rfl⟩:=Pz.mp ht;exact h _<|bT<|hl i hi
theorem zay (h:s2 x y=JI){a b c d:Nat}(hr:[a,b,c,d]∈DW x.length 4):¬ pZ (gt x a) (gt x b) (gt x c) (gt x d)->¬ (gt y b=gt y a/\gt y c=gt y a/\gt y d=gt y a):=by
 have li:=d9 hr;have la:=li a (by simp);have lb:=li b (by simp);have lc:=li c (by simp);intro n ⟨e1,e2,_⟩;have q1:=(HN h lb la).mpr e1;have q2:=(HN h lc la).mpr e2;exact n<|.inl ⟨q1.symm,q1.trans q2.symm⟩
structure FpX (F0 F1 F2:Addr) (c0:AP):Prop where
 two:∀ {h:Gh} {wx wy:W} {x y:List Tr} {Q:WK} {E:Bo},dD h wx x->dD h wy y->x.length=y.length->x.length<=12->HX 200 x->HX 200 y->(s2 x y=JI->Q .non h)->(∀ l,s2 x y=Dn l->Q (cM l) h)->c0 [wx,wy,.int 2,.fnv F0 0] h Q E
 three:∀ {h:Gh} {wx wy:W} {x y:List Tr} {Q:WK} {E:Bo},dD h wx x->dD h wy y->x.length=y.length->x.length<=12->HX 200 x->HX 200 y->(s3 x y=JI->Q .non h)->(∀ l,s3 x y=Dn l->Q (cM l) h)->c0 [wx,wy,.int 3,.fnv F1 1] h Q E
 four:∀ {h:Gh} {wx wy:W} {x y:List Tr} {Q:WK} {E:Bo},dD h wx x->dD h wy y->x.length=y.length->x.length<=12->HX 200 x->HX 200 y->s2 x y=JI->(s4 x y=JI->Q .non h)->(∀ l,s4 x y=Dn l->Q (cM l) h)->c0 [wx,wy,.int 4,.fnv F2 2] h Q E
theorem afY {ri c1 c2:AP}{F0 F1 F2:Addr}(hri:oh ri)(hpi:Ax pi)(h0:abN c0)(h1:Mq c1)(h2:Ka c2):FpX F0 F1 F2 (dJ F0 F1 F2 ri pi c0 c1 c2) where
 two:=fun {h wx wy x y Q E} ex ey hl hn ox oy k0 k1=>Dm (j:=0) (z:=2) (P:=d2 x y) hri hpi rfl ex ey hl hn (by decide) (fun l ml R E' k=>by
  match l,dz ml with
  | [i,j],_=>exact h0 k) k0 k1
 three:=fun {h wx wy x y Q E} ex ey hl hn ox oy k0 k1=>Dm (j:=1) (z:=3) (P:=d3 x y) hri hpi rfl ex ey hl hn (by decide) (fun l ml R E' k=>by
  have li:=d9 ml;match l,dz ml with
  | [i,j,z],_=>exact h1 (m:=200) (by decide) (xV ox li) (xV (l:=[i,j,z]) oy (by rw [<-hl];exact li)) k) k0 k1
 four:=fun {h wx wy x y Q E} ex ey hl hn ox oy hs k0 k1=>Dm (j:=2) (z:=4) (P:=d4 x y) hri hpi rfl ex ey hl hn (by decide) (fun l ml R E' k=>by
  have li:=d9 ml;match l,dz ml with
  | [a,b,c,d],_=>exact h2 (m:=200) (by decide) (xV ox li) (xV (l:=[a,b,c,d]) oy (by rw [<-hl];exact li)) (zay hs ml) k) k0 k1
def abp (c0:AP):Prop:=∀ {h:Gh} {wx wy:W} {x y:List Tr} {Q:WK} {E:Bo},dD h wx x->dD h wy y->x.length=y.length->x.length<=12->HX 200 x->HX 200 y->s3 x y=JI->(s5 x y=JI->Q .non h)->(∀ l,s5 x y=Dn l->Q (cM l) h)->c0 [wx,wy] h Q E
theorem Um (k:Q (.bl true) h):kIs .non .non h Q:=k
theorem is_tup (k:Q (.bl false) h):kIs (.tup ws) .non h Q:=k
theorem aax {t:Tr}(h:Pl t):t≠(0,0,0):=by
 rintro rfl;exact absurd h (by unfold Pl Ox tl;decide)
variable {le ti : AP}
theorem abt {mb ff:AP}(hpi:Ax pi)(hle:Zk le)(hti:YF ti)(hmb:MbV mb)(hff:G7 ff):abp (iU pi le ti mb ff):=by
 intro h wx wy x y Q E ex ey hl hn ox oy h3 k0 k1;unfold iU;refine eZ rfl (σ:=[Dn wx,Dn wy,JI,JI,JI,JI]) rfl ?_;rfl'
 refine hff (m:=200) (by decide) ex hn ox (fun e=>?_) fun l e=>?_
 ·rfl'
  refine Um ?_;rfl'
  exact k0 (by unfold s5;rw [e])
 obtain ⟨a,b,c,d,rfl,mr,fx⟩:=W2 e;have fy:=(rF h3 mr).mp fx;have li:=d9 mr;have hs5:s5 x y=(rng 0 x.length).findSome? (d5 x y [a,b,c,d]):=by unfold s5;rw [e]
 rw [hs5] at k0 k1;have px:∀ i∈[a,b,c,d],Cr 200 (gt x i):=fun i hi=>(ox _ (bT (li i hi))).2
 have py:∀ i∈[a,b,c,d],Cr 200 (gt y i):=fun i hi=>(oy _ (bT (by rw [<-hl];exact li i hi))).2
 rfl'
 refine is_tup ?_;rfl'
 unfold jU;rfl'
 refine hpi ex li (by simp) ?_;rfl'
 refine hti ?_;rfl'
 refine hmb (p:=gt x a) (q:=gt x b) (r:=gt x c) (s:=gt x d) (px a<|by simp) (px b<|by simp) (px c<|by simp) (px d<|by simp) fx fun M hM=>?_;rfl'
 refine hpi ey (by rw [<-hl];exact li) (by simp) ?_;rfl'
 refine hti ?_;rfl'
 refine hmb (p:=gt y a) (q:=gt y b) (r:=gt y c) (s:=gt y d) (py a<|by simp) (py b<|by simp) (py c<|by simp) (py d<|by simp) fy fun N hN'=>?_;refine bO (σ':=[Dn wx,Dn wy,Dn<|cM [a,b,c,d],Dn<|mw M,Dn<|mw N,JI]) rfl<|gR<|bw<|sV<|rR<|aB<|o8<|aB<|aF rfl<|aL<|mW ex<|aL<|PK (by lia)<|p8 ?_
 refine acw (v:=fun i:Nat=>W.int (i:Int)) (d5 x y [a,b,c,d]) (fun l=>Q (cM l) h) (fun σ h'=>∃ s1,σ = [Dn wx,Dn wy,Dn<|cM [a,b,c,d],Dn<|mw M,Dn<|mw N,s1]/\h'=h) (rng 0 x.length) ?_ ?_ ?_ ⟨JI,rfl,rfl⟩
 ·rintro i mi σ h' N' ⟨s1,rfl,rfl⟩ hN hR;have hi:=(lK.mp mi).2;have hi':i<y.length:=by lia
  obtain ⟨pxi,sxi⟩:=ox _ (bT hi);obtain ⟨pyi,syi⟩:=oy _ (bT hi');refine bO (σ':=[Dn wx,Dn wy,Dn<|cM [a,b,c,d],Dn<|mw M,Dn<|mw N,Dn<|.int (i:Int)]) rfl ?_;refine jx<|dH<|bL<|aR<|aB<|aF rfl<|aB<|bL<|aF rfl<|aF rfl<|ex.at hi<|aL ?_
  refine hle (m:=1623) (by decide) hM.2.1 (sxi.mono<|by decide) hM.1 (aax pxi) fun t pt part _=>?_;refine aR<|aB<|aF rfl<|aB<|bL<|aF rfl<|aF rfl<|ey.at hi'<|aL ?_
  refine hle (m:=1623) (by decide) hN'.2.1 (syi.mono<|by decide) hN'.1 (aax pyi) fun t' pt' part' _=>?_;have key:=K8 pt pt' ((Jy fx hM).par part) ((Jy fy hN').par part');refine Va<|Jr<|nH (fun ne=>?_) fun ne=>?_
  ·refine fP<|bL<|aF rfl<|lF<|aB<|aF rfl<|aL<|cV rfl ?_
   refine Ga (by simp) ?_;exact hR ([a,b,c,d]++[i])<|if_pos<|key.mp ne
  ·exact hN (if_neg fun z=>ne<|key.mpr z) _ _ ⟨_,rfl,rfl⟩
 ·rintro hn σ h' ⟨s1,rfl,rfl⟩;unfold jF;rfl'
  exact k0 hn
 ·intro l hy;exact k1 l hy
def Gw (c0:AP):Prop:=∀ {h:Gh} {wx wy:W} {x y:List Tr} {Q:WK} {E:Bo},dD h wx x->dD h wy y->1<=x.length->x.length<=12->1<=y.length->y.length<=12->HX 200 x->HX 200 y->Q (dW (En x y)) h->c0 [wx,wy] h Q E
def AmX (c0:AP):Prop:=∀ {h:Gh} {wx wy:W} {x y:List Tr} {Q:WK} {E:Bo},dD h wx x->dD h wy y->x.length=y.length->x.length<=12->HX 200 x->HX 200 y->Q (dW (En x y)) h->c0 [wx,wy] h Q E
theorem afK {fp fi:AP}{F0 F1 F2:Addr}(hfp:FpX F0 F1 F2 fp)(hfi:abp fi):AmX (dj F0 F1 F2 fp fi):=by
 intro h wx wy x y Q E ex ey hl hn ox oy k;unfold En at k;rw [if_neg (by rw [VP];exact hl)] at k;unfold dj;refine eZ rfl (σ:=[Dn wx,Dn wy,JI,JI,JI,JI]) rfl ?_;rfl'
 refine hfp.two ex ey hl hn ox oy (fun e2=>?_) fun l e2=>?_
 ·rw [e2] at k;rfl'
  refine iT ?_;rfl'
  refine hfp.three ex ey hl hn ox oy (fun e3=>?_) fun l e3=>?_
  ·rw [e3] at k;rfl'
   refine iT ?_;rfl'
   refine hfp.four ex ey hl hn ox oy e2 (fun e4=>?_) fun l e4=>?_
   ·rw [e4] at k;rfl'
    refine iT ?_;rfl'
    unfold eG;rfl'
    refine hfi ex ey hl hn ox oy e3 (fun e5=>?_) fun l e5=>?_
    ·rw [e5] at k;rfl'
     refine Um ?_;rfl'
     exact k
    ·rw [e5] at k;rfl'
     refine is_tup ?_;rfl'
     exact k
   ·rw [e4] at k;rfl'
    refine jd ?_;rfl'
    exact k
  ·rw [e3] at k;rfl'
   refine jd ?_;rfl'
   exact k
 ·rw [e2] at k;rfl'
  refine jd ?_;rfl'
  exact k
variable {ch : AP}
theorem aiQ {am:AP}(hch:Ac ch)(ham:AmX am):Gw (ud ch am):=by
 intro h wx wy x y Q E ex ey hx1 hx2 hy1 hy2 ox oy k;unfold ud;refine eZ rfl (σ:=[Dn wx,Dn wy]) rfl ?_;rfl'
 refine hch ex (fun _ _=>?_) fun n=>absurd ⟨hx1,hx2⟩ n;rfl'
 refine hch ey (fun _ _=>?_) fun n=>absurd ⟨hy1,hy2⟩ n;rfl'
 refine mW ex ?_;rfl'
 refine mW ey ?_;rfl'
 refine nH (fun ne=>?_) fun ne=>?_
 ·have e:En x y=Dn (("many" : Str),[]):=by unfold En;rw [if_pos (by lia)]
  rw [e] at k;rfl'
  exact k
 ·rfl'
  unfold Aw;rfl'
  exact ham ex ey (by lia) hx2 ox oy k
def acs (c0:AP):Prop:=∀ {h:Gh} {M:Mt} {v:Tr} {m n:Nat} {Q:WK} {E:Bo},m+n+2<=8000->Io m M->Cr n v->det M≠0->v≠(0,0,0)->(∀ t,Pl t->Jj (vm M v) t->Cr (m+n+2) t->Q (tw t) h)->c0 [mw M,tw v] h Q E
def Im (M:Mt)(t u:Tr):Prop:=Pl u/\Jj (vm M t) u
def Rz (M:Mt)(ts us:List Tr):Prop:=us.length=ts.length/\∀ i,i<ts.length->Im M (gt ts i) (gt us i)
theorem Yr {us:List Tr}:gt (us++[u]) i=if i<us.length then gt us i else if i=us.length then u else gt (us++[u]) i:=by
 unfold gt;by_cases h:i<us.length
 ·rw [if_pos h,Pr,Pr,Vf h]
 ·rw [if_neg h];by_cases e:i=us.length
  ·subst e;rw [if_pos rfl,Pr,V0 (Ig _)];simp
  ·rw [if_neg e]
def TlX (c0:AP):Prop:=∀ {h:Gh} {Q:WK} {E:Bo},Q (.lst [tw e0,tw e1,tw e2]) h->c0 [] h Q E
theorem ajF (hti:YF ti):TlX (Ei ti):=by
 intro h Q E k;unfold Ei;refine eZ rfl (σ:=[]) rfl<|fP<|yu ?_
 refine hti ?_;exact Jg k
def gQ (p q:Tr):Tr:=(p.1+q.1,p.2.1+q.2.1,p.2.2+q.2.2)
def ae6 (c0:AP):Prop:=∀ {h:Gh} {p q:Tr} {m:Nat} {Q:WK} {E:Bo},m<=200->Cr m p->Cr m q->gQ p q≠(0,0,0)->(∀ s,Pl s->Jj (gQ p q) s->Cr (m+1) s->Q (tw s) h)->c0 [.lst [tw p,tw q]] h Q E
theorem adt (hpl:uZ pl):ae6 (cN pl):=by
 intro h p q m Q E hm sp sq h0 k;have sv:Cr (m+1) (gQ p q):=⟨(sp.1.add sq.1).mono (by lia),(sp.2.1.add sq.2.1).mono (by lia),(sp.2.2.add sq.2.2).mono (by lia)⟩
 unfold cN;rfl'
 exact hpl.tr (u:=gQ p q) (m:=m+1) (.inr<|by simp [gQ]) h0 sv (by lia) fun t pt part st=>k t pt part st
theorem zbt {m:Nat}(h:Wz m P=Dn l):l∈DW m 3/\P l=true:=by
 rw [<-NT] at h;obtain ⟨u,hu,e⟩:=List.exists_of_findSome?_eq_some h;unfold pass at e;split at e
 ·cases e;rename_i hp;exact ⟨hu,hp⟩
 ·cases e
def NP (us:List Tr)(L:Tr):Prop:=∃ a b c,LL us=Dn [a,b,c]/\a<b/\b<c/\c<us.length/\dt3 (crs (gt us a) (gt us b)) (gt us c)=0/\Pl L/\Jj (crs (gt us a) (gt us b)) L
def L3Y (c0:AP):Prop:=∀ {h:Gh} {w:W} {us:List Tr} {m:Nat} {Q:WK} {E:Bo},m<=200->dD h w us->us.length<=12->HX m us->us.Nodup->(LL us=JI->Q .non h)->(∀ t,NP us t->Cr (m+m+1) t->Q (tw t) h)->c0 [w] h Q E
theorem akc {ol jo ri:AP}(hol:jM ol)(hjo:JoinOk jo)(hri:oh ri)(hpi:Ax pi):L3Y (fu ol jo ri pi):=by
 intro h w us m Q E hm e hl hs nd k0 k1;unfold fu;refine eZ rfl (σ:=[Dn w,JI,JI]) rfl<|bw<|sV<|yh<|aR<|aB<|o8<|aB<|aF rfl<|aL<|mW e ?_
 refine aB<|eU<|aL<|hri (m:=us.length) (k:=3) hl (by decide)<|RW rfl<|p8 ?_
 have hff:=NT us.length (Kl us);refine acw (v:=cM) (pass<|Kl us) (fun l=>∀ a b c t,l=[a,b,c]->Pl t->Jj (crs (gt us a)<|gt us b) t->Cr (m+m+1) t->Q (tw t) h) (fun σ h'=>∃ s1 s2,σ = [Dn w,s1,s2]/\h'=h) (DW us.length 3) ?_ ?_ ?_ ⟨JI,JI,rfl,rfl⟩
 ·rintro l ml σ h' N ⟨s1,s2,rfl,rfl⟩ hN hR;have ll:=dz ml;have li:=d9 ml;match l,ll with
  | [a,b,c],_=>
   have ga:∀ i∈[a,b,c],Pl (gt us i)/\Cr m (gt us i):=fun i hi=>hs _ (bT (li i hi))
   have hab:a<b:=oA (l:=[]) (r:=[c]) ml;have la:=li a (by simp);have lb:=li b (by simp);have hne:gt us a≠gt us b:=by
    intro e;have e1:=dO la;have e2:=dO lb;rw [e,<-e2] at e1;exact absurd ((List.getElem?_inj la nd).mp e1)<|by lia
   refine bO (σ':=[Dn w,Dn<|cM [a,b,c],s2]) rfl ?_;rfl'
   refine hpi e li (by simp) ?_;rfl'
   refine hol (ts:=[gt us a,gt us b,gt us c]) (M:=m) (.inl rfl) (by simp) (by lia) ?_ ?_
   ·intro t ht;simp only [JN,O7,or_false] at ht;rcases ht with rfl | rfl | rfl
    ·exact ga a<|by simp
    ·exact ga b<|by simp
    ·exact ga c<|by simp
   cases hb:j9 [gt us a,gt us b,gt us c] with
   | true=>
    rfl'
    refine hjo (p:=gt us a) (q:=gt us b) (m:=m) (by lia) (ga a<|by simp).2 (ga b<|by simp).2 (ga a<|by simp).1 (ga b<|by simp).1 hne fun t pt part st=>?_;rfl'
    exact hR [a,b,c] (Am hb) a b c t rfl pt part st
   | false=>
    rfl'
    exact hN (GJ hb) _ _ ⟨_,_,rfl,rfl⟩
 ·rintro hn σ h' ⟨s1,s2,rfl,rfl⟩;unfold gU;rfl'
  exact k0<|hff.symm.trans hn
 ·intro l hy a b c t el pt part st;subst el;have e1:LL us=Dn [a,b,c]:=hff.symm.trans hy;obtain ⟨m1,m2⟩:=zbt e1;refine k1 t ⟨a,b,c,e1,oA (l:=[]) (r:=[c]) m1,oA (l:=[a]) (r:=[]) m1,d9 m1 c<|by simp,?_,pt,part⟩ st;have:=Ds (gt us a) (gt us b) (gt us c)
  rw [show j9 [gt us a,gt us b,gt us c]=true from m2] at this;exact of_decide_eq_true this.symm
theorem lcF {vs:List Tr}(f:Tr->Bool)(ht:∀ t∈vs,∀ (R:Bool->Gh->Prop),R (f t) h->tt ([tw t].map Dn++qO ix σ) h R)(q:Q (.lst ((vs.filter f).map tw)) h):nY ⟨ws0,JI⟩ Hz ix tt (ao 0) σ Q (vs.map tw) [] h:=by
 refine lE (fun i acc h'=>h'=h/\acc=((vs.take i).filter f).map tw) ?_ ?_ ⟨rfl,rfl⟩
 ·rintro i w acc h' N hN e ⟨rfl,rfl⟩;obtain ⟨t,et,rfl⟩:=wR e;refine ⟨[tw t],rfl,?_⟩;refine ht t (Q0 et) _ ?_;have es:∀ b,f t=b->((vs.take (i+1)).filter f).map tw=((vs.take i).filter f).map tw++(if b then [tw t] else []):=fun b hb=>by
   rw [Nh,et,List.filter_append,Qg];cases b <;> simp [hb]
  cases hb:f t with
  | true=>exact wA (aF rfl (hN _ _ ⟨rfl,by rw [es true hb];rfl⟩))
  | false=>exact T4 (hN _ _ ⟨rfl,by rw [es false hb];simp⟩)
 ·rintro acc h' ⟨rfl,rfl⟩;rw [Hu,OJ];exact q
variable {L : Tr}
theorem zA {a b:Tr}(ha:dt3 a L=0)(hb:dt3 b L=0)(hn:crs a b≠(0,0,0)):∃ s t:Int,s≠0/\sc s L=sc t (crs a b):=by
 refine ray hn ?_;obtain ⟨a1,a2,a3⟩:=a;obtain ⟨b1,b2,b3⟩:=b;obtain ⟨l1,l2,l3⟩:=L;simp only [dt3] at ha hb;simp only [crs];refine J7 ?_ (J7 ?_ ?_) <;> simp only <;> grind
theorem off_ne {a b o:Tr}(ha:dt3 a L=0)(hb:dt3 b L=0)(pa:Pl a)(pb:Pl b)(hab:a≠b)(ho:dt3 o L≠0):dt3 (crs a b) o≠0:=by
 intro h;obtain ⟨s,t,s0,e⟩:=zA ha hb (tZ pa pb hab);have:=congrArg (fun v=>dt3 v o) e
 simp only [uI,h,Int.zero_mul] at this;rw [cj] at ho;exact ho<|(Q7.mp this).resolve_right s0
theorem sY (n p q:Tr):dt3 n (gQ p q)=dt3 n p+dt3 n q:=by
 simp only [dt3,gQ];grind
theorem agX {a b c o:Tr}(pL:Pl L)(ha:dt3 a L=0)(hb:dt3 b L=0)(hc:dt3 c L=0)(ho:dt3 o L≠0)(pa:Pl a)(pb:Pl b)(pc:Pl c)(hab:a≠b)(hac:a≠c)(hbc:b≠c)(hs:Jj (gQ o c) s):Free a b o s/\gQ o c≠(0,0,0):=by
 have n1:=off_ne ha hb pa pb hab ho;have n2:=off_ne ha hc pa pc hac ho;have n3:=off_ne hb hc pb pc hbc ho;have z:dt3 (crs a b) c=0:=flat pL.ne (by rw [cj];exact ha) (by rw [cj];exact hb) (by rw [cj];exact hc);have sw:∀ p q r:Tr,dt3 (crs p q) r = - dt3 (crs p r) q:=fun p q r=>by
  simp only [dt3,crs];grind
 have m1:dt3 (crs a b) (gQ o c)≠0:=by rw [sY,z];lia
 have m2:dt3 (crs a o) (gQ o c)≠0:=by
  rw [sY,xZ,sw a o c];lia
 have m3:dt3 (crs b o) (gQ o c)≠0:=by
  rw [sY,xZ,sw b o c];lia
 refine ⟨⟨n1,fun z=>m1<|(mz hs).mpr z,fun z=>m2<|(mz hs).mpr z,fun z=>m3<|(mz hs).mpr z⟩,fun z=>m1 ?_⟩;rw [z];simp [dt3]
def Qa (L t:Tr):Bool:=decide (dt3 t L=0)
def offB (L t:Tr):Bool:=!decide (dt3 t L=0)
def afh (c0:AP):Prop:=∀ {h:Gh} {us:List Tr} {L a b c o:Tr} {on' off':List Tr} {m:Nat} {Q:WK} {E:Bo},2<=m->m<=200->us.length<=12->HX m us->Pl L->Cr (m+m+1) L->us.filter (Qa L)=a::b::c::on'->(us++[e0,e1,e2]).filter (offB L)=o::off'->a≠b->a≠c->b≠c->(∀ s M,Pl s->Jj (gQ o c) s->Bq a b o s M->Io (8*m+31) M->Q (mw M) h)->c0 [.lst (us.map tw),tw L] h Q E
theorem Wh {m:Nat}(hm:2<=m):∀ t∈[e0,e1,e2],Pl t/\Cr m t:=by
 obtain ⟨s0,s1,s2,_⟩:=FQ;intro t ht;simp only [JN,O7,or_false] at ht;rcases ht with rfl | rfl | rfl
 ·exact ⟨by unfold Pl;decide +kernel,s0.mono hm⟩
 ·exact ⟨by unfold Pl;decide +kernel,s1.mono hm⟩
 ·exact ⟨by unfold Pl;decide +kernel,s2.mono hm⟩
theorem acV {lo mb un bt:AP}(hlo:Sd lo)(hti:YF ti)(hmb:MbG mb)(hun:TlX un)(hbt:ae6 bt):afh (dI lo ti mb un bt):=by
 intro h us L a b c o on' off' m Q E h2 hm hl hs pL sL eon eoff hab hac hbc k;have hon:∀ t∈a::b::c::on',t∈us/\dt3 t L=0:=fun t ht=>by
  rw [<-eon,Oh] at ht;exact ⟨ht.1,of_decide_eq_true ht.2⟩
 have hs':HX m (us++[e0,e1,e2]):=fun t ht=>by
  rcases Py.mp ht with ht | ht
  ·exact hs t ht
  ·exact Wh h2 t ht
 have hoff:o∈us++[e0,e1,e2]/\dt3 o L≠0:=by
  have ht:o∈(us++[e0,e1,e2]).filter (offB L):=by rw [eoff];exact Ow
  rw [Oh] at ht;refine ⟨ht.1,?_⟩;have:=ht.2
  unfold offB at this
  simpa using this
 have ha:=hon a (by simp);have hb:=hon b (by simp);have hc:=hon c (by simp);obtain ⟨pa,sa⟩:=hs a ha.1;obtain ⟨pb,sb⟩:=hs b hb.1;obtain ⟨pc,sc'⟩:=hs c hc.1;obtain ⟨po,so⟩:=hs' o hoff.1;unfold dI;refine eZ rfl (σ:=[Dn<|.lst<|us.map tw,Dn<|tw L,JI,JI]) rfl<|bw<|cC<|Ai<|yh<|aF rfl<|RW (ws:=us.map tw) (o:=JI) rfl ?_
 refine fW.mk (by rw [Hu];exact J4 hl (by decide)) ?_;refine lcF (Qa L) (fun t ht R q=>?_) ?_
 ·refine yV<|aR<|aB<|aF rfl<|aB<|aF rfl<|aL<|hlo (m:=m+m+1) (by lia) ((hs t ht).2.mono (by lia)) sL ?_
  exact aco rfl q
 rw [eon];refine bO (σ':=[Dn<|.lst<|us.map tw,Dn<|tw L,Dn<|.lst<|(a::b::c::on').map tw,JI]) rfl<|gR ?_
 refine bw<|cC<|Ai<|yh<|bL<|aF rfl<|aR<|aL<|hun ?_
 have kadd:∀ {Q':WK},Q' (.lst ((us++[e0,e1,e2]).map tw)) h->bG (.lst (us.map tw)) (.lst [tw e0,tw e1,tw e2]) h Q':=fun {Q'} x=>by
  refine fW.mk (by rw [Hu];exact J4 (by simp;lia:_<=100) (by decide)) ?_;rw [Qg] at x;exact x
 refine kadd<|RW (ws:=(us++[e0,e1,e2]).map tw) (o:=JI) rfl ?_
 refine fW.mk (by rw [Hu,Mf];exact J4 (by simp;lia:_<=100) (by decide)) ?_;refine lcF (offB L) (fun t ht R q=>?_) ?_
 ·refine Kz<|yV<|aR<|aB<|aF rfl<|aB<|aF rfl<|aL<|hlo (m:=m+m+1) (by lia) ((hs' t ht).2.mono (by lia)) sL ?_
  exact aco rfl q
 rw [eoff];refine bO (σ':=[Dn<|.lst<|us.map tw,Dn<|tw L,Dn<|.lst<|(a::b::c::on').map tw,Dn<|.lst<|(o::off').map tw]) rfl<|gR ?_
 have g1:dD h (.lst ((a::b::c::on').map tw)) (a::b::c::on'):=.inl rfl;have g2:dD h (.lst ((o::off').map tw)) (o::off'):=.inl rfl;have fr:=fun s hp=>agX (s:=s) pL ha.2 hb.2 hc.2 hoff.2 pa pb pc hab hac hbc hp
 refine fP<|aR<|aB<|qy<|aB<|bL<|aF rfl<|eU ?_
 refine dD.at (i:=0) g1 (by simp) ?_;refine aB<|bL<|aF rfl<|eU ?_
 refine dD.at (i:=1) g1 (by simp) ?_;refine aB<|bL<|aF rfl<|eU ?_
 refine dD.at (i:=0) g2 (by simp) ?_;refine aB<|aR<|aB<|qy<|aB<|bL<|aF rfl<|eU ?_
 refine dD.at (i:=0) g2 (by simp) ?_;refine aB<|bL<|aF rfl<|eU ?_
 refine dD.at (i:=2) g1 (by simp) ?_;refine aL<|cV rfl<|aL ?_
 refine hbt (p:=o) (q:=c) hm so sc' (fr (gQ o c)<|Jj.refl _).2 fun s pS parS sS=>?_;refine aL<|cV rfl ?_
 refine aB<|aR<|aL<|hti ?_
 refine aL<|hmb (p:=a) (q:=b) (r:=o) (s:=s) (m:=m+1) (by lia) (sa.mono<|by lia) (sb.mono<|by lia) (so.mono<|by lia) sS (fr s parS).1 fun M hM bM=>?_
 exact Jg<|k s M pS parS hM<|bM.mono<|by lia
def LnM (ts:List Tr)(M:Mt):Prop:=∃ (L a b c o s:Tr) (on' off':List Tr),NP (Hy ts) L/\(Hy ts).filter (Qa L)=a::b::c::on'/\(Hy ts++[e0,e1,e2]).filter (offB L)=o::off'/\Pl s/\Jj (gQ o c) s/\Bq a b o s M
theorem ahA {l:List Tr}(hp:p∈l)(hq:q∈l)(hr:r∈l)(h1:p≠q)(h2:p≠r)(h3:q≠r):∃ a b c l',l=a::b::c::l':=by
 match l,hp,hq,hr with
 | [],hp,_,_=>exact absurd hp (by simp)
 | [x],hp,hq,_=>
  simp at hp hq;exact absurd (hp.trans hq.symm) h1
 | [x,y],hp,hq,hr=>
  simp at hp hq hr;rcases hp with rfl | rfl <;> rcases hq with rfl | rfl <;> rcases hr with rfl | rfl <;> first | exact absurd rfl h1 | exact absurd rfl h2 | exact absurd rfl h3
 | a::b::c::l',_,_,_=>exact ⟨a,b,c,l',rfl⟩
theorem agH {us:List Tr}(nd:us.Nodup)(hL:NP us L):∃ a b c on' o off',us.filter (Qa L)=a::b::c::on'/\(us++[e0,e1,e2]).filter (offB L)=o::off'/\a≠b/\a≠c/\b≠c:=by
 obtain ⟨i,j,k,e,ij,jk,kl,hz,pL,parL⟩:=hL;have gn:∀ {i j},i<j->j<us.length->gt us i≠gt us j:=fun {i j} hij hj e=>by
  have q1:=dO (ts:=us) (i:=i) (by lia);have q2:=dO hj;rw [e,<-q2] at q1;exact absurd ((List.getElem?_inj (by lia) nd).mp q1)<|by lia
 have on:∀ {t:Tr},t∈us->dt3 (crs (gt us i) (gt us j)) t=0->t∈us.filter (Qa L):=fun {t} ht hd=>by
  rw [Oh];refine ⟨ht,decide_eq_true ?_⟩;rw [cj];exact (yO parL).mp hd
 obtain ⟨a,b,c,on',eqn⟩:=ahA (on (bT (i:=i) (by lia)) (GR _ _)) (on (bT (i:=j) (by lia)) (xZ _ _)) (on (bT kl) hz) (gn ij (by lia)) (gn (by lia) kl) (gn jk kl);have nf:(us.filter (Qa L)).Nodup:=nd.filter _;rw [eqn] at nf;simp only [WQ,JN,not_or] at nf;have off:(us++[e0,e1,e2]).filter (offB L)≠[]:=by
  intro z;have all:∀ t∈[e0,e1,e2],dt3 t L=0:=fun t ht=>by
   by_cases h:dt3 t L=0
   ·exact h
   ·have:t∈(us++[e0,e1,e2]).filter (offB L):=by
     rw [Oh];refine ⟨Qu _ ht,?_⟩;unfold offB;rw [decide_eq_false h];rfl
    rw [z] at this;exact absurd this<|by simp
  refine pL.ne ?_;have h0:=all e0 (by simp);have h1:=all e1 (by simp);have h2:=all e2 (by simp);obtain ⟨l1,l2,l3⟩:=L;simp [dt3,e0,e1,e2] at h0 h1 h2;rw [h0,h1,h2]
 cases q:(us++[e0,e1,e2]).filter (offB L) with
 | nil=>exact absurd q off
 | cons o off'=>exact ⟨a,b,c,on',o,off',eqn,rfl,nf.1.1,nf.1.2.1,nf.2.1.1⟩
def afg (c0:AP):Prop:=∀ {h:Gh} {p q r:Tr} {m:Nat} {Q:WK} {E:Bo},m<=200->Cr m p->Cr m q->Cr m r->gQ (gQ p q) r≠(0,0,0)->(∀ s,Pl s->Jj (gQ (gQ p q) r) s->Cr (m+2) s->Q (tw s) h)->c0 [.lst [tw p,tw q,tw r]] h Q E
theorem ab6 (hpl:uZ pl):afg (cN pl):=by
 intro h p q r m Q E hm sp sq sr h0 k;have sv:Cr (m+2) (gQ (gQ p q) r):=⟨((sp.1.add sq.1).add sr.1).mono (by lia),((sp.2.1.add sq.2.1).add sr.2.1).mono (by lia),((sp.2.2.add sq.2.2).add sr.2.2).mono (by lia)⟩
 unfold cN;rfl'
 exact hpl.tr (u:=gQ (gQ p q) r) (m:=m+2) (.inr<|by simp [gQ,Int.add_assoc]) h0 sv (by lia) fun t pt part st=>k t pt part st
def dY (acc:List Tr)(u:Tr):List Tr:=match acc with
 | [a]=>if u≠a then [a,u] else [a]
 | [a,b]=>if dt3 (crs a b) u≠0 then [a,b,u] else [a,b]
 | acc=>acc
def fill (us:List Tr):List Tr:=[e0,e1,e2].foldl dY us
theorem Tt {a b:Tr}(pa:Pl a)(pb:Pl b)(ne:a≠b):crs a b≠(0,0,0):=fun e=>ne (qZ pa pb e)
theorem ady (v:Tr):dt3 v e0=v.1:=by simp [dt3,e0]
theorem Z1 (v:Tr):dt3 v e1=v.2.1:=by simp [dt3,e1]
theorem ZX (v:Tr):dt3 v e2=v.2.2:=by simp [dt3,e2]
theorem ab8 {a b:Tr}(pa:Pl a)(pb:Pl b)(ne:a≠b):∃ c,fill [a,b]=[a,b,c]/\dt3 (crs a b) c≠0/\(c=e0\/c=e1\/c=e2):=by
 have h:=Tt pa pb ne;show ∃ c,dY (dY (dY [a,b] e0) e1) e2=[a,b,c]/\_
 by_cases h0:dt3 (crs a b) e0=0
 ·by_cases h1:dt3 (crs a b) e1=0
  ·have h2:dt3 (crs a b) e2≠0:=fun h2=>h (by
    rw [ady] at h0;rw [Z1] at h1;rw [ZX] at h2;exact J7 h0 (J7 h1 h2))
   exact ⟨e2,by simp [dY,h0,h1,h2],h2,.inr<|.inr rfl⟩
  ·exact ⟨e1,by simp [dY,h0,h1],h1,.inr<|.inl rfl⟩
 ·exact ⟨e0,by simp [dY,h0],h0,.inl rfl⟩
theorem zaY {us:List Tr}(h1:1<=us.length)(h3:us.length<=3):1<=(dY us u).length/\(dY us u).length<=3:=by
 match us,h1,h3 with
 | [a],_,_=>unfold dY;dsimp only;split <;> simp
 | [a,b],_,_=>unfold dY;dsimp only;split <;> simp
 | [a,b,c],_,_=>simp [dY]
theorem agR {us:List Tr}{t:Tr}(h:t∈dY us u):t∈us\/t=u:=by
 unfold dY at h;split at h
 ·split at h
  ·simp at h;rcases h with h | h
   ·exact .inl<|by simp [h]
   ·exact .inr h
  ·exact .inl h
 ·split at h
  ·simp at h;rcases h with h | h | h
   ·exact .inl<|by simp [h]
   ·exact .inl<|by simp [h]
   ·exact .inr h
  ·exact .inl h
 ·exact .inl h
def ae1 (c0:AP):Prop:=∀ {h:Gh} {us:List Tr} {m:Nat} {Q:WK} {E:Bo},2<=m->m<=200->1<=us.length->us.length<=3->HX m us->Q (.lst ((fill us).map tw)) h->c0 [.lst (us.map tw)] h Q E
theorem zbI (k:∀ g:Gh,g.c h.nx=Dn (.lst us)->(∀ m,m≠h.nx->g.c m=h.c m)->g.nx=h.nx+1->Q (.loc h.nx) g):Hq [.lst us] h Q:=k _ (CQ _ _) (fun _ e=>v7 e) rfl
theorem Z9 {L:Nat}{t:Tr}:Lo L (tw t):=by
 show Lo L (.tup [.int t.1,.int t.2.1,.int t.2.2]);simp only [Lo,Le,and_self]
theorem S7 {L:Nat}:∀ ts:List Tr,Le L (ts.map tw)
 | []=>by simp only [WT,Le]
 | t::ts=>by
  rw [Lz,Le];exact ⟨Z9,S7 ts⟩
theorem aaR (e:h.c n=Dn (.lst us))(hz:us.length<=900)(k:∀ g:Gh,g.c n=Dn (.lst (us++[w]))->(∀ m,m≠n->g.c m=h.c m)->g.nx=h.nx->Q .non g):gG (.loc n) [w] h Q:=
 R7 e (Vh hz (by rw [Vy];decide)) (k _ (qG _ _ _) (fun _ e=>rD e) rfl)
theorem adV {a:List W}(e:h.c n=Dn (.lst us))(hz:us.length+a.length<=1000)(k:Q (.lst (us++a)) h):bG (.loc n) (.lst a) h Q:=by
 have t:Ij h (.loc n)=Dn us:=by simp only [Ij,e]
 unfold bG;dsimp only;rw [t];exact fW.mk (J4 hz (by decide:1000<=Ht)) k
theorem aho {ol un:AP}(hol:jM ol)(hun:TlX un):ae1 (mq ol un):=by
 intro h us m Q E h2 hm l1 l3 hs q;unfold mq;rfl'
 refine zbI fun g gc go gn=>?_;rfl'
 refine hun ?_;refine RW rfl<|p8 ?_
 have oke:∀ t∈[e0,e1,e2],Pl t/\Cr m t:=Wh h2
 refine oY (fun i σ h'=>∃ a2 acc,σ = [Dn<|.lst<|us.map tw,Dn<|.loc h.nx,a2]/\acc=([e0,e1,e2].take i).foldl dY us/\1<=acc.length/\acc.length<=3/\HX m acc/\h'.c h.nx=Dn (.lst<|acc.map tw)/\∀ m,m<h.nx->h'.c m=h.c m) ?_ ?_ ⟨JI,us,rfl,rfl,l1,l3,hs,gc,fun m hm=>go m<|Ko hm⟩
 ·rintro i w σ h1 N hN ew ⟨a2,acc,rfl,ea,n1,n3,ok,c1,o1⟩;have ew':([e0,e1,e2].map tw)[i]?=Dn w:=ew;rw [N7] at ew';obtain ⟨u,eu,rfl⟩:=Option.map_eq_some_iff.mp ew';have pu:=oke u (Q0 eu);have nxt:∀ h2:Gh,h2.c h.nx=Dn (.lst ((dY acc u).map tw))->(∀ m,m<h.nx->h2.c m=h.c m)->N [Dn (.lst (us.map tw)),Dn (.loc h.nx),Dn (tw u)] h2:=fun h2 c2 o2=>by
   obtain ⟨m1,m3⟩:=zaY (u:=u) n1 n3;refine hN _ _ ⟨_,dY acc u,rfl,?_,m1,m3,fun t ht=>?_,c2,o2⟩
   ·rw [Nh,eu,List.foldl_append,<-ea];rfl
   ·rcases agR ht with ht | rfl
    ·exact ok t ht
    ·exact pu
  match acc,n1,n3,c1,nxt,ok with
  | [a],_,_,c1,nxt,ok=>
   rfl'
   refine pW (cX c1) ?_;rfl'
   refine vo (by simp) ?_;rfl'
   refine nH (fun ne=>?_)<|fun eq=>?_
   ·rfl'
    refine gP<|Bb ?_
    rfl'
    refine tW c1 ?_;rfl'
    refine aaR c1 (by simp) fun h2 c2 o2 _=>?_;refine nxt h2 ?_ fun m hm=>(o2 m<|Ko hm).trans (o1 m hm);rw [c2];simp only [dY];rw [if_pos (by simpa using ne)];rfl
   ·rfl'
    refine pW (cX c1) ?_;rfl'
    refine jY (by simp) ?_;rfl'
    refine nxt h1 ?_ o1;rw [c1];simp only [dY];rw [if_neg (by simpa using eq)]
  | [a,b],_,_,c1,nxt,ok=>
   rfl'
   refine pW (cX c1) ?_;rfl'
   refine jY (by simp) ?_;rfl'
   refine pW (cX c1) ?_;rfl'
   refine vo (by simp) ?_;rfl'
   refine adV c1 (by simp) ?_;rfl'
   refine hol (ts:=[a,b,u]) (M:=m) (.inl rfl) (by simp) (by lia) (fun t ht=>?_) ?_
   ·simp only [JN,O7,or_false] at ht;rcases ht with rfl | rfl | rfl
    ·exact ok _<|by simp
    ·exact ok _<|by simp
    ·exact pu
   rw [Ds];rfl'
   by_cases z:dt3 (crs a b) u=0
   ·refine jY (by simp [z]) ?_;rfl'
    refine nxt h1 ?_ o1;rw [c1];simp only [dY];rw [if_neg (by simpa using z)]
   ·refine vo (by simp [z]) ?_;rfl'
    refine gP<|Bb ?_
    rfl'
    refine tW c1 ?_;rfl'
    refine aaR c1 (by simp) fun h2 c2 o2 _=>?_;refine nxt h2 ?_ fun m hm=>(o2 m<|Ko hm).trans (o1 m hm);rw [c2];simp only [dY];rw [if_pos z];rfl
  | [a,b,c],_,_,c1,nxt,ok=>
   rfl'
   refine pW (cX c1) ?_;rfl'
   refine jY (by simp) ?_;rfl'
   refine pW (cX c1) ?_;rfl'
   refine jY (by simp) ?_;rfl'
   refine nxt h1 ?_ o1;rw [c1];rfl
 ·rintro σ h1 ⟨a2,acc,rfl,ea,n1,n3,ok,c1,o1⟩;rfl'
  unfold nP;rfl'
  exact ⟨fun m c hm e=>(o1 m hm).trans e,.inr ⟨_,_,rfl,Ig _,c1,S7 _,by rw [ea];exact q⟩⟩
theorem aap {a:Tr}(pa:Pl a):∃ b c,fill [a]=[a,b,c]/\dt3 (crs a b) c≠0/\(b=e0\/b=e1)/\(c=e1\/c=e2):=by
 have p0:Pl e0:=(Wh (Ig 2) e0 (by simp)).1;show ∃ b c,dY (dY (dY [a] e0) e1) e2=[a,b,c]/\_
 by_cases h0:e0=a
 ·subst h0;exact ⟨e1,e2,by decide,by decide,.inr rfl,.inr rfl⟩
 ·have h:=Tt pa p0 (Jo h0);have z0:(crs a e0).1=0:=by simp [crs,e0]
  by_cases h1:dt3 (crs a e0) e1=0
  ·have h2:dt3 (crs a e0) e2≠0:=fun h2=>h (by
    rw [Z1] at h1;rw [ZX] at h2;exact J7 z0 (J7 h1 h2))
   exact ⟨e0,e2,by simp [dY,h0,h1,h2],h2,.inl rfl,.inr rfl⟩
  ·exact ⟨e0,e1,by simp [dY,h0,h1],h1,.inl rfl,.inl rfl⟩
def Few (us:List Tr):Prop:=us.Nodup/\1<=us.length/\us.length<=3/\∀ a b c,us=[a,b,c]->dt3 (crs a b) c≠0
theorem Mx {us:List Tr}{m:Nat}(h2:2<=m)(hf:Few us)(hp:HX m us):∃ a b c,fill us=[a,b,c]/\dt3 (crs a b) c≠0/\us=[a,b,c].take us.length/\HX m [a,b,c]:=by
 have eo:∀ t,t=e0\/t=e1\/t=e2->Pl t/\Cr m t:=fun t ht=>Wh h2 t (by rcases ht with rfl | rfl | rfl <;> simp)
 obtain ⟨nd,l1,l3,hd⟩:=hf;match us,l1,l3,nd,hp,hd with
 | [a],_,_,_,hp,_=>
  obtain ⟨b,c,e,d,hb,hc⟩:=aap (hp a (by simp)).1;refine ⟨a,b,c,e,d,rfl,fun t ht=>?_⟩;simp only [JN,O7,or_false] at ht;rcases ht with rfl | rfl | rfl
  ·exact hp _<|by simp
  ·exact eo _ (by rcases hb with rfl | rfl <;> simp)
  ·exact eo _ (by rcases hc with rfl | rfl <;> simp)
 | [a,b],_,_,nd,hp,_=>
  have ne:a≠b:=by simpa using nd
  obtain ⟨c,e,d,hc⟩:=ab8 (hp a (by simp)).1 (hp b (by simp)).1 ne;refine ⟨a,b,c,e,d,rfl,fun t ht=>?_⟩;simp only [JN,O7,or_false] at ht;rcases ht with rfl | rfl | rfl
  ·exact hp _<|by simp
  ·exact hp _<|by simp
  ·exact eo _ hc
 | [a,b,c],_,_,_,hp,hd=>exact ⟨a,b,c,rfl,hd a b c rfl,rfl,hp⟩
theorem Gd {a b c:Tr}(d:dt3 (crs a b) c≠0)(hs:Jj (gQ (gQ a b) c) s):Free a b c s/\gQ (gQ a b) c≠(0,0,0):=by
 have m1:dt3 (crs a b) (gQ (gQ a b) c)=dt3 (crs a b) c:=by simp only [dt3,crs,gQ];grind
 have m2:dt3 (crs a c) (gQ (gQ a b) c) = - dt3 (crs a b) c:=by simp only [dt3,crs,gQ];grind
 have m3:dt3 (crs b c) (gQ (gQ a b) c)=dt3 (crs a b) c:=by simp only [dt3,crs,gQ];grind
 refine ⟨⟨d,fun z=>?_,fun z=>?_,fun z=>?_⟩,fun z=>?_⟩
 ·have:=(mz hs).mpr z;rw [m1] at this;exact d this
 ·have:=(mz hs).mpr z;rw [m2] at this;lia
 ·have:=(mz hs).mpr z;rw [m3] at this;exact d this
 ·rw [z] at m1;refine d<|m1.symm.trans ?_
  simp [dt3]
def FwM (us:List Tr)(M:Mt):Prop:=∃ a b c s,fill us=[a,b,c]/\Pl s/\Jj (gQ (gQ a b) c) s/\Bq a b c s M
def aeK (c0:AP):Prop:=∀ {h:Gh} {us:List Tr} {m:Nat} {Q:WK} {E:Bo},2<=m->m<=200->Few us->HX m us->(∀ M,FwM us M->Io (8*m+39) M->Q (mw M) h)->c0 [.lst (us.map tw)] h Q E
theorem adk {mb bt fi:AP}(hti:YF ti)(hmb:MbG mb)(hbt:afg bt)(hfi:ae1 fi):aeK (d8 ti mb bt fi):=by
 intro h us m Q E h2 hm hf hs k;obtain ⟨a,b,c,e,d,et,ok⟩:=Mx h2 hf hs;obtain ⟨pa,sa⟩:=ok a (by simp);obtain ⟨pb,sb⟩:=ok b (by simp);obtain ⟨pc,sc'⟩:=ok c (by simp);unfold d8;rfl'
 refine hfi h2 hm hf.2.1 hf.2.2.1 hs ?_;rw [e];rfl'
 refine hbt hm sa sb sc' (Gd d<|Jj.refl _).2 fun s ps par ss=>?_;rfl'
 refine hti ?_;rfl'
 refine hmb (p:=a) (q:=b) (r:=c) (s:=s) (m:=m+2) (by lia) (sa.mono<|by lia) (sb.mono<|by lia) (sc'.mono<|by lia) ss (Gd d par).1 fun M hM bM=>?_;exact k M ⟨a,b,c,s,e,ps,par,hM⟩<|bM.mono<|by lia
def fresh (ts:List Tr)(i:Nat):Bool:=(Ni i).all fun j=>decide (gt ts j≠gt ts i)
def fp (ts:List Tr):List Nat:=(Ni ts.length).filter (fresh ts)
theorem Gm {t:Tr}(h:t∈ts):∃ i,i<ts.length/\gt ts i=t:=by
 obtain ⟨i,hi,e⟩:=Vt.mp h;have:=dO hi
 rw [Jx hi,e] at this;exact ⟨i,hi,(JD this).symm⟩
theorem aiR {α : Type}{l:List α}{x:α}(e:l[i]?=Dn x):l.take (i+1)=l.take i++[x]:=by rw [Nh,e];rfl
theorem Fd (ts:List Tr):∀ n,n<=ts.length->Hy (ts.take n)=((Ni n).filter (fresh ts)).map (gt ts)
 | 0,_=>rfl
 | n+1,h=>by
  have key:gt ts n∈Hy (ts.take n)↔fresh ts n=false:=by
   rw [(jP _).2.1];unfold fresh;rw [List.all_eq_false];constructor
   ·intro m;obtain ⟨j,hj,e⟩:=Vt.mp m;rw [Q8] at hj;rw [List.getElem_take] at e;refine ⟨j,Px.mpr<|by lia,?_⟩;have q:=dO (ts:=ts) (i:=j) (by lia);rw [Jx (by lia),e] at q;simp [(JD q).symm]
   ·rintro ⟨j,hj,e⟩;have hj:=Px.mp hj;have e:gt ts j=gt ts n:=by simpa using e
    rw [<-e];refine Q0 (i:=j) ?_;rw [List.getElem?_take_of_lt hj];exact dO<|by lia
  rw [aiR (dO (ts:=ts) (i:=n) (by lia)),xW,List.range_succ,List.filter_append,Qg,<-Fd ts n (by lia)];cases c:fresh ts n with
  | false=>rw [if_pos (key.mpr c)];simp [c]
  | true=>rw [if_neg fun m=>by rw [key.mp m] at c;cases c];simp [c]
theorem qw (ts:List Tr):Hy ts=(fp ts).map (gt ts):=by
 have:=Fd ts ts.length (Ig _)
 rwa [OJ] at this
variable {F : Nat->Nat->Nat->Nat->Prop}
theorem aec (s12:∀ {i j k l},F i j k l->F j i k l)(s23:∀ {i j k l},F i j k l->F i k j l)(s34:∀ {i j k l},F i j k l->F i j l k)(ne:∀ {i j k l},F i j k l->i≠j)(key:∀ {i j k l},i<j->j<k->k<l->¬ F i j k l):∀ {i j k l},¬ F i j k l:=by
 have ne23:∀ {i j k l},F i j k l->j≠k:=fun f=>ne (s23 (s12 f))
 have ne34:∀ {i j k l},F i j k l->k≠l:=fun f=>ne23 (s34 (s23 f))
 have h3:∀ {i j k l},i<j->j<k->¬ F i j k l:=fun {i j k l} a b f=>by
  rcases Wq (ne34 f) with c | c
  ·exact key a b c f
  have f:=s34 f;rcases Wq (ne23 f) with d | d
  ·exact key a d c f
  have f:=s23 f;rcases Wq (ne f) with e | e
  ·exact key e d b f
  ·exact key e a b<|s12 f
 have h2:∀ {i j k l},i<j->¬ F i j k l:=fun {i j k l} a f=>by
  rcases Wq (ne23 f) with c | c
  ·exact h3 a c f
  have f:=s23 f;rcases Wq (ne f) with e | e
  ·exact h3 e c f
  ·exact h3 e a<|s12 f
 intro i j k l f;rcases Wq (ne f) with c | c
 ·exact h2 c f
 ·exact h2 c<|s12 f
theorem d12 (p q r:Tr):dt3 (crs q p) r = - dt3 (crs p q) r:=by simp only [dt3,crs];grind
theorem d23 (p q r:Tr):dt3 (crs p r) q = - dt3 (crs p q) r:=by simp only [dt3,crs];grind
theorem n12 (h:dt3 (crs p q) r≠0):dt3 (crs q p) r≠0:=by rw [d12];lia
theorem n23 (h:dt3 (crs p q) r≠0):dt3 (crs p r) q≠0:=by rw [d23];lia
theorem J3 (h:FF x=JI)(hp:p∈x)(hq:q∈x)(hr:r∈x)(hs:s∈x):¬ Free p q r s:=by
 obtain ⟨i,hi,rfl⟩:=Gm hp;obtain ⟨j,hj,rfl⟩:=Gm hq;obtain ⟨k,hk,rfl⟩:=Gm hr;obtain ⟨l,hl,rfl⟩:=Gm hs;refine fun f=>aec (F:=fun i j k l=>i<x.length/\j<x.length/\k<x.length/\l<x.length/\Free (gt x i) (gt x j) (gt x k) (gt x l)) ?_ ?_ ?_ ?_ ?_ ⟨hi,hj,hk,hl,f⟩
 ·rintro i j k l ⟨a,b,c,d,f1,f2,f3,f4⟩;exact ⟨b,a,c,d,n12 f1,n12 f2,f4,f3⟩
 ·rintro i j k l ⟨a,b,c,d,f1,f2,f3,f4⟩;exact ⟨a,c,b,d,n23 f1,f3,f2,n12 f4⟩
 ·rintro i j k l ⟨a,b,c,d,f1,f2,f3,f4⟩;exact ⟨a,b,d,c,f2,f1,n23 f3,n23 f4⟩
 ·rintro i j k l ⟨a,b,c,d,f1,f2,f3,f4⟩ rfl;refine f1 ?_;simp only [dt3,crs];grind
 ·rintro i j k l a b c ⟨_,_,_,d,f⟩;unfold FF at h;rw [<-MP] at h;have:=nA h _ (nR (l:=[i,j,k]) (Fq a b (by lia)) (show k+1<=l by lia) d)
  have:oG (gt x i) (gt x j) (gt x k) (gt x l)=false:=this
  rw [rW f] at this;cases this
theorem uF {us:List Tr}(h:LL us=JI){j k:Nat}(a:i<j)(b:j<k)(c:k<us.length):dt3 (crs (gt us i) (gt us j)) (gt us k)≠0:=fun z=>by
 unfold LL at h;rw [<-NT] at h;have:=nA h _ (Fq a b c)
 have:j9 [gt us i,gt us j,gt us k]=false:=this
 rw [Ds,decide_eq_true z] at this;cases this
theorem Kp (l1:1<=ts.length)(h:FF ts=JI)(h':LL (Hy ts)=JI):Few (Hy ts):=by
 obtain ⟨u1,u2,u3⟩:=jP ts;have g:∀ i,i<(Hy ts).length->gt (Hy ts) i∈ts:=fun i hi=>(u2 _).mp (bT hi)
 refine ⟨u1,?_,?_,fun a b c e=>?_⟩
 ·exact List.length_pos_of_mem<|(u2 _).mpr (bT (i:=0) l1)
 ·refine Nat.le_of_not_lt fun c=>?_;exact J3 h (g 0<|by lia) (g 1<|by lia) (g 2<|by lia) (g 3<|by lia) ⟨uF h' (by decide) (by decide)<|by lia,uF h' (by decide) (by decide)<|by lia,uF h' (by decide) (by decide)<|by lia,uF h' (by decide) (by decide)<|by lia⟩
 ·have:=uF h' (i:=0) (j:=1) (k:=2) (by decide) (by decide) (by rw [e];simp)
  rw [e] at this;exact this
def Rx (ts:List Tr)(M:Mt):Prop:=det M≠0/\((∃ a b c d,FF ts=Dn [a,b,c,d]/\Bq (gt ts a) (gt ts b) (gt ts c) (gt ts d) M)\/(FF ts=JI/\LL (Hy ts)≠JI/\LnM ts M)\/(FF ts=JI/\LL (Hy ts)=JI/\FwM (Hy ts) M))
def Wa (c0:AP):Prop:=∀ {h:Gh} {w:W} {ts:List Tr} {m:Nat} {Q:WK} {E:Bo},2<=m->m<=200->JV h w ts->1<=ts.length->ts.length<=12->HX m ts->(∀ M,Rx ts M->Io (8*m+39) M->Q (mw M) h)->c0 [w] h Q E
theorem ake {mb ff un l3 ll lf:AP}(hpi:Ax pi)(hti:YF ti)(hmb:MbG mb)(hch:Ac ch)(hff:G7 ff)(hun:UnX un)(hl3:L3Y l3)(hll:afh ll)(hlf:aeK lf):Wa (uV pi ti mb ch ff un l3 ll lf):=by
 intro h w ts m Q E h2 hm sN l1 l2 hs k;have src:=sN.t;obtain ⟨u1,u2,u3⟩:=jP ts;have hs':HX m (Hy ts):=fun t ht=>hs t ((u2 t).mp ht)
 unfold uV;refine eZ rfl (σ:=[Dn w,JI,JI,JI]) rfl ?_;rfl'
 refine hch src (fun _ _=>?_) fun z=>absurd ⟨l1,l2⟩ z;rfl'
 refine hff (m:=m) (by lia) src l2 hs (fun e=>?_) fun l e=>?_
 ·rfl'
  refine iT ?_;rfl'
  unfold uh;rfl'
  refine hun sN (by lia) ?_;rfl'
  refine hl3 hm (.inl rfl) (by lia) hs' u1 (fun e'=>?_) fun L hL sL=>?_
  ·rfl'
   refine iT ?_;rfl'
   unfold uX;rfl'
   exact hlf h2 hm (Kp l1 e e') hs' fun M hM bM=>k M ⟨by obtain ⟨_,_,_,_,_,_,_,l⟩:=hM;exact l.1,.inr<|.inr ⟨e,e',hM⟩⟩ bM
  ·obtain ⟨a,b,c,on',o,off',e1,e2',h1,h3,h4⟩:=agH u1 hL;have hne:LL (Hy ts)≠JI:=by obtain ⟨_,_,_,q,_⟩:=hL;rw [q];exact fun z=>nomatch z
   rfl'
   refine jd ?_;rfl'
   refine hll h2 hm (by lia) hs' (by obtain ⟨_,_,_,_,_,_,_,_,p,_⟩:=hL;exact p) sL e1 e2' h1 h3 h4 fun s M pS parS hM bM=>?_;rfl'
   exact k M ⟨hM.1,.inr<|.inl ⟨e,hne,L,a,b,c,o,s,on',off',hL,e1,e2',pS,parS,hM⟩⟩<|bM.mono<|by lia
 ·obtain ⟨a,b,c,d,rfl,mr,fx⟩:=W2 e;have hi:=d9 mr;have ga:∀ i∈[a,b,c,d],Cr m (gt ts i):=fun i h=>(hs _ (bT (hi i h))).2
  refine bO (σ':=[Dn w,Dn<|cM [a,b,c,d],JI,JI]) rfl<|gR<|bw<|jx<|dH<|bL<|aF rfl<|eU<|jd<|Jr<|WM ?_
  rfl'
  refine hpi src hi (by simp) ?_;rfl'
  refine hti ?_;rfl'
  refine hmb (p:=gt ts a) (q:=gt ts b) (r:=gt ts c) (s:=gt ts d) (m:=m) (by lia) (ga a<|by simp) (ga b<|by simp) (ga c<|by simp) (ga d<|by simp) fx fun M hM bM=>?_;rfl'
  exact k M ⟨hM.1,.inl ⟨a,b,c,d,e,hM⟩⟩<|bM.mono<|by lia
def Thn (A B M:Mt):Prop:=∃ N,Jt (adj B) N/\Jt (mm N A) M
def aai (c0:AP):Prop:=∀ {h:Gh} {A B:Mt} {m n:Nat} {Q:WK} {E:Bo},m+n+2<=8000->Io m A->Io n B->det A≠0->det B≠0->(∀ M,Ql M->Jt (mm B A) M->Io (m+n+2) M->Q (mw M) h)->c0 [mw A,mw B] h Q E
structure Eqv (x y:List Tr) (M:Mt):Prop where
 len:x.length=y.length
 d:det M≠0
 im:∀ i,i<x.length->Jj (vm M (gt x i)) (gt y i)
theorem YQ {X Y:Tr}(h:crs X Y=(0,0,0))(i:Int):sc (co i X) Y=sc (co i Y) X:=by
 obtain ⟨x1,x2,x3⟩:=X;obtain ⟨y1,y2,y3⟩:=Y;simp only [crs,Vk] at h;obtain ⟨h1,h2,h3⟩:=h;unfold co sc;refine J7 ?_ (J7 ?_ ?_) <;> dsimp only <;> split <;> (try split) <;> grind
theorem aki (u v a b:Tr):crs (crs u v) (crs a b)=(dt3 (crs u v) b*a.1 - dt3 (crs u v) a*b.1,dt3 (crs u v) b*a.2.1 - dt3 (crs u v) a*b.2.1,dt3 (crs u v) b*a.2.2 - dt3 (crs u v) a*b.2.2):=by
 simp only [crs,dt3,Vk];exact ⟨by grind,by grind,by grind⟩
theorem ajf {v a b:Tr}(h1:dt3 (crs u v) a=0)(h2:dt3 (crs u v) b=0)(i:Int):sc (co i (crs u v)) (crs a b)=sc (co i (crs a b)) (crs u v):=YQ (by rw [aki,h1,h2];simp) i
theorem Zn {t:Tr}(h:t≠(0,0,0)):co (U0 t) t≠0:=by
 unfold U0;split
 ·rename_i a;simpa [co] using a
 rename_i a;split
 ·rename_i b;simpa [co] using b
 rename_i b;intro c;rw [VP] at a b;have c:t.2.2=0:=by simpa [co] using c
 exact h<|J7 a<|J7 b c
theorem zT (h:En x y=JI):x.length=y.length/\s2 x y=JI/\s3 x y=JI/\s4 x y=JI/\s5 x y=JI:=by
 unfold En at h;by_cases hl:x.length=y.length
 ·rw [if_neg (VP.mpr hl)] at h;cases h2:s2 x y with
  | some l=>rw [h2] at h;cases h
  | none=>
  cases h3:s3 x y with
  | some l=>rw [h2,h3] at h;cases h
  | none=>
  cases h4:s4 x y with
  | some l=>rw [h2,h3,h4] at h;cases h
  | none=>
  cases h5:s5 x y with
  | some l=>rw [h2,h3,h4,h5] at h;cases h
  | none=>exact ⟨hl,rfl,rfl,rfl,rfl⟩
 ·rw [if_pos hl] at h;cases h
theorem acK {G:Nat->Nat->Nat->Prop}(s12:∀ {i j k},G i j k->G j i k)(s23:∀ {i j k},G i j k->G i k j)(dg:∀ {i k},G i i k)(key:∀ {i j k},i<j->j<k->G i j k)(i j k:Nat):G i j k:=by
 have h2:∀ {i j k},i<j->G i j k:=fun {i j k} a=>by
  rcases Nat.lt_trichotomy j k with c | rfl | c
  ·exact key a c
  ·exact s12<|s23 dg
  rcases Nat.lt_trichotomy i k with d | rfl | d
  ·exact s23<|key d c
  ·exact s23 dg
  ·exact s23<|s12<|key d a
 rcases Nat.lt_trichotomy i j with c | rfl | c
 ·exact h2 c
 ·exact dg
 ·exact s12<|h2 c
theorem dpp (p r:Tr):dt3 (crs p p) r=0:=by simp only [dt3,crs];grind
theorem Ui (h:s3 x y=JI){j k:Nat}:i<x.length->j<x.length->k<x.length->(dt3 (crs (gt x i) (gt x j)) (gt x k)=0↔dt3 (crs (gt y i) (gt y j)) (gt y k)=0):=by
 refine acK (G:=fun i j k=>i<x.length->j<x.length->k<x.length->(dt3 (crs (gt x i)<|gt x j) (gt x k)=0↔dt3 (crs (gt y i)<|gt y j) (gt y k)=0)) ?_ ?_ ?_ ?_ i j k
 ·intro i j k g hj hi hk;rw [d12 (gt x i),d12 (gt y i),Int.neg_eq_zero,Int.neg_eq_zero];exact g hi hj hk
 ·intro i j k g hi hk hj;rw [d23 (gt x i) (gt x j),d23 (gt y i) (gt y j),Int.neg_eq_zero,Int.neg_eq_zero];exact g hi hj hk
 ·intro i k _ _ _;rw [dpp,dpp]
 ·intro i j k a b _ _ c;exact Mg h a b c
theorem yw {P P':List Nat->Bool}:∀ {ls:List (List Nat)},(∀ l∈ls,P l=P' l)->ls.findSome? (pass P)=ls.findSome? (pass P')
 | [],_=>rfl
 | l::ls,h=>by rw [Vs,Vs,show pass P l=pass P' l by unfold pass;rw [h l (by simp)],yw fun l hl=>h l (by simp [hl])]
theorem aje (hl:x.length=y.length)(h:s3 x y=JI):FF x=FF y:=by
 unfold FF;rw [<-MP,<-MP,<-hl];refine yw fun l ml=>?_;match l,dz ml with
 | [a,b,c,d],_=>
 have:=rF h ml
 show oG _ _ _ _=oG _ _ _ _;by_cases f:Free (gt x a) (gt x b) (gt x c) (gt x d)
 ·rw [rW f,rW (this.mp f)]
 ·rw [Nf f,Nf fun z=>f (this.mpr z)]
theorem jh {p:Nat}(h:p∈fp x):p<x.length:=Px.mp (Oh.mp h).1
theorem adN (x:List Tr):(fp x).Pairwise (· < ·):=List.Pairwise.filter _ List.pairwise_lt_range
theorem Dk (hl:x.length=y.length)(h:s2 x y=JI):fp x=fp y:=by
 unfold fp;rw [<-hl];refine List.filter_congr fun i hi=>?_;have hi:=Px.mp hi;unfold fresh;rw [X8,Nr,Nr];refine forall_congr' fun j=>⟨fun g hj=>?_,fun g hj=>?_⟩
 ·have lj:=Px.mp hj;exact decide_eq_true fun z=>of_decide_eq_true (g hj)<|(HN h (by lia) hi).mpr z
 ·have lj:=Px.mp hj;exact decide_eq_true fun z=>of_decide_eq_true (g hj)<|(HN h (by lia) hi).mp z
theorem pY {j p:Nat}(e:(fp x)[j]?=Dn p):gt (Hy x) j=gt x p:=by
 rw [qw];show (List.map (gt x) (fp x)).getD j (0,0,0)=_;rw [Pr,N7,e];rfl
theorem Oj (hl:x.length=y.length)(h2:s2 x y=JI)(h3:s3 x y=JI):LL (Hy x)=LL (Hy y):=by
 have fe:=Dk hl h2;have lx:(Hy x).length=(fp x).length:=by rw [qw,Hu]
 have ly:(Hy y).length=(fp x).length:=by rw [qw,Hu,fe]
 unfold LL;rw [<-NT,<-NT,lx,ly];refine yw fun l ml=>?_;have li:=d9 ml;match l,dz ml with
 | [i,j,k],_=>
 have g:∀ i,i<(fp x).length->∃ p,p<x.length/\gt (Hy x) i=gt x p/\gt (Hy y) i=gt y p:=fun i hi=>by
  have e:=Jx hi;exact ⟨_,jh<|Q0 e,pY e,pY (by rw [<-fe];exact e)⟩
 obtain ⟨p,hp,e1,e2⟩:=g i (li i (by simp));obtain ⟨q,hq,e3,e4⟩:=g j (li j (by simp));obtain ⟨r,hr,e5,e6⟩:=g k (li k (by simp));show j9 _=j9 _;rw [Ds,Ds,e1,e2,e3,e4,e5,e6];exact decide_eq_decide.mpr<|Ui h3 hp hq hr
variable {A : Mt}
theorem aeV {a b c o:Tr}(ld:Bq a b o s A)(par:Jj (gQ o c) s)(pL:Pl L)(ha:dt3 a L=0)(hb:dt3 b L=0)(hc:dt3 c L=0)(hp:dt3 p L=0)(pa:Pl a)(pb:Pl b)(pc:Pl c)(hab:a≠b):
  (vm A c).1=(vm A c).2.1/\(vm A p).2.2=0/\(vm A c).2.2=0/\∃ K Z:Int,K≠0/\Z≠0/\K*(vm A p).1=Z*(tn a b c p).1/\K*(vm A p).2.1=Z*(tn a b c p).2:=by
 obtain ⟨dA,h1,h2,h3,h4⟩:=ld;obtain ⟨ka,ka0,xa,xa0,a1,a2,a3⟩:=z7 h1;obtain ⟨kb,kb0,xb,xb0,b1,b2,b3⟩:=z7 h2;obtain ⟨kc,kc0,xc,xc0,c1,c2,c3⟩:=z7 h3;obtain ⟨kd,kd0,xd,xd0,d1,d2,d3⟩:=z7 h4;have z:∀ {x y k:Int},x≠0->x*y=k*0->y=0:=fun hx e=>(Q7.mp (e.trans (VB _))).resolve_left hx
 have nz:∀ {x y k:Int},k≠0->x*y=k*1->y≠0:=fun hk e q=>by rw [q,VB,Int.mul_one] at e;exact hk e.symm
 have ea:vm A a=((vm A a).1,0,0):=J7 rfl (J7 (z xa0 a2) (z xa0 a3));have eb:vm A b=(0,(vm A b).2.1,0):=J7 (z xb0 b1) (J7 rfl (z xb0 b3));have a0:=nz ka0 a1;have b0:=nz kb0 b2;have zl:∀ {u v w:Tr},dt3 u L=0->dt3 v L=0->dt3 w L=0->dt3 (crs u v) w=0:=fun hu hv hw=>flat pL.ne (by rw [cj];exact hu) (by rw [cj];exact hv) (by rw [cj];exact hw)
 have th:∀ {w:Tr},dt3 w L=0->(vm A w).2.2=0:=fun {w} hw=>by
  have e:=RX A a b w;rw [zl ha hb hw,VB,ea,eb] at e;simp only [crs,dt3,VB,Int.zero_mul,Int.sub_zero,Int.zero_add,Int.sub_self] at e;exact (Q7.mp e).resolve_left (Lp a0 b0)
 have hc12:(vm A c).1=(vm A c).2.1:=by
  obtain ⟨k,k0,ek⟩:=par;have e:=congrArg (vm A) ek;rw [cQ] at e;have q1:=congrArg (·.1) e;have q2:=congrArg (·.2.1) e;dsimp only [sc] at q1 q2;have r1:(vm A (gQ o c)).1=(vm A o).1+(vm A c).1:=sY _ _ _;have r2:(vm A (gQ o c)).2.1=(vm A o).2.1+(vm A c).2.1:=sY _ _ _;have s1:(vm A s).1=(vm A s).2.1:=Xr xd0 (d1.trans d2.symm);have t1:=z xc0 c1;have t2:=z xc0 c2;rw [r1,t1,s1] at q1;rw [r2,t2] at q2;lia
 refine ⟨hc12,th hp,th hc,?_⟩;have t0:(vm A c).1≠0:=fun e=>LK dA pc.ne (J7 e (J7 (hc12.symm.trans e) (th hc)))
 have fob:fo a b c p=b:=if_pos hab.symm;have e0:co (ixp a b c p) (crs a b)≠0:=by
  unfold ixp;rw [fob];exact Zn<|tZ pa pb hab
 unfold tn;dsimp only;generalize ixp a b c p=i at *;have key:∀ {u v:Tr},dt3 u L=0->dt3 v L=0->co i (crs u v)*((vm A a).1*(vm A b).2.1)=co i (crs a b)*((vm A u).1*(vm A v).2.1 - (vm A u).2.1*(vm A v).1):=fun {u v} hu hv=>by
  have h:=ajf (zl hu hv ha) (zl hu hv hb) i;have h:=congrArg (fun t=>(vm (MJ A) t).2.2) h;rw [cQ,cQ,<-Nt,<-Nt] at h;rw [ea,eb] at h;simp only [sc,crs,VB,Int.sub_zero] at h;rw [V9 (co i (crs u v)),V9 (co i (crs a b))];exact h
 have k1:=key ha hc;have k2:=key hb hp;have k3:=key ha hp;have k4:=key hb hc;rw [ea] at k1 k3;rw [eb] at k2 k4;dsimp only at k1 k2 k3 k4;rw [<-hc12] at k1 k4;generalize (vm A a).1=A1 at *;generalize (vm A b).2.1=B1 at *;generalize (vm A c).1=t at *;generalize (vm A p).1 = α at *;generalize (vm A p).2.1 = β at *;generalize co i (crs a b)=e at *;have w0:=Lp a0 b0;refine ⟨-(e*e*(A1*B1)*t),A1*B1*(A1*B1),?_,Lp w0 w0,?_,?_⟩
 ·have:=Lp (Lp (Lp e0 e0) w0) t0
  lia
 ·have:A1*B1*(A1*B1)*(co i (crs a c)*co i (crs b p))=(co i (crs a c)*(A1*B1))*(co i (crs b p)*(A1*B1)):=by grind
  rw [this,k1,k2];grind
 ·have:A1*B1*(A1*B1)*(co i (crs a p)*co i (crs b c))=(co i (crs a p)*(A1*B1))*(co i (crs b c)*(A1*B1)):=by grind
  rw [this,k3,k4];grind
theorem ahG {a b c o o':Tr}(h:FF x=JI)(pl:∀ t∈x,Pl t)(ma:a∈x)(mb:b∈x)(mc:c∈x)(mo:o∈x)(mo':o'∈x)(hab:a≠b)(hac:a≠c)(hbc:b≠c)(ha:dt3 a L=0)(hb:dt3 b L=0)(hc:dt3 c L=0)(ho:dt3 o L≠0)(ho':dt3 o' L≠0):o=o':=Decidable.byContradiction fun ne=>by
 have kn:=tZ (pl _ mo) (pl _ mo') ne;have not2:∀ {u v:Tr},u∈x->v∈x->u≠v->dt3 u L=0->dt3 v L=0->dt3 u (crs o o')=0->dt3 v (crs o o')≠0:=fun {u v} mu mv huv hu hv k1 k2=>by
  obtain ⟨s,t,s0,e⟩:=zA k1 k2 (tZ (pl _ mu) (pl _ mv) huv);have n1:=off_ne hu hv (pl _ mu) (pl _ mv) huv ho;have q:=congrArg (fun w=>dt3 w o) e;simp only [uI,GR,Int.zero_mul] at q;have t0:t=0:=(Q7.mp q.symm).resolve_left n1;rw [t0] at e;refine kn<|(oH s0).mp (e.trans ?_)
  simp [sc]
 have fr:∀ {u v:Tr},u∈x->v∈x->u≠v->dt3 u L=0->dt3 v L=0->dt3 u (crs o o')≠0->dt3 v (crs o o')≠0->False:=fun {u v} mu mv huv hu hv k1 k2=>by
  refine J3 h mu mv mo mo' ⟨off_ne hu hv (pl _ mu) (pl _ mv) huv ho,off_ne hu hv (pl _ mu) (pl _ mv) huv ho',fun z=>k1 ?_,fun z=>k2 ?_⟩
  ·rw [<-z];simp only [dt3,crs];grind
  ·rw [<-z];simp only [dt3,crs];grind
 by_cases k1:dt3 a (crs o o')=0
 ·exact fr mb mc hbc hb hc (not2 ma mb hab ha hb k1)<|not2 ma mc hac ha hc k1
 by_cases k2:dt3 b (crs o o')=0
 ·exact fr ma mc hac ha hc k1<|not2 mb mc hbc hb hc k2
 ·exact fr ma mb hab ha hb k1 k2
theorem LQ {X Y v:Tr}(hX:Jj X u)(hY:Jj Y v)(h:crs X Y=(0,0,0))(pu:Pl u)(pv:Pl v):u=v:=by
 obtain ⟨k,k0,rfl⟩:=hX;obtain ⟨l,l0,rfl⟩:=hY;rw [Bc] at h;exact qZ pu pv<|(oH<|Lp k0 l0).mp h
theorem Wi:Pl e0:=(Wh (Ig 2) e0 (by simp)).1
theorem Vc:Pl e1:=(Wh (Ig 2) e1 (by simp)).1
theorem ZF:Pl e2:=(Wh (Ig 2) e2 (by simp)).1
theorem TQ {m j:Nat}{t:Tr}(h2:2<=m)(hf:Few (Hy ts))(ok:HX m ts)(hM:FwM (Hy ts) M)(hj:j<(Hy ts).length)(pt:Pl t)(hp:Jj (vm M (gt (Hy ts) j)) t):t=gt [e0,e1,e2] j:=by
 obtain ⟨a,b,c,s,e,_,_,l⟩:=hM;obtain ⟨a',b',c',e',_,eu,_⟩:=Mx h2 hf fun t ht=>ok t (((jP ts).2.1 t).mp ht)
 rw [e] at e';cases e'
 have l3:=hf.2.2.1;have gj:gt (Hy ts) j=gt [a,b,c] j:=by
  have:gt (Hy ts) j=gt ([a,b,c].take (Hy ts).length) j:=by rw [<-eu]
  rw [this];unfold gt;rw [Pr,Pr,List.getElem?_take_of_lt hj]
 rw [gj] at hp;have:j=0\/j=1\/j=2:=by lia
 rcases this with rfl | rfl | rfl
 ·exact l.2.1.eq Wi pt hp
 ·exact l.2.2.1.eq Vc pt hp
 ·exact l.2.2.2.1.eq ZF pt hp
section
variable {us vs:List Tr}{B:Mt}{m:Nat}(hl:x.length=y.length)(h2:s2 x y=JI)(h3:s3 x y=JI)(h4:s4 x y=JI)(ox:HX m x)(oy:HX n y)(iu:Rz A x us)(iv:Rz B y vs)
include hl h2 h3 h4 ox oy iu iv
theorem aiA (hf:FF x=JI)(hf':FF y=JI)(hA:LnM x A)(hB:LnM y B){p:Nat}(mp:p∈fp x):gt us p=gt vs p:=by
 obtain ⟨L,a,b,c,o,s,on',off',hL,eon,eoff,_,parS,ld⟩:=hA;obtain ⟨L',a',b',c',o',s',on2,off2,hL',eon',eoff',_,parS',ld'⟩:=hB;obtain ⟨i,j,k,el,ij,jk,kl,_,pL,parL⟩:=hL;obtain ⟨i',j',k',el',_,_,_,_,pL',parL'⟩:=hL';rw [<-Oj hl h2 h3,el] at el';cases el'
 have fe:=Dk hl h2;have lx:(Hy x).length=(fp x).length:=by rw [qw,Hu]
 obtain ⟨pi,ei⟩:∃ q,(fp x)[i]?=Dn q:=⟨_,Jx (by lia)⟩
 obtain ⟨pj,ej⟩:∃ q,(fp x)[j]?=Dn q:=⟨_,Jx (by lia)⟩
 have hi:=jh (Q0 ei);have hj:=jh (Q0 ej);rw [pY ei,pY ej] at parL;rw [pY (by rw [<-fe];exact ei),pY (by rw [<-fe];exact ej)] at parL';have on:∀ q,q<x.length->(dt3 (gt x q) L=0↔dt3 (gt y q) L'=0):=fun q hq=>by
  rw [cj (gt x q),cj (gt y q),<-yO parL,<-yO parL'];exact Ui h3 hi hj hq
 have px:∀ q,q<x.length->Pl (gt x q):=fun q hq=>(ox _ (bT hq)).1
 have py:∀ q,q<x.length->Pl (gt y q):=fun q hq=>(oy _ (bT (by rw [<-hl];exact hq))).1
 rw [qw,List.filter_map] at eon eon';have Fe:(fp y).filter (Qa L' ∘ gt y)=(fp x).filter (Qa L ∘ gt x):=by
  rw [<-fe];exact List.filter_congr fun q hq=>decide_eq_decide.mpr (on q<|jh hq).symm
 rw [Fe] at eon';have Fs:((fp x).filter (Qa L ∘ gt x)).Pairwise (· < ·):=(adN x).filter _;have Fm:∀ q,q∈(fp x).filter (Qa L ∘ gt x)↔q∈fp x/\dt3 (gt x q) L=0:=fun q=>by
  rw [Oh];exact and_congr_right fun _=>decide_eq_true_iff
 generalize (fp x).filter (Qa L ∘ gt x)=F at *;obtain ⟨i0,F1,rfl,rfl,g1⟩:=List.map_eq_cons_iff.mp eon;obtain ⟨i1,F2,rfl,rfl,g2⟩:=List.map_eq_cons_iff.mp g1;obtain ⟨i2,F3,rfl,rfl,g3⟩:=List.map_eq_cons_iff.mp g2;simp only [Lz,List.cons.injEq] at eon';obtain ⟨rfl,rfl,rfl,_⟩:=eon';obtain ⟨m0,o0⟩:=(Fm i0).mp (by simp);obtain ⟨m1,o1⟩:=(Fm i1).mp (by simp);obtain ⟨m2,o2⟩:=(Fm i2).mp (by simp);simp only [List.pairwise_cons,JN,forall_eq_or_imp] at Fs;obtain ⟨⟨l01,l02,_⟩,⟨l12,_⟩,l23,_⟩:=Fs;have n0:=jh m0;have n1:=jh m1;have n2:=jh m2;have ne:∀ {q r:Nat},q<r->r∈fp x->gt x q≠gt x r:=fun {q r} hqr hr=>by
  have:=(Oh.mp hr).2
  unfold fresh at this;exact of_decide_eq_true<|Nr.mp this q<|Px.mpr hqr
 have ney:∀ {q r:Nat},q<r->r∈fp x->gt y q≠gt y r:=fun {q r} hqr hr z=>ne hqr hr ((HN h2 (by have:=jh hr;lia) (jh hr)).mpr z)
 have o0':=(on i0 n0).mp o0;have o1':=(on i1 n1).mp o1;have o2':=(on i2 n2).mp o2;have np:=jh mp;obtain ⟨pu,qu⟩:=iu.2 p np;obtain ⟨pv,qv⟩:=iv.2 p (by rw [<-hl];exact np);by_cases hp:dt3 (gt x p) L=0
 ·have hp':=(on p np).mp hp;rcases JN.mp ((Fm p).mpr ⟨mp,hp⟩) with rfl | q
  ·exact (ld.2.1.eq Wi pu qu).trans (ld'.2.1.eq Wi pv qv).symm
  rcases JN.mp q with rfl | q
  ·exact (ld.2.2.1.eq Vc pu qu).trans (ld'.2.2.1.eq Vc pv qv).symm
  have r1:=aeV ld parS pL o0 o1 o2 hp (px i0 n0) (px i1 n1) (px i2 n2) (ne l01 m1);have r2:=aeV ld' parS' pL' o0' o1' o2' hp' (py i0 n0) (py i1 n1) (py i2 n2) (ney l01 m1);obtain ⟨c1,z1,zc1,K,Z,K0,Z0,u1,u2⟩:=r1;obtain ⟨c2,z2,zc2,K',Z',K0',Z0',v1,v2⟩:=r2;rcases JN.mp q with rfl | q
  ·refine LQ qu qv ?_ pu pv;unfold crs;rw [c1,c2,zc1,zc2];refine J7 ?_ (J7 ?_ ?_) <;> dsimp only <;> grind
  have lp:=l23 p q;have r4:[i0,i1,i2,p]∈DW x.length 4:=nR (l:=[i0,i1,i2]) (Fq l01 l12 n2) (show i2+1<=p by lia) np;have tb:thB (gt x i0) (gt x i1) (gt x i2) (gt x p) (gt y i0) (gt y i1) (gt y i2) (gt y p)=false:=nA h4 _ r4;unfold thB at tb;have fl:j9 [gt x i0,gt x i1,gt x i2,gt x p]=true:=tX fun u mu v mv w mw=>by
   have onl:∀ t∈[gt x i0,gt x i1,gt x i2,gt x p],dt3 L t=0:=fun t ht=>by
    simp only [JN,O7,or_false] at ht;rw [cj];rcases ht with rfl | rfl | rfl | rfl
    ·exact o0
    ·exact o1
    ·exact o2
    ·exact hp
   exact flat pL.ne (onl v mv) (onl w mw)<|onl u mu
  have al:¬ pZ (gt x i0) (gt x i1) (gt x i2) (gt x p):=by
   rintro (⟨q1,_⟩ | ⟨q1,_⟩ | ⟨q1,_⟩ | ⟨q1,_⟩)
   ·exact ne l01 m1 q1
   ·exact ne l01 m1 q1
   ·exact ne l02 m2 q1
   ·exact ne l12 m2 q1
  rw [fl,decide_eq_false al,Bool.true_and,Bool.not_false,Bool.true_and] at tb;have tb:=VP.mp (of_decide_eq_false tb);refine LQ qu qv ?_ pu pv;have key:(vm A (gt x p)).1*(vm B (gt y p)).2.1=(vm A (gt x p)).2.1*(vm B (gt y p)).1:=by
   refine Xr (Lp K0 K0') ?_;grind
  unfold crs;rw [z1,z2];refine J7 ?_ (J7 ?_ ?_) <;> dsimp only <;> grind
 ·have hp':=mt (on p np).mpr hp;have offp:∀ {x us:List Tr} {A:Mt} {L a b c o s:Tr} {off':List Tr} {m:Nat},FF x=JI->HX m x->(Hy x++[e0,e1,e2]).filter (offB L)=o::off'->Bq a b o s A->∀ {i0 i1 i2 p:Nat},i0<x.length->i1<x.length->i2<x.length->p<x.length->gt x i0≠gt x i1->gt x i0≠gt x i2->gt x i1≠gt x i2->dt3 (gt x i0) L=0->dt3 (gt x i1) L=0->dt3 (gt x i2) L=0->dt3 (gt x p) L≠0->∀ {t:Tr},Pl t->Jj (vm A (gt x p)) t->t=e2:=fun {x us A L a b c o s off' m} hf ox eoff ld {i0 i1 i2 p} n0 n1 n2 np d01 d02 d12 o0 o1 o2 hp {t} pt qt=>by
   have mo:gt x p∈(Hy x).filter (offB L):=Oh.mpr ⟨((jP x).2.1 _).mpr (bT np),by unfold offB;rw [decide_eq_false hp];rfl⟩;rw [List.filter_append] at eoff;have ho:o∈(Hy x).filter (offB L):=by
    cases q:(Hy x).filter (offB L) with
    | nil=>rw [q] at mo;cases mo
    | cons w r=>rw [q] at eoff;cases eoff;exact Ow
   obtain ⟨ho1,ho2⟩:=Oh.mp ho;have ho2:dt3 o L≠0:=by unfold offB at ho2;simpa using ho2
   have:o=gt x p:=ahG hf (fun t ht=>(ox t ht).1) (bT n0) (bT n1) (bT n2) (((jP x).2.1 _).mp ho1) (bT np) d01 d02 d12 o0 o1 o2 ho2 hp
   subst this;exact ld.2.2.2.1.eq ZF pt qt
  rw [offp (us:=us) (c:=gt x i2) hf ox eoff ld n0 n1 n2 np (ne l01 m1) (ne l02 m2) (ne l12 m2) o0 o1 o2 hp pu qu];rw [hl] at n0 n1 n2 np;exact (offp (us:=vs) (c:=gt y i2) hf' oy eoff' ld' n0 n1 n2 np (ney l01 m1) (ney l02 m2) (ney l12 m2) o0' o1' o2' hp' pv qv).symm
end
theorem ago {us vs:List Tr}{B:Mt}{m:Nat}(m2:2<=m)(n2:2<=n)(l1:1<=x.length)(due:En x y=JI)(ox:HX m x)(oy:HX n y)(hA:Rx x A)(hB:Rx y B)(iu:Rz A x us)(iv:Rz B y vs):kd x=kd y/\us=vs:=by
 obtain ⟨hl,h2,h3,h4,h5⟩:=zT due;have ff:=aje hl h3;have ll:=Oj hl h2 h3;refine ⟨by unfold kd;rw [ff,ll],?_⟩;have fe:=Dk hl h2;have fin:(∀ p∈fp x,gt us p=gt vs p)->us=vs:=fun h=>by
  refine List.ext_getElem? fun i=>?_;by_cases hi:i<x.length
  ·rw [dO (by rw [iu.1];exact hi),dO (by rw [iv.1,<-hl];exact hi)];have mi:gt x i∈Hy x:=((jP x).2.1 _).mpr (bT hi);rw [qw] at mi;obtain ⟨p,mp,e⟩:=Pz.mp mi;have np:=jh mp;have e':=(HN h2 np hi).mp e;have q1:=iu.2 i hi;have q2:=iu.2 p np;have q3:=iv.2 i (by rw [<-hl];exact hi);have q4:=iv.2 p (by rw [<-hl];exact np);rw [e] at q2;rw [e'] at q4;rw [Ep q1.1 q2.1 q1.2 q2.2,Ep q3.1 q4.1 q3.2 q4.2,h p mp]
  ·rw [Xh (by rw [iu.1];lia),Xh (by rw [iv.1,<-hl];lia)]
 refine fin fun p mp=>?_;have np:=jh mp;obtain ⟨pu,qu⟩:=iu.2 p np;obtain ⟨pv,qv⟩:=iv.2 p (by rw [<-hl];exact np);rcases hA.2 with ⟨a,b,c,d,f,la⟩ | ⟨f,g,la⟩ | ⟨f,g,la⟩
 ·rcases hB.2 with ⟨a',b',c',d',f',lb⟩ | ⟨f',_⟩ | ⟨f',_⟩
  ·rw [<-ff,f] at f';cases f'
   obtain ⟨_,_,_,_,e,mr,fx⟩:=W2 f;cases e;have fy:=(rF h3 mr).mp fx;have:=K8 pu pv ((xu fx la).par qu) ((xu fy lb).par qv)
   refine Decidable.byContradiction fun c=>this.mp c ?_;unfold s5 at h5;rw [f] at h5;have:=List.findSome?_eq_none_iff.mp h5 p (lK.mpr ⟨U7 _,np⟩)
   unfold d5 at this;dsimp only at this;refine Decidable.byContradiction fun c=>?_;rw [if_pos c] at this;cases this
  ·rw [<-ff,f] at f';cases f'
  ·rw [<-ff,f] at f';cases f'
 ·rcases hB.2 with ⟨a',b',c',d',f',lb⟩ | ⟨f',g',lb⟩ | ⟨f',g',lb⟩
  ·rw [<-ff,f] at f';cases f'
  ·exact aiA hl h2 h3 h4 ox oy iu iv f f' la lb mp
  ·rw [<-ll] at g';exact absurd g' g
 ·rcases hB.2 with ⟨a',b',c',d',f',lb⟩ | ⟨f',g',lb⟩ | ⟨f',g',lb⟩
  ·rw [<-ff,f] at f';cases f'
  ·rw [<-ll] at g';exact absurd g g'
  ·obtain ⟨j,hj,e⟩:=Vt.mp mp;have e1:(fp x)[j]?=Dn p:=by rw [Jx hj,e]
   have lx:j<(Hy x).length:=by rw [qw,Hu];exact hj
   have ly:j<(Hy y).length:=by rw [qw,Hu,<-fe];exact hj
   rw [<-pY e1] at qu;rw [<-pY (x:=y) (by rw [<-fe];exact e1)] at qv;rw [TQ m2 (Kp l1 f g) ox la lx pu qu,TQ n2 (Kp (by rw [<-hl];exact l1) f' g') oy lb ly pv qv]
theorem ahQ {us:List Tr}{B:Mt}(dB:det B≠0)(iu:Rz A x us)(iv:Rz B y us)(t:Thn A B M)(hi:i<x.length)(hi':i<y.length):To M (gt x i) (gt y i):=by
 obtain ⟨N,⟨c,c0,ec⟩,d,d0,ed⟩:=t;obtain ⟨_,k,k0,ek⟩:=iu.2 i hi;obtain ⟨_,l,l0,el⟩:=iv.2 i hi';have e1:=congrArg (fun X=>vm X (gt x i)) ed;rw [CP,vG,ek,cQ] at e1;have e2:=congrArg (fun X=>vm X (vm B (gt y i))) ec;rw [<-CP,zF,vG,KQ,vG,el,cQ] at e2;refine ⟨d*l*c,det B*k,Lp (Lp d0 l0) c0,Lp dB k0,?_⟩;have s:∀ (a b:Int) (v:Tr),sc (a*b) v=sc b (sc a v):=fun a b v=>by rw [u5]
 rw [s,s,<-e1,s,e2];simp only [sc];refine J7 ?_ (J7 ?_ ?_) <;> dsimp only <;> grind
theorem ahS (h0:u≠(0,0,0)):∃ t,Pl t/\Jj u t:=by
 obtain ⟨b0,pl,e⟩:=Jv (Ym h0) rfl;obtain ⟨t,et,e'⟩:=R9 e;exact ⟨t,by unfold Pl;rw [<-et];exact pl,_,b0,e'⟩
open Classical in
theorem Tz {m:Nat}(dA:det A≠0)(ok:HX m x):∃ us,Rz A x us:=by
 let f:Tr->Tr:=fun t=>if h:∃ u,Pl u/\Jj (vm A t) u then choose h else t
 refine ⟨x.map f,by rw [Hu],fun i hi=>?_⟩;have e:gt (x.map f) i=f (gt x i):=by
  have:=dO (ts:=x.map f) (i:=i) (by rw [Hu];exact hi)
  rw [N7,dO hi] at this;exact (JD this).symm
 have h:=ahS (LK dA (ok _ (bT hi)).1.ne);have ef:f (gt x i)=choose h:=dif_pos h;rw [e,ef];exact choose_spec h
theorem Yd {tt:AP}(hpl:uZ pl)(htt:OD tt):aai (Lj pl tt):=by
 intro h A B m n Q E hm sA sB dA dB k;show tt [Ls true B,Ls true A] h _ _;refine htt (m:=max m n) true true (by lia) (sB.mono<|by lia) (sA.mono<|by lia) ?_;show pl [Oe (mm B A)] h _ _;refine hpl.mt (m:=m+n+2) (.inr rfl) ?_ (aal sB sA) (by lia) k;rw [zO];exact fun h=>(Q7.mp h).elim dB dA
theorem Yq (hpl:uZ pl)(hdt:HB dt):acs (CZ pl dt):=by
 intro h M v m n Q E hm sM0 sv0 dM hv k;have sM:=sM0.mono (show m<=max m n by lia);have sv:=sv0.mono (show n<=max m n by lia);have c:∀ b:Int,QS (b.natAbs+1) (2^64)=true->eV 3 b:=fun b h2=>.of (m:=64) (n:=64) (Sm.lit rfl) (Sm.lit h2) (by decide) (by decide)
 first | show HW Hz [0,1] (dh (aj (mC (.int 3)) aG)) eN (aD dt E (aj (Mh vh (ao 1) (cP (Ae cR (mC (.int 3)) (ao 0))) (cP (Ae bG (Ae cR (mC (.int 3)) (ao 0)) (mC (.int 3))))) (aj (ao 2) aG))) [Dn (mw M),Dn (tw v)] h _ | show HW Hz [0,1] (dh (aj (mC (.int 3)) aG)) eN (aD dt E (aj (Mh kSl (ao 1) (cP (Ae cR (mC (.int 3)) (ao 0))) (cP (Ae bG (Ae cR (mC (.int 3)) (ao 0)) (mC (.int 3))))) (aj (ao 2) aG))) [Dn (mw M),Dn (tw v)] h _
 first | refine And.intro (c _ rfl) (And.intro (c _ rfl) (And.intro (by decide:¬ ((0:Nat)=0/\(3:Nat)=9)) ?_)) | refine And.intro (c _ rfl) (And.intro (c _ rfl) ?_)
 show dt [tw M.1,tw v] h _ _;refine hdt (by lia) sM.1 sv ?_;first | refine And.intro (c _ rfl) (And.intro (c _ rfl) (And.intro (by decide:¬ ((3:Nat)=0/\(6:Nat)=9)) ?_)) | refine And.intro (c _ rfl) (And.intro (c _ rfl) ?_)
 show dt [tw M.2.1,tw v] h _ _;refine hdt (by lia) sM.2.1 sv ?_;first | refine And.intro (c _ rfl) (And.intro (c _ rfl) (And.intro (by decide:¬ ((6:Nat)=0/\(9:Nat)=9)) ?_)) | refine And.intro (c _ rfl) (And.intro (c _ rfl) ?_)
 show dt [tw M.2.2,tw v] h _ _;refine hdt (by lia) sM.2.2 sv ?_;show pl [lw (vm M v)] h _ _;exact hpl.tr (u:=vm M v) (m:=m+n+2) (.inr rfl) (LK dM hv) (Dh sM0 sv0) (by lia) k
theorem akl (e:dD h w ts):Cm h w=Dn (.lst (ts.map tw)):=by
 rcases e with rfl | ⟨n,rfl,e⟩
 ·rfl
 ·simp only [Cm,e]
theorem ZL (ts:List Tr):Cj (.lst (ts.map tw)) (.lst (ts.map tw))=true:=by rw [Cj,TY]
theorem aaC (e:dD h w ts)(k:Q (.bl false) h):Jk (.lst (ts.map tw)) w h Q:=by
 show (match Cm h (.lst (ts.map tw)),Cm h w with
  | some a,Dn b=>Ib (DY 30 a&&DY 30 b) (Q (.bl (!Cj a b)) h) False
  | _,_=>False)
 rw [akl e];show Ib (DY 30 (.lst (ts.map tw))&&DY 30 (.lst (ts.map tw))) (Q (.bl (!Cj (.lst (ts.map tw)) (.lst (ts.map tw)))) h) False;rw [aa4 28,ZL];exact k
theorem wO (e:dD h w ts)(k:Q (.lst (ts.map tw)) h):vH [w] h Q:=by
 show (match view h w with
  | some us=>Q (.lst us) h
  | none=>False)
 rw [e.src.1];exact k
def Tw (M:Mt)(x y:List Tr):Prop:=x.length=y.length/\(∀ i,i<x.length->To M (gt x i) (gt y i))/\det M≠0
theorem ajL {us:List Tr}(h:Tw M x y)(oy:HX n y)(iu:Rz M x us):us=y:=by
 refine List.ext_getElem? fun i=>?_;by_cases hi:i<x.length
 ·have hy:i<y.length:=by rw [<-h.1];exact hi
  rw [dO (by rw [iu.1];exact hi),dO hy];have:=iu.2 i hi
  rw [(h.2.1 i hi).eq (oy _ (bT hy)).1 this.1 this.2]
 ·rw [Xh (by rw [iu.1];lia),Xh (by rw [<-h.1];lia)]
def Xy (c0:AP):Prop:=∀ {h:Gh} {r:Nat} {mo:Int} {Q:WK} {E:Bo},Rs h r->r<h.nx->0<mo->mo<=12->(∀ (n:Nat) (ts:List Tr) (h':Gh),h'.c n=Dn (.lst (ts.map tw))->h.nx<=n->n<h'.nx->1<=ts.length->ts.length<=12->HX 120 ts->Rs h' r->(∀ k,k≠r->k<h.nx->h'.c k=h.c k)->Q (.loc n) h')->c0 [.loc r,.int mo] h Q E
theorem ajc {sp ne:AP}(hdg:iY dg)(hsp:zQ sp)(hne:aaE ne):Xy (lQ dg sp ne):=by
 intro h r mo Q E hr hrn hm0 hm1 k;obtain ⟨f0,f1⟩:=acq;unfold lQ;rfl'
 refine hdg (n:=r) (many:=mo) hr hm0 (Yx (by lia)<|by lia) fun many h1 d0 d1 r1 o1=>?_;obtain ⟨M,rfl⟩:=XF d0;rfl'
 refine hdg (n:=r) (many:=4) r1 (by decide) (by unfold Sm;decide +kernel) fun st h2 _ _ r2 o2=>?_;have o2:=o1.trans o2;refine bO (σ':=[Dn<|.loc r,Dn<|.int mo,Dn<|.int (M:Int),Dn<|.int st,JI,JI]) rfl<|gR<|bw<|cC<|air ?_
 rfl'
 refine Gg ⟨by decide,by decide,by decide⟩ ?_;rfl'
 refine hsp (n:=r) r2 f0 f1 (by decide) fun t h3 pt sth r3 o3=>?_;have o3:=o2.trans o3;have x3:h3.nx=h.nx:=o3.1;rfl'
 refine adS rfl fun g eg og xg=>?_;refine bO (σ':=[Dn<|.loc r,Dn<|.int mo,Dn<|.int (M:Int),Dn<|.int st,Dn<|.loc h3.nx,JI]) rfl<|gR<|bw<|sV<|rR<|aB<|aF rfl<|aL<|PK (by lia)<|p8 ?_
 have rne:h3.nx≠r:=by lia
 refine oY (fun i σ h'=>∃ (ts:List Tr) (s5:Option W),σ = [Dn<|.loc r,Dn<|.int mo,Dn<|.int (M:Int),Dn<|.int st,Dn<|.loc h3.nx,s5]/\h'.c h3.nx=Dn (.lst<|ts.map tw)/\ts.length=i+1/\HX (31+7*i) ts/\Rs h' r/\h'.nx=g.nx/\∀ k,k≠r->k<h.nx->h'.c k=h.c k) ?_ ?_ ⟨[t],JI,rfl,eg,rfl,fun u hu=>?_,?_,rfl,fun k hk hk2=>by rw [og _<|by lia,o3.2 _ hk]⟩
 ·rintro i w σ h' N hN e ⟨ts,s5,rfl,e1,e2,e3,e4,e5,e7⟩;have hi:i<M:=by
   have:=(Pn.mp e).1
   rw [Hu] at this;unfold rng at this;rw [Vr] at this;lia
  refine bO (σ':=[Dn<|.loc r,Dn<|.int mo,Dn<|.int (M:Int),Dn<|.int st,Dn<|.loc h3.nx,Dn w]) rfl ?_;refine gP<|Bb<|aF rfl<|tW e1 ?_
  rfl'
  refine hne (m:=31+7*i) (by lia) (by lia) e1 rne e4 e3 (by lia) (by lia) fun u h4 pu su r4 o4=>?_;have e1':h4.c h3.nx=Dn (.lst (ts.map tw)):=by rw [o4.2 _ rne];exact e1
  rfl'
  refine aas e1' (by rw [Hu];lia) fun g2 e6 o6 x6=>?_;refine gR<|hN _ _ ⟨ts++[u],_,rfl,by rw [e6,Qg];rfl,by rw [Mf,e2];rfl,?_,?_,by rw [x6,o4.1];exact e5,fun k hk hk2=>by rw [o6 _<|by lia,o4.2 _ hk];exact e7 k hk hk2⟩
  ·intro v hv;rcases Py.mp hv with hv | hv
   ·exact ⟨(e3 v hv).1,(e3 v hv).2.mono (by lia)⟩
   ·rw [Nz.mp hv];exact ⟨pu,su.mono<|by lia⟩
  ·unfold Rs;rw [o6 _ (Jo rne)];exact r4
 ·rintro σ h' ⟨ts,s5,rfl,e1,e2,e3,e4,e5,e7⟩;have hl:((rng 0 M).map fun x:Nat=>W.int (x:Int)).length=M:=by
   rw [Hu];unfold rng;rw [Vr];lia
  rw [hl] at e2 e3;unfold nG;refine gR ?_;refine fP ?_;refine aF rfl ?_;refine Jg ?_;exact k _ ts h' e1 (by lia) (by rw [e5,xg];lia) (by lia) (by lia) (fun v hv=>⟨(e3 v hv).1,(e3 v hv).2.mono (by lia)⟩) e4 e7
 ·rw [Nz.mp hu];exact ⟨pt,sth⟩
 ·unfold Rs;rw [og _ (Jo rne)];exact r3
theorem zbx (us:List W)(k:Nat):BK us JI (Dn (k:Int))=us.take k:=by
 unfold BK;rw [HT.JQ,HT.G4,X4,Nat.sub_zero];by_cases h:k<=us.length
 ·rw [Nat.min_eq_left h]
 ·rw [Nat.min_eq_right (by lia),OJ,List.take_of_length_le (by lia)]
theorem ahv (us:List W)(k:Nat):BK us (Dn (k:Int)) JI=us.drop k:=by
 unfold BK;rw [HT.JQ,HT.G4];by_cases h:k<=us.length
 ·rw [Nat.min_eq_left h,List.take_of_length_le (by rw [Vo];exact Ig _)]
 ·rw [Nat.min_eq_right (by lia),List.drop_length,List.drop_of_length_le (by lia)];simp
theorem ur {k:Nat}(x:Q (.lst ((ts.take k).map tw)) h):vh (.lst (ts.map tw)) JI (Dn (k:Int)) h Q:=SM (zbx _ _) (by rw [<-List.map_take];exact x)
theorem J2 {k:Nat}(x:Q (.lst ((ts.drop k).map tw)) h):vh (.lst (ts.map tw)) (Dn (k:Int)) JI h Q:=SM (ahv _ _) (by rw [<-List.map_drop];exact x)
theorem Hr {as bs:List Tr}(hz:as.length+bs.length<=1000)(x:Q (.lst ((as++bs).map tw)) h):bG (.lst (as.map tw)) (.lst (bs.map tw)) h Q:=by
 refine fW.mk (J4 (m:=1000) (by rw [Hu,Hu];exact hz)<|by decide) ?_;rw [<-Qg];exact x
theorem aa2 {as bs:List Tr}{k:Nat}(en:h.c n=Dn (.lst (as.map tw)))(em:h.c k=Dn (.lst (bs.map tw)))(hz:as.length+bs.length<=1000)(x:Q (.lst ((as++bs).map tw)) h):bG (.loc n) (.loc k) h Q:=by
 show (match Ij h (.loc n),Ij h (.loc k) with
  | some a,Dn b=>fW (a.length+b.length) (Q (.lst (a++b)) h)
  | _,_=>False)
 rw [show Ij h (.loc n)=Dn (as.map tw) by simp [Ij,en],show Ij h (.loc k)=Dn (bs.map tw) by simp [Ij,em]];refine fW.mk (J4 (m:=1000) (by rw [Hu,Hu];exact hz)<|by decide) ?_;rw [<-Qg];exact x
def ae0 (c0:AP):Prop:=∀ {h:Gh} {r m:Nat} {ts:List Tr} {Q:WK} {E:Bo},31<=m->m<=900->Rs h r->HX m ts->1<=ts.length->ts.length<=12->(∀ (us:List Tr) (h':Gh),us.length=ts.length->HX (m+7) us->Rs h' r->MH r h h'->Q (.lst (us.map tw)) h')->c0 [.lst (ts.map tw),.loc r] h Q E
theorem zbc {sp mx:AP}(hdg:iY dg)(hsp:zQ sp)(hmx:acA mx):ae0 (lW dg sp mx):=by
 intro h r m ts Q E hm0 hm hr hs l1 l2 k;obtain ⟨f0,f1⟩:=acq;have src:∀ g:Gh,dD g (.lst (ts.map tw)) ts:=fun _=>.inl rfl
 unfold lW;refine eZ rfl (σ:=[Dn<|.lst<|ts.map tw,Dn<|.loc r,JI,JI,JI]) rfl ?_;rfl'
 rw [Hu];refine hdg (n:=r) (many:=(ts.length:Int)) hr (by lia) (Yx (by lia)<|by lia) fun at' h1 a0 a1 r1 o1=>?_;obtain ⟨A,rfl⟩:=XF a0;rfl'
 refine hdg (n:=r) (many:=3) r1 (by decide) (by unfold Sm;decide +kernel) fun way h2 w0 w1 r2 o2=>?_;have o2:=o1.trans o2;rfl'
 rw [Hu];refine hdg (n:=r) (many:=(ts.length:Int)) r2 (by lia) (Yx (by lia)<|by lia) fun d h3 d0 d1 r3 o3=>?_;have o3:=o2.trans o3;refine (src h3).ati d0 d1 fun one m1=>?_;have t5:∀ (v:Tr) (h':Gh),Pl v->Cr (m+7) v->Rs h' r->MH r h h'->iR dg sp mx E { nx:=fun _ h'=>Q .non h',rt:=Q } [Dn (.lst (ts.map tw)),Dn (.loc r),Dn (.int (A:Int)),Dn (.int way),Dn (tw v)] h':=by
  intro v h' pv sv r' o';unfold iR;refine fP<|bL<|bL<|yu<|aF rfl<|fj ?_
  rfl'
  refine ur ?_;rfl'
  refine Hr (bs:=[v]) (by rw [Q8];simp;lia) ?_;refine yu<|aF rfl ?_
  rfl'
  refine fj<|J2 (k:=A+1) ?_
  refine Hr (by rw [Mf,Q8,Vo];simp;lia)<|Jg<|k _ h' ?_ ?_ r' o'
  ·rw [Mf,Mf,Q8,Vo];simp;lia
  ·intro t ht;rcases Py.mp ht with ht | ht
   ·rcases Py.mp ht with ht | ht
    ·exact ⟨(hs t<|List.mem_of_mem_take ht).1,(hs t<|List.mem_of_mem_take ht).2.mono (by lia)⟩
    ·rw [Nz.mp ht];exact ⟨pv,sv⟩
   ·exact ⟨(hs t<|List.mem_of_mem_drop ht).1,(hs t<|List.mem_of_mem_drop ht).2.mono (by lia)⟩
 have t4:∀ (v:Tr) (h':Gh),Pl v->Cr (m+7) v->Rs h' r->MH r h h'->iZ dg sp mx E { nx:=fun _ h'=>Q .non h',rt:=Q } [Dn (.lst (ts.map tw)),Dn (.loc r),Dn (.int (A:Int)),Dn (.int way),Dn (tw v)] h':=by
  intro v h' pv sv r' o';unfold iZ;rfl'
  refine nH (fun _=>?_) fun _=>?_
  ·rfl'
   refine Gg ⟨by decide,by decide,by decide⟩ ?_;rfl'
   refine hsp (n:=r) r' f0 f1 (by decide) fun t h4 pt st r4 o4=>?_;rfl'
   exact t5 t h4 pt (st.mono<|by lia) r4<|o'.trans o4
  ·rfl'
   exact t5 v h' pv sv r' o'
 rfl'
 refine nH (fun _=>?_) fun _=>?_
 ·rfl'
  refine (src h3).at (i:=A) (by lia) ?_;rfl'
  refine hmx (m:=m) (by lia) r3 (hs _<|bT<|by lia).1 (hs _<|bT<|by lia).2 (hs _ m1).2 fun t h4 pt st r4 o4=>?_;rfl'
  exact t4 t h4 pt st r4<|o3.trans o4
 ·rfl'
  exact t4 one h3 (hs _ m1).1 ((hs _ m1).2.mono (by lia)) r3 o3
theorem ZS (hle:acX le)(hx:(σ[3]?).getD JI=Dn (mw M))(hv:σ[2]?=Dn (Dn (.loc n)))(e:dD h (.loc n) ts)(hl:ts.length<=100)(hs:HX 120 ts)(dM:det M≠0)(sM':Io 31 M)(k:∀ us:List Tr,us.length=ts.length->HX 153 us->Q (.lst (us.map tw)) h):
  HW Hz [3] (Ik (ao 2)) eN (aD le E (aj (ao 1) (aj (ao 0) aG))) σ h Q:=by
 refine Ai<|yh<|aF hv ?_
 obtain ⟨ev,s,es,ew,go⟩:=e.src;show (match qY h (.loc n) with
  | some s=>_
  | none=>False)
 rw [es];show fW s.ws.length (nY s _ _ _ _ _ _ s.ws [] h);rw [ew];refine fW.mk (by rw [Hu];exact J4 hl (by decide)) ?_;refine CK (fun i acc h'=>h'=h/\∃ us:List Tr,acc=us.map tw/\us.length=i/\HX 153 us) ?_ ?_ ?_ ⟨rfl,[],rfl,rfl,fun t ht=>nomatch ht⟩
 ·rintro i acc h' ⟨rfl,_⟩;exact go
 ·rintro i w2 acc h' N hN e2 ⟨rfl,us,rfl,ul,ui⟩;obtain ⟨t,et,rfl⟩:=wR e2;have mt:=Q0 et;have hb:qO [3] σ = [Dn (mw M)]:=by
   show [(σ[3]?).getD JI]=_;rw [hx]
  refine ⟨[tw t],rfl,?_⟩;rw [hb];refine wM<|wA<|aR<|aB<|aF rfl<|aB<|aF rfl<|aL ?_
  refine hle (m:=31) (n:=120) (by decide) (by decide) sM' (hs t mt).2 dM (hs t mt).1.ne fun u pu paru su=>?_;refine hN _ _ ⟨rfl,us++[u],by rw [Qg];rfl,by rw [Mf,ul];rfl,fun v hv=>?_⟩;rcases Py.mp hv with hv | hv
  ·exact ui v hv
  ·rw [Nz.mp hv];exact ⟨pu,su⟩
 ·rintro acc h' ⟨rfl,us,rfl,ul,ui⟩;rw [Hu] at ul;exact k us ul ui
theorem HX.mono {m k:Nat}{ts:List Tr}(h:HX m ts)(hk:m<=k):HX k ts:=fun t ht=>⟨(h t ht).1,(h t ht).2.mono hk⟩
theorem HX.app {m:Nat}{as bs:List Tr}(h:HX m as)(g:HX m bs):HX m (as++bs):=fun t ht=>(Py.mp ht).elim (h t) (g t)
theorem HX.take {m k:Nat}{ts:List Tr}(h:HX m ts):HX m (ts.take k):=fun t ht=>h t (List.mem_of_mem_take ht)
theorem HX.drop {m k:Nat}{ts:List Tr}(h:HX m ts):HX m (ts.drop k):=fun t ht=>h t (List.mem_of_mem_drop ht)
def ac0 (c0:AP):Prop:=∀ {h:Gh} {ns:List Int} {mo:Int} {Q:WK} {E:Bo},0<mo->mo<=12->(∀ (n:Nat) (x y:List Tr) (h':Gh),h'.c n=Dn (.lst (x.map tw))->n<h'.nx->1<=x.length->x.length<=12->HX 120 x->1<=y.length->y.length<=12->HX 170 y->Q (.tup [.loc n,.lst (y.map tw)]) h')->c0 [.kls (ns.map .int),.int mo] h Q E
theorem aay {rs mp:AP}(hrs:Hs rs)(hdg:iY dg)(hmp:Uw mp)(hle:acX le)(hpi:Xy pi)(hch:ae0 ch):ac0 (DX rs dg mp le pi ch):=by
 intro h ns mo Q E hm0 hm1 k;obtain ⟨f0,f1⟩:=acq;unfold DX;refine eZ rfl (σ:=[Dn<|.kls<|ns.map .int,Dn<|.int mo,JI,JI,JI,JI,JI]) rfl ?_;rfl'
 refine hrs (ns:=ns) (by decide) (by decide) fun h1 r1 x1 o1=>?_;rfl'
 refine hpi r1 (by lia) hm0 hm1 fun n x h2 c2 n1 n2 l1 l2 ox r2 o2=>?_;rfl'
 refine hrs (ns:=ns) (by decide) (by decide) fun h3 r3 x3 o3=>?_;have c3:h3.c n=Dn (.lst (x.map tw)):=by rw [o3 _ (by lia)];exact c2
 rfl'
 refine Gg ⟨by decide,by decide,by decide⟩ ?_;rfl'
 refine hmp (n:=h2.nx) r3 f0 f1 (by decide) fun M h4 pM dM sM r4 o4=>?_;have c4:h4.c n=Dn (.lst (x.map tw)):=by rw [o4.2 _ (by lia)];exact c3
 refine bO (σ':=[Dn<|.kls<|ns.map .int,Dn<|.int mo,Dn<|.loc n,Dn<|mw M,JI,JI,JI]) rfl<|gR<|bw<|cC<|ZS hle rfl rfl (.inr ⟨n,rfl,c4⟩) (by lia) ox dM sM fun us ul ou=>?_
 refine bO (σ':=[Dn<|.kls<|ns.map .int,Dn<|.int mo,Dn<|.loc n,Dn<|mw M,Dn<|.lst<|us.map tw,JI,JI]) rfl<|gR ?_
 rfl'
 refine hrs (ns:=ns) (by decide) (by decide) fun h5 r5 x5 o5=>?_;have y4:n<h4.nx:=by rw [o4.1];lia
 have c5:h5.c n=Dn (.lst (x.map tw)):=by rw [o5 _ (by lia)];exact c4
 rfl'
 refine hdg (n:=h4.nx) (many:=4) r5 (by decide) (by unfold Sm;decide +kernel) fun way h6 w0 w1 r6 o6=>?_;have c6:h6.c n=Dn (.lst (x.map tw)):=by rw [o6.2 _ (by lia)];exact c5
 have x6:h6.nx=h4.nx+1:=o6.1.trans x5;have s7:∀ (y:List Tr) (g:Gh),g.c n=Dn (.lst (x.map tw))->Rs g h4.nx->n<g.nx->1<=y.length->y.length<=12->HX 170 y->sJ rs dg mp le pi ch E { nx:=fun _ h'=>Q .non h',rt:=Q } [Dn (.kls (ns.map .int)),Dn (.int mo),Dn (.loc n),Dn (mw M),Dn (.lst (y.map tw)),Dn (.loc h4.nx),Dn (.int way)] g:=by
  intro y g cg rg xg y1 y2 oy;have s8:∀ (z:List Tr) (g:Gh),g.c n=Dn (.lst (x.map tw))->n<g.nx->1<=z.length->HX 170 z->rY rs dg mp le pi ch E { nx:=fun _ h'=>Q .non h',rt:=Q } [Dn (.kls (ns.map .int)),Dn (.int mo),Dn (.loc n),Dn (mw M),Dn (.lst (z.map tw)),Dn (.loc h4.nx),Dn (.int way)] g:=by
   intro z g cg xg z1 oz;unfold rY;refine fP<|lF<|aB<|aF rfl<|aB<|yu<|aF rfl<|fj ?_
   rfl'
   refine ur (k:=12) ?_;rfl'
   exact k n x (z.take 12) g cg xg l1 l2 ox (by rw [Q8];lia) (by rw [Q8];lia) oz.take
  unfold sJ;rfl'
  refine hdg (n:=h4.nx) (many:=12) rg (by decide) (by unfold Sm;decide +kernel) fun d g2 d0 d1 rg2 og=>?_;have cg2:g2.c n=Dn (.lst (x.map tw)):=by rw [og.2 _ (by lia)];exact cg
  rfl'
  refine nH (fun _=>?_) fun _=>?_
  ·refine cC<|bL<|bL<|yu<|aF rfl ?_
   rfl'
   refine fj<|J2 (k:=1) ?_
   refine yu<|aF rfl<|fj ?_
   rfl'
   refine ur (k:=1) ?_;refine Hr (by rw [Vo,Q8];lia) ?_;refine yu<|aF rfl<|fj ?_
   rfl'
   refine ur (k:=1) ?_;refine Hr (by rw [Mf,Vo,Q8];lia) ?_;refine bO (σ':=[Dn<|.kls<|ns.map .int,Dn<|.int mo,Dn<|.loc n,Dn<|mw M,Dn<|.lst<|(y.drop 1++y.take 1++y.take 1).map tw,Dn<|.loc h4.nx,Dn<|.int way]) rfl<|gR ?_
   exact s8 _ g2 cg2 (by rw [og.1];exact xg) (by simp;lia)<|(oy.drop.app oy.take).app oy.take
  ·rfl'
   exact s8 y g2 cg2 (by rw [og.1];exact xg) y1 oy
 have s6:∀ (y:List Tr) (g:Gh),g.c n=Dn (.lst (x.map tw))->Rs g h4.nx->n<g.nx->h4.nx<g.nx->1<=y.length->y.length<=12->HX 170 y->mY rs dg mp le pi ch E { nx:=fun _ h'=>Q .non h',rt:=Q } [Dn (.kls (ns.map .int)),Dn (.int mo),Dn (.loc n),Dn (mw M),Dn (.lst (y.map tw)),Dn (.loc h4.nx),Dn (.int way)] g:=by
  intro y g cg rg xg xg4 y1 y2 oy;unfold mY;rfl'
  refine nH (fun _=>?_) fun _=>?_
  ·rfl'
   refine hpi rg xg4 hm0 hm1 fun n' z g2 cz nn1 nn2 z1 z2 oz rz og=>?_;have cg2:g2.c n=Dn (.lst (x.map tw)):=by rw [og _ (by lia) xg];exact cg
   refine bO (σ':=[Dn<|.kls<|ns.map .int,Dn<|.int mo,Dn<|.loc n,Dn<|mw M,Dn<|.loc n',Dn<|.loc h4.nx,Dn<|.int way]) rfl<|gR<|cC<|yu<|bL<|aF rfl<|aF rfl<|aa2 cz cg2 (by lia)<|fj ?_
   refine Mw<|o8<|aB<|aF rfl<|aL<|mW (.inr ⟨n,rfl,cg2⟩)<|aeX<|ur ?_
   refine bO (σ':=[Dn<|.kls<|ns.map .int,Dn<|.int mo,Dn<|.loc n,Dn<|mw M,Dn<|.lst<|((z++x).take x.length).map tw,Dn<|.loc h4.nx,Dn<|.int way]) rfl<|gR ?_
   exact s7 _ g2 cg2 rz (by lia) (by rw [Q8,Mf];lia) (by rw [Q8];lia) ((oz.mono<|by decide).app (ox.mono<|by decide)).take
  ·rfl'
   exact s7 y g cg rg xg y1 y2 oy
 rfl'
 have go:∀ g:Gh,g=h6->bx (aD ch E (aj (ao 4) (aj (ao 5) aG))) (kI 4) { nx:=mY rs dg mp le pi ch E { nx:=fun _ h'=>Q .non h',rt:=Q },rt:=Q } [Dn (.kls (ns.map .int)),Dn (.int mo),Dn (.loc n),Dn (mw M),Dn (.lst (us.map tw)),Dn (.loc h4.nx),Dn (.int way)] g:=by
  rintro g rfl;rfl'
  refine hch (m:=153) (by decide) (by decide) r6 ou (by lia) (by lia) fun vs h7 vl ov r7 o7=>?_;rfl'
  exact s6 vs h7 (by rw [o7.2 _<|by lia];exact c6) r7 (by rw [o7.1];lia) (by rw [o7.1];lia) (by lia) (by lia)<|ov.mono<|by decide
 refine nH (fun _=>?_) fun _=>?_
 ·rfl'
  exact go _ rfl
 ·rfl'
  refine nH (fun _=>?_) fun _=>?_
  ·rfl'
   exact go _ rfl
  ·rfl'
   exact s6 us h6 c6 r6 (by lia) (by lia) (by lia) (by lia)<|ou.mono<|by decide
theorem ab2 {B:Mt}{m:Nat}(m2:2<=m)(n2:2<=n)(l1:1<=x.length)(due:En x y=JI)(ox:HX m x)(oy:HX n y)(hA:Rx x A)(hB:Rx y B)(t:Thn A B M)(dM:det M≠0):Tw M x y:=by
 have hl:=(zT due).1;obtain ⟨us,iu⟩:=Tz hA.1 ox;obtain ⟨vs,iv⟩:=Tz hB.1 oy;obtain ⟨_,rfl⟩:=ago m2 n2 l1 due ox oy hA hB iu iv;exact ⟨hl,fun i hi=>ahQ hB.1 iu iv t hi (by rw [<-hl];exact hi),dM⟩
def ad5 (x y:List Tr):Prop:=¬ ((1<=x.length/\x.length<=12)/\(1<=y.length/\y.length<=12))
def ApR (c0:AP):Prop:=∀ {h:Gh} {wx wy:W} {x y:List Tr} {Q:WK} {E:Bo},dD h wx x->dD h wy y->ad5 x y->E ⟨"NoPicture",[]⟩ h->c0 [wx,wy] h Q E
theorem adR {am:AP}(hch:Ac ch):ApR (ud ch am):=by
 intro h wx wy x y Q E sx sy b e;unfold ud;refine eZ rfl (σ:=[Dn wx,Dn wy]) rfl ?_;refine bw<|gP<|aR<|aB<|aF rfl<|aL ?_
 refine hch sx (fun a1 a2=>?_) fun _=>e;refine gR<|bw<|gP<|aR<|aB<|aF rfl<|aL ?_
 exact hch sy (fun b1 b2=>absurd ⟨⟨a1,a2⟩,b1,b2⟩ b) fun _=>e
theorem adh (hch:Ac ch):ApR (yC ch):=by
 intro h wx wy x y Q E sx sy b e;unfold yC;refine eZ rfl (σ:=[Dn wx,Dn wy]) rfl ?_;refine bw<|gP<|aR<|aB<|aF rfl<|aL ?_
 refine hch sx (fun a1 a2=>?_) fun _=>e;refine gR<|bw<|gP<|aR<|aB<|aF rfl<|aL ?_
 exact hch sy (fun b1 b2=>absurd ⟨⟨a1,a2⟩,b1,b2⟩ b) fun _=>e
theorem Z2 {ap:AP}(hap:ApR ap):ApR (rN ap):=by
 intro h wx wy x y Q E sx sy b e;unfold rN;refine eZ rfl (σ:=[Dn wx,Dn wy,JI]) rfl ?_;refine bw<|cC<|aR<|aB<|aF rfl<|aB<|aF rfl<|aL ?_
 exact hap sx sy b e
def adF (c0:AP):Prop:=∀ {h:Gh} {wx wy:W} {x y:List Tr} {m n:Nat} {Q:WK} {E:Bo},2<=m->2<=n->m<=200->n<=200->JV h wx x->JV h wy y->1<=x.length->x.length<=12->1<=y.length->y.length<=12->HX m x->HX n y ->
 (En x y=JI->∀ A B M,Rx x A->Rx y B->Thn A B M->det M≠0->Ql M->Io (8*m+16*n+120) M->Q (mw M) h)->(∀ wd l,En x y=Dn (wd,l)->E ⟨"Apart",[("word",.str wd),("places",cM l)]⟩ h)->c0 [wx,wy] h Q E
theorem agv {x f g:Str}{ma:MA}{E:Bo}{D:bI}{σ : Sw}{h:Gh} (k:ma σ h fun ws h1=>match ws with
 | [w,w']=>E ⟨x,[(f,w),(g,w')]⟩ h1
 | _=>False):Dj x f g ma E D σ h:=k
theorem aaN {th ba ap:AP}(hth:aai th)(hba:Eu ba)(hle:Wa le)(hap:Gw ap):adF (yL th ba le ap):=by
 intro h wx wy x y m n Q E m2 n2 hm hn sx sy x1 x2 y1 y2 ox oy k kx;unfold yL;refine eZ rfl (σ:=[Dn wx,Dn wy,JI]) rfl ?_;rfl'
 refine hap sx.t sy.t x1 x2 y1 y2 (fun t ht=>⟨(ox t ht).1,(ox t ht).2.mono hm⟩) (fun t ht=>⟨(oy t ht).1,(oy t ht).2.mono hn⟩) ?_;cases e:En x y with
 | none=>
  show kI 2 .non _ _ _;rfl'
  refine iT ?_;rfl'
  unfold vL;rfl'
  refine hle m2 hm sx x1 x2 ox fun A hA bA=>?_;rfl'
  refine hle n2 hn sy y1 y2 oy fun B hB bB=>?_;rfl'
  refine hba (by lia) bB hB.1 fun N _ parN bN=>?_;have dN:det N≠0:=parN.det.mp (Ef hB.1);rfl'
  refine hth (by lia) bA bN hA.1 dN fun M pM parM bM=>?_;have dM:det M≠0:=parM.det.mp (by rw [zO];exact Lp dN hA.1);rfl'
  exact k e A B M hA hB ⟨N,parN,parM⟩ dM pM<|bM.mono<|by lia
 | some g=>
  obtain ⟨wd,l⟩:=g;show kI 2 (.tup [.str wd,cM l]) _ _ _;refine nV<|gR ?_
  refine bw<|jx<|dH<|bL<|aF rfl<|eU<|jd<|Jr<|vo rfl ?_
  refine agv<|aB<|bL<|aF rfl<|eU<|je (ws:=[.str wd,cM l]) (w:=.str wd) rfl rfl ?_
  refine aB<|bL<|aF rfl<|eU<|je (ws:=[.str wd,cM l]) (w:=cM l) rfl rfl<|aL ?_
  exact kx wd l e
def Tp (c:AP):Prop:=∀ {h:Gh} {n:Str} {ws:List W} {Q:WK} {E:Bo},kot n=false->kou n=false->Q (.lst ((kfl n++[true]).map .bl)) h->c [.exa n ws] h Q E
theorem zbq:Tp uc:=by
 intro h n ws Q E h1 h2 q;refine jY h1 ?_;refine jY h2 ?_;exact q
theorem aio (x:mb (fun x h'=>Ib (HI x.cls d) (mh (D.drop i) (σ.set i (Dn (yN x))) h') False) D σ h):Yb i d mb mh D σ h:=x
theorem Ms {i':Nat}{d':Str}{mh':MS}(x:mb (fun x h'=>Ib (HI x.cls d) (mh (D.drop i) (σ.set i (Dn (yN x))) h') (Ib (HI x.cls d') (mh' (D.drop i') (σ.set i' (Dn (yN x))) h') False)) D σ h):Qk i d i' d' mb mh mh' D σ h:=x
theorem Tc {f:Str}{n:Str}{v:W}(e:σ[i]?=Dn (Dn (.exa n ws)))(e2:((BJ n).zip ws).lookup f=Dn v)(k:Q v h):Hw f (ao i) σ h Q:=by
 refine aF e ?_;show (match ((BJ n).zip ws).lookup f with
  | some v=>Q v h
  | none=>False)
 rw [e2];exact k
def ToX (c0:AP):Prop:=∀ {h:Gh} {wx wy:W} {x y:List Tr} {m n:Nat} {Q:WK} {E:Bo},2<=m->2<=n->m<=200->n<=200->JV h wx x->JV h wy y->1<=x.length->x.length<=12->1<=y.length->y.length<=12->HX m x->HX n y ->
 (En x y=JI->∀ A B M,Rx x A->Rx y B->Thn A B M->det M≠0->Ql M->Io (8*m+16*n+120) M->Q (.tup [.str "map",mw M]) h)->(∀ wd l,En x y=Dn (wd,l)->Q (.tup [.str "apart",.bl true,.str wd,cM l]) h)->c0 [wx,wy] h Q E
theorem acZ {mt ki on:AP}(hmt:adF mt)(hki:Tp ki)(hon:Ak on):ToX (yH mt ki on):=by
 intro h wx wy x y m n Q E m2 n2 hm hn sx sy x1 x2 y1 y2 ox oy k kx;unfold yH;refine eZ rfl (σ:=[Dn wx,Dn wy,JI,JI]) rfl ?_;refine bw<|cC<|eU ?_
 refine nV<|gR ?_
 refine bw<|Ms<|cC<|aR<|aB<|aF rfl<|aB<|aF rfl<|aL ?_
 refine hmt m2 n2 hm hn sx sy x1 x2 y1 y2 ox oy (fun e A B M hA hB t dM pM bM=>?_) fun wd l e=>?_
 ·refine nV<|gR ?_
  unfold wG;refine fP<|lF<|aB<|eU<|aB<|aF rfl<|aL<|cV rfl ?_
  exact Jg<|k e A B M hA hB t dM pM bM
 ·refine BX rfl ?_;refine fP<|lF<|aB<|eU<|aB<|aR<|aB<|aR<|aB<|aF rfl<|aL ?_
  refine hki (n := "Apart") (ws:=[.str wd,cM l]) (by decide +kernel) (by decide +kernel)<|aB<|eU<|aL<|hon ?_
  show aj _ _ _ _ _;refine aB<|Tc (n := "Apart") (ws:=[.str wd,cM l]) (v:=.str wd) rfl (by rfl)<|aB<|Tc (n := "Apart") (ws:=[.str wd,cM l]) (v:=cM l) rfl (by rfl)<|aL<|cV rfl ?_
  exact Jg<|kx wd l e
def ToH (c0:AP):Prop:=∀ {h:Gh} {wx wy:W} {x y:List Tr} {Q:WK} {E:Bo},dD h wx x->dD h wy y->ad5 x y->Q (.tup [.str "other",.bl true]) h->c0 [wx,wy] h Q E
theorem acI {mt ki on:AP}(hmt:ApR mt)(hki:KindsOk ki)(hon:Ak on):ToH (rC mt ki on):=by
 intro h wx wy x y Q E sx sy b k;unfold rC;refine eZ rfl (σ:=[Dn wx,Dn wy,JI,JI]) rfl ?_;refine bw<|cC<|eU ?_
 refine nV<|gR ?_
 refine bw<|Ms<|cC<|aR<|aB<|aF rfl<|aB<|aF rfl<|aL ?_
 refine hmt sx sy b ?_;refine Xa rfl<|BX rfl ?_
 refine fP<|lF<|aB<|eU<|aB<|aR<|aB<|aR<|aB<|aF rfl<|aL ?_
 refine hki (n := "NoPicture") (by decide +kernel) (by decide +kernel)<|aB<|eU<|aL<|hon ?_
 show aG _ _ _;refine aL<|cV rfl ?_
 exact Jg k
def aeA (c0:AP):Prop:=∀ {h:Gh} {wx wy:W} {x y:List Tr} {Q:WK} {E:Bo},dD h wx x->dD h wy y->ad5 x y->Q (.bl true) h->c0 [wx,wy] h Q E
theorem ad4 {ap ki on to:AP}(hap:ApR ap)(hki:KindsOk ki)(hon:Ak on)(hto:ToH to):aeA (gC ap ki on to):=by
 intro h wx wy x y Q E sx sy b k;unfold gC;refine eZ rfl (σ:=[Dn wx,Dn wy,JI]) rfl ?_;refine bw<|aio<|gP<|aR<|aB<|aF rfl<|aB<|aF rfl<|aL ?_
 refine hap sx sy b ?_;refine BX rfl ?_;refine fP<|Ej<|aR<|aB<|aR<|aB<|aF rfl<|aL ?_
 refine hki (n := "NoPicture") (by decide +kernel) (by decide +kernel)<|aB<|eU<|aL<|hon ?_
 refine adz<|vo rfl ?_
 refine bL<|aR<|aB<|aF rfl<|aB<|aF rfl<|aL ?_
 refine hto sx sy b ?_;refine lF<|aB<|eU<|aB<|eU<|aL<|cV rfl ?_
 exact Jg k
theorem Gy:∀ ts:List Tr,lC (ts.map tw) (ts.map tw)=true
 | []=>rfl
 | t::ts=>by rw [Lz,lC,Gy ts,yj,decide_eq_true rfl];rfl
theorem aaI (n:Nat)(ts:List Tr):DY (n+3) (.lst (ts.map tw))=true:=by
 rw [DY,Nr];intro w hw;obtain ⟨u,_,rfl⟩:=Pz.mp hw;exact Av (n+1) u
theorem Kv (ec:h.c n=Dn (.lst (x.map tw)))(k:Q (.bl false) h):ach (.lst [.lst (x.map tw),.lst (y.map tw)]) (.lst [.loc n,.lst (y.map tw)]) h Q:=by
 have e1:qM h (.lst [.lst (x.map tw),.lst (y.map tw)])=Dn (.lst [.lst (x.map tw),.lst (y.map tw)]):=rfl;have e2:qM h (.lst [.loc n,.lst (y.map tw)])=Dn (.lst [.lst (x.map tw),.lst (y.map tw)]):=by simp [qM,vf,Cm,ec]
 have hp:DY 30 (.lst [.lst (x.map tw),.lst (y.map tw)])=true:=by
  rw [DY];simp only [Rh,List.all_nil,aaI 26,Bool.and_self]
 have he:Cj (.lst [.lst (x.map tw),.lst (y.map tw)]) (.lst [.lst (x.map tw),.lst (y.map tw)])=true:=by
  simp only [Cj,lC,Gy,Bool.and_self]
 show (match qM h (.lst [.lst (x.map tw),.lst (y.map tw)]),qM h (.lst [.loc n,.lst (y.map tw)]) with
  | some a,Dn b=>Ib (DY 30 a&&DY 30 b) (Q (.bl (!Cj a b)) h) False
  | _,_=>False)
 rw [e1,e2];show Ib (DY 30 _&&DY 30 _) _ _;rw [hp,he];exact k
theorem aix {s:Str}(k:Q (.bl false) h):Jk (.tup [.str "apart",.bl true,.str s,cM l]) (.tup [.str "apart",.bl true,.str s,cM l]) h Q:=by
 have hi:∀ l:List Nat,lC (l.map fun x:Nat=>W.int (x:Int)) (l.map fun x:Nat=>W.int (x:Int))=true:=fun l=>by
  induction l with
  | nil=>rfl
  | cons a l ih=>rw [Lz,lC,ih,Cj];simp
 have he:Cj (.tup [.str "apart",.bl true,.str s,cM l]) (.tup [.str "apart",.bl true,.str s,cM l])=true:=by
  unfold cM;simp only [Cj,lC,hi,beq_self_eq_true,Bool.and_self,Bool.and_true]
 have hp:DY 30 (.tup [.str "apart",.bl true,.str s,cM l])=true:=by simp [cM,DY]
 show Ib (DY 30 (.tup [.str "apart",.bl true,.str s,cM l])&&DY 30 (.tup [.str "apart",.bl true,.str s,cM l])) (Q (.bl (!Cj (.tup [.str "apart",.bl true,.str s,cM l]) (.tup [.str "apart",.bl true,.str s,cM l]))) h) False;rw [hp,he];exact k
theorem Yj (hle:acs le){m n0:Nat}{ix:Nat}(hx:(σ[ix]?).getD JI=Dn (.tup [.str "map",mw M]))(e:dD h w ts)(hl:ts.length<=100)(hm:m+n0+2<=8000)(hs:HX n0 ts)(dM:det M≠0)(sM':Io m M)(k:∀ us,Rz M ts us->HX (m+n0+2) us->Q (.lst (us.map tw)) h):
  iK (lcK Hz [ix] eN (aD le E (aj (Ae CR (ao 1) (mC (.int 1))) (aj (ao 0) aG))) σ Q) w h:=by
 obtain ⟨ev,s,es,ew,go⟩:=e.src;show (match qY h w with
  | some s=>_
  | none=>False)
 rw [es];show fW s.ws.length (nY s _ _ _ _ _ _ s.ws [] h);rw [ew];refine fW.mk (by rw [Hu];exact J4 hl (by decide)) ?_;refine CK (fun i acc h'=>h'=h/\∃ us:List Tr,acc=us.map tw/\us.length=i/\∀ n,n<i->n<ts.length->Im M (gt ts n) (gt us n)/\Cr (m+n0+2) (gt us n)) ?_ ?_ ?_ ⟨rfl,[],rfl,rfl,fun n hn=>by lia⟩
 ·rintro i acc h' ⟨rfl,_⟩;exact go
 ·rintro i w2 acc h' N hN e2 ⟨rfl,us,rfl,ul,ui⟩;obtain ⟨t,et,rfl⟩:=wR e2;have mt:=Q0 et;have hb:qO [ix] σ = [Dn (.tup [.str "map",mw M])]:=by
   show [(σ[ix]?).getD JI]=_;rw [hx]
  refine ⟨[tw t],rfl,?_⟩;rw [hb];refine wM<|wA<|aR<|aB<|bL<|aF rfl<|eU<|je (ws:=[.str "map",mw M]) (w:=mw M) rfl rfl<|aB<|aF rfl<|aL ?_
  refine hle hm sM' (hs t mt).2 dM (hs t mt).1.ne fun u pu paru su=>?_;refine hN _ _ ⟨rfl,us++[u],by rw [Qg];rfl,by rw [Mf,ul];rfl,fun n hn hn2=>?_⟩;rw [Yr,ul];by_cases h1:n<i
  ·rw [if_pos h1];exact ui n h1 hn2
  ·have h2:n=i:=by lia
   rw [if_neg h1,if_pos h2];have:gt ts n=t:=by
    have:=dO hn2
    rw [h2,et] at this;rw [h2];exact (JD this).symm
   rw [this];exact ⟨⟨pu,paru⟩,su⟩
 ·rintro acc h' ⟨rfl,us,rfl,ul,ui⟩;rw [Hu] at ul ui;refine k us ⟨ul,fun n hn=>(ui n hn hn).1⟩ fun t ht=>?_;obtain ⟨i,hi,e⟩:=Vt.mp ht;have:=dO hi
  rw [Jx hi,e] at this;rw [JD this];have:=ui i (by lia) (by lia)
  exact ⟨this.1.1,this.2⟩
theorem abE (k:Q (.bl false) h):qJ (.bl true) (.bl true) h Q:=k
theorem ix2 {D:Nat}{e:Int}(e0:0<=e)(e1:e<2)(hD:(D:Int)<8)(k:∀ R:Nat,R=0\/(13<=R/\R<=20)->Q (.int (R:Int)) h):CR (.lst [.int 0,.int (13+(D:Int))]) (.int e) h Q:=by
 rcases (show e=0\/e=1 by lia) with rfl | rfl
 ·exact je (ws:=[.int 0,.int<|13+(D:Int)]) (w:=.int 0) rfl rfl<|k 0<|.inl rfl
 ·have z:=k (13+D) (.inr ⟨by lia,by lia⟩);rw [show ((13+D:Nat):Int)=13+(D:Int) by lia] at z;exact je (ws:=[.int 0,.int<|13+(D:Int)]) (w:=.int (13+(D:Int))) rfl rfl z
section
variable {im ap rs ir ll tw' to np:AP}(him:Mv im)(hap:Gw ap)(hrs:Hs rs)(hdg:iY dg)(hir:Eh ir)(hll:acs ll)(htw:ac0 tw')(hto:ToX to)(hnp:aeA np)
include hrs hdg hnp
theorem aeS {s3 s4 s5:Option W}{B C:Sw->Gh->Prop}(ex:h.c n=Dn (.lst (x.map tw)))(ln:n<h.nx)(x1:1<=x.length)(x12:x.length<=12):
  Dd im ap rs dg ir ll tw' to np EF ⟨N,fun w _=>w=.bl true,B,C⟩ [Dn (.kls (ns.map .int)),Dn (.loc n),Dn (.lst (y.map tw)),s3,s4,s5,JI,JI] h:=by
 unfold Dd;refine bw<|cC<|aR<|aB<|aF rfl<|aB<|eU<|aL ?_
 refine hrs (ns:=ns) (by decide) (by decide) fun h1 r1 a1 o1=>?_;have c1:h1.c n=Dn (.lst (x.map tw)):=by rw [o1 _ (by lia)];exact ex
 have nr:n≠h.nx:=by lia
 refine nV<|gR ?_
 refine bw<|cC<|Ai<|rR<|aB<|bL<|qy<|aB<|eU<|aB<|bL<|eU<|aR<|aB<|aF rfl<|aB<|eU<|aL ?_
 refine hdg (n:=h.nx) (many:=8) r1 (by decide) (by unfold Sm;decide +kernel) fun d h2 d0 d1 r2 o2=>?_;have c2:h2.c n=Dn (.lst (x.map tw)):=by rw [o2.2 _ nr];exact c1
 obtain ⟨D,rfl⟩:=XF d0;refine Cg<|aL<|cV rfl ?_
 refine aR<|aB<|aF rfl<|aB<|eU<|aL ?_
 refine hdg (n:=h.nx) (many:=2) r2 (by decide) (by unfold Sm;decide +kernel) fun e h3 e0 e1 r3 o3=>?_;have c3:h3.c n=Dn (.lst (x.map tw)):=by rw [o3.2 _ nr];exact c2
 refine ix2 e0 e1 d1 fun R hR=>aL<|PK (by lia) ?_
 have hl:((rng 0 R).map fun x:Nat=>W.int (x:Int)).length=R:=by
  rw [Hu];unfold rng;rw [Vr];lia
 refine fW.mk (J4 (by rw [hl];lia) (by decide:1000<=Ht)) ?_;refine lE (fun i acc g=>∃ us:List Tr,acc=us.map tw/\us.length=i/\Rs g h.nx/\g.c n=Dn (.lst<|x.map tw)) ?_ ?_ ⟨[],rfl,rfl,r3,c3⟩
 ·rintro i w acc g N hN e ⟨us,rfl,hi,hr,hc⟩;refine ⟨[w],rfl,?_⟩;have e5:dD g (.loc n) x:=.inr ⟨n,rfl,hc⟩;refine wM<|wA ?_
  refine bL<|aF rfl<|aR<|aB<|aF rfl<|aB<|o8<|aB<|aF rfl<|aL<|mW e5<|aL ?_
  refine hdg (n:=h.nx) (many:=(x.length:Int)) hr (by lia) (Yx (by lia)<|by lia) fun d2 g2 d20 d21 r5 o5=>?_;have hc2:g2.c n=Dn (.lst (x.map tw)):=by rw [o5.2 _ nr];exact hc
  refine dD.ati (w:=.loc n) (.inr ⟨n,rfl,hc2⟩) d20 d21 fun t ht=>?_;exact hN _ _ ⟨us++[t],by rw [Qg];rfl,by rw [Mf,hi];rfl,r5,hc2⟩
 ·rintro acc g ⟨us,rfl,hi,hr,hc⟩;rw [hl] at hi;have sv:dD g (.lst (us.map tw)) us:=.inl rfl;have sy:dD g (.lst (y.map tw)) y:=.inl rfl;refine nV<|gR ?_
  refine fP<|Ej<|aR<|aB<|o8<|aB<|aF rfl<|aL<|wO sv ?_
  refine aB<|o8<|aB<|aF rfl<|aL<|wO sy<|aL ?_
  refine hnp sv sy (fun z=>by lia) ?_;refine adz<|vo rfl ?_
  refine aR<|aB<|o8<|aB<|aF rfl<|aL<|wO sy ?_
  refine aB<|o8<|aB<|aF rfl<|aL<|wO sv<|aL ?_
  exact hnp sy sv (fun z=>by lia)<|Jg rfl
include him hap hir hll htw hto
theorem acF (ns:List Int){h0:Gh}:Xn im ap rs dg ir ll tw' to np [.kls (ns.map .int)] h0 (fun w _=>w=.bl true) EF:=by
 unfold Xn;refine eZ rfl (σ:=[Dn<|.kls<|ns.map .int,JI,JI,JI,JI,JI,JI,JI]) rfl ?_;refine bw<|cC<|aR<|aB<|aF rfl<|aB<|eU<|aL ?_
 refine htw (by decide) (by decide) fun n x y h ex ln x1 x12 ox y1 y12 oy=>?_;have sx:JV h (.loc n) x:=.inr ⟨n,rfl,ln,ex⟩;have sy:JV h (.lst (y.map tw)) y:=.inl rfl;have sv:JV h (.lst (x.map tw)) x:=.inl rfl;refine Kw (ws:=[.loc n,.lst<|y.map tw]) rfl rfl<|CW ?_
 refine nV<|CW ?_
 refine nV<|Tn<|gR ?_
 refine bw<|cC<|qy<|aB<|o8<|aB<|aF rfl<|aL<|wO sx.t ?_
 refine aB<|o8<|aB<|aF rfl<|aL<|wO sy.t<|aL<|cV rfl ?_
 refine nV<|gR ?_
 refine bw<|cC<|aR<|aB<|bL<|aF rfl<|eU<|je (ws:=[.lst<|x.map tw,.lst<|y.map tw]) (w:=.lst (x.map tw)) rfl rfl ?_
 refine aB<|bL<|aF rfl<|eU<|je (ws:=[.lst<|x.map tw,.lst<|y.map tw]) (w:=.lst (y.map tw)) rfl rfl<|aL ?_
 refine hap sv.t sy.t x1 x12 y1 y12 (ox.mono<|by decide) (oy.mono<|by decide) ?_;refine nV<|gR ?_
 refine bw<|cC<|aR<|aB<|bL<|aF rfl<|eU<|je (ws:=[.lst<|x.map tw,.lst<|y.map tw]) (w:=.lst (x.map tw)) rfl rfl ?_
 refine aB<|bL<|aF rfl<|eU<|je (ws:=[.lst<|x.map tw,.lst<|y.map tw]) (w:=.lst (y.map tw)) rfl rfl<|aL ?_
 refine hto (m:=120) (n:=170) (by decide) (by decide) (by decide) (by decide) sv sy x1 x12 y1 y12 ox oy (fun due A B M hA hB t dM pM bM=>?_) fun wd l due=>?_
 ·refine nV<|gR ?_
  rw [due];refine bw<|jx<|dH<|bL<|aF rfl<|qy<|aB<|aF rfl<|aB<|aF rfl<|aL<|cV rfl ?_
  refine Kv ex<|Jr<|jY rfl<|oJ<|gR ?_
  unfold Dp;refine bw<|jx<|dH<|bL<|aF (w:=.non) rfl<|eU<|iT<|Jr<|jY rfl ?_
  refine bw<|jx<|Wf<|dH<|bL<|bL<|aF rfl<|eU<|je (ws:=[.str "map",mw M]) (w:=.str "map") rfl rfl<|eU ?_
  show br _ _ _;refine jY (by rfl) ?_;refine Wf<|Kz<|yV<|aR<|aB<|bL<|aF rfl<|eU<|je (ws:=[.str "map",mw M]) (w:=mw M) rfl rfl<|aB<|eU<|aL ?_
  refine hir.m (m:=3800) (by decide) bM pM ?_;refine aco rfl<|jY rfl ?_
  refine dH<|bL<|aR<|aB<|bL<|aF rfl<|eU<|je (ws:=[.str "map",mw M]) (w:=mw M) rfl rfl<|aL ?_
  refine him (m:=3800) (by decide) bM pM dM<|eU<|abE<|Jr<|jY rfl<|oJ<|gR ?_
  refine jx<|dH<|bL<|Ai<|yh<|aF rfl ?_
  refine Yj hll (ix:=5) rfl sx.t (by lia) (m:=3800) (by decide) ox dM bM fun ws iw _=>aF rfl ?_;rw [ajL (ab2 (by decide) (by decide) x1 due ox oy hA hB t dM) oy iw];refine aaC sy.t<|Jr<|jY rfl<|oJ<|gR ?_
  exact aeS hrs hdg hnp ex ln x1 x12
 ·refine nV<|gR ?_
  rw [due];refine bw<|jx<|dH<|bL<|aF rfl<|qy<|aB<|aF rfl<|aB<|aF rfl<|aL<|cV rfl ?_
  refine Kv ex<|Jr<|jY rfl<|oJ<|gR ?_
  unfold Dp;refine bw<|jx<|dH<|bL<|aF (w:=.tup [.str wd,cM l]) rfl<|eU<|jd<|Jr<|vo rfl ?_
  refine jx<|dH<|bL<|aF rfl<|lF<|aB<|eU<|aB<|eU<|aB<|bL<|aF (w:=.tup [.str wd,cM l]) rfl<|eU<|je (ws:=[.str wd,cM l]) (w:=.str wd) rfl rfl ?_
  refine aB<|bL<|aF (w:=.tup [.str wd,cM l]) rfl<|eU<|je (ws:=[.str wd,cM l]) (w:=cM l) rfl rfl<|aL<|cV rfl ?_
  refine aix<|Jr<|jY rfl<|oJ<|gR ?_
  exact aeS hrs hdg hnp ex ln x1 x12
end
theorem abD (F0 F1 F2:Addr)(ns:List Int)(_:ns.length<=63):Wk F0 F1 F2 [.kls (ns.map W.int)] g0 (fun w _=>w=.bl true) EF:=by
 have pl:uZ fB:=agz agm;have dg:iY cY:=ajD;have nb:qX jX:=ahV dg;have sp:zQ mK:=ZK nb pl;have rs:Hs qQ:=aa7 agP;have mx:acA nJ:=zbQ dg pl;have pc:Xy lR:=ajc dg sp (w_next dg sp mx);have two:ac0 Ek:=aay rs dg (aa3 nb pl aiC) (ajE pl SN) pc (zbc dg sp mx);have pp:uZ jG:=zbf (Ah Zw) KZ;have ro:vK gW:=S8;have tr:Ou cJ:=adL FZ ro;have tt:OD cU:=acL FZ ro Ug;have tu:qP qU:=ajv yc ro;have fr:Qz jW:=ahY (Oa FZ yc);have ba:Eu Fj:=aae pp Ug tu;have mb:MbG cI:=acS (ahi pp tt) ba fr (aaP pp tr tu);have ol:jM iz:=zaJ (ajT aac Ce);have ri:oh mX:=ahM;have pk:Ax iI:=zbl;have ff:G7 gw:=ajt ri pk fr;have fp:FpX F0 F1 F2 (gK F0 F1 F2):=afY ri pk YL (zbL ol) (zbk ol akh (YW (ajZ Ce) agU));have ap:Gw (pJ F0 F1 F2):=aiQ yS (afK fp (abt pk (ac3 pp tr) zG (aiw mb) ff));have jo:JoinOk M4:=ab5 (zbD pp Ce);have ut:TlX yM:=ajF zG;have le:Wa sH:=ake pk zG mb yS ff aha (akc ol jo ri pk) (acV (Z7 aac) zG mb ut (adt pp)) (adk zG mb (ab6 pp) (aho ol ut));have lld:acs pA:=Yq pl SN;have sz:JW rE:=w_size (Oa FZ yc) S8;have ip:Eh pD:=zaP aic (Ah Zw) KZ;have ko:KindsOk jL:=aiJ;have on:Ak mO:=Zm;have mt:adF (wX F0 F1 F2):=aaN (Yd pp tt) ba le ap;exact acF (aif ip sz) ap rs dg (zbh ahO pl) lld two (acZ mt zbq on) (ad4 (adR yS) ko on<|acI (Z2<|adh yS) ko on) ns
end My
namespace PySem.W.Fast
def tw3120348363481023492:=()
def tw8316019473901353154:=()
def tw12419214416822396814:=()
def tw12714629818390900528:=()
def tw10489043316644291966:=()
def tw18166267004625523141:=()
def tw17890244417128703224:=()
def tw9432006575765936761:=()
def tw11608223562327303683:=()
def tw13765721717307830385:=()
def tw18395200197618355480:=()
def tw7779463669979662970:=()
def tw14954139522262227667:=()
def tw4642350079248593762:=()
def tw6542145576789675670:=()
def tw8026337958206739714:=()
def tw9588504948342231422:=()
def tw14184172375194589287:=()
def tw9704931803897201628:=()
def tw9820245110190985426:=()
def tw17470706761038553520:=()
def tw1450681696732130986:=()
def tw2127939355275165182:=()
def tw7001078498582213909:=()
def tw989267293900507134:=()
def tw11888652348683284518:=()
def tw14339351891741453280:=()
def tw9986517262716377714:=()
def tw18368233285312753698:=()
def tw12582328585216980917:=()
def tw870484810525465860:=()
def tw10125389865347804918:=()
def tw17430168554393871316:=()
def tw13739617848900158473:=()
def tw14963748214984083303:=()
def tw16605896428357177824:=()
def tw7611075442472615537:=()
def tw17847823592131567487:=()
def tw1273419437858244656:=()
def tw18020130221920901828:=()
def tw1020455808905234754:=()
def tw15155713942107133249:=()
def tw6370997981069337790:=()
def tw16595670031751113038:=()
def tw15674238034302778697:=()
def tw9232014036262417481:=()
def tw11831161202504725008:=()
def tw7301163946951503862:=()
def tw17930528679017453827:=()
def tw8989213391208893578:=()
def tw14430205514802537645:=()
def tw14842908348869290273:=()
def tw13292322538611811722:=()
def tw9589116932717718944:=()
def tw11478945204296650757:=()
def tw12627741516691007775:=()
def tw16702176504535558896:=()
def tw17038150707134770687:=()
def tw2239146398511709488:=()
def tw5002529362759064362:=()
def tw11789823784071843378:=()
def tw1676761079478135886:=()
def tw14085223262540798961:=()
def tw13159471811740913939:=()
def tw13817791939695066889:=()
def tw6070847695254920445:=()
def tw4386249608707852751:=()
def tw1531968031108977125:=()
def tw10238246314128419164:=()
def tw16547460642731005598:=()
def tw13493600041300969489:=()
def tw18162382424712017918:=()
def tw4454599751225026769:=()
def tw4290502188855163204:=()
def tw3062104974397633188:=()
def tw13698698065837774881:=()
def tw3879571768685539902:=()
def tw16526954976352669373:=()
def tw1931581140748434719:=()
def tw6938526373331550104:=()
def tw17641368293646942943:=()
def tw15460824219593807760:=()
def tw4361657806137826504:=()
def tw8335876914871521803:=()
def tw15443518256964174652:=()
def tw14600848844043628081:=()
def tw10697979615739557603:=()
def tw7550891831420644351:=()
def tw15248679870688295488:=()
def tw14856917742820506404:=()
def tw12416024048617659002:=()
def tw13236504940244989731:=()
def tw15156620332087470768:=()
def tw1364617512447628403:=()
def tw9529655640825598314:=()
def tw5593693716669129313:=()
def tw10591927777842089669:=()
def tw12981308017342653495:=()
def tw6419268582269927228:=()
def tw1689288450903460071:=()
def tw2476989545490781944:=()
def tw5038094524391995100:=()
def tw873946657062324368:=()
def tw4760078495339174135:=()
def tw8712501083931291946:=()
def tw11453262633865455905:=()
def tw18436462280216971673:=()
def tw3855314429097985085:=()
def tw11899527931621488206:=()
def tw13816574043437644027:=()
def tw11579906369773778575:=()
def tw659598865214662667:=()
def tw6173224475459073445:=()
def tw944175873638781107:=()
def tw12213279630875131405:=()
def tw8491353761061052366:=()
def tw4924116527564584305:=()
def tw359456398038377609:=()
def tw1767203460099592844:=()
def tw293859159047684493:=()
def tw9627949156914290124:=()
def tw14402689984302787809:=()
def tw5236831012122922317:=()
def tw17694516332166442991:=()
def tw8310989661862322807:=()
def tw17301172148257192248:=()
def tw11587663518097196528:=()
def tw8947485272287614285:=()
def tw13174412676680527430:=()
def tw16226932019334823739:=()
def tw13270569987862784329:=()
def tw17652751654942319621:=()
def tw14260142488926960850:=()
def tw5525179646256215757:=()
def tw9356126769026718958:=()
def tw17157772181491912621:=()
def tw8752264092622533502:=()
def tw9392908578558407445:=()
def tw6373571374345203109:=()
def tw9595199648079796019:=()
def tw17494604452989090209:=()
def tw14991615163714164261:=()
def tw5253765031087373254:=()
def tw3733697815859844880:=()
def tw9829655722051125322:=()
def tw8523041636938147148:=()
def tw1232587533652933541:=()
def tw12545881033850783102:=()
def tw4659562242959922487:=()
def tw5865095191786013534:=()
def tw2405162282020865811:=()
def tw11014674552111792603:=()
def tw2597720523324363770:=()
def tw9364239795859414627:=()
def tw16911796333551515838:=()
def tw14197386785628674466:=()
def tw13214282796911111852:=()
def tw16915543603760847158:=()
def tw1050698022659757582:=()
def tw13736793634897807147:=()
def tw413784340277357725:=()
def tw13581964629908466138:=()
def tw17972520804960938921:=()
def tw6078478720075831897:=()
def tw12923146271725106776:=()
def tw17242919517805211515:=()
def tw4623803942341079030:=()
def tw15558743330904824118:=()
def tw11184934200489327298:=()
def tw18382757069434876493:=()
def tw4656921138552758866:=()
def tw17629364680185848901:=()
def tw4715634421349241414:=()
def tw7861150180726266429:=()
def tw5703614900540993396:=()
def tw8089806745175178665:=()
def tw1934565777907290955:=()
def tw7582188623786084016:=()
def tw16734999845202398294:=()
def tw14119129829496726501:=()
def tw17338141082412596619:=()
def tw15526830052408124031:=()
def tw10840901344326990565:=()
def tw1256441163092546095:=()
def tw13474096605387656083:=()
def tw13577575382039845504:=()
def tw5071553206663926021:=()
def tw16507839708076366759:=()
def tw2264093063224203268:=()
def tw2194714834633963970:=()
def tw7407156912406494343:=()
def tw8271693984605692405:=()
def tw11766822419231182834:=()
def tw12175803194063782110:=()
def tw7565749421772621220:=()
def tw15731725826690769838:=()
def tw8027481120270560401:=()
def tw3295551999775130556:=()
def tw17014066455898267661:=()
def tw13052823264091966669:=()
def tw8782476783482123580:=()
def tw2457311551392120661:=()
def tw728438824134164192:=()
def tw11347589876279775331:=()
def tw1851371663164506799:=()
def tw17800440321243868673:=()
def tw11483190287464996769:=()
def tw9820638696999721050:=()
def tw8973474779783402206:=()
def tw12151142713887315923:=()
def tw8199115190541093673:=()
def tw899634359221116488:=()
def tw11879670374469402144:=()
def tw8068197640919128537:=()
end PySem.W.Fast
open PySem PySem.W PyProof.Rows
theorem PySem.Challenge.cw_easelroom_k25_maps_between_pictures_holds : PySem.Challenge.rw_easelroom_k25_maps_between_pictures.Holds := by
 w_on;o_law;k_head;(case hw=>w_witness2)
 k_fill
 refine My.walk (l:=PySem.Challenge.rw_easelroom_k25_maps_between_pictures) rfl rfl (fun w h Y=>PySem.W.kIn_of Y) ?F
 case F=>
  intro w mg fa h KX G hmg;refine' My.all_mk My.abD KX G hmg ?h0 ?h1 ?h2 ?h3 ?h4 ?h5 ?h6 ?h7 ?h8 ?h9 ?h10 ?h11 ?h12 ?h13 ?h14 ?h15 ?h16 ?h17 ?h18 ?h19 ?h20 ?h21 ?h22 ?h23 ?h24 ?h25 ?h26 ?h27 ?h28 ?h29 ?h30 ?h31 ?h32 ?h33 ?h34 ?h35 ?h36 ?h37 ?h38 ?h39 ?h40 ?h41 ?h42 ?h43 ?h44 ?h45 ?h46 ?h47 ?h48 ?h49 ?h50 ?h51 ?h52 ?h53 ?h54 ?h55 ?h56 ?h57 ?h58 ?h59 ?h60 ?h61 ?h62 ?h63 ?h64 ?h65 ?h66 ?h67 ?h68 ?h69 ?h70 ?h71 ?h72 ?h73 ?h74 ?z_ValueError ?z_abs ?z_all ?z_any ?z_bool ?z_int ?z_isinstance ?z_len ?z_list ?z_max ?z_min ?z_range ?z_reversed ?z_sum ?z_tuple ?z_zip ?gk_TILES ?lk_TILES ?lk_TILES_0 ?lk_TILES_1 ?lk_TILES_2 ?lk_TILES_3 ?gx_EaselError ?xd_EaselError ?gx_Nothing ?xd_Nothing ?gx_Alike ?xd_Alike ?gx_NoMap ?xd_NoMap ?gx_NotFree ?xd_NotFree ?gx_NotOnLine ?xd_NotOnLine ?gx_NoThrow ?xd_NoThrow ?gx_NoPicture ?xd_NoPicture ?xc_NoPicture ?xq_NoPicture ?gx_Apart ?xd_Apart ?gx_Stuck ?xd_Stuck ?gx_NotOnEdge ?xd_NotOnEdge ?gx_NoPart ?xd_NoPart ?gx_FourOnLine ?xd_FourOnLine ?gx_ThreeOnLine ?xd_ThreeOnLine ?gx_Knot ?xd_Knot ?gx_NotRound ?xd_NotRound ?gx_NotOn ?xd_NotOn ?gx_InCurve ?xd_InCurve ?gx_TooMuch ?xd_TooMuch ?gx_Tied ?xd_Tied ?gx_NoText ?xd_NoText ?gx_NoName ?xd_NoName ?gx_Short ?xd_Short ?ai_Apart ?li_Apart ?ci_Apart ?ki_Apart ?xi_Apart ?xf_Apart ?xa_Apart ?xs_Apart ?xs2_Apart
  (case h0 | h1 | h2 | h3 | h4 | h5 | h6 | h7 | h8 | h9 | h10 | h11 | h12 | h13 | h14=>(apply My.La <;> k_is))
  (case h15 | h16 | h17 | h18 | h19 | h20 | h21 | h22 | h23 | h24 | h25 | h26 | h27 | h28 | h29=>(apply My.La <;> k_is))
  (case h30 | h31 | h32 | h33 | h34 | h35 | h36 | h37 | h38 | h39 | h40 | h41 | h42 | h43 | h44=>(apply My.La <;> k_is))
  (case h45 | h46 | h47 | h48 | h49 | h50 | h51 | h52 | h53 | h54 | h55 | h56 | h57 | h58 | h59=>(apply My.La <;> k_is))
  (case h60 | h61 | h62 | h63 | h64 | h65 | h66 | h67 | h68 | h69 | h70 | h71 | h72 | h73 | h74=>(apply My.La <;> k_is))
  (case z_ValueError | z_abs | z_all | z_any | z_bool | z_int | z_isinstance | z_len | z_list | z_max | z_min | z_range | z_reversed | z_sum | z_tuple | z_zip | gk_TILES | lk_TILES | lk_TILES_0 | lk_TILES_1 | lk_TILES_2 | lk_TILES_3=>k_is)
  (case gx_EaselError | gx_Nothing | gx_Alike | gx_NoMap | gx_NotFree | gx_NotOnLine | gx_NoThrow | gx_NoPicture | gx_Apart | gx_Stuck | gx_NotOnEdge | gx_NoPart | gx_FourOnLine | gx_ThreeOnLine | gx_Knot | gx_NotRound | gx_NotOn | gx_InCurve | gx_TooMuch | gx_Tied | gx_NoText | gx_NoName | gx_Short | ai_Apart | li_Apart | ci_Apart | ki_Apart=>k_is)
  (case xd_EaselError | xd_Nothing | xd_Alike | xd_NoMap | xd_NotFree | xd_NotOnLine | xd_NoThrow | xd_NoPicture | xc_NoPicture | xd_Apart | xd_Stuck | xd_NotOnEdge | xd_NoPart | xd_FourOnLine | xd_ThreeOnLine | xd_Knot | xd_NotRound | xd_NotOn | xd_InCurve | xd_TooMuch | xd_Tied | xd_NoText | xd_NoName | xd_Short | xi_Apart | xf_Apart | xa_Apart | xs_Apart | xs2_Apart=>kernel_rfl)
  (case xq_NoPicture=>k_exc)
