import PyProof.Rows.All
import Wide.All
import OpenK.AllK
import Wide.FinOn
import Lean
import PyProof.EqAt
import PyProof.EqKinds
import PyProof.TupleCall
import PySem.Challenge.RW_easelroom_k71_raws_at_numbers
set_option Elab.async false
set_option linter.all false
set_option maxRecDepth 100000
set_option maxHeartbeats 0
local macro_rules | `(tactic| lia) => `(tactic| first | lia (splits := 9) | omega)
open Option renaming some→FN,none→FX
open PySem renaming wpAny_bind→Ao,Value→Mk,Shared→Ai,wpAny_pure→Ba,Spec→acn,Program→DI,model→Ax,starEach→Dh,wpAny→Ay,sizeLine→Dp,Around→DW,Builtin→Qt,mainGlobals→IV,NameKind→Jq,wpAny_newObj_type→M8,World→Bw,cellsFrom→JF,wpAny_holding→NK,wpAny_callSpecial?_slot→TK,compareOp→Jb,mem_of_lookup→Ri,boot_len→Ou,assignEach→Jy,wpAny_field→Kc,wpAny_mono→KN,wpAny_call_entry→Qk,Paired→Jm,sysModules→Kv,wpAny_rule→Np,binaryOp→Jw,PassesOwn→aeG,FuncData→Kw,wpAny_typeOf→Q5,foldedSetIterable→U8,backTo→J9,wpAny_seqItems→T7,codeAny_builtin→Tc,bootBuiltins→RN,wpAny_typeNameOfWhole_keyiter→WT,cLine→Gf,wpAny_setField_rec→V8,wpAny_Call_Name_kw→V7,DictEntry→Py,behindInMarks→Td,SetTable→Wm,wpAny_typeNameOf_keyiter→Wh,wpAny_ite_split→V2,plainId_quiet→Ue,Keyword→O7,firstArgMember→Uw,wpAny_attempt→Uu,wpAny_passesOwn→Vp,sliceBounds→Uh,keywordEach→Ug,codeAny→Pb,pyNext→Ni,IsPair→Nh,sizeLine_eq→V3,rawInt→Ol,intKind→RL
open PySem.W renaming Frag→Az,mg_none_of→OD,nsIn→Jp,keepIn→Rb,findIn→Ra,fnOf→Te,mg_of→Ul,codeIn→Vd
open List renaming length_map→Bx,map_cons→Bu,getElem?_eq_getElem→Gz,getElem?_map→Fv,mem_cons_of_mem→IK,map_append→Gp,size_toArray→Io,getElem?_eq_some_iff→K5,mem_cons→G7,replicate→Gs,length_append→JG,length_cons→Iw,mem_cons_self→JW,mem_map→GX,mem_of_getElem?→K4,getD_eq_getElem?_getD→Nt,mem_singleton→Jr,getElem?_append_right→OJ,getElem?_append_left→Ow,take_length→K3,lookup_cons→KD,eq_nil_of_length_eq_zero→Ql,take_succ→Ji,mem_append→Jx,map_map→JV,mem_append_right→Q7,map_nil→Jo,cons_lt_cons_iff→Qs,append_assoc→Ph,find?_cons→Ov,mem_append_left→Rj,replicate_succ→Rg,not_mem_nil→QJ,length_take→QC,all_eq_true→QB,drop_eq_getElem_cons→Us,pairwise_cons→T5,nodup_cons→Qj,pairwise_append→Tw,take_of_length_le→Ur,pairwise_map→T3,zip_cons_cons→Tg,any_eq_true→Sy,flatten_cons→U9,map_congr_left→Ut,length→Pg,append_nil→T9,range→Oo,getElem_mem→U7,pairwise_iff_getElem→Vz,mem_of_mem_take→VP,all_cons→Sq,filter_cons→Uj,length_range'→V9,mem_iff_getElem→Vr,lt_irrefl→Uo,extract_eq_drop_take→Wn,cons_append→VJ,nil_append→VD,getElem?_replicate→Wk,Pairwise→afQ,reverse_cons→Vw,take_append_drop→WM,length_singleton→WL,any_cons→Uv,length_nil→Vg,forIn_cons→Vf,forIn_nil→Vq
open PySem.Heap renaming get?_push_of_some→Eo,lt_size→Ej,get?_push_size→Ip,get?_update_other→TJ,size_push→Qh,SameBut→Tj,get?_update_self→VR,DictOfH→Ud,get?_none_of_le→W8,ExtBut→V4
open Nat renaming le_refl→Bp,le_trans→CW,lt_of_lt_of_le→FJ,ne_of_lt→G3,zero_le→Ja,lt_of_le_of_lt→Ot,lt_of_le_of_ne→Pj,le_of_lt→KQ,ne_of_gt→Ky,lt_irrefl→O9,pow_add→Oq,eq_zero_of_not_pos→Va,le_succ→Qe,beq→KJ,le_of_ble_eq_true→Vt,eq_of_beq_eq_true→Vs,pow_le_pow_right→Vy,le_add_right→VG,pow_pos→Sv,sub_le→S9,lt_trans→Uc,add_comm→Ua,mul_le_mul_right→W7,mul_le_mul→Vm,ble→Pu,add_le_add→Vk
open Option.some renaming inj→Eu
open PyProof.Rows renaming wpS_pure→CR,wpS_bind→CK,SortSt→DP,Keyed→Bo,arrOf→Bk,pendingOf→Iu,slot_tuple_getitem→Vc,boot_tuple→Jz,wpS_forRange→Nk,callWith_type1→VL,kindOf→JN,wpS_mono→M7,SortKind→SX,setArr→Jf,wpS_modify→RP,boot_isinstance→Uz,IntsAre→O6,pairsOf→Oj,seqObj→La,wpS_get→QX,AllBare→RK
open Bool renaming false_ne_true→KY,and_eq_true→Nr,false_eq_true→Qp,not_eq_true→VH,eq_iff_iff→VB
open PySem.Builtin.SmallTypes renaming nextOf→Rf,ownedTupleIsFree→Wo
open PySem.SeqAt renaming EqAt→TF,ne_of_list_tuple→Wf
open Lean renaming maxHeartbeats→adv
open PySem.PassesOwn renaming never→Nq
open PySem.Builtin.Tuple renaming tupleExact→UJ
open Array renaming getElem?_eq_getElem→UG,toList_append→Rh,getElem?_toList→Tz,length_toList→Tp,toList_extract→W9
open Ne renaming symm→Im
open List.cons renaming inj→Pz
open Int renaming emod_lt_of_pos→Tf,natAbs_mul→T8,emod_nonneg→U4,mul_le_mul_of_nonneg_right→Wb,mul_comm→SM,toNat_natCast→V6,eq_ofNat_of_zero_le→Wj
open PySem.Around renaming under_plainId→Uq
open PySem.F renaming slot_dict_keyiterator_next→W5,slot_tuple_iterator_next→Wr,slot_zip_next→Wd,slot_dict_get→Wc
open Decidable renaming byContradiction→W3
open PySem.Builtin.List renaming listExtendWith→Wa
open Option renaming map_eq_some_iff→Vu
open PySem.Builtin.Slice renaming slicePlaces→WW
open PySem.Str renaming ofString→SQ
open False renaming elim→Qa
open PySem.SetTable renaming bits→Um
open PySem.Obj renaming data_mapFields→Vx,mapSeq→SJ
open PySem.Heap.SameBut renaming update→WR
open Function renaming comp→Uy
open PySem.Paired renaming length→Ux
namespace L2
open PySem PySem.Spec PyProof.Rows
abbrev Key:=Sum Int Str
def Bg:Key->Mk->Bool
 | .inl k,v=>Value.isInt k v
 | .inr x,v=>Value.isStrOf x v
def aa6 (w:Bw):Key->Int
 | .inl k=>hashInt k
 | .inr x=>hashStr w x
theorem bU:∀ {k:Key} {v:Mk},Bg k v=true->(∃ i t,k=Sum.inl i/\v=Value.int i t)\/(∃ x t,k=Sum.inr x/\v=Value.str x t)
 | .inl i,v,h=>by
  obtain ⟨t,e⟩:=Value.isInt_shape (k:=i) (v:=v) h;exact .inl ⟨i,t,rfl,e⟩
 | .inr x,v,h=>by
  obtain ⟨t,e⟩:=Value.isStrOf_shape (x:=x) (v:=v) h;exact .inr ⟨x,t,rfl,e⟩
theorem zaF (i:Int)(t:Tok):Bg (.inl i) (.int i t)=true:=by simp [Bg,Value.isInt]
theorem zaM (x:Str)(t:Tok):Bg (.inr x) (.str x t)=true:=by simp [Bg,Value.isStrOf]
theorem Xb (a b:Int):decide ((Sum.inl a:Key)=Sum.inl b)=(a==b):=by
 by_cases e:a=b
 ·subst e;simp
 ·have h:¬ (Sum.inl a:Key)=Sum.inl b:=fun q=>e (Sum.inl.inj q)
  rw [decide_eq_false h];exact (beq_eq_false_iff_ne.mpr e).symm
theorem afL (a b:Str):decide ((Sum.inr a:Key)=Sum.inr b)=decide (a=b):=by
 by_cases e:a=b
 ·subst e;simp
 ·have h:¬ (Sum.inr a:Key)=Sum.inr b:=fun q=>e (Sum.inr.inj q)
  rw [decide_eq_false h,decide_eq_false e]
theorem agN (a:Int)(b:Str):decide ((Sum.inl a:Key)=Sum.inr b)=false:=decide_eq_false (fun q=>nomatch q)
theorem adM (a:Str)(b:Int):decide ((Sum.inr a:Key)=Sum.inl b)=false:=decide_eq_false (fun q=>nomatch q)
def dM (prog:DI)(w:Bw):PySem.KeyKind prog w Key where
 is:=Bg
 hash:=aa6 w
 inj:=fun v a b ha hb=>by
  rcases bU ha with ⟨i,t,rfl,rfl⟩ | ⟨x,t,rfl,rfl⟩
  ·rcases bU hb with ⟨j,u,rfl,e⟩ | ⟨y,u,rfl,e⟩
   ·injection e with e1 _;rw [e1]
   ·exact nomatch e
  ·rcases bU hb with ⟨j,u,rfl,e⟩ | ⟨y,u,rfl,e⟩
   ·exact nomatch e
   ·injection e with e1 _;rw [e1]
 byValue:=fun k v h=>by
  rcases bU h with ⟨i,t,rfl,rfl⟩ | ⟨x,t,rfl,rfl⟩ <;> rfl
 pyHash:=fun hv h=>by
  rcases bU hv with ⟨i,t,rfl,rfl⟩ | ⟨x,t,rfl,rfl⟩
  ·exact wpAny_pyHash_int h
  ·exact wpAny_pyHash_str h
 eqBool:=fun hu hv h=>by
  rcases bU hu with ⟨i,t,rfl,rfl⟩ | ⟨x,t,rfl,rfl⟩
  ·rcases bU hv with ⟨j,u,rfl,rfl⟩ | ⟨y,u,rfl,rfl⟩
   ·rw [Xb] at h;exact wpAny_eqBool_int h
   ·rw [agN] at h;exact SeqAt.EqAt.int_str i t y u _ _ _ _ h
  ·rcases bU hv with ⟨j,u,rfl,rfl⟩ | ⟨y,u,rfl,rfl⟩
   ·rw [adM] at h;exact SeqAt.EqAt.str_int x t j u _ _ _ _ h
   ·rw [afL] at h;exact wpAny_eqBool_str h
 «strs»:=fun k x t v h=>by
  rcases bU h with ⟨i,u,rfl,e⟩ | ⟨y,u,rfl,e⟩
  ·exact nomatch e
  ·injection e with e1 _
   subst e1;cases v <;> rfl
theorem wR (prog:DI)(w:Bw)(i:Int)(t:Tok):(dM prog w).is (.inl i) (.int i t)=true:=zaF i t
theorem xY (prog:DI)(w:Bw)(x:Str)(t:Tok):(dM prog w).is (.inr x) (.str x t)=true:=zaM x t
inductive V where
 | non | bl (b:Bool) | int (i:Int) | str (x:Str) | byt (b:Array UInt8) | flt (b:UInt64) | ref (a:Addr) | ty (n:String)
 deriving DecidableEq
def BX:V->Mk->Prop
 | .non,u=>u=Value.none
 | .bl b,u=>u=Value.bool b
 | .int i,u=>∃ t,u=Value.int i t
 | .str x,u=>∃ t,u=Value.str x t
 | .byt b,u=>∃ t,u=Value.bytes b t
 | .flt b,u=>∃ t,u=Value.float b t
 | .ref a,u=>u=Value.ref a
 | .ty n,u=>u=Value.type n
abbrev Aw:List V->List Mk->Prop:=Jm BX
variable {xs : List V}{us : List Mk}
theorem Aw.length {xs:List V}{us:List Mk}(r:Aw xs us):xs.length=us.length:=Ux r
theorem Aw.get:∀ {xs:List V} {us:List Mk} {i:Nat} {x:V},Aw xs us->xs[i]?=FN x->∃ u,us[i]?=FN u/\BX x u
 | _,_,_,_,.nil,e=>by simp at e
 | _,_,0,_,.cons r _,e=>by simp at e;subst e;exact ⟨_,rfl,r⟩
 | _,_,i+1,x,.cons _ t,e=>by
  obtain ⟨u,h1,h2⟩:=Aw.get (i:=i) (x:=x) t (by simpa using e);exact ⟨u,by simpa using h1,h2⟩
variable {u : Mk}
theorem Aw.set {x:V}{u:Mk}(r:BX x u):∀ {xs:List V} {us:List Mk} (i:Nat),Aw xs us->Aw (xs.set i x) (us.set i u)
 | _,_,_,.nil=>.nil
 | _,_,0,.cons _ t=>.cons r t
 | _,_,i+1,.cons q t=>.cons q (Aw.set r i t)
theorem Aw.append:∀ {xs ys:List V} {us ws:List Mk},Aw xs us->Aw ys ws->Aw (xs++ys) (us++ws)
 | _,_,_,_,.nil,s=>s
 | _,_,_,_,.cons r t,s=>.cons r (Aw.append t s)
theorem Aw.take:∀ {xs:List V} {us:List Mk} (n:Nat),Aw xs us->Aw (xs.take n) (us.take n)
 | _,_,0,_=>.nil
 | _,_,_+1,.nil=>.nil
 | _,_,n+1,.cons r t=>.cons r (Aw.take n t)
theorem Aw.drop:∀ {xs:List V} {us:List Mk} (n:Nat),Aw xs us->Aw (xs.drop n) (us.drop n)
 | _,_,0,r=>r
 | _,_,_+1,.nil=>.nil
 | _,_,n+1,.cons _ t=>Aw.drop n t
def JM:Option V->Option Mk->Prop
 | some v,FN u=>BX v u
 | none,FX=>True
 | _,_=>False
variable {κ : Type}
def KV:List (κ×V)->List (κ×Mk)->Prop:=Jm fun (p:κ×V) (q:κ×Mk)=>p.1=q.1/\BX p.2 q.2
def kV:Key->V
 | .inl i=>.int i
 | .inr x=>.str x
inductive HO where
 | lst (xs:List V)
 | tup (xs:List V)
 | dK (kvs:List (Key×V)) | dT (kvs:List (List Key×V))
 | set (S:Int->Bool) (n:Nat)
 | ins (C dx:Addr) (fs:List (Str×V))
 | own (x:Addr)
 | xd (fs:List (Str×V))
 | met (f x:Addr)
 | rng (lo hi:Int)
 | frz (o:Obj) (u:HO)
 | tbl (ps:Array Mk)
 | ext (φ : Heap->Prop)
abbrev Hp:=Addr->Option HO
def Dd (H:Hp)(a:Addr)(o:HO):Hp:=fun b=>if b=a then FN o else H b
variable {H : Hp}
theorem bA {a:Addr}{o:HO}:Dd H a o a=FN o:=by unfold Dd;rw [if_pos rfl]
theorem aR {a b:Addr}{o:HO}(h:b≠a):Dd H a o b=H b:=by unfold Dd;rw [if_neg h]
theorem aV {a b:Addr}{o:HO}(h:H a=FN o)(h':H b=FX):a≠b:=by
 intro e;subst e;rw [h] at h';cases h'
section
variable (P:DI)(w:Bw)
def Fq (h:Heap)(a:Addr)(items:Array Mk):Prop:=∃ o,h.get? a=FN o/\o.cls=.type "tuple"/\(∃ n,o.data=.seq items n)/\o.dict=FX
theorem Fq.tup {h:Heap}{a:Addr}{items:Array Mk}(x:Fq h a items):IsTup h a items:=let ⟨o,ho,hc,hd,_⟩:=x;⟨o,ho,hc,hd⟩
theorem Fq.new (h:Heap)(items:Array Mk):Fq (h.push { cls:=.type "tuple",data:=.seq items }) h.objs.size items:=⟨_,Ip _ rfl,rfl,⟨_,rfl⟩,rfl⟩
def d9 (H:Hp)(h:Heap)(a:Addr):HO->Prop
 | .lst xs=>xs.length<=Dp/\∃ (its:List Mk) (n:Nat),Aw xs its/\h.get? a=FN { cls:=.type "list",data:=.seq its.toArray n }
 | .tup xs=>xs.length<=Dp/\∃ its:List Mk,Aw xs its/\Fq h a its.toArray
 | .dK kvs=>kvs.length<=Dp/\(a==Kv)=false/\∃ vs,KV kvs vs/\h.DictOf (dM P w) a vs
 | .dT kvs=>kvs.length<=Dp/\(a==Kv)=false/\∃ xs:List (List Key×Addr×Mk),
   Jm (fun (p:List Key×V) (q:List Key×Addr×Mk)=>p.1=q.1/\H q.2.1=FN (.tup (p.1.map kV))/\BX p.2 q.2.2) kvs xs /\
   ∃ o es ep,h.get? a=FN o/\o.ExactDict/\o.data=.dict es ep/\es.toList=xs.map (entryOfKey (tupleKind (dM P w)))/\(xs.map (·.1)).Nodup
 | .set S n=>h.SetOf (RL P w) a S n
 | .ins C dx fs=>H dx=FN (.own a)/\fs.length<=1000/\dx≠a/\h.get? a=FN (PySem.W.instObj C dx) /\
   ∃ mA,h.Ns1 dx mA/\(∀ f,JM (fs.lookup f) (mA f))/\PySem.Within mA (fs.map (·.1))
 | .own _=>∃ o,h.get? a=FN o
 | .xd fs=>∃ mA,h.Ns1 a mA/\∀ f,JM (fs.lookup f) (mA f)
 | .rng lo hi=>∃ t u v,h.get? a=FN { cls:=.type "range",data:=.fields #[.int lo t,.int hi u,.int 1 v] }
 | .frz o u=>h.get? a=FN o/\d9 H h a u
 | .tbl ps=>h.get? a=FN { cls:=.none,data:=.fields ps }
 | .met f x=>h.get? a=FN (PySem.W.methodObj (.ref f) (.ref x))
 | .ext φ=>φ h/\(∃ o,h.get? a=FN o)/\∀ h1 h2:Heap,φ h1->(∀ o,h1.get? a=FN o->h2.get? a=FN o)->φ h2
def JH (H:Hp)(h:Heap):Prop:=∀ a o,H a=FN o->d9 P w H h a o
end
variable {h : Heap}
section
variable {P:DI}{w:Bw}{H':Hp}{h':Heap}{a:Addr}{o:HO}
theorem d9.lt (x:d9 P w H h a o):a<h.objs.size:=by
 cases o with
 | lst xs=>obtain ⟨_,_,_,_,e⟩:=x;exact Ej e
 | tup xs=>obtain ⟨_,_,_,p⟩:=x;exact p.tup.lt
 | dK kvs=>obtain ⟨_,_,_,_,o,_,_,e,_⟩:=x;exact Ej e
 | dT kvs=>obtain ⟨_,_,_,_,o,_,_,e,_⟩:=x;exact Ej e
 | set S n=>obtain ⟨o,_,_,_,e,_⟩:=x;exact Ej e
 | ins C dx fs=>obtain ⟨_,_,_,e,_⟩:=x;exact Ej e
 | own y=>obtain ⟨_,e⟩:=x;exact Ej e
 | xd fs=>obtain ⟨_,⟨_,_,_,e,_⟩,_⟩:=x;exact Ej e
 | rng lo hi=>obtain ⟨_,_,_,e⟩:=x;exact Ej e
 | frz ob u=>obtain ⟨e,_⟩:=x;exact Ej e
 | tbl ps=>exact Ej (show h.get? a=FN _ from x)
 | met f y=>exact Ej (show h.get? a=FN _ from x)
 | ext φ=>obtain ⟨_,⟨_,e⟩,_⟩:=x;exact Ej e
theorem Paired.mapP {α β : Type}{F G:α->β->Prop}:∀ {l₁ : List α} {l₂ : List β},Jm F l₁ l₂->(∀ a b,F a b->G a b)->Jm G l₁ l₂
 | _,_,.nil,_=>.nil
 | _,_,.cons r t,f=>.cons (f _ _ r) (Paired.mapP t f)
theorem d9.stay (x:d9 P w H h a o)(k:∀ b u,(b=a\/H b=FN (.own a))->h.get? b=FN u->h'.get? b=FN u)
  (ho:∀ b,H b=FN (.own a)->H' b=FN (.own a)) (ht:∀ b xs,H b=FN (.tup xs)->H' b=FN (.tup xs)):d9 P w H' h' a o:=by
 induction o with
 | lst xs=>obtain ⟨z,its,n,r,e⟩:=x;exact ⟨z,its,n,r,k _ _ (.inl rfl) e⟩
 | tup xs=>obtain ⟨z,its,r,ob,e,c⟩:=x;exact ⟨z,its,r,ob,k _ _ (.inl rfl) e,c⟩
 | dK kvs=>obtain ⟨z,y,vs,r,ob,es,ep,e,c⟩:=x;exact ⟨z,y,vs,r,ob,es,ep,k _ _ (.inl rfl) e,c⟩
 | dT kvs=>
  obtain ⟨z,y,xs,r,ob,es,ep,e,c⟩:=x;exact ⟨z,y,xs,Paired.mapP r fun p q z=>⟨z.1,ht _ _ z.2.1,z.2.2⟩,ob,es,ep,k _ _ (.inl rfl) e,c⟩
 | set S n=>obtain ⟨ob,es,ep,t,e,c⟩:=x;exact ⟨ob,es,ep,t,k _ _ (.inl rfl) e,c⟩
 | ins C dx fs=>
  obtain ⟨d,z,ne,e,mA,⟨od,es,ep,e2,c⟩,r⟩:=x;exact ⟨ho _ d,z,ne,k _ _ (.inl rfl) e,mA,⟨od,es,ep,k _ _ (.inr d) e2,c⟩,r⟩
 | own y=>obtain ⟨ob,e⟩:=x;exact ⟨ob,k _ _ (.inl rfl) e⟩
 | xd fs=>obtain ⟨mA,⟨od,es,ep,e,c⟩,r⟩:=x;exact ⟨mA,⟨od,es,ep,k _ _ (.inl rfl) e,c⟩,r⟩
 | rng lo hi=>obtain ⟨t,u,v,e⟩:=x;exact ⟨t,u,v,k _ _ (.inl rfl) e⟩
 | frz ob u ih=>obtain ⟨e,q⟩:=x;exact ⟨k _ _ (.inl rfl) e,ih q⟩
 | tbl ps=>
  have e:h.get? a=FN { cls:=.none,data:=.fields ps }:=x;show h'.get? a=FN { cls:=.none,data:=.fields ps };exact k a _ (.inl rfl) e
 | met f y=>
  have e:h.get? a=FN (PySem.W.methodObj (.ref f) (.ref y)):=x;show h'.get? a=FN (PySem.W.methodObj (.ref f) (.ref y));exact k a _ (.inl rfl) e
 | ext φ=>obtain ⟨p,⟨o,e⟩,st⟩:=x;exact ⟨st _ _ p fun o q=>k _ _ (.inl rfl) q,⟨o,k _ _ (.inl rfl) e⟩,st⟩
theorem JH.lt (x:JH P w H h)(e:H a=FN o):a<h.objs.size:=(x a o e).lt
theorem JH.fresh (x:JH P w H h)(e:h.objs.size<=a):H a=FX:=by
 cases q:H a with
 | none=>rfl
 | some u=>exact absurd (FJ (x.lt q) e) (O9 _)
theorem JH.kept (x:JH P w H h)(k:∀ b u,h.get? b=FN u->h'.get? b=FN u):JH P w H h':=fun a o e=>
 (x a o e).stay (fun b u _ q=>k b u q) (fun _ q=>q) fun _ _ q=>q
theorem JH.laid (x:JH P w H h)(k:∀ b u,h.get? b=FN u->h'.get? b=FN u)(hp:h.objs.size<=a)(new:d9 P w (Dd H a o) h' a o):JH P w (Dd H a o) h':=fun b u e=>by
 have hn:=x.fresh hp;by_cases hb:b=a
 ·subst hb;rw [bA] at e;cases e;exact new
 ·rw [aR hb] at e;exact (x b u e).stay (fun c v _ q=>k c v q) (fun c q=>by rw [aR (aV q hn)];exact q) fun c xs q=>by rw [aR (aV q hn)];exact q
end
variable {h' : Heap}{H' : Hp}{P : DI}{w : Bw}
def Rd (H:Hp)(a:Addr)(u:HO):Prop:=H a=FN u\/∃ o,H a=FN (.frz o u)
theorem Rd.ok {a:Addr}{u:HO}(r:Rd H a u)(x:JH P w H h):d9 P w H h a u:=by
 rcases r with r | ⟨o,r⟩
 ·exact x a u r
 ·obtain ⟨_,q⟩:=x a _ r;exact q
def Mut:Option HO->Prop
 | some (.lst _)=>True
 | some (.dK _)=>True
 | some (.dT _)=>True
 | some (.set _ _)=>True
 | some (.ins _ _ _)=>True
 | some (.ext _)=>True
 | _=>False
section
variable {x e:Addr}{o':HO}
theorem JH.write (ok:JH P w H h)(mu:Mut (H x))(he:e=x\/H e=FN (.own x))(k:∀ b u,b≠e->h.get? b=FN u->h'.get? b=FN u)(heo:∃ u,h'.get? e=FN u)
  (new:d9 P w (Dd H x o') h' x o'):JH P w (Dd H x o') h':=fun b u q=>by
 have nown:∀ c y,H c=FN (.own y)->c≠x:=fun c y r z=>by subst z;rw [r] at mu;exact mu
 have ntup:∀ c xs,H c=FN (.tup xs)->c≠x:=fun c xs r z=>by subst z;rw [r] at mu;exact mu
 by_cases hb:b=x
 ·subst hb;rw [bA] at q;cases q;exact new
 ·rw [aR hb] at q;by_cases hbe:b=e
  ·have q':H b=FN (.own x):=by
    rcases he with z | z
    ·exact absurd (hbe.trans z) hb
    ·rw [hbe];exact z
   rw [q] at q';cases q';obtain ⟨v,hv⟩:=heo;exact ⟨v,by rw [hbe];exact hv⟩
  ·refine (ok b u q).stay (fun c v hc r=>k c v ?_ r) (fun c r=>by rw [aR (nown c b r)];exact r) fun c xs r=>by rw [aR (ntup c xs r)];exact r
   rcases hc with rfl | hc
   ·exact hbe
   ·rintro rfl;rcases he with z | z
    ·exact nown c b hc z
    ·rw [hc] at z;cases z;exact hb rfl
end
structure Un (fs ex:List Addr) (H H':Hp) (h h':Heap):Prop where
 keep:∀ b o,h.get? b=FN o->H b=FX->b∉fs->b∉ex->h'.get? b=FN o
 slot:∀ b o,h.get? b=FN o->H b=FX->b∈fs->b∉ex->∃ sl,h'.get? b=FN { o with slots:=sl }
 free:∀ b o,h.get? b=FN o->H b=FX->b∉ex->H' b=FX
 there:∀ b o,h.get? b=FN o->b∉ex->∃ o',h'.get? b=FN o'
 tups:∀ b xs,H b=FN (.tup xs)->H' b=FN (.tup xs)
 frzs:∀ b o u,H b=FN (.frz o u)->H' b=FN (.frz o u)
 tbls:∀ b ps,H b=FN (.tbl ps)->∃ more,H' b=FN (.tbl (ps++more))
section
variable {fs fs' ex ex':List Addr}{H1 H2:Hp}{h1 h2:Heap}{a x e:Addr}{o:HO}
theorem Un.any (u:Un fs ex H H1 h h1){b:Addr}{ob:Obj}(q:h.get? b=FN ob)(n:H b=FX)(hx:b∉ex):∃ sl,h1.get? b=FN { ob with slots:=sl }:=by
 by_cases hb:b∈fs
 ·exact u.slot b ob q n hb hx
 ·exact ⟨ob.slots,u.keep b ob q n hb hx⟩
theorem Un.kept (k:∀ b u,h.get? b=FN u->h'.get? b=FN u):Un fs ex H H h h':=
 ⟨fun b ob q _ _ _=>k b ob q,fun b ob q _ _ _=>⟨ob.slots,k b ob q⟩,fun _ _ _ n _=>n,fun b ob q _=>⟨ob,k b ob q⟩,fun _ _ q=>q,fun _ _ _ q=>q,fun _ ps q=>⟨#[],by rw [q];simp⟩⟩
theorem Un.refl:Un fs ex H H h h:=Un.kept fun _ _ q=>q
theorem Un.laid (k:∀ b u,h.get? b=FN u->h'.get? b=FN u)(hp:h.objs.size<=a)(hn:H a=FX):Un fs ex H (Dd H a o) h h' where
 keep:=fun b u q _ _ _=>k b u q
 slot:=fun b u q _ _ _=>⟨u.slots,k b u q⟩
 free:=fun b u q n _=>by rw [aR (G3 (FJ (Ej q) hp))];exact n
 there:=fun b u q _=>⟨u,k b u q⟩
 tups:=fun b xs q=>by rw [aR (aV q hn)];exact q
 frzs:=fun b u xs q=>by rw [aR (aV q hn)];exact q
 tbls:=fun b ps q=>⟨#[],by rw [aR (aV q hn),q];simp⟩
theorem Un.write (mu:Mut (H x))(he:e=x\/H e=FN (.own x))(k:∀ b u,b≠e->h.get? b=FN u->h'.get? b=FN u)(heo:∃ u,h'.get? e=FN u):Un fs ex H (Dd H x o) h h':=by
 have hx:∀ b,H b=FX->b≠x:=fun b n z=>by subst z;rw [n] at mu;exact mu
 have hb:∀ b,H b=FX->b≠e:=fun b n z=>by
  subst z;rcases he with r | r
  ·exact hx b n r
  ·rw [n] at r;cases r
 have hm:∀ b u,H b=FN u->¬ Mut (FN u)->b≠x:=fun b u q nm z=>by subst z;rw [q] at mu;exact nm mu
 refine ⟨fun b u q n _ _=>k b u (hb b n) q,fun b u q n _ _=>⟨u.slots,k b u (hb b n) q⟩,fun b u q n _=>by rw [aR (hx b n)];exact n,fun b u q _=>?_,
  fun b xs q=>by rw [aR (hm b _ q fun z=>z)];exact q,fun b u xs q=>by rw [aR (hm b _ q fun z=>z)];exact q,fun b ps q=>⟨#[],by rw [aR (hm b _ q fun z=>z),q];simp⟩⟩
 by_cases hbe:b=e
 ·subst hbe;exact heo
 ·exact ⟨u,k b u hbe q⟩
end
def trk (h:Heap)(H:Hp):List Addr:=(Oo h.objs.size).filter fun a=>(H a).isSome
def K8 (h:Heap)(H:Hp):Heap:=PySem.W.hideAll h (trk h H)
theorem acT (h:Heap)(H:Hp):(K8 h H).objs.size=h.objs.size:=PySem.W.hideAll_size _ _
theorem zbr {b:Addr}{o:Obj}(e:h.get? b=FN o)(n:H b=FX):(K8 h H).get? b=FN o:=
 PySem.W.hideAll_get _ e fun hm=>by
  have q:(H b).isSome=true:=(List.mem_filter.mp hm).2;rw [n] at q;simp at q
theorem agH {b:Addr}{o:Obj}(e:(K8 h H).get? b=FN o):h.get? b=FN o/\H b=FX:=by
 have e':h.get? b=FN o:=PySem.W.of_hideAll (trk h H) e;refine ⟨e',?_⟩;cases q:H b with
 | none=>rfl
 | some x=>
  have hm:b∈trk h H:=List.mem_filter.mpr ⟨List.mem_range.mpr (Ej e'),by simp [q]⟩;have z:(K8 h H).get? b=FX:=PySem.W.hideAll_none (trk h H) hm;rw [z] at e;cases e
def zcd (g h:Heap)(L:Addr):List (Addr×Obj):=(Oo h.objs.size).filterMap fun a=>if a=L\/(g.get? a).isSome=true then FX else (h.get? a).map fun o=>(a,o)
def rest (g h:Heap)(L d:Addr):List (Addr×Obj):=(zcd g h L).filter fun p=>decide (p.1≠d)
structure Mod (K:Az) (mg:Str->Option Mk) (base:Heap):Prop where
 kin:K.In base
 glob:base.Ns IV mg
 blt:∃ mb,base.Ns builtinsNs mb/\∀ x:Str,x ≠ "__name__"->mb x=RN x
 nolimit:base.NoLimit
structure Cx where
 prog:DI
 w:Bw
 K:Az
 mg:Str->Option Mk
 base:Heap
 A:DW
 N:List Str
 s₀ : Ai
 H₀ : Hp
 env:Env
 outer:List Env
 stack:List Env
 ex:List Addr
 fn:Str->Bool
 calm:Bool
 pn:List (Addr×Obj)
 xe:Mk->Ai->Prop
def Pn (l:List Env):List Addr:=l.filterMap (·.frame)
abbrev Cx.fs (X:Cx):List Addr:=Pn X.outer
def Vis (sc:Scope)(x:Str):Prop:=sc.names.lookup x=FN .local\/sc.names.lookup x=FN .cell\/sc.names.lookup x=FN .free
def Qy (sc:Scope)(x:Str):Prop:=sc.names.lookup x=FN .local\/sc.names.lookup x=FN .cell
def Look (env:Env)(h:Heap)(m:Str->Option Mk)(x:Str)(u:Mk):Prop:=
 (env.kindOf x=FN .local/\m x=FN u)\/((env.kindOf x=FN .cell\/env.kindOf x=FN .free)/\∃ c,env.cells.lookup x=FN c/\h.IsCell c (FN u))
def Still (H:Hp)(v:Mk):Prop:=∃ (a:Addr) (o:Obj) (u:HO) (vs:Array Mk),v=.ref a/\H a=FN (.frz o u)/\o.data=.fields vs/\vs[2]?=FN .none
def Oc (A:DW)(H:Hp):Prop:=∀ v,A.handled=FN v->Still H v
structure Cx.Ok (X:Cx):Prop where
 mod:Mod X.K X.mg X.base
 kind:X.env.scope.kind=.function
 glob:X.env.globals=IV
 blt:X.env.builtins=builtinsNs
 above:X.s₀.heap.objs.size<=X.env.locals
 inj:∀ x y c,X.env.cells.lookup x=FN c->X.env.cells.lookup y=FN c->x=y
 has:∀ x,(X.env.kindOf x=FN .cell\/X.env.kindOf x=FN .free)->∃ c,X.env.cells.lookup x=FN c
 cab:∀ x c,X.fn x=true->X.env.cells.lookup x=FN c->X.s₀.heap.objs.size<=c
 hd:X.calm=true->X.A.handled=FX
 qt:Oc X.A X.H₀
 frames:X.A.frames=FN X.stack
 stk:X.stack=X.outer\/(X.stack=X.env::X.outer/\X.env.frame=FN X.env.locals)
 exf:∀ b∈X.ex,b≠X.env.locals/\∀ x c,X.env.cells.lookup x=FN c->c≠b
 bs:∀ b o,X.base.get? b=FN o->X.s₀.heap.get? b=FN o/\X.H₀ b=FX
 bsz:X.base.objs.size<=X.s₀.heap.objs.size
 noex:∀ b o,X.base.get? b=FN o->b∉X.ex
 exfs:∀ b∈X.ex,b∉X.fs
 funs:X.s₀.heap.FunFrames X.base X.outer
 frf:∀ b∈X.fs,X.H₀ b=FX
structure Av (X:Cx) (ahJ:List (Addr×Obj)) (Z : List (Option V)) (H:Hp) (s:Ai):Prop where
 ok:X.Ok
 os:s.os=X.s₀.os
 bare:RK s.gens
 base:Un X.fs X.ex X.H₀ H X.s₀.heap s.heap
 loc:∃ m,s.heap.Ns X.env.locals m/\∀ (i:Nat) (x:Str) (v:V),X.N[i]?=FN x->Z[i]?=FN (FN v)->Vis X.env.scope x->∃ u,BX v u/\Look X.env s.heap m x u
 cell:∀ x c,X.env.cells.lookup x=FN c->∃ v,s.heap.IsCell c v
 free:H X.env.locals=FX
 freeC:∀ x c,X.env.cells.lookup x=FN c->H c=FX
 pin:∀ p∈X.pn++ahJ,s.heap.get? p.1=FN p.2/\H p.1=FX/\p.1≠X.env.locals/\p.1∉X.fs/\∀ v,p.2.data≠.cell v
 hok:JH X.prog X.w H s.heap
 len:Z.length=X.N.length
section
variable {X:Cx}{ahJ:List (Addr×Obj)}{Z : List (Option V)}{s:Ai}
theorem Cx.Ok.nofr (ok:X.Ok){b:Addr}{o:Obj}(e:X.base.get? b=FN o):b∉X.fs:=fun hb=>by
 have:=(ok.funs.mem hb).1
 rw [e] at this;cases this
theorem Av.bs (I:Av X ahJ Z H s):∀ b o,X.base.get? b=FN o->s.heap.get? b=FN o/\H b=FX:=fun b o e=>
 ⟨I.base.keep b o (I.ok.bs b o e).1 (I.ok.bs b o e).2 (I.ok.nofr e) (I.ok.noex b o e),I.base.free b o (I.ok.bs b o e).1 (I.ok.bs b o e).2 (I.ok.noex b o e)⟩
theorem Av.qt0 (I:Av X ahJ Z H s):Oc X.A H:=fun v e=>let ⟨a,o,u,vs,h1,h2,h3⟩:=I.ok.qt v e;⟨a,o,u,vs,h1,I.base.frzs a o u h2,h3⟩
theorem Av.bk (I:Av X ahJ Z H s):∀ b o,X.base.get? b=FN o->s.heap.get? b=FN o:=fun b o e=>(I.bs b o e).1
theorem Av.mod (I:Av X ahJ Z H s):Mod X.K X.mg X.base:=I.ok.mod
theorem Av.kIn (I:Av X ahJ Z H s):X.K.In s.heap:=I.ok.mod.kin.keeps I.bk
theorem Av.lt (I:Av X ahJ Z H s):X.env.locals<s.heap.objs.size:=let ⟨_,hn,_⟩:=I.loc;hn.lt
theorem Av.sz (I:Av X ahJ Z H s):X.s₀.heap.objs.size<=s.heap.objs.size:=CW I.ok.above (KQ I.lt)
theorem Av.nofs (I:Av X ahJ Z H s){a:Addr}(h:s.heap.objs.size<=a):a∉X.fs:=fun hb=>by
 obtain ⟨_,o,ho,_⟩:=I.ok.funs.mem hb;exact absurd (FJ (Ej ho)<|CW I.sz h)<|O9 _
theorem Av.cne (I:Av X ahJ Z H s):∀ x c,X.env.cells.lookup x=FN c->c≠X.env.locals:=fun x c e z=>by
 obtain ⟨v,o,ho,hd⟩:=I.cell x c e;obtain ⟨m,⟨o',es,ep,ho',hd',_⟩,_⟩:=I.loc;rw [z,ho'] at ho;cases ho;rw [hd'] at hd;cases hd
theorem Av.funs (I:Av X ahJ Z H s):s.heap.FunFrames X.base X.outer:=by
 have all:∀ (l:List Env),(∀ b∈Pn l,b∈X.fs)->X.s₀.heap.FunFrames X.base l->s.heap.FunFrames X.base l:=by
  intro l;induction l with
  | nil=>intro _ _;trivial
  | cons env r ih=>
   intro hs hl;obtain ⟨hk,⟨L,o,hf,hn,ho,hd⟩,hr⟩:=hl;have hL:L∈X.fs:=hs L (by unfold Pn;rw [List.filterMap_cons,hf];exact JW);obtain ⟨sl,e⟩:=I.base.slot L o ho (I.ok.frf L hL) hL fun z=>I.ok.exfs L z hL
   exact ⟨hk,⟨L,_,hf,hn,e,hd⟩,ih (fun b hb=>hs b (by unfold Pn;rw [List.filterMap_cons,hf];exact IK _ hb)) hr⟩
 exact all X.outer (fun _ hb=>hb) I.ok.funs
theorem Av.stack (I:Av X ahJ Z H s):s.heap.FunFrames X.base X.stack:=by
 rcases I.ok.stk with e | ⟨e,hf⟩
 ·rw [e];exact I.funs
 ·rw [e];obtain ⟨m,hn,_⟩:=I.loc;refine .cons (by rw [I.ok.kind];decide) hf hn ?_ I.funs;exact W8<|CW I.ok.bsz I.ok.above
theorem Av.stkSub (I:Av X ahJ Z H s):∀ b∈Pn X.stack,b∈X.env.locals::X.fs:=fun b hb=>by
 rcases I.ok.stk with e | ⟨e,hf⟩
 ·rw [e] at hb;exact IK _ hb
 ·rw [e] at hb;unfold Pn at hb;rw [List.filterMap_cons,hf] at hb;exact hb
theorem Av.stkFree (I:Av X ahJ Z H s):∀ b∈Pn X.stack,H b=FX:=fun b hb=>by
 rcases G7.mp (I.stkSub b hb) with e | hb
 ·rw [e];exact I.free
 ·obtain ⟨_,o,ho,_⟩:=I.ok.funs.mem hb;exact I.base.free b o ho (I.ok.frf b hb) fun z=>I.ok.exfs b z hb
theorem Av.stepG {g':Array GenState}{t':Nat}{d':Drawn}{ch:List Addr}(I:Av X ahJ Z H s)
  (hch:∀ b∈ch,(b∈X.ex\/X.s₀.heap.get? b=FX)/\b≠X.env.locals/\(∀ x c,X.env.cells.lookup x=FN c->c≠b)/\∀ p∈X.pn++ahJ,p.1≠b)
  (keep:∀ b o,b≠X.env.locals->b∉X.fs->b∉ch->s.heap.get? b=FN o->H b=FX->h'.get? b=FN o)
  (slot:∀ b o,b≠X.env.locals->b∈X.fs->b∉ch->s.heap.get? b=FN o->H b=FX->∃ sl,h'.get? b=FN { o with slots:=sl }) (free:∀ b o,b∉ch->s.heap.get? b=FN o->H b=FX->H' b=FX)
  (there:∀ b o,b∉ch->s.heap.get? b=FN o->∃ o',h'.get? b=FN o')
  (tups:∀ b xs,H b=FN (.tup xs)->H' b=FN (.tup xs)) (frzs:∀ b o u,H b=FN (.frz o u)->H' b=FN (.frz o u)) (tbls:∀ b ps,H b=FN (.tbl ps)->∃ more,H' b=FN (.tbl (ps++more)))
  (ns:∀ m,s.heap.Ns X.env.locals m->h'.Ns X.env.locals m) (hok:JH X.prog X.w H' h') (hg:RK g') :
  Av X ahJ Z H' { s with heap:=h',gens:=g',drawn:=d',toks:=t' }:=by
 have neL:∀ b o,X.s₀.heap.get? b=FN o->b≠X.env.locals:=fun b o e=>G3 (FJ (Ej e) I.ok.above)
 have neC:∀ b o,X.s₀.heap.get? b=FN o->b∉X.ex->b∉ch:=fun b o e hx hb=>by
  rcases (hch b hb).1 with z | z
  ·exact hx z
  ·rw [z] at e;cases e
 have cellK:∀ x c,X.env.cells.lookup x=FN c->∀ v,s.heap.IsCell c v->h'.IsCell c v:=fun x c e v ⟨o,ho,hd⟩=>by
  have nch:c∉ch:=fun z=>(hch c z).2.2.1 x c e rfl
  by_cases hc:c∈X.fs
  ·obtain ⟨sl,q⟩:=slot c o (I.cne x c e) hc nch ho (I.freeC x c e);exact ⟨_,q,hd⟩
  ·exact ⟨o,keep c o (I.cne x c e) hc nch ho<|I.freeC x c e,hd⟩
 refine ⟨I.ok,I.os,hg,⟨fun b o e n hb hx=>?_,fun b o e n hb hx=>?_,fun b o e n hx=>?_,fun b o e hx=>?_,fun b xs e=>tups b xs<|I.base.tups b xs e,fun b o xs e=>frzs b o xs<|I.base.frzs b o xs e,fun b ps e=>?_⟩,?_,fun x c e=>?_,?_,fun x c e=>?_,fun p hp=>?_,hok,I.len⟩
 ·exact keep b o (neL b o e) hb (neC b o e hx) (I.base.keep b o e n hb hx)<|I.base.free b o e n hx
 ·obtain ⟨sl,e1⟩:=I.base.slot b o e n hb hx;obtain ⟨sl',e2⟩:=slot b _ (neL b o e) hb (neC b o e hx) e1 (I.base.free b o e n hx);exact ⟨sl',e2⟩
 ·obtain ⟨o',e1⟩:=I.base.there b o e hx;exact free b o' (neC b o e hx) e1<|I.base.free b o e n hx
 ·obtain ⟨o',e1⟩:=I.base.there b o e hx;exact there b o' (neC b o e hx) e1
 ·obtain ⟨m1,e1⟩:=I.base.tbls b ps e;obtain ⟨m2,e2⟩:=tbls b _ e1;exact ⟨m1++m2,by rw [e2,Array.append_assoc]⟩
 ·obtain ⟨m,hn,hl⟩:=I.loc;refine ⟨m,ns m hn,fun i x v e1 e2 e3=>?_⟩;obtain ⟨u,r,l⟩:=hl i x v e1 e2 e3;refine ⟨u,r,?_⟩;rcases l with l | ⟨k,c,e,z⟩
  ·exact .inl l
  ·exact .inr ⟨k,c,e,cellK x c e _ z⟩
 ·obtain ⟨v,z⟩:=I.cell x c e;exact ⟨v,cellK x c e v z⟩
 ·obtain ⟨m,⟨o,_,_,ho,_⟩,_⟩:=I.loc;exact free _ o (fun z=>(hch _ z).2.1 rfl) ho I.free
 ·obtain ⟨v,o,ho,hd⟩:=I.cell x c e;exact free c o (fun z=>(hch c z).2.2.1 x c e rfl) ho<|I.freeC x c e
 ·obtain ⟨e,n,ne,nf,d⟩:=I.pin p hp;have nch:p.1∉ch:=fun z=>(hch p.1 z).2.2.2 p hp rfl
  exact ⟨keep p.1 p.2 ne nf nch e n,free p.1 p.2 nch e n,ne,nf,d⟩
theorem Av.step {g':Array GenState}{t':Nat}{d':Drawn}{ch:List Addr}(I:Av X ahJ Z H s)
  (hch:∀ b∈ch,(b∈X.ex\/X.s₀.heap.objs.size<=b)/\b≠X.env.locals/\(∀ x c,X.env.cells.lookup x=FN c->c≠b)/\∀ p∈X.pn++ahJ,p.1≠b)
  (keep:∀ b o,b≠X.env.locals->b∉X.fs->b∉ch->s.heap.get? b=FN o->H b=FX->h'.get? b=FN o)
  (slot:∀ b o,b≠X.env.locals->b∈X.fs->b∉ch->s.heap.get? b=FN o->H b=FX->∃ sl,h'.get? b=FN { o with slots:=sl }) (free:∀ b o,b∉ch->s.heap.get? b=FN o->H b=FX->H' b=FX)
  (there:∀ b o,b∉ch->s.heap.get? b=FN o->∃ o',h'.get? b=FN o')
  (tups:∀ b xs,H b=FN (.tup xs)->H' b=FN (.tup xs)) (frzs:∀ b o u,H b=FN (.frz o u)->H' b=FN (.frz o u)) (tbls:∀ b ps,H b=FN (.tbl ps)->∃ more,H' b=FN (.tbl (ps++more)))
  (ns:∀ m,s.heap.Ns X.env.locals m->h'.Ns X.env.locals m) (hok:JH X.prog X.w H' h') (hg:RK g') :
  Av X ahJ Z H' { s with heap:=h',gens:=g',drawn:=d',toks:=t' }:=
 I.stepG (ch:=ch) (fun b z=>⟨(hch b z).1.imp id fun q=>W8 q,(hch b z).2⟩) keep slot free there tups frzs tbls ns hok hg
theorem Av.un {t':Nat}(I:Av X ahJ Z H s)(u:Un X.fs [] H H' s.heap h')(hok:JH X.prog X.w H' h'):Av X ahJ Z H' { s with heap:=h',toks:=t' }:=by
 obtain ⟨m,⟨o,es,ep,ho,r⟩,_⟩:=id I.loc;obtain ⟨sl,hL⟩:=u.any ho I.free (by simp);exact I.step (g':=s.gens) (d':=s.drawn) (ch:=[]) (fun _ z=>nomatch z) (fun b o _ hb _ e n=>u.keep b o e n hb (by simp)) (fun b o _ hb _ e n=>u.slot b o e n hb (by simp)) (fun b o _ e n=>u.free b o e n (by simp)) (fun b o _ e=>u.there b o e (by simp)) u.tups u.frzs u.tbls (fun m' hm=>by
  obtain ⟨o',es',ep',ho',r'⟩:=hm;rw [ho] at ho';cases ho';exact ⟨_,es',ep',hL,r'⟩) hok I.bare
theorem Av.call {g':Array GenState}{t':Nat}{d':Drawn}{ch:List Addr}(I:Av X ahJ Z H s)(u:Un (Pn X.stack) ch H H' s.heap h')(hok:JH X.prog X.w H' h')(hg:RK g')
  (hch:∀ b∈ch,(b∈X.ex\/X.s₀.heap.objs.size<=b)/\b≠X.env.locals/\(∀ x c,X.env.cells.lookup x=FN c->c≠b)/\∀ p∈X.pn++ahJ,p.1≠b) :
  Av X ahJ Z H' { s with heap:=h',gens:=g',drawn:=d',toks:=t' }:=by
 obtain ⟨m,⟨o,es,ep,ho,r⟩,_⟩:=id I.loc;obtain ⟨sl,hL⟩:=u.any ho I.free fun z=>(hch _ z).2.1 rfl
 exact I.step (ch:=ch) hch (fun b o hL hb hc e n=>u.keep b o e n (fun z=>(G7.mp (I.stkSub b z)).elim hL hb) hc) (fun b o _ _ hc e n=>u.any e n hc) (fun b o hc e n=>u.free b o e n hc) (fun b o hc e=>u.there b o e hc) u.tups u.frzs u.tbls (fun m' hm=>by
  obtain ⟨o',es',ep',ho',r'⟩:=hm;rw [ho] at ho';cases ho';exact ⟨_,es',ep',hL,r'⟩) hok hg
theorem Av.turned {t':Nat}{it:Addr}(I:Av X ahJ Z H s)(k:∀ b o,b≠it->s.heap.get? b=FN o->h'.get? b=FN o)(hn:H it=FX)(hL:it≠X.env.locals)
  (h1:it∈X.ex\/X.s₀.heap.objs.size<=it) (h2:∀ x c,X.env.cells.lookup x=FN c->c≠it) (h3:∀ p∈X.pn++ahJ,p.1≠it):Av X ahJ Z H { s with heap:=h',toks:=t' }:=by
 have nit:∀ b u,H b=FN u->b≠it:=fun b u e z=>by rw [z,hn] at e;cases e
 refine I.step (g':=s.gens) (d':=s.drawn) (ch:=[it]) (fun b hb=>?_) (fun b o _ _ hc e _=>k b o (fun z=>hc<|by simp [z]) e) (fun b o _ _ hc e _=>⟨o.slots,k b o (fun z=>hc<|by simp [z]) e⟩) (fun _ _ _ _ n=>n)
  (fun b o hc e=>⟨o,k b o (fun z=>hc (by simp [z])) e⟩) (fun _ _ e=>e) (fun _ _ _ e=>e) (fun b ps e=>⟨#[],by rw [e];simp⟩) (fun m hm=>?_) (fun b u e=>?_) I.bare
 ·have e:b=it:=by simpa using hb
  subst e;exact ⟨h1,hL,h2,h3⟩
 ·obtain ⟨o,es,ep,ho,r⟩:=hm;exact ⟨o,es,ep,k _ o (Im hL) ho,r⟩
 ·refine (I.hok b u e).stay (fun c v hc q=>k c v ?_ q) (fun _ q=>q) fun _ _ q=>q;rcases hc with z | z
  ·rw [z];exact nit b u e
  ·exact nit c _ z
theorem Av.tok (I:Av X ahJ Z H s)(t:Nat):Av X ahJ Z H { s with toks:=t }:=I.un (h':=s.heap) (t':=t) Un.refl I.hok
theorem Av.kept {t':Nat}(I:Av X ahJ Z H s)(k:∀ b u,s.heap.get? b=FN u->h'.get? b=FN u):Av X ahJ Z H { s with heap:=h',toks:=t' }:=I.un (Un.kept k) (I.hok.kept k)
theorem Av.laid {a:Addr}{o:HO}{t':Nat}(I:Av X ahJ Z H s)(k:∀ b u,s.heap.get? b=FN u->h'.get? b=FN u)(hp:s.heap.objs.size<=a)(new:d9 X.prog X.w (Dd H a o) h' a o) :
  Av X ahJ Z (Dd H a o) { s with heap:=h',toks:=t' }:=I.un (Un.laid k hp (I.hok.fresh hp)) (I.hok.laid k hp new)
theorem Av.write {x e:Addr}{o:HO}{t':Nat}(I:Av X ahJ Z H s)(mu:Mut (H x))(he:e=x\/H e=FN (.own x))(k:∀ b u,b≠e->s.heap.get? b=FN u->h'.get? b=FN u)(heo:∃ u,h'.get? e=FN u)
  (new:d9 X.prog X.w (Dd H x o) h' x o):Av X ahJ Z (Dd H x o) { s with heap:=h',toks:=t' }:=I.un (Un.write mu he k heo) (I.hok.write mu he k heo new)
theorem Av.weak {Z':List (Option V)}(I:Av X ahJ Z H s)(hl:Z'.length = Z.length)(w:∀ (i:Nat) v,Z'[i]?=FN (FN v)->Z[i]?=FN (FN v)):Av X ahJ Z' H s:=
 ⟨I.ok,I.os,I.bare,I.base,let ⟨m,hn,hl'⟩:=I.loc;⟨m,hn,fun i x v e1 e2 e3=>hl' i x v e1 (w i v e2) e3⟩,I.cell,I.free,I.freeC,I.pin,I.hok,hl.trans I.len⟩
theorem Av.pins_of {pins':List (Addr×Obj)}(I:Av X ahJ Z H s)(h:∀ p∈pins',s.heap.get? p.1=FN p.2/\H p.1=FX/\p.1≠X.env.locals/\p.1∉X.fs/\∀ v,p.2.data≠.cell v):Av X pins' Z H s:=
 ⟨I.ok,I.os,I.bare,I.base,I.loc,I.cell,I.free,I.freeC,fun p hp=>(Jx.mp hp).elim (fun z=>I.pin p (Rj _ z)) (h p),I.hok,I.len⟩
theorem Ad {N:List Str}(hN:N.Nodup){i j:Nat}{x:Str}(a:N[i]?=FN x)(b:N[j]?=FN x):i=j:=by
 obtain ⟨h1,e1⟩:=K5.mp a;obtain ⟨h2,e2⟩:=K5.mp b;exact (List.getElem_inj hN).mp (e1.trans e2.symm)
theorem uz {M:Model}{A:DW}{E:Mk->Ai->Prop}{i:Nat}{x:Str}{v:V}{Q:Unit->Ai->Prop}(I:Av X ahJ Z H s)(hN:X.N.Nodup)(hi:X.N[i]?=FN x)(hx:Qy X.env.scope x)(r:BX v u)
  (h:∀ s',Av X ahJ (Z.set i (FN v)) H s'->(∃ a,Tj a s.heap s'.heap/\(a=X.env.locals\/X.env.cells.lookup x=FN a))->Q () s') (hf:X.fn x=true\/X.env.scope.names.lookup x=FN .local:=by first | exact .inl rfl | exact .inr rfl | assumption):Ay M A (storeName X.env x u) Q E s:=by
 obtain ⟨m,hn,hl⟩:=id I.loc;have hcls:(X.env.scope.kind==.class||(X.env.scope.kind==.module&&X.env.locals != X.env.globals))=false:=by rw [I.ok.kind];rfl
 have hiZ : i < Z.length:=by rw [I.len];exact (K5.mp hi).1
 have cne:=I.cne;have tracked:∀ {a:Addr} {h':Heap},(∃ o,s.heap.get? a=FN o/\H a=FX)->Tj a s.heap h'->JH X.prog X.w H h':=fun {a h'} ha hs b ob e=>by
  obtain ⟨_,_,hfree⟩:=ha;refine (I.hok b ob e).stay (fun c w' hc q=>(hs.2 c ?_).trans q) (fun _ q=>q) fun _ _ q=>q;rintro rfl;rcases hc with rfl | hc
  ·rw [hfree] at e;cases e
  ·rw [hfree] at hc;cases hc
 rcases hx with hk | hk
 ·refine wpAny_storeName_local hk hn (fun h' hn' hs=>?_) hcls;obtain ⟨oL,_,_,hoL,_⟩:=id hn;refine h _ ⟨I.ok,I.os,I.bare,⟨fun b o e n hb hx=>?_,fun b o e n hb hx=>?_,I.base.free,fun b o e hx=>?_,I.base.tups,I.base.frzs,I.base.tbls⟩,⟨_,hn',fun j y v' e1 e2 e3=>?_⟩,fun y c e=>?_,I.free,I.freeC,fun p hp=>?_,tracked ⟨oL,hoL,I.free⟩ hs,by simpa using I.len⟩ ⟨_,hs,.inl rfl⟩
  ·exact (hs.2 b<|G3<|FJ (Ej e) I.ok.above).trans (I.base.keep b o e n hb hx)
  ·obtain ⟨sl,e1⟩:=I.base.slot b o e n hb hx;exact ⟨sl,(hs.2 b<|G3<|FJ (Ej e) I.ok.above).trans e1⟩
  ·obtain ⟨o',e1⟩:=I.base.there b o e hx;exact ⟨o',(hs.2 b<|G3<|FJ (Ej e) I.ok.above).trans e1⟩
  ·by_cases hj:j=i
   ·subst hj;rw [hi] at e1;cases e1;rw [List.getElem?_set_self hiZ] at e2;cases e2;exact ⟨u,r,.inl ⟨hk,by simp⟩⟩
   ·rw [List.getElem?_set_ne (Im hj)] at e2;obtain ⟨u',r',q⟩:=hl j y v' e1 e2 e3;refine ⟨u',r',?_⟩;rcases q with ⟨k,e⟩ | ⟨k,c,e,z⟩
    ·refine .inl ⟨k,?_⟩;have:y≠x:=fun e=>hj (Ad hN e1 (e ▸ hi))
     simp [this,e]
    ·exact .inr ⟨k,c,e,z.sameBut hs<|cne y c e⟩
  ·obtain ⟨w',z⟩:=I.cell y c e;exact ⟨w',z.sameBut hs<|cne y c e⟩
  ·obtain ⟨e,n,ne,nf,d⟩:=I.pin p hp;exact ⟨(hs.2 p.1 ne).trans e,n,ne,nf,d⟩
 ·have hfn:X.fn x=true:=by
   rcases hf with z | z
   ·exact z
   ·rw [z] at hk;cases hk
  obtain ⟨c,hc⟩:=I.ok.has x (.inl hk);obtain ⟨w',z⟩:=I.cell x c hc;refine wpAny_storeName_cell I.ok.kind hk hc z<|fun h' hc' hs=>?_
  obtain ⟨oc,hoc,hocd⟩:=id z;refine h { s with heap:=h' } ⟨I.ok,I.os,I.bare,⟨fun b o e n hb hx=>?_,fun b o e n hb hx=>?_,I.base.free,fun b o e hx=>?_,I.base.tups,I.base.frzs,I.base.tbls⟩,⟨m,hn.sameBut hs<|Im<|cne x c hc,fun j y v' e1 e2 e3=>?_⟩,fun y c' e=>?_,I.free,I.freeC,fun p hp=>?_,tracked ⟨oc,hoc,I.freeC x c hc⟩ hs,by simpa using I.len⟩ ⟨c,hs,.inr hc⟩
  ·exact (hs.2 b<|G3<|FJ (Ej e)<|I.ok.cab x c hfn hc).trans (I.base.keep b o e n hb hx)
  ·obtain ⟨sl,e1⟩:=I.base.slot b o e n hb hx;exact ⟨sl,(hs.2 b<|G3<|FJ (Ej e)<|I.ok.cab x c hfn hc).trans e1⟩
  ·obtain ⟨o',e1⟩:=I.base.there b o e hx;exact ⟨o',(hs.2 b<|G3<|FJ (Ej e)<|I.ok.cab x c hfn hc).trans e1⟩
  ·by_cases hj:j=i
   ·subst hj;rw [hi] at e1;cases e1;rw [List.getElem?_set_self hiZ] at e2;cases e2;exact ⟨u,r,.inr ⟨.inl hk,c,hc,hc'⟩⟩
   ·rw [List.getElem?_set_ne (Im hj)] at e2;obtain ⟨u',r',q⟩:=hl j y v' e1 e2 e3;refine ⟨u',r',?_⟩;rcases q with q | ⟨k,c',e,z'⟩
    ·exact .inl q
    ·refine .inr ⟨k,c',e,z'.sameBut hs ?_⟩;rintro rfl;exact hj<|Ad hN e1<|I.ok.inj _ _ _ e hc ▸ hi
  ·by_cases hcc:c'=c
   ·subst hcc;exact ⟨_,hc'⟩
   ·obtain ⟨w2,z2⟩:=I.cell y c' e;exact ⟨w2,z2.sameBut hs hcc⟩
  ·obtain ⟨e,n,ne,nf,d⟩:=I.pin p hp;refine ⟨(hs.2 p.1 ?_).trans e,n,ne,nf,d⟩;intro q;rw [q,hoc] at e;have q':oc=p.2:=Eu e;exact d w' (by rw [<-q'];exact hocd)
theorem yU {M:Model}{A:DW}{E:Mk->Ai->Prop}{i:Nat}{x:Str}{v:V}{Q:Unit->Ai->Prop}(I:Av X ahJ Z H s)(hN:X.N.Nodup)(hi:X.N[i]?=FN x)(hx:Qy X.env.scope x)(r:BX v u)
  (h:∀ s',Av X ahJ (Z.set i (FN v)) H s'->Q () s') (hf:X.fn x=true\/X.env.scope.names.lookup x=FN .local:=by first | exact .inl rfl | exact .inr rfl | assumption):Ay M A (storeName X.env x u) Q E s:=
 uz I hN hi hx r (fun s' I' _=>h s' I') hf
theorem Av.call' {s':Ai}{ch:List Addr}(I:Av X ahJ Z H s)(ho:s'.os=s.os)(u:Un (Pn X.stack) ch H H' s.heap s'.heap)(hok:JH X.prog X.w H' s'.heap)(hg:RK s'.gens)
  (hch:∀ b∈ch,(b∈X.ex\/X.s₀.heap.objs.size<=b)/\b≠X.env.locals/\(∀ x c,X.env.cells.lookup x=FN c->c≠b)/\∀ p∈X.pn++ahJ,p.1≠b):Av X ahJ Z H' s':=by
 obtain ⟨h',g',d',t',o'⟩:=s';have e:o'=s.os:=ho;subst e;exact I.call (g':=g') (t':=t') (d':=d') u hok hg hch
end
variable {X : Cx}{ahJ : List (Addr×Obj)}{N : List Str}{M : Model}{i j : Nat}{E : Mk->Ai->Prop}{A : DW}{s' : Ai}
abbrev XK:=Mk->Option Addr->Hp->Prop
abbrev St:=List (Option V)
abbrev VK:=V->Hp->Prop
abbrev TE:=St->Hp->VK->Prop
abbrev TT:=St->Hp->(Bool->Hp->Prop)->Prop
abbrev TA:=St->Hp->(List V->Hp->Prop)->Prop
structure Ends where
 nx:St->Hp->Prop
 rt:VK
 bk:St->Hp->Prop:=fun _ _=>False
 ct:St->Hp->Prop:=fun _ _=>False
abbrev TS:=Ends->St->Hp->Prop
def EP (X:Cx)(ahJ:List (Addr×Obj))(Z : St)(Q:VK)(u:Mk)(s':Ai):Prop:=∃ v H',Av X ahJ Z H' s'/\BX v u/\Q v H'
def TP (X:Cx)(ahJ:List (Addr×Obj))(Z : St)(Q:Bool->Hp->Prop)(b:Bool)(s':Ai):Prop:=∃ H',Av X ahJ Z H' s'/\Q b H'
def zad (X:Cx)(ahJ:List (Addr×Obj))(Z : St)(Q:List V->Hp->Prop)(us:List Mk)(s':Ai):Prop:=∃ vs H',Av X ahJ Z H' s'/\Aw vs us/\Q vs H'
def SP (X:Cx)(ahJ:List (Addr×Obj))(D:Ends)(f:Flow)(s':Ai):Prop:=
 match f with
 | .next=>∃ Z' H',Av X ahJ Z' H' s'/\D.nx Z' H'
 | .brk=>∃ Z' H',Av X ahJ Z' H' s'/\D.bk Z' H'
 | .cont=>∃ Z' H',Av X ahJ Z' H' s'/\D.ct Z' H'
 | .ret u=>∃ v Z' H',Av X ahJ Z' H' s'/\BX v u/\D.rt v H'
def PE (X:Cx)(e:Expr)(t:TE):Prop:=
 ∀ (ahJ:List (Addr×Obj)) (s:Ai) (Z : St) (H:Hp) (Q:VK),Av X ahJ Z H s->t Z H Q->Ay (Ax X.prog X.w) X.A (eval e X.env) (EP X ahJ Z Q) X.xe s
def PT (X:Cx)(e:Expr)(t:TT):Prop:=
 ∀ (ahJ:List (Addr×Obj)) (s:Ai) (Z : St) (H:Hp) (Q:Bool->Hp->Prop),Av X ahJ Z H s->t Z H Q->Ay (Ax X.prog X.w) X.A (isTrue e X.env (eval e X.env)) (TP X ahJ Z Q) X.xe s
def PW (X:Cx)(e:Expr)(t:TT):Prop:=
 ∀ (whole:Sem Mk) (ahJ:List (Addr×Obj)) (s:Ai) (Z : St) (H:Hp) (Q:Bool->Hp->Prop),Av X ahJ Z H s->t Z H Q->Ay (Ax X.prog X.w) X.A (isTrue e X.env whole) (TP X ahJ Z Q) X.xe s
variable {e : Expr}
theorem PW.pt {t:TT}(h:PW X e t):PT X e t:=h _
def PA (X:Cx)(es:List Expr)(t:TA):Prop:=
 ∀ (pos:Pos) (ahJ:List (Addr×Obj)) (s:Ai) (Z : St) (H:Hp) (Q:List V->Hp->Prop),Av X ahJ Z H s->t Z H Q->Ay (Ax X.prog X.w) X.A (spliced (J9 pos (Dh es X.env))) (zad X ahJ Z Q) X.xe s
def PS (X:Cx)(st:Stmt)(t:TS):Prop:=
 ∀ (ahJ:List (Addr×Obj)) (s:Ai) (Z : St) (H:Hp) (D:Ends),Av X ahJ Z H s->t D Z H->Ay (Ax X.prog X.w) X.A (exec st X.env) (SP X ahJ D) X.xe s
def NP (X:Cx)(st:List Stmt)(t:TS):Prop:=
 ∀ (ahJ:List (Addr×Obj)) (s:Ai) (Z : St) (H:Hp) (D:Ends),Av X ahJ Z H s->t D Z H->Ay (Ax X.prog X.w) X.A (execs st X.env) (SP X ahJ D) X.xe s
theorem Ei {α : Type}{t:Sem α}{Q Q':α->Ai->Prop}{s:Ai}(h:Ay M A t Q E s)(hQ:∀ a s,Q a s->Q' a s):Ay M A t Q' E s:=KN h hQ fun _ _ x=>x
section
def Y8 (i:Nat):TE:=fun Z H Q=>∃ v,Z[i]?=FN (FN v)/\Q v H
def tC (v:V):TE:=fun _ H Q=>Q v H
theorem aeU {x:Str}{pos:Pos}(hN:X.N[i]?=FN x)(hv:Vis X.env.scope x)(hd:(x==("__debug__" : Str))=false:=by decide)(hcd:(x==("__classdict__" : Str))=false:=by decide):PE X (.Name x pos) (Y8 i):=by
 intro ahJ s Z H Q I h;obtain ⟨v,e,h⟩:=h;obtain ⟨m,hn,hl⟩:=I.loc;obtain ⟨u,r,l⟩:=hl i x v hN e hv;have fin:EP X ahJ Z Q u s:=⟨v,H,I,r,h⟩
 rcases l with ⟨hk,hm⟩ | ⟨hk,c,hc,hcell⟩
 ·exact wpAny_Name (wpAny_loadName_local I.ok.kind hk hn hm fin) hd
 ·rcases hk with hk | hk
  ·exact wpAny_Name (wpAny_loadName_cell I.ok.kind hk hc hcell fin) hd
  ·exact wpAny_Name (wpAny_loadName_free I.ok.kind hk hc hcell fin hcd) hd
theorem afH {i j pos}:PE X (.Constant (.int i) j pos) (tC (.int i)):=fun _ _ _ H _ I h=>wpAny_Constant_int ⟨.int i,H,I.tok _,⟨_,rfl⟩,h⟩
theorem Zf {b j pos}:PE X (.Constant (.bool b) j pos) (tC (.bl b)):=fun _ _ _ H _ I h=>Constant_bool ⟨.bl b,H,I,rfl,h⟩
theorem afJ {j pos}:PE X (.Constant .none j pos) (tC .non):=fun _ _ _ H _ I h=>Constant_none ⟨.non,H,I,rfl,h⟩
theorem M4 {x j pos}:PE X (.Constant (.str x) j pos) (tC (.str x)):=fun _ _ _ H _ I h=>Calls.Constant_str ⟨.str x,H,I.tok _,⟨_,rfl⟩,h⟩
def Gl (X:Cx)(x:Str):Prop:=X.env.kindOf x=FN .globalImplicit
theorem Ep {s:Ai}{Z : St}{x:Str}{pos:Pos}{Q:Mk->Ai->Prop}(I:Av X ahJ Z H s)(hg:Gl X x)(hm:X.mg x=FN u)(h:Q u s)
  (hd:(x==("__debug__" : Str))=false:=by decide):Ay (Ax X.prog X.w) X.A (eval (.Name x pos) X.env) Q E s:=
 Calls.Name_function_global I.ok.kind hg (Calls.loadGlobal_global (by rw [I.ok.glob];exact I.mod.glob.keeps I.bk) hm h) hd
theorem mV {s:Ai}{Z : St}{x:Str}{pos:Pos}{Q:Mk->Ai->Prop}(I:Av X ahJ Z H s)(hg:Gl X x)(hm:X.mg x=FX)(hv:RN x=FN u)(h:Q u s)
  (hn:x ≠ "__name__":=by decide) (hd:(x==("__debug__" : Str))=false:=by decide):Ay (Ax X.prog X.w) X.A (eval (.Name x pos) X.env) Q E s:=by
 obtain ⟨mb,h1,h2⟩:=I.mod.blt;exact Calls.Name_function_global I.ok.kind hg (Calls.loadGlobal_builtin (by rw [I.ok.glob];exact I.mod.glob.keeps I.bk) hm (by rw [I.ok.blt];exact h1.keeps I.bk) ((h2 x hn).trans hv) h) hd
theorem lY {x:Str}{v:V}{pos:Pos}(hg:Gl X x)(hm:X.mg x=FN u)(r:BX v u)(hd:(x==("__debug__" : Str))=false:=by decide):PE X (.Name x pos) (tC v):=
 fun _ _ _ H _ I h=>Ep I hg hm ⟨v,H,I,r,h⟩ hd
theorem lC {x:Str}{v:V}{pos:Pos}(hg:Gl X x)(hm:X.mg x=FX)(hv:RN x=FN u)(r:BX v u)(hn:x ≠ "__name__":=by decide)(hd:(x==("__debug__" : Str))=false:=by decide):PE X (.Name x pos) (tC v):=
 fun _ _ _ H _ I h=>mV I hg hm hv ⟨v,H,I,r,h⟩ hn hd
variable {a b:Expr}{ta tb:TE}{pos:Pos}
variable {tA tB':TT}{rest:List Expr}
def abg (t u:TT):TT:=fun Z H Q=>t Z H fun c H1=>if c=true then u Z H1 Q else Q false H1
def tOr (t u:TT):TT:=fun Z H Q=>t Z H fun c H1=>if c=true then Q true H1 else u Z H1 Q
def abM (t:TT):TT:=fun Z H Q=>t Z H fun c H1=>Q (!c) H1
theorem adV (ha:PT X a tA):PW X (.BoolOp .And [a] pos) tA:=by
 intro wh ahJ s Z H Q I h;refine isTrue_and<|Ei (ha ahJ s Z H Q I h) fun c s1 e=>?_
 cases c with
 | true=>exact isTrue_and_nil e
 | false=>exact e
theorem aek (ha:PT X a tA):PW X (.BoolOp .Or [a] pos) tA:=by
 intro wh ahJ s Z H Q I h;refine isTrue_or<|Ei (ha ahJ s Z H Q I h) fun c s1 e=>?_
 cases c with
 | false=>exact isTrue_or_nil e
 | true=>exact e
theorem aei (ha:PT X a tA)(hb:PW X (.BoolOp .And (b::rest) pos) tB'):PW X (.BoolOp .And (a::b::rest) pos) (abg tA tB'):=by
 intro wh ahJ s Z H Q I h;refine isTrue_and<|Ei (ha ahJ s Z H _ I h) fun c s1 ⟨H1,I1,q1⟩=>?_
 cases c with
 | true=>exact hb wh ahJ s1 Z H1 Q I1 q1
 | false=>exact ⟨H1,I1,q1⟩
theorem Zn (ha:PT X a tA)(hb:PW X (.BoolOp .Or (b::rest) pos) tB'):PW X (.BoolOp .Or (a::b::rest) pos) (tOr tA tB'):=by
 intro wh ahJ s Z H Q I h;refine isTrue_or<|Ei (ha ahJ s Z H _ I h) fun c s1 ⟨H1,I1,q1⟩=>?_
 cases c with
 | true=>exact ⟨H1,I1,q1⟩
 | false=>exact hb wh ahJ s1 Z H1 Q I1 q1
theorem agv (ha:PT X a tA):PT X (.UnaryOp .Not a pos) (abM tA):=by
 intro ahJ s Z H Q I h;exact isTrue_not<|ha ahJ s Z H (fun c H1=>Q (!c) H1) I h
def tIf (t:TT)(ta tb:TE):TE:=fun Z H Q=>t Z H fun c H1=>if c=true then ta Z H1 Q else tb Z H1 Q
theorem zby {c:Expr}(hc:PT X c tA)(ha:PE X a ta)(hb:PE X b tb):PE X (.IfExp c a b pos) (tIf tA ta tb):=by
 intro ahJ s Z H Q I h;refine wpAny_IfExp<|Ei (hc ahJ s Z H _ I h) fun d s1 ⟨H1,I1,q1⟩=>?_
 cases d with
 | true=>exact ha ahJ s1 Z H1 Q I1 q1
 | false=>exact hb ahJ s1 Z H1 Q I1 q1
end
variable {pos : Pos}{Z : St}{ta : TE}{Q : Mk->Ai->Prop}
def Ij (K:Az)(H:Hp)(a:Addr)(xs:List V):Prop:=
 Rd H a (.lst xs) \/
  ∃ (o:Obj) (its:Array Mk) (n:Nat),K.lookup a=FN o/\o.cls=.type "list"/\o.dict=FX/\o.data=.seq its n/\its.size<=Dp/\Aw xs its.toList
def Ew (K:Az)(H:Hp)(a:Addr)(xs:List V):Prop:=
 Rd H a (.tup xs) \/
  ∃ (o:Obj) (its:Array Mk) (n:Nat),K.lookup a=FN o/\o.cls=.type "tuple"/\o.data=.seq its n/\its.size<=Dp/\Aw xs its.toList/\o.dict=FX
def aaZ:Mk->Option V
 | .none=>FN .non
 | .bool b=>FN (.bl b)
 | .int i _=>FN (.int i)
 | .str x _=>FN (.str x)
 | .bytes b _=>FN (.byt b)
 | .float b _=>FN (.flt b)
 | .ref a=>FN (.ref a)
 | .type n=>FN (.ty n)
 | _=>FX
theorem BX.abs {x:V}(r:BX x u):aaZ u=FN x:=by
 cases x with
 | non=>cases r;rfl
 | bl _=>cases r;rfl
 | int _=>obtain ⟨t,rfl⟩:=r;rfl
 | str _=>obtain ⟨t,rfl⟩:=r;rfl
 | byt _=>obtain ⟨t,rfl⟩:=r;rfl
 | flt _=>obtain ⟨t,rfl⟩:=r;rfl
 | ref _=>cases r;rfl
 | ty _=>cases r;rfl
theorem BX.inj {x y:V}(r:BX x u)(q:BX y u):x=y:=Eu (r.abs.symm.trans q.abs)
theorem Aw.inj:∀ {xs ys:List V} {us:List Mk},Aw xs us->Aw ys us->xs=ys
 | _,_,_,.nil,.nil=>rfl
 | _,_,_,.cons r t,.cons r' t'=>by rw [r.inj r',Aw.inj t t']
section
variable {s:Ai}{a:Addr}{ys:List V}
theorem Ij.of {K:Az}(h:H a=FN (.lst xs)):Ij K H a xs:=.inl (.inl h)
theorem Ew.of {K:Az}(h:H a=FN (.tup xs)):Ew K H a xs:=.inl (.inl h)
theorem Av.list (I:Av X ahJ Z H s)(h:Ij X.K H a xs):∃ its:List Mk,Aw xs its/\PlainL s.heap a its.toArray/\xs.length<=Dp:=by
 rcases h with h | ⟨o,its,n,hk,hc,hd,hs,hz,r⟩
 ·obtain ⟨z,its,n,r,e⟩:=h.ok I.hok;exact ⟨its,r,⟨_,n,e,rfl,rfl,rfl⟩,z⟩
 ·refine ⟨its.toList,r,⟨o,n,I.kIn a o hk,hc,hd,by simpa using hs⟩,?_⟩;have e:=r.length;simp only [Tp] at e;lia
theorem Av.tupO (I:Av X ahJ Z H s)(h:Ew X.K H a xs):∃ its:List Mk,Aw xs its/\Fq s.heap a its.toArray/\xs.length<=Dp:=by
 rcases h with h | ⟨o,its,n,hk,hc,hs,hz,r,hd⟩
 ·obtain ⟨z,its,r,p⟩:=h.ok I.hok;exact ⟨its,r,p,z⟩
 ·refine ⟨its.toList,r,⟨o,I.kIn a o hk,hc,⟨n,by simpa using hs⟩,hd⟩,?_⟩;have e:=r.length;simp only [Tp] at e;lia
theorem Av.tuple (I:Av X ahJ Z H s)(h:Ew X.K H a xs):∃ its:List Mk,Aw xs its/\IsTup s.heap a its.toArray/\xs.length<=Dp:=let ⟨its,r,p,z⟩:=I.tupO h;⟨its,r,p.tup,z⟩
theorem Av.list_inj (I:Av X ahJ Z H s)(h:Ij X.K H a xs)(h':Ij X.K H a ys):xs=ys:=by
 obtain ⟨its,r,⟨o,n,e,_,_,d⟩,_⟩:=I.list h;obtain ⟨its',r',⟨o',n',e',_,_,d'⟩,_⟩:=I.list h';rw [e] at e';cases e';rw [d] at d';injection d' with d1 _
 have:its=its':=by simpa using congrArg Array.toList d1
 subst this;exact r.inj r'
theorem Av.tuple_inj (I:Av X ahJ Z H s)(h:Ew X.K H a xs)(h':Ew X.K H a ys):xs=ys:=by
 obtain ⟨its,r,⟨o,e,_,n,d⟩,_⟩:=I.tuple h;obtain ⟨its',r',⟨o',e',_,n',d'⟩,_⟩:=I.tuple h';rw [e] at e';cases e';rw [d] at d';injection d' with d1 _
 have:its=its':=by simpa using congrArg Array.toList d1
 subst this;exact r.inj r'
end
variable {K : Az}
abbrev Cx.wish (X:Cx)(E:Mk->Ai->Prop):Cx:={ X with xe:=E }
abbrev Cx.nox (X:Cx):Cx:=X.wish fun _ _=>False
theorem Cx.Ok.wish {X:Cx}(ok:X.Ok)(E:Mk->Ai->Prop):(X.wish E).Ok:=
 ⟨ok.mod,ok.kind,ok.glob,ok.blt,ok.above,ok.inj,ok.has,ok.cab,ok.hd,ok.qt,ok.frames,ok.stk,ok.exf,ok.bs,ok.bsz,ok.noex,ok.exfs,ok.funs,ok.frf⟩
theorem Cx.Ok.unwish (ok:(X.wish E).Ok):X.Ok:=
 ⟨ok.mod,ok.kind,ok.glob,ok.blt,ok.above,ok.inj,ok.has,ok.cab,ok.hd,ok.qt,ok.frames,ok.stk,ok.exf,ok.bs,ok.bsz,ok.noex,ok.exfs,ok.funs,ok.frf⟩
section
variable {s:Ai}
theorem Av.wish (I:Av X ahJ Z H s)(E:Mk->Ai->Prop):Av (X.wish E) ahJ Z H s:=⟨I.ok.wish E,I.os,I.bare,I.base,I.loc,I.cell,I.free,I.freeC,I.pin,I.hok,I.len⟩
theorem Av.unwish (I:Av (X.wish E) ahJ Z H s):Av X ahJ Z H s:=⟨I.ok.unwish,I.os,I.bare,I.base,I.loc,I.cell,I.free,I.freeC,I.pin,I.hok,I.len⟩
theorem SP.unwish {D:Ends}{f:Flow}{s':Ai}(h:SP (X.wish E) ahJ D f s'):SP X ahJ D f s':=by
 cases f with
 | next=>obtain ⟨Z',H',I,q⟩:=h;exact ⟨Z',H',I.unwish,q⟩
 | brk=>obtain ⟨Z',H',I,q⟩:=h;exact ⟨Z',H',I.unwish,q⟩
 | cont=>obtain ⟨Z',H',I,q⟩:=h;exact ⟨Z',H',I.unwish,q⟩
 | ret u=>obtain ⟨v,Z',H',I,r,q⟩:=h;exact ⟨v,Z',H',I.unwish,r,q⟩
theorem NP.nox {st:List Stmt}{t:TS}(h:NP X.nox st t):NP X st t:=fun ahJ s Z H D I hw=>
 KN (h ahJ s Z H D (I.wish _) hw) (fun _ _ q=>q.unwish) fun _ _ z=>Qa z
end
variable {D : Ends}
section
variable {st:Stmt}{rest:List Stmt}{t u:TS}{te:TE}
def Y4:TS:=fun D Z H=>D.nx Z H
def abG (t u:TS):TS:=fun D Z H=>t { D with nx:=u D } Z H
theorem adl:NP X [] Y4:=fun _ _ Z H _ I h=>wpAny_execs_nil ⟨Z,H,I,h⟩
theorem aeE (h1:PS X st t)(h2:NP X rest u):NP X (st::rest) (abG t u):=by
 intro ahJ s Z H D I h;refine wpAny_execs_cons<|Ei (h1 ahJ s Z H { D with nx:=u D } I h) fun f s1 q=>?_
 cases f with
 | next=>
  obtain ⟨Z',H',I',q⟩:=q;exact h2 ahJ s1 Z' H' D I' q
 | ret v=>exact q
 | brk=>exact q
 | cont=>exact q
theorem zce (h1:PS X st t):NP X [st] t:=by
 intro ahJ s Z H D I h;refine wpAny_execs_cons<|Ei (h1 ahJ s Z H D I h) fun f s1 q=>?_
 cases f with
 | next=>exact wpAny_execs_nil q
 | ret v=>exact q
 | brk=>exact q
 | cont=>exact q
theorem Av.quiet {s:Ai}(I:Av X ahJ Z H s):interactive X.env=false:=by simp [interactive,I.ok.kind]
def YG (te:TE):TS:=fun D Z H=>te Z H fun _ H1=>D.nx Z H1
theorem zcq (he:PE X e te)(hs:swapsWith e FX pos.line X.env=pure false:=by rfl):PS X (.Expr e pos) (YG te):=by
 intro ahJ s Z H D I h;exact wpAny_Expr_any (Ei (he ahJ s Z H _ I h) fun v s1 ⟨x,H1,I1,r1,q1⟩=>⟨Z,H1,I1,q1⟩) I.quiet hs
def abB (te:TE):TS:=fun D Z H=>te Z H D.rt
theorem afR (he:PE X e te):PS X (.Return (FN e) pos) (abB te):=by
 intro ahJ s Z H D I h;exact wpAny_Return_some<|Ei (he ahJ s Z H _ I h) fun v s1 ⟨x,H1,I1,r1,q1⟩=>⟨x,Z,H1,I1,r1,q1⟩
def abk (c:TT)(t u:TS):TS:=fun D Z H=>c Z H fun b H1=>if b=true then t D Z H1 else u D Z H1
theorem Zj {c:Expr}{a b:List Stmt}{tc:TT}(hc:PT X c tc)(ha:NP X a t)(hb:NP X b u):PS X (.If c a b pos) (abk tc t u):=by
 intro ahJ s Z H D I h;refine wpAny_If<|Ei (hc ahJ s Z H _ I h) fun d s1 ⟨H1,I1,q1⟩=>?_
 cases d with
 | true=>exact ha ahJ s1 Z H1 D I1 q1
 | false=>exact hb ahJ s1 Z H1 D I1 q1
def Wv:TS:=fun _ _ _=>False
theorem acu:PS X st Wv:=fun _ _ _ _ _ _ h=>h.elim
end
abbrev TG:=V->St->Hp->(St->Hp->Prop)->Prop
abbrev QL:=List V->St->Hp->(St->Hp->Prop)->Prop
def PG (X:Cx)(target:Expr)(t:TG):Prop:=
 ∀ (ahJ:List (Addr×Obj)) (s:Ai) (Z : St) (H:Hp) (v:V) (u:Mk) (Q:St->Hp->Prop),Av X ahJ Z H s->BX v u->t v Z H Q ->
  Ay (Ax X.prog X.w) X.A (assign target X.env u) (fun _ s'=>∃ Z' H',Av X ahJ Z' H' s'/\Q Z' H') X.xe s
def Rm (X:Cx)(ts:List Expr)(t:QL):Prop:=
 ∀ (ahJ:List (Addr×Obj)) (s:Ai) (Z : St) (H:Hp) (vs:List V) (us:List Mk) (Q:St->Hp->Prop),Av X ahJ Z H s->Aw vs us->t vs Z H Q ->
  Ay (Ax X.prog X.w) X.A (assignInOrder ((Jy ts X.env).map (·.2)) us) (fun _ s'=>∃ Z' H',Av X ahJ Z' H' s'/\Q Z' H') X.xe s
abbrev Qn:=V->V->V->Hp->(Hp->Prop)->Prop
def SN (X:Cx)(t:Qn):Prop:=
 ∀ (ahJ:List (Addr×Obj)) (s:Ai) (Z : St) (H:Hp) (o i v:V) (ov iv u:Mk) (Q:Hp->Prop),Av X ahJ Z H s->BX o ov->BX i iv->BX v u->t o i v H Q ->
  Ay (Ax X.prog X.w) X.A (setItem ov iv u) (fun _ s'=>∃ H',Av X ahJ Z H' s'/\Q H') X.xe s
section
def Gu (i:Nat):TG:=fun v Z H Q=>Q (Z.set i (FN v)) H
theorem sO {x:Str}(hN:X.N.Nodup)(hi:X.N[i]?=FN x)(hx:Qy X.env.scope x)(hf:X.fn x=true\/X.env.scope.names.lookup x=FN .local:=by first | exact .inl rfl | exact .inr rfl | assumption):PG X (.Name x pos) (Gu i):=by
 intro ahJ s Z H v u Q I r h;exact wpAny_assign_Name<|yU I hN hi hx r (fun s' I'=>⟨_,H,I',h⟩) hf
def aa8:QL:=fun vs Z H Q=>vs=[]/\Q Z H
def YZ (t:TG)(u:QL):QL:=fun vs Z H Q=>∃ v r,vs=v::r/\t v Z H fun Z' H'=>u r Z' H' Q
theorem CZ:Rm X [] aa8:=by
 intro ahJ s Z H vs us Q I r h;obtain ⟨e,h⟩:=h;subst e;cases r;exact assignInOrder_nil ⟨Z,H,I,h⟩
theorem tE {es:List Expr}{t:TG}{u:QL}(h1:PG X e t)(h2:Rm X es u)
  (hs:(Jy (e::es) X.env).map (·.2)=assign e X.env::(Jy es X.env).map (·.2):=by rfl):Rm X (e::es) (YZ t u):=by
 intro ahJ s Z H vs us Q I r h;obtain ⟨v,vr,e1,h⟩:=h;subst e1;cases r with
 | cons r rr=>
  rw [hs];refine assignInOrder_cons<|Ei (h1 ahJ s Z H _ _ _ I r h) fun _ s1 ⟨Z1,H1,I1,q1⟩=>?_
  exact h2 ahJ s1 Z1 H1 _ _ Q I1 rr q1
def aa7 (K:Az)(n:Nat)(t:QL):TG:=fun v Z H Q=>∃ a xs,v=.ref a/\Ew K H a xs/\xs.length=n/\t xs Z H Q
theorem zcy {es:List Expr}{k:Nat}{t:QL}{n:Nat}(hc:X.calm=true)(h:Rm X es t)
  (hn:(Jy es X.env).length=n:=by rfl) (hst:(Jy es X.env).findIdx? (·.1)=FX:=by rfl):PG X (.Tuple es k pos) (aa7 X.K n t):=by
 intro ahJ s Z H v u Q I r hw;obtain ⟨a,xs,e1,hq,hl,hw⟩:=hw;subst e1;cases r;obtain ⟨its,rv,ht,hz⟩:=I.tuple hq;refine assign_Tuple_tuple (I.ok.hd hc) ht (by simp [hn,<-hl,rv.length]) hst fun h' hx=>?_;have I1:Av X ahJ Z H { s with heap:=h' }:=I.kept (t':=s.toks) fun b o e=>hx b o (G3 (Ej e)) e
 exact h ahJ _ Z H xs _ Q I1 (by simpa using rv) hw
def aa9 (to ti:TE)(t:Qn):TG:=fun v Z H Q=>to Z H fun o H1=>ti Z H1 fun i H2=>t o i v H2 fun H3=>Q Z H3
theorem afy {o i:Expr}{to ti:TE}{t:Qn}(ho:PE X o to)(hi:PE X i ti)(hs:SN X t)
  (ha:∀ v,assign (.Subscript o i pos) X.env v=(do
   let ov <-holding [v] (eval o X.env)
   let iv <-holding [v,ov] (eval i X.env)
   standAt pos
   holding [v,ov,iv] (setItem ov iv v)
   release [v,ov,iv] []):=by intro _;rfl):PG X (.Subscript o i pos) (aa9 to ti t):=by
 intro ahJ s Z H v u Q I r h;rw [ha];refine Ao<|NK<|Ei (ho ahJ s Z H _ I h) fun ov s1 ⟨x,H1,I1,r1,q1⟩=>?_
 refine Ao<|NK<|Ei (hi ahJ s1 Z H1 _ I1 q1) fun iv s2 ⟨y,H2,I2,r2,q2⟩=>?_
 refine Ao<|wpAny_standAt<|Ao<|NK<|Ei (hs ahJ s2 Z H2 x y v ov iv u _ I2 r1 r2 r q2) fun _ s3 ⟨H3,I3,q3⟩=>?_
 exact wpAny_release ⟨Z,H3,I3,q3⟩
def Xf (te:TE)(g:TG):TS:=fun D Z H=>te Z H fun x H1=>g x Z H1 D.nx
theorem aeo {tg:Expr}{te:TE}{g:TG}(he:PE X e te)(hg:PG X tg g)(hs:swapsWithSole [tg] e pos.line X.env=pure false:=by rfl)(hw:swappedStores [tg] e X.env=pure FX:=by rfl)
  (h1:(Jy [tg] X.env).map (·.2)=[assign tg X.env]:=by rfl):PS X (.Assign [tg] e pos) (Xf te g):=by
 intro ahJ s Z H D I h;refine wpAny_Assign_stores (Ei (he ahJ s Z H _ I h) fun v s1 ⟨x,H1,I1,r1,q1⟩=>?_) hs hw;rw [h1];exact Ei (hg ahJ s1 Z H1 x v _ I1 r1 q1) fun _ s2 q=>q
theorem Ww {x:Str}{te:TE}{pos':Pos}(hN:X.N.Nodup)(hi:X.N[i]?=FN x)(hx:Qy X.env.scope x)(he:PE X e te)(hs:swapsWith e (FN (.Name x pos')) pos.line X.env=pure false:=by rfl)(hf:X.fn x=true\/X.env.scope.names.lookup x=FN .local:=by first | exact .inl rfl | exact .inr rfl | assumption):
  PS X (.Assign [.Name x pos'] e pos) (Xf te (Gu i)):=by
 intro ahJ s Z H D I h;refine wpAny_Assign_Name (Ei (he ahJ s Z H _ I h) fun v s1 ⟨y,H1,I1,r1,q1⟩=>?_) hs;exact yU I1 hN hi hx r1 (fun s2 I2=>⟨_,H1,I2,q1⟩) hf
end
variable {o tg : Expr}{es : List Expr}{n : Nat}{pos' : Pos}
section
end
theorem sZ:entryFor table "proto.unchain" = FN Qt.«proto.unchain»:=entryFor_of_tree (by kernel_rfl)
def wY (A:DW)(h:Heap):Prop:=∀ v,A.handled=FN v->∃ (a:Addr) (o:Obj) (vs:Array Mk),v=.ref a/\h.get? a=FN o/\o.data=.fields vs/\vs[2]?=FN .none
theorem zae (q:Oc A H)(x:JH P w H h):wY A h:=fun v e=>by
 obtain ⟨a,o,u,vs,h1,h2,h3,h4⟩:=q v e;exact ⟨a,o,vs,h1,(x a _ h2).1,h3,h4⟩
variable {prog : DI}
theorem zaq {α : Type}{s:Ai}{e:Addr}{oe:Obj}{ws:Array Mk}{Q:α->Ai->Prop}(hq:wY A s.heap)(he:s.heap.get? e=FN oe)(hd:oe.data=.fields ws)(hz:2<ws.size)(hne:∀ v,A.handled=FN v->v≠.ref e)
  (h:∀ h',(∀ b,b≠e->h'.get? b=s.heap.get? b)->(∃ o',h'.get? e=FN o'/\o'.cls=oe.cls)->E (.ref e) { s with heap:=h' }):Ay (Ax prog w) A (raiseNew (.ref e):Sem α) Q E s:=by
 unfold raiseNew;refine Ao<|wpAny_handled ?_
 cases hh:A.handled with
 | none=>
  dsimp only;refine Ao<|Ba<|wpAny_throw ?_
  exact h s.heap (fun _ _=>rfl) ⟨oe,he,rfl⟩
 | some v=>
  obtain ⟨a,o,vs,rfl,ho,hdo,h2⟩:=hq v hh;dsimp only;have ne:(Value.ref a != Value.ref e)=true:=by
   have:=hne _ hh
   simp only [bne_iff_ne,ne_eq];exact this
  rw [if_pos ne];refine Ao<|NK<|wpAny_runValue<|Tc sZ ?_
  unfold Qt.«proto.unchain»;dsimp only;refine Ao<|Kc ho hdo h2 ?_
  rw [if_pos (show (Value.none==Value.none)=true from rfl)];refine Ao<|Ba<|Ba ?_
  dsimp only;refine Ao ?_;unfold updateField;refine Ao<|wpAny_load he ?_
  rw [hd];dsimp only;rw [if_pos hz];refine wpAny_update he<|wpAny_throw ?_
  have hd3:=Vx hd (·.setIfInBounds 2 (Value.ref a));exact h _ (fun b hb=>TJ _ _<|Im hb) ⟨_,VR _ he<|Obj.isFreed_of_fields hd3,Obj.cls_mapFields _ _⟩
theorem acd {s:Ai}{it:Addr}{x left step:Int}{Q:Option Mk->Ai->Prop}(hh:wY A s.heap)(hit:IsRangeIter s.heap it x left step)(hleft:left<=0)
  (hQ:∀ h',V4 it s.heap h'->Q FX { s with heap:=h' }):Ay (Ax prog w) A (Ni (.ref it)) Q E s:=by
 have hT:s.TypeIs (.ref it) "range_iterator":=⟨_,hit,rfl⟩
 unfold Ni;refine Ao (Uu (TK (name:=SQ "__next__") hT F.slot_range_iterator_next
  (Qk F.slot_range_iterator_next hT F.entry_range_iterator_next ?_ (F.args_range_iterator_next_1 _))))
 show Ay _ _ (field (.ref it) 0 >>= _) _ _ s;refine Ao<|Kc hit rfl (x:=Ol x) rfl ?_
 show Ay _ _ (field (.ref it) 1 >>= _) _ _ s;refine Ao<|Kc hit rfl (x:=Ol left) rfl ?_
 show Ay _ _ (field (.ref it) 2 >>= _) _ _ s;refine Ao<|Kc hit rfl (x:=Ol step) rfl ?_
 show Ay _ _ (if left<=0 then _ else _) _ _ s;rw [if_pos hleft];refine Ao<|Np ?_
 refine Ao ?_;show Ay _ _ (newExc (.type "StopIteration") [] >>= _) _ _ _;refine Ao ?_;simp only [newExc,newTuple];refine Ao<|M8 ?_<|by size_fits
 refine Ao (m:=Uw _ _)<|wpAny_of_eq (a:=Value.none) (by first | rfl | (simp only [Uw];rfl)) ?_
 refine M8 ?_<|by size_fits
 refine zaq (A:=A.in1) (fun v e=>?_) (Ip _ rfl) rfl (by simp;lia) (fun v e=>?_) fun h' h1 ⟨o',h2,h3⟩=>?_
 ·obtain ⟨a,o,vs,r1,r2,r3⟩:=hh v e;exact ⟨a,o,vs,r1,Eo _<|Eo _ r2,r3⟩
 ·obtain ⟨a,o,vs,r1,r2,r3⟩:=hh v e;rw [r1];intro q;have q:a=_:=Value.ref.inj q;have:=Ej r2
  rw [q] at this;exact absurd this<|Nat.not_lt.mpr<|by simp [Heap.push]
 refine Ao<|wpAny_isInstance (T := "StopIteration") (b:=true) ⟨_,h2,h3⟩ isSubtype_stop ?_
 refine Ba<|hQ _ fun b o hb e=>?_
 rw [h1 b ?_]
 ·exact Eo _<|Eo _ e
 ·have:=Ej e
  exact G3<|FJ this<|by simp [Heap.push]
structure It where
 go:Nat->Hp->Prop
 yld:Nat->Hp->V->Hp->Prop
 stop:Nat->Hp->Prop
 cm:Bool
def Cp (X:Cx)(ahJ:List (Addr×Obj))(H:Hp)(b:Addr):Prop:=
 H b=FX/\b≠X.env.locals/\b∉X.fs/\(b∈X.ex\/X.s₀.heap.objs.size<=b)/\(∀ x c,X.env.cells.lookup x=FN c->c≠b)/\∀ p∈X.pn++ahJ,p.1≠b
theorem Av.fpOk {s:Ai}{b:Addr}(I:Av X ahJ Z H s)(hb:s.heap.objs.size<=b)(hn:H' b=FX):Cp X ahJ H' b:=by
 refine ⟨hn,Ky<|FJ I.lt hb,I.nofs hb,.inr<|CW I.sz hb,fun x c e z=>?_,fun p hp z=>?_⟩
 ·obtain ⟨v,q⟩:=I.cell x c e;exact absurd (FJ q.lt (by rw [z];exact hb))<|O9 _
 ·exact absurd (FJ (Ej (I.pin p hp).1) (by rw [z];exact hb))<|O9 _
structure Ox (P:DI) (w:Bw) (K:Az) (tg:Expr) (J:It) (fp:List Addr) (it:Addr) (tn:Nat->Heap->Prop):Prop where
 mem:it∈fp
 obj:∀ i h,tn i h->∀ b∈fp,∃ o,h.get? b=FN o/\∀ v,o.data≠.cell v
 keep:∀ i h h',tn i h->(∀ b∈fp,∀ o,h.get? b=FN o->h'.get? b=FN o)->tn i h'
 item:∀ (X:Cx),X.prog=P->X.w=w->X.K=K->(J.cm=true->X.calm=true)->∀ (i:Nat) (ahJ:List (Addr×Obj)) (s:Ai) (Z : St) (H:Hp) (E:Mk->Ai->Prop),Av X ahJ Z H s->(∀ b∈fp,Cp X ahJ H b)->tn i s.heap->J.go i H ->
  Ay (Ax P w) X.A (Ni (.ref it)) (fun r s1=>∃ u,r=FN u /\
   Ay (Ax P w) X.A (letOwnedTupleGo tg (.ref it) u) (fun _ s2=>∃ x H',Av X ahJ Z H' s2/\BX x u/\J.yld i H x H'/\tn (i+1) s2.heap/\∀ b∈fp,H' b=FX) E s1) E s
 done:∀ (X:Cx),X.prog=P->X.w=w->X.K=K->(J.cm=true->X.calm=true)->∀ (i:Nat) (ahJ:List (Addr×Obj)) (s:Ai) (Z : St) (H:Hp) (E:Mk->Ai->Prop),Av X ahJ Z H s->(∀ b∈fp,Cp X ahJ H b)->tn i s.heap->J.stop i H ->
  Ay (Ax P w) X.A (Ni (.ref it)) (fun r s1=>r=FX/\Av X ahJ Z H s1) E s
 self:∀ (A:DW) (i:Nat) (s:Ai) (Q:Mk->Ai->Prop) (E:Mk->Ai->Prop),tn i s.heap->Q (.ref it) s->Ay (Ax P w) A (pyIter (.ref it)) Q E s
abbrev TI:=St->Hp->(It->Hp->Prop)->Prop
def PIE (X:Cx)(ahJ:List (Addr×Obj))(Z : St)(tg:Expr)(R:It->Hp->Prop)(itv:Mk)(s2:Ai):Prop:=
 ∃ (it:Addr) (fp:List Addr) (tn:Nat->Heap->Prop) (J:It) (H':Hp),itv=.ref it/\Av X ahJ Z H' s2/\Ox X.prog X.w X.K tg J fp it tn/\tn 0 s2.heap/\(∀ b∈fp,Cp X ahJ H' b)/\R J H'
def PI (X:Cx)(tg iter:Expr)(wi:TI):Prop:=
 ∀ (ahJ:List (Addr×Obj)) (s:Ai) (Z : St) (H:Hp) (R:It->Hp->Prop),Av X ahJ Z H s->wi Z H R ->
  Ay (Ax X.prog X.w) X.A (eval iter X.env) (fun v s1=>Ay (Ax X.prog X.w) X.A (pyIter v) (PIE X ahJ Z tg R) X.xe s1) X.xe s
theorem Om {s:Ai}{it:Addr}{o:Obj}{n:String}{vs:Array Mk}{Q:Unit->Ai->Prop}(ho:s.heap.get? it=FN o)(hc:o.cls=.type n)(hd:o.data=.fields vs)
    (hn:["enumerate", "zip", "dict_itemiterator", "dict_reverseitemiterator", "odict_iterator", "itertools.zip_longest", "itertools.pairwise"].contains n=false) (hQ:Q () s):Ay M A (letOwnedTupleGo tg (.ref it) u) Q E s:=by
  unfold letOwnedTupleGo;cases tg <;> first
    | exact Ba hQ
    | (cases u <;> first
        | exact Ba hQ
        | (refine Ao (wpAny_load ho ?_)
           rw [hc,hd];show Ay M A (if (["enumerate", "zip", "dict_itemiterator", "dict_reverseitemiterator", "odict_iterator", "itertools.zip_longest", "itertools.pairwise"].contains n&&vs[0]?==FN (Ol _))=true then _ else _) Q E s;rw [if_neg (by intro h;rw [hn,Bool.false_and] at h;cases h)];exact Ba hQ))
def Itl (K:Az)(a:Addr):It:=
 ⟨fun i H=>∃ xs x,Ij K H a xs/\xs[i]?=FN x,fun i H x H'=>H'=H/\∀ xs,Ij K H a xs->xs[i]?=FN x,fun i H=>∃ xs,Ij K H a xs/\xs.length<=i,true⟩
def Itt (K:Az)(a:Addr):It:=
 ⟨fun i H=>∃ xs x,Ew K H a xs/\xs[i]?=FN x,fun i H x H'=>H'=H/\∀ xs,Ew K H a xs->xs[i]?=FN x,fun i H=>∃ xs,Ew K H a xs/\xs.length<=i,true⟩
def Itr (lo:Int)(n:Nat):It:=⟨fun i _=>i<n,fun i H x H'=>H'=H/\x=.int (lo+i),fun i _=>n<=i,false⟩
theorem zaJ (a it:Addr):Ox P w K tg (Itl K a) [it] it (fun i h=>h.IsListIter it a i) where
 mem:=by simp
 obj:=fun i h st b hb=>by
  have e:b=it:=by simpa using hb
  subst e;obtain ⟨o,e,c,d⟩:=st;exact ⟨o,e,fun v z=>by rw [d] at z;cases z⟩
 keep:=fun i h h' st k=>st.at fun o e=>k it (by simp) o e
 item:=by
  intro X hP hw hK hc i ahJ s Z H E I hf st hg;subst hP hw hK;obtain ⟨xs,x,hq,hx⟩:=hg;obtain ⟨its,rv,p,hz⟩:=I.list hq;obtain ⟨u,hu,ru⟩:=rv.get hx;obtain ⟨f0,f1,f2,f3,f4,f5⟩:=hf it (by simp);refine wpAny_pyNext_list_item st p.isList (x:=u) (by simpa using hu) fun h' st' sb=>?_;have I1:Av X ahJ Z H { s with heap:=h' }:=I.turned (t':=s.toks) (fun b o hb e=>(sb.2 b hb).trans e) f0 f1 f3 f4 f5;obtain ⟨o,e,c,d⟩:=id st';exact ⟨u,rfl,Om (s:={ s with heap:=h' }) e c d (by decide) ⟨x,H,I1,ru,⟨rfl,fun ys hy=>by rw [I.list_inj hy hq];exact hx⟩,st',fun b hb=>(hf b hb).1⟩⟩
 done:=by
  intro X hP hw hK hc i ahJ s Z H E I hf st hg;subst hP hw hK;obtain ⟨xs,hq,hx⟩:=hg;obtain ⟨its,rv,p,hz⟩:=I.list hq;obtain ⟨f0,f1,f2,f3,f4,f5⟩:=hf it (by simp);have hl:=rv.length;exact wpAny_pyNext_list_end (I.ok.hd<|hc rfl) st p.isList (by simp;lia) fun h' eb=>⟨rfl,I.turned (t':=s.toks) (fun b o hb e=>eb b o hb e) f0 f1 f3 f4 f5⟩
 self:=fun _ _ _ _ _ st h=>wpAny_pyIter_listiter st h
theorem zan (a it:Addr):Ox P w K tg (Itt K a) [it] it (fun i h=>h.IsTupleIter it a i) where
 mem:=by simp
 obj:=fun i h st b hb=>by
  have e:b=it:=by simpa using hb
  subst e;obtain ⟨o,e,c,d⟩:=st;exact ⟨o,e,fun v z=>by rw [d] at z;cases z⟩
 keep:=fun i h h' st k=>st.at fun o e=>k it (by simp) o e
 item:=by
  intro X hP hw hK hc i ahJ s Z H E I hf st hg;subst hP hw hK;obtain ⟨xs,x,hq,hx⟩:=hg;obtain ⟨its,rv,p,hz⟩:=I.tuple hq;obtain ⟨u,hu,ru⟩:=rv.get hx;obtain ⟨f0,f1,f2,f3,f4,f5⟩:=hf it (by simp);refine wpAny_pyNext_tuple_item st (show s.heap.IsTuple a its.toArray from p) (x:=u) (by simpa using hu) fun h' st' sb=>?_;have I1:Av X ahJ Z H { s with heap:=h' }:=I.turned (t':=s.toks) (fun b o hb e=>(sb.2 b hb).trans e) f0 f1 f3 f4 f5;obtain ⟨o,e,c,d⟩:=id st';exact ⟨u,rfl,Om (s:={ s with heap:=h' }) e c d (by decide) ⟨x,H,I1,ru,⟨rfl,fun ys hy=>by rw [I.tuple_inj hy hq];exact hx⟩,st',fun b hb=>(hf b hb).1⟩⟩
 done:=by
  intro X hP hw hK hc i ahJ s Z H E I hf st hg;subst hP hw hK;obtain ⟨xs,hq,hx⟩:=hg;obtain ⟨its,rv,p,hz⟩:=I.tuple hq;obtain ⟨f0,f1,f2,f3,f4,f5⟩:=hf it (by simp);have hl:=rv.length;exact wpAny_pyNext_tuple_end (I.ok.hd<|hc rfl) st (show s.heap.IsTuple a its.toArray from p) (by simp;lia) fun h' eb=>⟨rfl,I.turned (t':=s.toks) (fun b o hb e=>eb b o hb e) f0 f1 f3 f4 f5⟩
 self:=fun _ _ _ _ _ st h=>wpAny_pyIter_tupleiter st h
theorem acS (it:Addr)(lo:Int)(n:Nat):Ox P w K tg (Itr lo n) [it] it (fun i h=>IsRangeIter h it (lo+(i:Nat)*1) ((n:Int) - (i:Nat)) 1) where
 mem:=by simp
 obj:=fun i h st b hb=>by
  have e:b=it:=by simpa using hb
  subst e;exact ⟨_,st,fun v z=>by
   have z':Data.fields _=Data.cell v:=z;cases z'⟩
 keep:=fun i h h' st k=>k it (by simp) _ st
 item:=by
  intro X hP hw hK hc i ahJ s Z H E I hf st hg;subst hP hw hK;obtain ⟨f0,f1,f2,f3,f4,f5⟩:=hf it (by simp);refine wpAny_pyNext_range_item st (by have:i<n:=hg;lia) fun h' st' kk=>?_;have I1:Av X ahJ Z H { s with heap:=h',toks:=s.toks+1 }:=I.turned (fun b o hb e=>(kk.2 b hb).trans e) f0 f1 f3 f4 f5;have st2:IsRangeIter h' it (lo+((i+1:Nat):Int)*1) ((n:Int) - ((i+1:Nat):Int)) 1:=by
   have e1:lo+((i+1:Nat):Int)*1=lo+((i:Nat):Int)*1+1:=by lia
   have e2:(n:Int) - ((i+1:Nat):Int)=(n:Int) - ((i:Nat):Int) - 1:=by lia
   rw [e1,e2];exact st'
  refine ⟨_,rfl,Om (s:={ s with heap:=h',toks:=s.toks+1 }) (n := "range_iterator") st' rfl rfl (by decide) ⟨.int<|lo+i,H,I1,⟨s.toks,?_⟩,⟨rfl,rfl⟩,st2,fun b hb=>(hf b hb).1⟩⟩;rw [Int.mul_one]
 done:=by
  intro X hP hw hK hc i ahJ s Z H E I hf st hg;subst hP hw hK;obtain ⟨f0,f1,f2,f3,f4,f5⟩:=hf it (by simp);exact acd (zae I.qt0 I.hok) st (by have:n<=i:=hg;lia) fun h' eb=>⟨rfl,I.turned (t':=s.toks) (fun b o hb e=>eb b o hb e) f0 f1 f3 f4 f5⟩
 self:=fun _ _ _ _ _ st h=>wpAny_pyIter_rangeiter st h
section
theorem Ab {s:Ai}{R:It->Hp->Prop}{lo hi:Int}{t u v:Tok}{tk:Nat}(I:Av X ahJ Z H s)(h1:-(2^62)<=lo)(h2:lo<2^62)(h3:-(2^62)<=hi)(h4:hi<2^62)
  (q:R (Itr lo (hi - lo).toNat) H):Ay (Ax X.prog X.w) X.A (pyIter (.ref s.heap.objs.size)) (PIE X ahJ Z tg R) E { s with heap:=s.heap.push { cls:=.type "range",data:=.fields #[.int lo t,.int hi u,.int 1 v] },toks:=tk }:=by
 refine wpAny_pyIter_range (IsRange.new ..) (small_one h1 h2 h3 h4) ?_;have I1:Av X ahJ Z H { s with heap:=s.heap.push { cls:=.type "range",data:=.fields #[.int lo t,.int hi u,.int 1 v] },toks:=tk }:=I.kept fun b o e=>Eo _ e
 refine ⟨(s.heap.push { cls:=.type "range",data:=.fields #[.int lo t,.int hi u,.int 1 v] }).objs.size,[(s.heap.push { cls:=.type "range",data:=.fields #[.int lo t,.int hi u,.int 1 v] }).objs.size],_,_,H,rfl,
  I1.kept (t':=tk) fun b o e=>Eo _ e,acS _ lo (hi - lo).toNat,?_,fun b hb=>?_,q⟩
 ·have e1:lo+((0:Nat):Int)*1=lo:=by simp
  have e2:(((hi - lo).toNat:Nat):Int) - ((0:Nat):Int)=Builtin.Range.rangeSize lo hi 1:=by rw [rangeSize_one];split <;> lia
  show IsRangeIter _ _ (lo+((0:Nat):Int)*1) ((((hi - lo).toNat:Nat):Int) - ((0:Nat):Int)) 1;rw [e1,e2];exact Ip _ rfl
 ·have e:b=(s.heap.push { cls:=.type "range",data:=.fields #[.int lo t,.int hi u,.int 1 v] }).objs.size:=by simpa using hb
  subst e;exact I1.fpOk (Bp _)<|I1.hok.fresh<|Bp _
def Ye (ta:TA):TI:=fun Z H R=>ta Z H fun vs H1=>∃ j:Int,vs=[.int j]/\-(2^62)<=j/\j<2^62/\R (Itr 0 j.toNat) H1
def X7 (ta:TA):TI:=fun Z H R=>ta Z H fun vs H1=>∃ i j:Int,vs=[.int i,.int j]/\(-(2^62)<=i/\i<2^62/\-(2^62)<=j/\j<2^62)/\R (Itr i (j - i).toNat) H1
theorem zay {a:Expr}{ta:TA}{p:Pos}(hg:Gl X "range")(hm:X.mg "range" = FX)(ha:PA X [a] ta)(hs:Dh [a] X.env=[(false,eval a X.env)]:=by rfl):PI X tg (.Call (.Name "range" p) [a] [] pos) (Ye ta):=by
 intro ahJ s Z H R I h;refine Call_<|mV I hg hm boot_range<|VL (Ei (ha pos ahJ s Z H _ I h) fun us s1 ⟨vs,H1,I1,r1,q1⟩=>?_) hs rfl
 obtain ⟨j,e,q1,q2,q⟩:=q1;subst e;cases r1 with
 | cons r rr=>
  cases rr;obtain ⟨t,rfl⟩:=r;exact call_range_1<|Ab I1 (by lia) (by lia) q1 q2<|by simpa using q
theorem zaN {a b:Expr}{ta:TA}{p:Pos}(hg:Gl X "range")(hm:X.mg "range" = FX)(ha:PA X [a,b] ta)(hs:Dh [a,b] X.env=[(false,eval a X.env),(false,eval b X.env)]:=by rfl)(hs2:Dh [b] X.env=[(false,eval b X.env)]:=by rfl):
  PI X tg (.Call (.Name "range" p) [a,b] [] pos) (X7 ta):=by
 intro ahJ s Z H R I h;refine Call_<|mV I hg hm boot_range<|VL (Ei (ha pos ahJ s Z H _ I h) fun us s1 ⟨vs,H1,I1,r1,q1⟩=>?_) (by rw [hs,hs2]) (by rw [hs2];rfl)
 obtain ⟨i,j,e,⟨q1,q2,q3,q4⟩,q⟩:=q1;subst e;cases r1 with
 | cons r rr=>
  cases rr with
  | cons r' rr=>
   cases rr;obtain ⟨t,rfl⟩:=r;obtain ⟨t',rfl⟩:=r';exact call_range_2<|Ab I1 q1 q2 q3 q4 q
def abN (wi:TI)(g:TG)(tb:TS):TS:=fun D Z H=>wi Z H fun J H1=>∃ W:Nat->Nat->St->Hp->Prop,(∃ m,W 0 m Z H1)/\∀ i m Z H,W i m Z H ->
 (J.stop i H/\D.nx Z H)\/(J.go i H/\∃ N:St->Hp->Prop,(∀ Z' H',N Z' H'->∃ m',m'<m/\W (i+1) m' Z' H')/\∀ x H',J.yld i H x H'->g x Z H' fun Z2 H2=>tb { D with nx:=N,ct:=N,bk:=D.nx } Z2 H2)
def vG (fp:List Addr)(h:Heap):List (Addr×Obj):=fp.filterMap fun b=>(h.get? b).map fun o=>(b,o)
theorem jh {fp:List Addr}{b:Addr}{o:Obj}(hb:b∈fp)(e:h.get? b=FN o):(b,o)∈vG fp h:=List.mem_filterMap.mpr ⟨b,hb,by rw [e];rfl⟩
theorem zat {fp:List Addr}{p:Addr×Obj}(hp:p∈vG fp h):p.1∈fp/\h.get? p.1=FN p.2:=by
 obtain ⟨b,hb,e⟩:=List.mem_filterMap.mp hp;cases q:h.get? b with
 | none=>rw [q] at e;cases e
 | some o=>
  rw [q] at e;have e':(b,o)=p:=Eu e;subst e';exact ⟨hb,q⟩
theorem Av.pinned {s:Ai}{fp:List Addr}(I:Av X ahJ Z H s)(hf:∀ b∈fp,Cp X ahJ H b)(ho:∀ b∈fp,∃ o,s.heap.get? b=FN o/\∀ v,o.data≠.cell v):Av X (ahJ++vG fp s.heap) Z H s:=
 I.pins_of fun p hp=>(Jx.mp hp).elim (fun z=>I.pin p (Q7 _ z)) fun z=>by
  obtain ⟨hb,e⟩:=zat z;obtain ⟨f0,f1,f2,_⟩:=hf p.1 hb;obtain ⟨o,e',d⟩:=ho p.1 hb;rw [e] at e';cases e';exact ⟨e,f0,f1,f2,d⟩
theorem Av.unpinned {pl:List (Addr×Obj)}{s:Ai}(I:Av X (ahJ++pl) Z H s):Av X ahJ Z H s:=I.pins_of fun p hp=>I.pin p (Q7 _ (Rj _ hp))
theorem afT {iter:Expr}{body:List Stmt}{wi:TI}{g:TG}{tb:TS}(hp:aeG (Ax X.prog X.w) X.A X.env X.xe)(hc:X.calm=true)(hi:PI X tg iter wi)(hg:PG X tg g)(hb:NP X body tb)
  (hs:∀ x,U8 iter X.env x=pure x:=by intro _;rfl):PS X (.For tg iter body [] pos) (abN wi g tb):=by
 intro ahJ s Z H D I h;refine wpAny_For (Ei (hi ahJ s Z H _ I h) fun v s1 h1=>Ei h1 fun itv s2 h2=>?_) hs;obtain ⟨it,fp,tn,J,H2,e,I2,T,st2,f2,W,⟨m0,w0⟩,turn⟩:=h2;subst e
 -- what stays true of the iterator's objects through the loop
 have stat:∀ {H':Hp},(∀ b∈fp,H' b=FX)->∀ b∈fp,Cp X ahJ H' b:=fun hn b hb=>⟨hn b hb,(f2 b hb).2⟩
 refine codeAny_forLoop_any (fun n s'=>∃ i Z' H',Av X ahJ Z' H' s'/\tn i s'.heap/\(∀ b∈fp,H' b=FX)/\W i n Z' H') ?_ m0 ⟨0,Z,H2,I2,st2,fun b hb=>(f2 b hb).1,w0⟩;rintro n s3 ⟨i,Z3,H3,I3,st3,fr3,w3⟩;rcases turn i n Z3 H3 w3 with ⟨stop,qn⟩ | ⟨go,N,hN,step⟩
 ·refine Vp hp<|Ei (T.done X rfl rfl rfl (fun _=>hc) i ahJ s3 Z3 H3 X.xe I3 (stat fr3) st3 stop) fun r s4 ⟨hr,I4⟩=>?_
  subst hr;exact wpAny_execs_nil ⟨Z3,H3,I4,qn⟩
 ·refine Vp hp<|Ei (T.item X rfl rfl rfl (fun _=>hc) i ahJ s3 Z3 H3 X.xe I3 (stat fr3) st3 go) fun r s4 ⟨u,hr,h4⟩=>?_
  subst hr;refine Vp hp<|Ei h4 fun _ s5 ⟨x,H5,I5,r5,y5,st5,fr5⟩=>?_
  have I5':=I5.pinned (stat fr5) (T.obj _ _ st5);refine Vp hp<|Ei (hg _ s5 Z3 H5 x u _ I5' r5<|step x H5 y5) fun _ s6 ⟨Z6,H6,I6,q6⟩=>?_
  refine Vp hp<|Ei (hb _ s6 Z6 H6 _ I6 q6) fun f s7 q7=>?_
  have again:∀ {Z7:St} {H7:Hp},Av X (ahJ++vG fp s5.heap) Z7 H7 s7->N Z7 H7->∃ m,m<n/\∃ i Z' H',Av X ahJ Z' H' s7/\tn i s7.heap/\(∀ b∈fp,H' b=FX)/\W i m Z' H':=fun {Z7 H7} I7 n7=>by
   obtain ⟨m',hm,w7⟩:=hN Z7 H7 n7;refine ⟨m',hm,i+1,Z7,H7,I7.unpinned,T.keep _ _ _ st5 fun b hb o e=>(I7.pin (b,o)<|Q7 _<|Q7 _<|jh hb e).1,fun b hb=>?_,w7⟩;obtain ⟨o,e,d⟩:=T.obj _ _ st5 b hb;exact (I7.pin (b,o)<|Q7 _<|Q7 _<|jh hb e).2.1
  cases f with
  | next=>obtain ⟨Z7,H7,I7,n7⟩:=q7;exact again I7 n7
  | cont=>obtain ⟨Z7,H7,I7,n7⟩:=q7;exact again I7 n7
  | brk=>obtain ⟨Z7,H7,I7,q7⟩:=q7;exact ⟨Z7,H7,I7.unpinned,q7⟩
  | ret v=>obtain ⟨x7,Z7,H7,I7,r7,q7⟩:=q7;exact ⟨x7,Z7,H7,I7.unpinned,r7,q7⟩
end
variable {body : List Stmt}
theorem mq {a:Addr}{g:TG}{tb:TS}(Pv:Nat->St->Hp->Prop)(h0:Pv 0 Z H)(hl:∀ i Z H,i<=xs.length->Pv i Z H->Ew K H a xs)
  (hs:∀ i x Z H,xs[i]?=FN x->Pv i Z H->g x Z H fun Z2 H2=>tb { D with nx:=Pv (i+1),ct:=Pv (i+1),bk:=D.nx } Z2 H2) (hd:∀ Z H,Pv xs.length Z H->D.nx Z H) :
  ∃ W:Nat->Nat->St->Hp->Prop,(∃ m,W 0 m Z H)/\∀ i m Z H,W i m Z H ->
   ((Itt K a).stop i H/\D.nx Z H)\/((Itt K a).go i H/\∃ N:St->Hp->Prop,(∀ Z' H',N Z' H'->∃ m',m'<m/\W (i+1) m' Z' H')/\∀ x H',(Itt K a).yld i H x H'->g x Z H' fun Z2 H2=>tb { D with nx:=N,ct:=N,bk:=D.nx } Z2 H2):=by
 refine ⟨fun i m Z H=>m=xs.length - i/\i<=xs.length/\Pv i Z H,⟨xs.length,by simp,Ja _,h0⟩,?_⟩;rintro i m Z H ⟨rfl,hi,p⟩;have q:=hl i Z H hi p;by_cases hlt:i<xs.length
 ·refine .inr ⟨⟨xs,xs[i],q,by simp [hlt]⟩,Pv<|i+1,fun Z' H' p'=>⟨xs.length - (i+1),by lia,rfl,hlt,p'⟩,fun x H' y=>?_⟩;obtain ⟨e,y⟩:=y;subst e;exact hs i x Z _ (y xs q) p
 ·have e:i=xs.length:=by lia
  subst e;exact .inl ⟨⟨xs,q,Bp _⟩,hd Z H p⟩
abbrev R2:=V->V->Hp->VK->Prop
def J6 (X:Cx)(f:Mk->Mk->Sem Mk)(r:R2):Prop:=
 ∀ (ahJ:List (Addr×Obj)) (s:Ai) (Z : St) (H:Hp) (x y:V) (v u:Mk) (Q:VK),Av X ahJ Z H s->BX x v->BX y u->r x y H Q ->
  Ay (Ax X.prog X.w) X.A (f v u) (EP X ahJ Z Q) X.xe s
def UnR (X:Cx)(f:Mk->Sem Mk)(r:V->Hp->VK->Prop):Prop:=
 ∀ (ahJ:List (Addr×Obj)) (s:Ai) (Z : St) (H:Hp) (x:V) (v:Mk) (Q:VK),Av X ahJ Z H s->BX x v->r x H Q ->
  Ay (Ax X.prog X.w) X.A (f v) (EP X ahJ Z Q) X.xe s
def fL (X:Cx)(f:Mk)(r:List V->Hp->VK->Prop):Prop:=
 ∀ (ahJ:List (Addr×Obj)) (s:Ai) (Z : St) (H:Hp) (xs:List V) (us:List Mk) (Q:VK),Av X ahJ Z H s->Aw xs us->r xs H Q ->
  Ay (Ax X.prog X.w) X.A (call f us) (EP X ahJ Z Q) X.xe s
def abj (X:Cx)(r:V->Hp->(Bool->Hp->Prop)->Prop):Prop:=
 ∀ (ahJ:List (Addr×Obj)) (s:Ai) (Z : St) (H:Hp) (x:V) (v:Mk) (Q:Bool->Hp->Prop),Av X ahJ Z H s->BX x v->r x H Q ->
  Ay (Ax X.prog X.w) X.A (truthy v) (TP X ahJ Z Q) X.xe s
def tOp (r:R2)(ta tb:TE):TE:=fun Z H Q=>ta Z H fun x H1=>tb Z H1 fun y H2=>r x y H2 Q
def tUn (r:V->Hp->VK->Prop)(ta:TE):TE:=fun Z H Q=>ta Z H fun x H1=>r x H1 Q
def rI (C:Int->Int->Prop)(g:Int->Int->V):R2:=fun x y H Q=>∃ i j,x=.int i/\y=.int j/\C i j/\Q (g i j) H
def rI0 (g:Int->Int->V):R2:=fun x y H Q=>∃ i j,x=.int i/\y=.int j/\Q (g i j) H
def rU (g:Int->V):V->Hp->VK->Prop:=fun x H Q=>∃ i,x=.int i/\Q (g i) H
section
variable {a b c:Expr}{tb tc:TE}
theorem X4 (ha:PE X a ta)(hb:PE X b tb){s:Ai}{R:V->V->Hp->Prop}(I:Av X ahJ Z H s)
  (h:ta Z H fun x H1=>tb Z H1 fun y H2=>R x y H2) {Q:Mk->Ai->Prop} {f:Mk->Mk->Sem Mk}
  (hf:∀ v u s2 x y H2,Av X ahJ Z H2 s2->BX x v->BX y u->R x y H2->Ay (Ax X.prog X.w) X.A (f v u) Q X.xe s2) :
  Ay (Ax X.prog X.w) X.A (eval a X.env) (fun v s₁=>Ay (Ax X.prog X.w) X.A (eval b X.env) (fun u s₂=>Ay (Ax X.prog X.w) X.A (f v u) Q X.xe s₂) X.xe s₁) X.xe s:=by
 refine Ei (ha ahJ s Z H _ I h) fun v s1 ⟨x,H1,I1,r1,q1⟩=>?_;refine Ei (hb ahJ s1 Z H1 _ I1 q1) fun u s2 ⟨y,H2,I2,r2,q2⟩=>?_;exact hf v u s2 x y H2 I2 r1 r2 q2
theorem Yv {op:Operator}{r:R2}(ho:J6 X (Jw op) r)(ha:PE X a ta)(hb:PE X b tb):PE X (.BinOp a op b pos) (tOp r ta tb):=by
 intro ahJ s Z H Q I h;exact wpAny_BinOp<|X4 ha hb I h fun v u s2 x y H2 I2 rx ry q=>ho ahJ s2 Z H2 x y v u Q I2 rx ry q
theorem Yx {op:UnaryOp}{r:V->Hp->VK->Prop}(ho:UnR X (unaryOp op) r)(ha:PE X a ta):PE X (.UnaryOp op a pos) (tUn r ta):=by
 intro ahJ s Z H Q I h;exact UnaryOp_<|Ei (ha ahJ s Z H _ I h) fun v s1 ⟨x,H1,I1,r1,q1⟩=>ho ahJ s1 Z H1 x v Q I1 r1 q1
theorem opI {f:Mk->Mk->Sem Mk}{C:Int->Int->Prop}{g:Int->Int->Int}
  (rule:∀ (i j:Int) (t u:Tok) (s:Ai) (Q:Mk->Ai->Prop) (E:Mk->Ai->Prop),C i j->Q (.int (g i j) s.toks) { s with toks:=s.toks+1 }->Ay (Ax X.prog X.w) X.A (f (.int i t) (.int j u)) Q E s) :
  J6 X f (rI C fun i j=>.int (g i j)):=by
 intro ahJ s Z H x y v u Q I rx ry h;obtain ⟨i,j,rfl,rfl,hc,q⟩:=h;obtain ⟨t,rfl⟩:=rx;obtain ⟨t',rfl⟩:=ry;exact rule i j t t' s _ _ hc ⟨.int<|g i j,H,I.tok _,⟨_,rfl⟩,q⟩
theorem aao {f:Mk->Mk->Sem Mk}{g:Int->Int->Int}
  (rule:∀ (i j:Int) (t u:Tok) (s:Ai) (Q:Mk->Ai->Prop) (E:Mk->Ai->Prop),Q (.int (g i j) s.toks) { s with toks:=s.toks+1 }->Ay (Ax X.prog X.w) X.A (f (.int i t) (.int j u)) Q E s) :
  J6 X f (rI0 fun i j=>.int (g i j)):=by
 intro ahJ s Z H x y v u Q I rx ry h;obtain ⟨i,j,rfl,rfl,q⟩:=h;obtain ⟨t,rfl⟩:=rx;obtain ⟨t',rfl⟩:=ry;exact rule i j t t' s _ _ ⟨.int<|g i j,H,I.tok _,⟨_,rfl⟩,q⟩
theorem Yr {f:Mk->Mk->Sem Mk}{g:Int->Int->Bool}
  (rule:∀ (i j:Int) (t u:Tok) (s:Ai) (Q:Mk->Ai->Prop) (E:Mk->Ai->Prop),Q (.bool (g i j)) s->Ay (Ax X.prog X.w) X.A (f (.int i t) (.int j u)) Q E s) :
  J6 X f (rI0 fun i j=>.bl (g i j)):=by
 intro ahJ s Z H x y v u Q I rx ry h;obtain ⟨i,j,rfl,rfl,q⟩:=h;obtain ⟨t,rfl⟩:=rx;obtain ⟨t',rfl⟩:=ry;exact rule i j t t' s _ _ ⟨.bl<|g i j,H,I,rfl,q⟩
def ZF (i j:Int):Prop:=0<=j/\j<=1000000/\i.natAbs<2^64
theorem adG:J6 X (Jw .Add) (rI0 fun i j=>.int (i+j)):=aao fun _ _ _ _ _ _ _ q=>add_int q
theorem afO:J6 X (Jw .Sub) (rI0 fun i j=>.int (i - j)):=aao fun _ _ _ _ _ _ _ q=>sub_int q
theorem adx:J6 X (Jw .Mod) (rI (fun _ j=>j≠0) fun i j=>.int (i.fmod j)):=opI fun _ _ _ _ _ _ _ hc q=>mod_int' hc q
theorem zcv:J6 X (Jw .Pow) (rI ZF fun i j=>.int (i^j.toNat)):=opI fun _ _ _ _ _ _ _ hc q=>pow_int_small hc.1 hc.2.1 hc.2.2 q
theorem unI {f:Mk->Sem Mk}{g:Int->Int}
  (rule:∀ (i:Int) (t:Tok) (s:Ai) (Q:Mk->Ai->Prop) (E:Mk->Ai->Prop),Q (.int (g i) s.toks) { s with toks:=s.toks+1 }->Ay (Ax X.prog X.w) X.A (f (.int i t)) Q E s) :
  UnR X f (rU fun i=>.int (g i)):=by
 intro ahJ s Z H x v Q I rx h;obtain ⟨i,rfl,q⟩:=h;obtain ⟨t,rfl⟩:=rx;exact rule i t s _ _ ⟨.int<|g i,H,I.tok _,⟨_,rfl⟩,q⟩
theorem agn:UnR X (unaryOp .USub) (rU fun i=>.int (-i)):=unI fun _ _ _ _ _ q=>neg_int q
theorem zA {s:Ai}{Q:VK}{k k':Bool}(I:Av X ahJ Z H s)(q:Q (.bl k) H)(e:k=k'):EP X ahJ Z Q (.bool k') s:=by
 subst e;exact ⟨.bl k,H,I,rfl,q⟩
theorem YM:J6 X (Jb .Lt) (rI0 fun i j=>.bl (decide (i<j))):=Yr fun _ _ _ _ _ _ _ q=>lt_int q
theorem XF:J6 X (Jb .Gt) (rI0 fun i j=>.bl (decide (j<i))):=Yr fun _ _ _ _ _ _ _ q=>gt_int q
theorem aad:J6 X (Jb .GtE) (rI0 fun i j=>.bl (decide (j<=i))):=Yr fun _ _ _ _ _ _ _ q=>ge_int q
theorem afj:J6 X (Jb .IsNot) (fun x y H Q=>y=.non/\Q (.bl (!decide (x=.non))) H):=by
 intro ahJ s Z H x y v u Q I rx ry h;obtain ⟨rfl,q⟩:=h;cases ry;refine isnot_none_gen<|zA I q ?_
 cases x <;> first
  | (cases rx;rfl)
  | (obtain ⟨t,rfl⟩:=rx;rfl)
theorem J6.or {f:Mk->Mk->Sem Mk}{r r':R2}(h:J6 X f r)(h':J6 X f r'):J6 X f (fun x y H Q=>r x y H Q\/r' x y H Q):=by
 intro ahJ s Z H x y v u Q I rx ry q;rcases q with q | q
 ·exact h ahJ s Z H x y v u Q I rx ry q
 ·exact h' ahJ s Z H x y v u Q I rx ry q
theorem Lk (b:Expr){op:CmpOp}(h:op≠.In:=by decide)(h2:op≠.NotIn:=by decide):Td op b=false:=by
 have e1:(op==CmpOp.In)=false:=by cases op <;> first | rfl | exact absurd rfl h
 have e2:(op==CmpOp.NotIn)=false:=by cases op <;> first | rfl | exact absurd rfl h2
 cases b <;> simp [Td,e1,e2]
theorem zbU {op:CmpOp}{r:R2}(ho:J6 X (Jb op) r)(ha:PE X a ta)(hb:PE X b tb)(hm:Td op b=false):PE X (.Compare a [op] [b] pos) (tOp r ta tb):=by
 intro ahJ s Z H Q I h;exact wpAny_Compare1 (X4 ha hb I h fun v u s2 x y H2 I2 rx ry q=>ho ahJ s2 Z H2 x y v u Q I2 rx ry q) hm
def ZX (t:TE):TT:=fun Z H Q=>t Z H fun x H'=>∃ k,x=.bl k/\Q k H'
theorem adA {op:CmpOp}{r:R2}(ho:J6 X (Jb op) r)(ha:PE X a ta)(hb:PE X b tb)(hm:Td op b=false):PT X (.Compare a [op] [b] pos) (ZX (tOp r ta tb)):=by
 intro ahJ s Z H Q I h;refine wpAny_isTrue_Compare1 (Ei (ha ahJ s Z H _ I h) fun v s1 ⟨x,H1,I1,r1,q1⟩=>Ei (hb ahJ s1 Z H1 _ I1 q1) fun u s2 ⟨y,H2,I2,r2,q2⟩=>
  Ei (ho ahJ s2 Z H2 x y v u _ I2 r1 r2 q2) fun c s3 ⟨z,H3,I3,r3,k,e,q3⟩=>?_) hm
 subst e;cases r3;exact wpAny_truthy_bool ⟨H3,I3,q3⟩
def aaF (K:Az)(x:V)(H:Hp)(k:Bool):Prop:=
 match x with
 | .non=>k=false
 | .bl b=>k=b
 | .int i=>k=(i != 0)
 | .str y=>y.length<=Dp/\k=((y.length:Int) != 0)
 | .byt y=>y.size<=Dp/\k=((y.size:Int) != 0)
 | .ref p=>(∃ xs,Ij K H p xs/\k = !xs.isEmpty)\/(∃ xs,Ew K H p xs/\k = !xs.isEmpty)\/∃ kvs,H p=FN (.dK kvs)/\k = !kvs.isEmpty
 | _=>False
theorem zal {kvs:List (κ×V)}{vs:List (κ×Mk)}(r:KV kvs vs):(!vs.isEmpty) = !kvs.isEmpty:=by
 cases r <;> rfl
theorem qU {its:List Mk}(r:Aw xs its):(!its.toArray.isEmpty) = !xs.isEmpty:=by
 cases r <;> simp
theorem qD:(Dp:Nat)<2^63:=by rw [V3];decide
theorem agB:abj X (fun x H Q=>∃ k,aaF X.K x H k/\Q k H):=by
 intro ahJ s Z H x v Q I rx h;obtain ⟨k,e,q⟩:=h;have hl:=qD;have hs:Dp=16777216:=V3;cases x with
 | non=>
  cases rx;have e':k=false:=e;subst e';exact truthy_none ⟨H,I,q⟩
 | bl b=>
  cases rx;have e':k=b:=e;subst e';exact wpAny_truthy_bool ⟨H,I,q⟩
 | int i=>
  obtain ⟨t,rfl⟩:=rx;have e':k=(i != 0):=e;subst e';exact PySem.P.truthy_int ⟨H,I,q⟩
 | str y=>
  obtain ⟨t,rfl⟩:=rx;obtain ⟨hy,e'⟩:y.length<=Dp/\k=((y.length:Int) != 0):=e;subst e';exact PySem.P.truthy_str (by lia) ⟨H,I.tok _,q⟩
 | byt y=>
  obtain ⟨t,rfl⟩:=rx;obtain ⟨hy,e'⟩:y.size<=Dp/\k=((y.size:Int) != 0):=e;subst e';exact PySem.W.truthy_bytes (by lia) ⟨H,I.tok _,q⟩
 | ref p=>
  cases rx;have e':(∃ xs,Ij X.K H p xs/\k = !xs.isEmpty)\/(∃ xs,Ew X.K H p xs/\k = !xs.isEmpty)\/∃ kvs,H p=FN (.dK kvs)/\k = !kvs.isEmpty:=e
  rcases e' with ⟨xs,hx,e'⟩ | ⟨xs,hx,e'⟩ | ⟨kvs,hx,e'⟩
  ·subst e';obtain ⟨its,r,pl,hz⟩:=I.list hx;have ahK:=r.length;exact wpAny_truthy_list pl.isList (by simp only [Io];lia) ⟨H,I.tok _,by rw [qU r];exact q⟩
  ·subst e';obtain ⟨its,r,pl,hz⟩:=I.tuple hx;have ahK:=r.length;exact truthy_tuple pl (by simp only [Io];lia) ⟨H,I.tok _,by rw [qU r];exact q⟩
  ·subst e';obtain ⟨hz,hS,vs,r,m⟩:kvs.length<=Dp/\(p==Kv)=false/\∃ vs,KV kvs vs/\s.heap.DictOf (dM X.prog X.w) p vs:=I.hok p _ hx
   have ahK:kvs.length=vs.length:=Ux r;exact wpAny_truthy_dict hS m (by lia) ⟨H,I.tok _,by rw [zal r];exact q⟩
 | _=>exact (show False from e).elim
theorem adg (ha:PE X a ta)(he:∀ whole,isTrue a X.env whole=(do let v <-whole;standAt a.pos;holding [v] (truthy v))):
  PT X a (fun Z H Q=>ta Z H fun x H'=>∃ k,aaF X.K x H' k/\Q k H'):=by
 intro ahJ s Z H Q I h;exact isTrue_plain (Ei (ha ahJ s Z H _ I h) fun v s1 ⟨x,H1,I1,r1,q1⟩=>agB ahJ s1 Z H1 x v Q I1 r1 q1)<|he _
theorem Gv {x:V}(r:Aw [x] us):∃ u,us=[u]/\BX x u:=by
 cases r with
 | cons r1 r2=>cases r2;exact ⟨_,rfl,r1⟩
theorem Kp {x y:V}(r:Aw [x,y] us):∃ u w',us=[u,w']/\BX x u/\BX y w':=by
 cases r with
 | cons r1 r2=>
  cases r2 with
  | cons r3 r4=>cases r4;exact ⟨_,_,rfl,r1,r3⟩
theorem aen:fL X (.builtin "abs") (fun xs H Q=>∃ i,xs=[.int i]/\Q (.int (if i<0 then -i else i)) H):=by
 intro ahJ s Z H xs us Q I r h;obtain ⟨i,rfl,q⟩:=h;obtain ⟨u,rfl,t,rfl⟩:=Gv r;exact call_abs_int fun u tk=>⟨.int<|if i<0 then -i else i,H,I.tok _,⟨_,rfl⟩,q⟩
theorem acB (hc:X.calm=true):fL X (.builtin "max") (fun xs H Q=>∃ i j,xs=[.int i,.int j]/\Q (.int (if j>i then j else i)) H):=by
 intro ahJ s Z H xs us Q I r h;obtain ⟨i,j,rfl,q⟩:=h;obtain ⟨u,w',rfl,⟨t,rfl⟩,⟨t',rfl⟩⟩:=Kp r;refine max_two_ints (I.ok.hd hc) fun h' tk k=>⟨_,H,I.kept k,?_,q⟩;by_cases hj:j>i
 ·rw [if_pos hj,if_pos hj];exact ⟨_,rfl⟩
 ·rw [if_neg hj,if_neg hj];exact ⟨_,rfl⟩
theorem zaw:fL X (.type "int") (fun xs H Q=>(∃ i,xs=[.int i]/\Q (.int i) H)\/∃ k,xs=[.bl k]/\Q (.int (if k then 1 else 0)) H):=by
 intro ahJ s Z H xs us Q I r h;rcases h with ⟨i,rfl,q⟩ | ⟨k,rfl,q⟩
 ·obtain ⟨u,rfl,t,rfl⟩:=Gv r;exact call_int_int ⟨.int i,H,I,⟨_,rfl⟩,q⟩
 ·obtain ⟨u,rfl,r1⟩:=Gv r;cases r1;exact call_int_bool ⟨.int<|if k then 1 else 0,H,I.tok _,⟨_,rfl⟩,q⟩
end
structure Zx (h:Heap) (x dx C:Addr) (mA:Str->Option Mk):Prop where
 obj:h.get? x=FN (PySem.W.instObj C dx)
 ns:h.Ns1 dx mA
 ne:dx≠x
variable {dx : Addr}{mA : Str->Option Mk}
theorem aco (n:h.Ns1 dx mA):∃ od,h.get? dx=FN od/\∀ name,PySem.W.lookIn name od=FN (mA name):=by
 obtain ⟨o,es,ep,ho,hd,hk,_,hm⟩:=n;refine ⟨o,ho,fun name=>?_⟩;have e:=hm name;unfold nsFind findBy at e;rw [<-Array.find?_toList] at e;unfold PySem.W.lookIn;rw [hd];dsimp only;split
 ·rename_i y q;rw [q] at e;exact congrArg FN e
 ·rename_i q;rw [q] at e;have a:es.toList.any (·.refKey)=false:=by
   rw [List.any_eq_false];intro y hy;obtain ⟨z,t,hkey⟩:=hk y (Array.mem_toList_iff.mp hy);simp [DictEntry.refKey,hkey]
  have a':¬ es.toList.any (·.refKey)=true:=by rw [a];exact KY
  rw [if_neg a'];exact congrArg FN e
variable {C : Addr}
theorem Zx.look {x:Addr}(I:Zx h x dx C mA):∃ od,PySem.W.InstAt h x (PySem.W.instObj C dx) C (FN od)/\∀ name,PySem.W.lookIn name od=FN (mA name):=
 let ⟨od,ho,hl⟩:=aco I.ns
 ⟨od,⟨I.obj,rfl,rfl,ho⟩,hl⟩
section
variable {s:Ai}{x f:Addr}{name:Str}{v:Mk}
theorem get_map {expr:Bool}(X:K.In s.heap)(I:Zx s.heap x dx C mA)(hg:PySem.W.plainGet K C name=true)(hh:PySem.W.hasDictIn K C=true)
  (ha:Ra K (.ref C) name=FN FX) (hv:mA name=FN v) (hv':PySem.W.handedIn v=true) (h:Q v { s with toks:=s.toks+1 }) :
  Ay (Ax prog w) A (getAttr (.ref x) name expr) Q E s:=by
 obtain ⟨od,J,hl⟩:=I.look;exact PySem.W.get_value X J (PySem.W.plainGet_of hg).1 (PySem.W.findObj_own hh ha rfl<|by rw [hl,hv]) hv' h
end
variable {name : Str}
theorem JM.some_of {v:V}{o:Option Mk}(r:JM (FN v) o):∃ u,o=FN u/\BX v u:=by
 cases o with
 | none=>exact (show False from r).elim
 | some u=>exact ⟨u,rfl,r⟩
section
variable {a:Addr}{fs fs':List (Str×V)}
end
variable {fs : List (Str×V)}
structure Cls (K:Az) (C:Addr):Prop where
 pg:PySem.W.plainGet K C Str.empty=true
 hd:PySem.W.hasDictIn K C=true
 po:PySem.W.plainOver K C=true
 sa:Ra K (.ref C) "__setattr__" = FN (FN (.builtin "object.__setattr__"))
structure Con (K:Az) (C:Addr) (f:Str) (v:V) (u:Mk):Prop where
 at_:Ra K (.ref C) f=FN (FN u)
 rel:BX v u
 get:PySem.W.specialIn K u "__get__" = FN FX
 cp:PySem.W.copiedNames.contains f=false
structure Meth (K:Az) (C:Addr) (m:Str) (f:Addr):Prop where
 at_:Ra K (.ref C) m=FN (FN (.ref f))
 fn:PySem.W.isFn K (.ref f)=true
 kp:Rb K (.ref f)=true
section
variable {s:Ai}{a:Addr}{f:Str}{v:V}
end
section
variable {value:Expr}{f:Str}{tpos:Pos}{tv:TE}
end
section
variable {s:Ai}{c:Mk}{b:Bool}
inductive Gy (K:Az) (H:Hp):V->Mk->Prop where
 | non:Gy K H .non (.type "NoneType")
 | bl (x:Bool):Gy K H (.bl x) (.type "bool")
 | int (i:Int):Gy K H (.int i) (.type "int")
 | str (x:Str):Gy K H (.str x) (.type "str")
 | flt (x:UInt64):Gy K H (.flt x) (.type "float")
 | lst {a:Addr} {xs:List V} (e:H a=FN (.lst xs)):Gy K H (.ref a) (.type "list")
 | frz {a:Addr} {o:Obj} {xs:List V} (e:H a=FN (.frz o (.lst xs))):Gy K H (.ref a) (.type "list")
 | tup {a:Addr} {xs:List V} (e:H a=FN (.tup xs)):Gy K H (.ref a) (.type "tuple")
 | dK {a:Addr} {kvs:List (Key×V)} (e:H a=FN (.dK kvs)):Gy K H (.ref a) (.type "dict")
 | dT {a:Addr} {kvs:List (List Key×V)} (e:H a=FN (.dT kvs)):Gy K H (.ref a) (.type "dict")
 | ins {a C dx:Addr} {fs:List (Str×V)} (e:H a=FN (.ins C dx fs)) (cl:Cls K C) (ha:Ra K (.ref C) "__class__" = FN (FN (.builtin "object.__class__")))
   (hn:PySem.W.specialIn K (.builtin "object.__class__") "__get__" = FN (FN (.builtin "getset_descriptor.__get__"))) (htk:PySem.W.takesIn K (.builtin "object.__class__")=FN true)
   (hm:PySem.W.mroIn K C (.type "object")=FN true):Gy K H (.ref a) (.ref C)
end
structure mY (k:Nat) (A:DW):Prop where
 hd:9<=k->A.handled=FX
 dp:A.depth+3*k+5<recursionLimit
 un:A.units+16*k+200<Gf
theorem mY.mono {k:Nat}(r:mY k A)(h:j<=k):mY j A:=⟨fun z=>r.hd (CW z h),by have:=r.dp;lia,by have:=r.un;lia⟩
theorem mY.deeper {k:Nat}{A:DW}(r:mY (k+1) A)(env:Env):mY k (A.deeper env):=
 ⟨fun z=>r.hd (Nat.le_succ_of_le z),by have:=r.dp;show A.depth+1+3*k+5<_;lia,by have:=r.un;show A.units+3+16*k+200<_;lia⟩
theorem mY.calm {k:Nat}(r:mY k A)(h:9<=k):A.handled.isNone=true:=by rw [r.hd h];rfl
theorem mY.depth {k:Nat}{A:DW}(r:mY k A):A.depth<recursionLimit:=by have:=r.dp;lia
theorem mY.units {k:Nat}{A:DW}(r:mY k A):A.units+64<Gf:=by have:=r.un;lia
def aby:TA:=fun _ H Q=>Q [] H
def Zb (ta:TE)(tr:TA):TA:=fun Z H Q=>ta Z H fun x H1=>tr Z H1 fun xs H2=>Q (x::xs) H2
section
variable {te:TE}{t:TA}
theorem afE:PA X [] aby:=fun _ _ _ _ H Q I h=>Calls.spliced_nil ⟨[],H,I,.nil,h⟩
theorem aeB (ha:PE X e te)(hr:PA X es t)(hs:Dh (e::es) X.env=(false,eval e X.env)::Dh es X.env:=by rfl):PA X (e::es) (Zb te t):=by
 intro pos ahJ s Z H Q I h;rw [hs];show Ay _ _ (spliced ((false,eval e X.env)::J9 pos (Dh es X.env))) _ _ s;refine Calls.spliced_cons<|Ei (ha ahJ s Z H _ I h) fun u s1 ⟨x,H1,I1,r1,q1⟩=>?_
 exact Ei (hr pos ahJ s1 Z H1 _ I1 q1) fun us s2 ⟨xs,H2,I2,r2,q2⟩=>⟨x::xs,H2,I2,.cons r1 r2,q2⟩
def abu (t:TA):TE:=fun Z H Q=>t Z H fun xs H1=>xs.length<=Dp/\∀ p,H1 p=FX->Q (.ref p) (Dd H1 p (.tup xs))
def aaY (t:TA):TE:=fun Z H Q=>t Z H fun xs H1=>xs.length<=Dp/\∀ p,H1 p=FX->Q (.ref p) (Dd H1 p (.lst xs))
theorem agz {x1}(h:PA X es t):PE X (.Tuple es x1 pos) (abu t):=by
 intro ahJ s Z H Q I hq;refine wpAny_Tuple_spliced<|Ei (h pos ahJ s Z H _ I hq) fun us s1 ⟨xs,H1,I1,r,z,q⟩=>⟨by rw [<-r.length];exact z,?_⟩
 have hf:H1 s1.heap.objs.size=FX:=I1.hok.fresh (Bp _);refine ⟨.ref s1.heap.objs.size,Dd H1 s1.heap.objs.size<|.tup xs,I1.laid (t':=s1.toks) (fun b u e=>Eo _ e) (Bp _) ?_,rfl,q _ hf⟩;exact ⟨z,us,r,⟨_,Ip _ rfl,rfl,⟨_,rfl⟩,rfl⟩⟩
theorem Lq (h:PA X es t):PE X (.List es pos) (aaY t):=by
 intro ahJ s Z H Q I hq;refine wpAny_List_spliced<|Ei (h pos ahJ s Z H _ I hq) fun us s1 ⟨xs,H1,I1,r,z,q⟩=>⟨by rw [<-r.length];exact z,?_⟩
 have hf:H1 s1.heap.objs.size=FX:=I1.hok.fresh (Bp _);refine ⟨.ref s1.heap.objs.size,Dd H1 s1.heap.objs.size<|.lst xs,I1.laid (t':=s1.toks) (fun b u e=>Eo _ e) (Bp _) ?_,rfl,q _ hf⟩;exact ⟨z,us,0,r,Ip _ rfl⟩
end
abbrev Sp:=List V->Hp->VK->XK->Prop
abbrev Rx:=List Env->Hp->Ai->XK->Mk->Ai->Prop
structure Xo (P:DI) (w:Bw) (K:Az) (mg:Str->Option Mk) (base:Heap) (A:DW) (outer:List Env) (s:Ai) (H:Hp):Prop where
 frames:A.frames=FN outer
 mod:Mod K mg base
 bs:∀ b o,base.get? b=FN o->s.heap.get? b=FN o/\H b=FX
 bsz:base.objs.size<=s.heap.objs.size
 funs:s.heap.FunFrames base outer
 frf:∀ b∈Pn outer,H b=FX
 hok:JH P w H s.heap
 bare:RK s.gens
 qt:Oc A H
def CE (outer:List Env)(P:DI)(w:Bw)(H:Hp)(s:Ai)(Q:VK)(u:Mk)(s':Ai):Prop:=
 ∃ v H',s'.os=s.os/\RK s'.gens/\Un (Pn outer) [] H H' s.heap s'.heap/\JH P w H' s'.heap/\BX v u/\Q v H'
def acv (CX:Rx)(outer:List Env)(P:DI)(w:Bw)(H:Hp)(s:Ai)(Q:VK)(E:XK)(r:Result)(s':Ai):Prop:=
 match r with
 | .ok (.ret u)=>CE outer P w H s Q u s'
 | .ok _=>False
 | .error e=>CX outer H s E e s'
structure qm (P:DI) (w:Bw) (K:Az) (mg:Str->Option Mk) (base:Heap) (CX:Rx) (k:Nat) (f:Addr) (fd:Kw) (ps:List Str) (sp:Sp):Prop where
 len:∀ vs H Q E,sp vs H Q E->vs.length=ps.length
 run:∀ (A:DW) (outer:List Env) (s:Ai) (H:Hp) (args:Args) (us:List Mk) (vs:List V) (Q:VK) (E:XK),mY k A->Xo P w K mg base A outer s H->BindsTo s fd args (ps.zip us)->Aw vs us->sp vs H Q E ->
  Pb (Ax P w) A (.call (.ref f) args) (acv CX outer P w H s Q E) s
variable {CX : Rx}{base : Heap}{sp : Sp}{mg : Str->Option Mk}{fd : Kw}
theorem qm.mono {P:DI}{w:Bw}{K:Az}{mg:Str->Option Mk}{base:Heap}{CX:Rx}{j k:Nat}{f:Addr}{fd:Kw}{ps:List Str}{sp:Sp}(F:qm P w K mg base CX j f fd ps sp)(h:j<=k) :
  qm P w K mg base CX k f fd ps sp:=⟨F.len,fun A outer s H args us vs Q E hr=>F.run A outer s H args us vs Q E (hr.mono h)⟩
theorem qm.imp {k:Nat}{f:Addr}{ps:List Str}{sp':Sp}(F:qm P w K mg base CX k f fd ps sp)
  (h:∀ vs H Q E,sp' vs H Q E->sp vs H Q E):qm P w K mg base CX k f fd ps sp':=
 ⟨fun vs H Q E q=>F.len vs H Q E (h _ _ _ _ q),fun A outer s H args us vs Q E hr he hb hv hs=>F.run A outer s H args us vs Q E hr he hb hv (h _ _ _ _ hs)⟩
section
variable {s:Ai}
theorem Av.env0 (I:Av X ahJ Z H s):Xo X.prog X.w X.K X.mg X.base X.A X.stack s H:=
 ⟨I.ok.frames,I.ok.mod,I.bs,CW I.ok.bsz I.sz,I.stack,I.stkFree,I.hok,I.bare,I.qt0⟩
theorem Av.after {Q:VK}(I:Av X ahJ Z H s)(h:CE X.stack X.prog X.w H s Q u s'):EP X ahJ Z Q u s':=by
 obtain ⟨v,H',os,bare,un,hok,r,q⟩:=h;obtain ⟨hh,g,d,t,os'⟩:=s';obtain rfl:os'=s.os:=os;exact ⟨v,H',I.call (h':=hh) (g':=g) (d':=d) (t':=t) (ch:=[]) un hok bare<|fun b z=>absurd z<|by simp,r,q⟩
end
def Tt (sp:Sp)(dvs:List V)(E:XK)(t:TA):TE:=fun Z H Q=>t Z H fun vs H1=>sp (vs++dvs) H1 Q E
def JD (K:Az)(fd:Kw)(ps:List Str)(ds:List Mk):Prop:=
 ∀ (s:Ai) (us:List Mk),K.In s.heap->(us++ds).length=ps.length->BindsTo s fd ⟨us,[]⟩ (ps.zip (us++ds))
theorem JD.all {ps:List Str}(h:∀ us:List Mk,us.length=ps.length->bindArgs fd ⟨us,[]⟩=pure (ps.zip us)):JD K fd ps []:=fun s us _ hl=>by
 rw [T9] at hl |-
 exact .of_eq<|h us hl
def Nv (CX:Rx)(X:Cx)(E:XK):Prop:=∀ (ahJ:List (Addr×Obj)) (Z : St) (H:Hp) (s:Ai) (e:Mk) (s':Ai),Av X ahJ Z H s->CX X.stack H s E e s'->X.xe e s'
section
variable {k:Nat}{f:Addr}{ps:List Str}{dvs:List V}{ds:List Mk}{E:XK}{x m:Str}{p apos:Pos}{t:TA}
theorem aeu {s:Ai}{Q:VK}{vs:List V}(F:qm X.prog X.w X.K X.mg X.base CX k f fd ps sp)(hr:mY k X.A)(hb:JD X.K fd ps ds)(hd:Aw dvs ds)(hx:Nv CX X E)
  (I:Av X ahJ Z H s) (r:Aw vs us) (h:sp (vs++dvs) H Q E):Ay (Ax X.prog X.w) X.A (call (.ref f) us) (EP X ahJ Z Q) X.xe s:=by
 have r2:Aw (vs++dvs) (us++ds):=r.append hd;have hl:(us++ds).length=ps.length:=by rw [<-r2.length];exact F.len _ _ _ _ h
 refine wpAny_call<|codeAny_mono (F.run X.A X.stack s H ⟨us,[]⟩ (us++ds) (vs++dvs) Q E hr I.env0 (hb s us I.kIn hl) r2 h) fun r s' hq=>?_
 cases r with
 | error e=>exact hx ahJ Z H s e s' I hq
 | ok fl=>
  cases fl with
  | ret u=>exact I.after hq
  | next=>exact Qa hq
  | brk=>exact Qa hq
  | cont=>exact Qa hq
theorem zbD (F:qm X.prog X.w X.K X.mg X.base CX k f fd ps sp)(hr:mY k X.A)(hg:Gl X x)(hm:X.mg x=FN (.ref f))(hk:Rb X.K (.ref f)=true)(hb:JD X.K fd ps ds)(hd:Aw dvs ds)(hx:Nv CX X E)
  (ha:PA X (e::es) t) (hdb:(x==("__debug__" : Str))=false:=by decide) (he:Dh (e::es) X.env=(false,eval e X.env)::Dh es X.env:=by rfl) (hpl:(J9 pos (Dh es X.env)).any (·.1)=false:=by rfl) :
  PE X (.Call (.Name x p) (e::es) [] pos) (Tt sp dvs E t):=by
 intro ahJ s Z H Q I h;refine V7<|Ep I hg hm ?_ hdb
 refine PySem.W.callWith_K (h₀:=X.base) I.ok.mod.kin hk (Ei (ha pos ahJ s Z H _ I h) fun us s1 ⟨vs,H1,I1,r,q⟩=>⟨I1.kIn,?_⟩) he hpl;exact aeu F hr hb hd hx I1 r q
structure abY (K:Az) (C f:Addr):Prop where
 makes:PySem.W.makesIn K C=true
 init:Ra K (.ref C) "__init__" = FN (FN (.ref f))
 fn:PySem.W.isFn K (.ref f)=true
 kp:Rb K (.ref C)=true
end
variable {apos : Pos}
section
variable {k:Nat}{f:Addr}{ps ks:List Str}{E:XK}{x m:Str}{p kpos:Pos}{kws:List O7}{te:TE}{t tk:TA}{nm:Option Str}
structure aaJ (K:Az) (fd:Kw) (ps ks:List Str) (g:List Mk->List Mk->List Mk) (gV:List V->List V->List V):Prop where
 to:∀ (s:Ai) (us ws:List Mk),K.In s.heap->(g us ws).length=ps.length->BindsTo s fd ⟨us,ks.zip ws⟩ (ps.zip (g us ws))
 rel:∀ {vs:List V} {us:List Mk} {zs:List V} {ws:List Mk},Aw vs us->Aw zs ws->Aw (gV vs zs) (g us ws)
variable {g:List Mk->List Mk->List Mk}{gV:List V->List V->List V}
end
structure mD (N P:List Str) (sc:Scope):Prop where
 kind:sc.kind=.function
 co:sc.isCoroutine=false
 gen:sc.isGenerator=false
 nd:N.Nodup
 pre:N.take P.length=P
 par:∀ x∈P,sc.names.lookup x=FN .local\/sc.names.lookup x=FN .cell
 nofree:∀ y∈sc.names,y.2≠.free
theorem vD {JN:Str->Option Jq}{x:Str}:∀ {binds:List (Str×Mk)} {m:Str->Option Mk},(∀ v,(x,v)∉binds)->bindL JN binds m x=m x
 | [],_,_=>rfl
 | (n,v)::r,m,h=>by
  unfold bindL;rw [vD fun w hw=>h w (IK _ hw)];split
  ·have:x≠n:=by rintro rfl;exact h v JW
   simp [this]
  ·rfl
theorem vO {JN:Str->Option Jq}{x:Str}:∀ {binds:List (Str×Mk)} {m:Str->Option Mk},(∀ v,(x,v)∉binds)->bindC JN binds m x=m x
 | [],_,_=>rfl
 | (n,v)::r,m,h=>by
  unfold bindC;rw [vO fun w hw=>h w (IK _ hw)];split
  ·rfl
  ·have:x≠n:=by rintro rfl;exact h v JW
   simp [this]
theorem vL {JN:Str->Option Jq}{x:Str}{v:Mk}:∀ {P:List Str} {vs:List Mk} {i:Nat} {m:Str->Option Mk},P.Nodup->P[i]?=FN x->vs[i]?=FN v->JN x=FN .local ->
  bindL JN (P.zip vs) m x=FN v
 | [],_,_,_,_,h,_,_=>by simp at h
 | _::_,[],_,_,_,_,h,_=>by simp at h
 | p::P,w::vs,0,m,nd,h1,h2,hk=>by
  simp at h1 h2;subst h1;subst h2;show bindL JN ((p,w)::P.zip vs) m p=_;unfold bindL;rw [vD fun v hv=>(Qj.mp nd).1 (List.of_mem_zip hv).1,if_pos hk];simp
 | p::P,w::vs,i+1,m,nd,h1,h2,hk=>by
  show bindL JN ((p,w)::P.zip vs) m x=_;unfold bindL;exact vL (i:=i) (Qj.mp nd).2 (by simpa using h1) (by simpa using h2) hk
theorem vZ {JN:Str->Option Jq}{x:Str}{v:Mk}:∀ {P:List Str} {vs:List Mk} {i:Nat} {m:Str->Option Mk},P.Nodup->P[i]?=FN x->vs[i]?=FN v->JN x≠FN .local ->
  bindC JN (P.zip vs) m x=FN v
 | [],_,_,_,_,h,_,_=>by simp at h
 | _::_,[],_,_,_,_,h,_=>by simp at h
 | p::P,w::vs,0,m,nd,h1,h2,hk=>by
  simp at h1 h2;subst h1;subst h2;show bindC JN ((p,w)::P.zip vs) m p=_;unfold bindC;rw [vO fun v hv=>(Qj.mp nd).1 (List.of_mem_zip hv).1,if_neg hk];simp
 | p::P,w::vs,i+1,m,nd,h1,h2,hk=>by
  show bindC JN ((p,w)::P.zip vs) m x=_;unfold bindC;exact vZ (i:=i) (Qj.mp nd).2 (by simpa using h1) (by simpa using h2) hk
def start (N:List Str)(vs:List V):St:=vs.map FN++Gs (N.length - vs.length) FX
def Iz (CX:Rx)(P:DI)(w:Bw)(K:Az)(mg:Str->Option Mk)(base:Heap)(N:List Str)(qual:Str)(scope:Scope)(f:Addr)(cd:Mk)(A:DW)(outer:List Env)(s:Ai)(H:Hp)(E:XK):Cx where
 prog:=P
 w:=w
 K:=K
 mg:=mg
 base:=base
 A:=A.deeper (envOfC qual scope s.heap.objs.size f cd)
 N:=N
 s₀:=s
 H₀:=H
 env:=envOfC qual scope s.heap.objs.size f cd
 outer:=outer
 stack:=envOfC qual scope s.heap.objs.size f cd::outer
 ex:=[]
 calm:=A.handled.isNone
 fn:=fun _=>true
 pn:=[]
 xe:=fun e s'=>Ay (Ax P w) (A.deeper (envOfC qual scope s.heap.objs.size f cd)) (leaving (envOfC qual scope s.heap.objs.size f cd) e) (fun _ s''=>CX outer H s E e s'') (fun e' s''=>CX outer H s E e' s'') s'
theorem yp {sc:Scope}{x:Str}(h:sc.names.lookup x=FN .cell):∃ c,(JF n sc.names []).lookup x=FN c:=by
 have q:=PySem.W.cellsFrom_some sc.names n [] (.inl h);exact Option.isSome_iff_exists.mp q
variable {scope : Scope}{qual : Str}
theorem acH {ps:List Str}{f:Addr}{cd:Mk}{outer:List Env}{s s1:Ai}{E:XK}{vs:List V}
  (S:mD N ps scope) (e0:Xo P w K mg base A outer s H) (hl:vs.length=ps.length) (r:Aw vs us)
  (x:InCallC s s.heap.objs.size (bindL (envOfC qual scope s.heap.objs.size f cd).kindOf (ps.zip us) fun _=>FX) (JF (s.heap.objs.size+1) scope.names []) (bindC (envOfC qual scope s.heap.objs.size f cd).kindOf (ps.zip us) fun _=>FX) s1) :
  Av (Iz CX P w K mg base N qual scope f cd A outer s H E) [] (start N vs) H s1:=by
 have hpl:ps.length<=N.length:=by have:=congrArg Pg S.pre;rw [QC] at this;lia
 obtain ⟨h1,tk,rfl,hk⟩:=x.done;have noA:∀ b:Addr,b∉(Iz CX P w K mg base N qual scope f cd A outer s H E).ex:=fun b z=>absurd (show b∈([]:List Addr) from z) (by simp)
 refine ⟨⟨e0.mod,S.kind,rfl,rfl,Bp _,fun y z c h1 h2=>?_,fun y hy=>?_,fun y c _ h=>?_,fun z=>Option.isNone_iff_eq_none.mp (show A.handled.isNone=true from z),e0.qt,Around.frames_deeper e0.frames,.inr ⟨rfl,rfl⟩,fun b z=>absurd z (noA b),e0.bs,e0.bsz,fun b _ _=>noA b,fun b z=>absurd z (noA b),e0.funs,e0.frf⟩,
  rfl,e0.bare,Un.kept hk,⟨_,x.toInCall.ns,fun i y v h1 h2 h3=>?_⟩,fun y c h=>⟨_,x.cell y c h⟩,e0.hok.fresh (Bp _),fun y c h=>?_,fun p hp=>absurd (show p∈([]:List (Addr×Obj)) from hp) (by simp),e0.hok.kept hk,?_⟩
 ·exact name_of_addr x.apart (Ri h1)<|Ri h2
 ·have hy:scope.names.lookup y=FN .cell\/scope.names.lookup y=FN .free:=hy;rcases hy with hy | hy
  ·exact yp hy
  ·exact absurd rfl<|S.nofree _<|Ri hy
 ·exact KQ<|x.above y c<|Ri h
 ·have hi:i<vs.length:=by
   unfold start at h2;by_cases hi:i<vs.length
   ·exact hi
   ·rw [OJ (by simpa using hi)] at h2;rw [Wk] at h2;split at h2 <;> cases h2
  have ha:vs[i]?=FN v:=by
   unfold start at h2;rw [Ow (by simpa using hi),Fv] at h2;cases e:vs[i]? with
   | none=>rw [e] at h2;cases h2
   | some a=>rw [e] at h2;cases h2;rfl
  obtain ⟨u,hu,rv⟩:=r.get ha;have hp:ps[i]?=FN y:=by
   rw [<-S.pre,List.getElem?_take_of_lt (by lia)];exact h1
  have ndP:ps.Nodup:=by rw [<-S.pre];exact S.nd.sublist (List.take_sublist _ _)
  refine ⟨u,rv,?_⟩;rcases S.par y (K4 hp) with k | k
  ·exact .inl ⟨k,vL ndP hp hu k⟩
  ·obtain ⟨c,e⟩:=yp (n:=s.heap.objs.size+1) k;refine .inr ⟨.inl k,c,e,?_⟩;have q:=x.cell y c e;rw [vZ ndP hp hu (by show scope.names.lookup y≠_;rw [k];decide)] at q;exact q
 ·exact e0.hok.fresh<|KQ<|x.above y c<|Ri h
 ·unfold start;show _=N.length;rw [JG,Bx,List.length_replicate];lia
variable {od : Option Addr}
theorem Zt {k:Nat}{f:Addr}{params:Arguments}{dV kV doc pm cdv ct oc:Mk}{an:Option Addr}
  {osl:Array (Option Mk)} {N ps:List Str} {sp:Sp} (lk:K.lookup f=FN ⟨oc,od,.func (Te name qual params body scope dV kV doc pm an cdv ct),osl⟩) (hcd:Vd K cdv qual=true) (S:mD N ps scope)
  (len:∀ vs H Q E,sp vs H Q E->vs.length=ps.length)
  (hbody:∀ (A:DW) (outer:List Env) (s:Ai) (H:Hp) (vs:List V) (Q:VK) (E:XK),mY k (A.deeper (envOfC qual scope s.heap.objs.size f cdv))->sp vs H Q E ->
   ∃ t,NP (Iz CX P w K mg base N qual scope f cdv A outer s H E) body t/\t { nx:=fun _ H'=>Q .non H',rt:=Q } (start N vs) H) :
  qm P w K mg base CX (k+1) f (Te name qual params body scope dV kV doc pm an cdv ct) ps sp:=by
 refine ⟨len,fun A outer s H args us vs Q E hr e0 hb r hsp=>?_⟩;have hl:=len _ _ _ _ hsp;have KX:K.In s.heap:=e0.mod.kin.keeps fun b o e=>(e0.bs b o e).1
 have lim:s.heap.NoLimit:=e0.mod.nolimit.keeps fun b o e=>(e0.bs b o e).1
 have hkind:∀ y∈ps.zip us,scope.names.lookup y.1=FN .local\/(scope.names.lookup y.1=FN .cell/\((JF (s.heap.objs.size+1) scope.names []).lookup y.1).isSome=true):=fun ⟨n,v⟩ hy=>by
  rcases S.par n (List.of_mem_zip hy).1 with q | q
  ·exact .inl q
  ·exact .inr ⟨q,PySem.W.cellsFrom_some _ _ _<|.inl q⟩
 refine codeAny_call_function hr.depth (KX _ _ lk) rfl S.co S.gen rfl (PySem.W.codeRec_of KX hcd)<|hb _ _ _ _ ?_
 refine wpAny_newFunctionEnv_cells S.kind hkind fun env he s1 x=>?_;subst he;refine ⟨lim.keeps x.toInCall.keep,codeAny_func ?_⟩;obtain ⟨t,ht,hq⟩:=hbody A outer s H vs Q E (hr.deeper _) hsp;have I:Av (Iz CX P w K mg base N qual scope f cdv A outer s H E) [] (start N vs) H s1:=acH S e0 hl r x;refine KN (ht [] s1 (start N vs) H _ I hq) (fun fl s' hs=>?_) fun e s' hs=>hs;have fin:∀ {Z':St} {H':Hp} {v:V} {u:Mk},Av (Iz CX P w K mg base N qual scope f cdv A outer s H E) [] Z' H' s'->BX v u->Q v H'->CE outer P w H s Q u s':=
  fun {Z' H' v u} J rv q=>⟨v,H',J.os,J.bare,J.base,J.hok,rv,q⟩
 cases fl with
 | ret u=>
  obtain ⟨v,Z',H',J,rv,q⟩:=hs;exact fin J rv q
 | next=>
  obtain ⟨Z',H',J,q⟩:=hs;exact fin (v:=V.non) (u:=Value.none) J rfl q
 | brk=>
  obtain ⟨_,_,_,q⟩:=hs;exact Qa q
 | cont=>
  obtain ⟨_,_,_,q⟩:=hs;exact Qa q
section
variable {x:Str}{p:Pos}{t:TA}{id T:String}{r:List V->Hp->VK->Prop}
def tCB (r:List V->Hp->VK->Prop)(t:TA):TE:=fun Z H Q=>t Z H fun vs H1=>r vs H1 Q
theorem zbb (hc:fL X (.builtin id) r)(hg:Gl X x)(hm:X.mg x=FX)(hv:RN x=FN (.builtin id))(ha:PA X (e::es) t)(hn:x ≠ "__name__":=by decide)(hdb:(x==("__debug__" : Str))=false:=by decide)
  (he:Dh (e::es) X.env=(false,eval e X.env)::Dh es X.env:=by rfl) (hpl:(J9 pos (Dh es X.env)).any (·.1)=false:=by rfl):PE X (.Call (.Name x p) (e::es) [] pos) (tCB r t):=by
 intro ahJ s Z H Q I h;refine V7<|mV I hg hm hv ?_ hn hdb
 exact PyProof.Rows.callWith_builtin1 (Ei (ha pos ahJ s Z H _ I h) fun us s1 ⟨vs,H1,I1,r1,q1⟩=>hc ahJ s1 Z H1 vs us Q I1 r1 q1) he hpl
theorem acj (hc:fL X (.type T) r)(hg:Gl X x)(hm:X.mg x=FX)(hv:RN x=FN (.type T))(ha:PA X (e::es) t)(hn:x ≠ "__name__":=by decide)(hdb:(x==("__debug__" : Str))=false:=by decide)
  (he:Dh (e::es) X.env=(false,eval e X.env)::Dh es X.env:=by rfl) (hpl:(J9 pos (Dh es X.env)).any (·.1)=false:=by rfl):PE X (.Call (.Name x p) (e::es) [] pos) (tCB r t):=by
 intro ahJ s Z H Q I h;refine V7<|mV I hg hm hv ?_ hn hdb
 exact VL (Ei (ha pos ahJ s Z H _ I h) fun us s1 ⟨vs,H1,I1,r1,q1⟩=>hc ahJ s1 Z H1 vs us Q I1 r1 q1) he hpl
end
end L2
namespace HT
open PySem PyProof.Rows
def lexLt:List Int->List Int->Bool
 | [],[]=>false
 | [],_::_=>true
 | _::_,[]=>false
 | x::xs,y::ys=>if x=y then lexLt xs ys else decide (x<y)
theorem ace (x y:Int)(xs ys:List Int):lexLt (x::xs) (y::ys)=if x=y then lexLt xs ys else decide (x<y):=rfl
theorem tQ:lexLt [] []=false:=rfl
theorem qu (y:Int)(ys:List Int):lexLt [] (y::ys)=true:=rfl
theorem qy (x:Int)(xs:List Int):lexLt (x::xs) []=false:=rfl
theorem aeW (A:DW)(s:Ai)(a:Int)(t:Tok)(c:Int)(u:Tok):∃ e,TF A s (.int a t) (.int c u) e/\(e=true↔a=c):=
 ⟨(a==c),SeqAt.EqAt.int_int a t c u,by simp⟩
theorem zbi (A:DW)(s:Ai)(a:Int)(t:Tok)(c:Int)(u:Tok)(prog:DI)(w:Bw)(E:Mk->Ai->Prop)(Q:Mk->Ai->Prop)(h:Q (.bool (decide (a<c))) s):
  Ay (Ax prog w) A (richCompare .Lt (.int a t) (.int c u)) Q E s:=
 (PyProof.Rows.lt_int h:Ay (Ax prog w) A (Jb .Lt (.int a t) (.int c u)) Q E s)
section
open PySem.SeqAt
open PySem.AutoSeq1 (wpAny_loadPart')
open PySem.MeetsSeq PySem.MeetsSeq2 PySem.MeetsSeq3
theorem sX (l b:Addr)(items items2:Array Mk)(n n2:Nat)(dd dd2:Option Addr)(sl sl2:Array (Option Mk))(ns ms:List Int)(hi:O6 items.toList ns)(hj:O6 items2.toList ms):
  Meets (Qt.«tuple.__lt__» ⟨[.ref l,.ref b],[]⟩)
   (fun _ R s=>s.heap.get? l=FN { cls:=.type "tuple",dict:=dd,data:=.seq items n,slots:=sl }/\s.heap.get? b=FN { cls:=.type "tuple",dict:=dd2,data:=.seq items2 n2,slots:=sl2 } /\
    R (.ok (.ret (.bool (lexLt ns ms)))) s):=
 .of_wp fun prog w A R s h=>by
  obtain ⟨hp,g,d,tk,os⟩:=s;obtain ⟨hl,hb,h⟩:=h;have f2:=AutoSeq1.sub_tuple_tuple;have z1:items.size=ns.length:=by rw [<-hi.length];simp
  have z2:items2.size=ms.length:=by rw [<-hj.length];simp
  wp_walk using wpAny_loadPart' hl,wpAny_loadPart' hb,wpAny_forIn_list _ (fun rest b s'=>b.1=FX/\s'=⟨hp,g,d,tk,os⟩/\∃ (vs ws:List Mk) (ns' ms':List Int),rest=vs.zip ws /\
   O6 vs ns'/\O6 ws ms'/\ns'.length+items2.size=ms'.length+items.size/\R (.ok (.ret (.bool (lexLt ns' ms')))) ⟨hp,g,d,tk,os⟩) _
  case turn=>
   rintro ⟨y,x⟩ rest b s' ⟨hb',rfl,vs,ws,ns',ms',hz,hvi,hwi,ahK,hR⟩;cases hvi with
   | nil=>rw [List.zip_nil_left] at hz;cases hz
   | cons a t hvi'=>
    cases hwi with
    | nil=>rw [List.zip_nil_right] at hz;cases hz
    | cons c u hwi'=>
     rw [Tg] at hz;injection hz with hyx hrest
     injection hyx with hy hx
     subst hy hx;rw [ace] at hR;simp only [Iw] at ahK;obtain ⟨e,he,hiff⟩:=aeW A.in1 ⟨hp,g,d,tk,os⟩ a t c u;refine Ao<|he prog w _ _ ?_
     cases e with
     | true=>
      rw [if_pos (hiff.mp rfl)] at hR
      wp_walk
      exact ⟨rfl,rfl,_,_,_,_,hrest,hvi',hwi',by lia,hR⟩
     | false=>
      rw [if_neg (fun q=>absurd (hiff.mpr q) KY)] at hR;have hri:=zbi A.in1 ⟨hp,g,d,tk,os⟩ a t c u prog w
      wp_walk using hri
      exact ⟨_,rfl,by simpa using hR⟩
  case fin=>
   rintro ⟨b1,b2⟩ s' ⟨hb',rfl,vs,ws,ns',ms',hz,hvi,hwi,ahK,hR⟩;simp only at hb';subst hb';have hv:lexLt ns' ms'=decide (items.size<items2.size):=by
    cases hvi with
    | nil=>
     cases hwi with
     | nil=>
      simp only [Vg] at ahK;rw [tQ];exact (decide_eq_false<|by lia).symm
     | cons c u hw=>
      simp only [Vg,Iw] at ahK;rw [qu];exact (decide_eq_true<|by lia).symm
    | cons a t hv=>
     cases hwi with
     | nil=>
      simp only [Vg,Iw] at ahK;rw [qy];exact (decide_eq_false<|by lia).symm
     | cons c u hw=>
      rw [Tg] at hz;cases hz
   rw [hv] at hR
   wp_walk
   exact ⟨_,rfl,by simpa [Builtin.Tuple.tupleCompareSizes] using hR⟩
  case h=>
   exact ⟨rfl,rfl,items.toList,items2.toList,ns,ms,rfl,hi,hj,by lia,h⟩
end
section
variable {prog:DI}{w:Bw}{A:DW}{E:Mk->Ai->Prop}{s:Ai}
theorem qz {l b:Addr}{items items2:Array Mk}{ns ms:List Int}{Q:Mk->Ai->Prop}(hl:IsTup s.heap l items)(hb:IsTup s.heap b items2)(hi:O6 items.toList ns)(hj:O6 items2.toList ms)
  (hu:A.units<Gf) (h:Q (.bool (lexLt ns ms)) s):Ay (Ax prog w) A (Jb .Lt (.ref l) (.ref b)) Q E s:=by
 obtain ⟨⟨cls,dd,data,sl⟩,ho,hc,n,hd⟩:=id hl;obtain ⟨⟨cls2,dd2,data2,sl2⟩,ho2,hc2,n2,hd2⟩:=id hb;simp only at hc hd hc2 hd2;subst hc hd hc2 hd2;exact richCompare_meets_room (op:=.Lt) ⟨_,ho,rfl⟩ ⟨_,ho2,rfl⟩ PySem.F.slot_tuple_lt PySem.F.entry_tuple_lt (PySem.F.args_tuple_lt_2 _ _) (sX l b items items2 n n2 dd dd2 sl sl2 ns ms hi hj)
  ⟨ho,ho2,show Value.bool (lexLt ns ms)≠Value.notImplemented/\Q (.bool (lexLt ns ms)) s from ⟨(fun x=>nomatch x),h⟩⟩ hu
theorem O8 {t b:Addr}{vs ws:List Mk}{Q:Mk->Ai->Prop}(ht:IsTup s.heap t vs.toArray)(hb:IsTup s.heap b ws.toArray)(hv:vs≠[])
  (h1:ws=[]->Q (.ref t) s) (h2:ws≠[]->Q (.ref s.heap.objs.size) { s with heap:=s.heap.push { cls:=.type "tuple",data:=.seq (vs++ws).toArray } })
  (hsz:vs.length+ws.length<=Dp):Ay (Ax prog w) A (Jw .Add (.ref t) (.ref b)) Q E s:=by
 obtain ⟨⟨cls,dd,data,sl⟩,ho,hc,n,hd⟩:=id ht;obtain ⟨⟨cls2,dd2,data2,sl2⟩,ho2,hc2,n2,hd2⟩:=id hb;simp only at hc hd hc2 hd2;subst hc hd hc2 hd2;have e:vs.toArray++ws.toArray=(vs++ws).toArray:=by simp
 by_cases hw:ws=[]
 ·exact concat_meets ⟨_,ho,rfl⟩ ⟨_,ho2,rfl⟩ noFill_tuple_add seq_tuple_add PySem.F.slot_tuple_add PySem.F.entry_tuple_add (PySem.F.args_tuple_add_2 _ _)
   (tuple_addW1 t b vs.toArray ws.toArray n n2 dd dd2 sl sl2 (by simpa using hv) (by simp [hw])) ⟨ho,ho2,h1 hw⟩
 ·refine concat_meets ⟨_,ho,rfl⟩ ⟨_,ho2,rfl⟩ noFill_tuple_add seq_tuple_add PySem.F.slot_tuple_add PySem.F.entry_tuple_add (PySem.F.args_tuple_add_2 _ _)
   (tuple_addW2 t b vs.toArray ws.toArray n n2 dd dd2 sl sl2 (by simpa using hv) (by simpa using hw) (by rw [Io,Io];exact hsz)) ⟨ho,ho2,?_⟩
  rw [e];exact h2 hw
def sIx (n d:Nat):Option Int->Nat
 | none=>d
 | some v=>if v<0 then (v+(n:Int)).toNat else min v.toNat n
theorem Jt (n d:Nat):sIx n d FX=d:=rfl
theorem Qg (n d k:Nat):sIx n d (FN (k:Int))=min k n:=by
 show (if (k:Int)<0 then ((k:Int)+(n:Int)).toNat else min (k:Int).toNat n)=min k n;rw [if_neg (by lia),V6]
theorem afh (n d:Nat)(hd:d<=n)(o:Option Int):sIx n d o<=n:=by
 cases o with
 | none=>exact hd
 | some v=>
  show (if v<0 then (v+(n:Int)).toNat else min v.toNat n)<=n;by_cases hv:v<0
  ·rw [if_pos hv];lia
  ·rw [if_neg hv];exact Nat.min_le_right _ _
theorem Fj (v:Int)(n d:Nat):(if v<0 then max (v+(n:Int)) 0 else min v (n:Int))=((sIx n d (FN v):Nat):Int):=by
 show (if v<0 then max (v+(n:Int)) 0 else min v (n:Int))=(((if v<0 then (v+(n:Int)).toNat else min v.toNat n):Nat):Int);by_cases hv:v<0
 ·simp only [if_pos hv];lia
 ·simp only [if_neg hv];lia
theorem acI (lo hi:Option Int)(n:Nat):Builtin.Slice.sliceAdjust lo hi 1 (n:Int)=(((sIx n 0 lo:Nat):Int),((sIx n n hi:Nat):Int)):=by
 have h1:¬ ((1:Int)<0):=by lia
 unfold Builtin.Slice.sliceAdjust;simp only [h1,if_false];refine Prod.ext ?_ ?_
 ·cases lo with
  | none=>rfl
  | some v=>exact Fj v n 0
 ·cases hi with
  | none=>rfl
  | some v=>exact Fj v n n
theorem zam (i j:Nat):WW (i:Int) (j:Int) 1=j - i:=by
 unfold WW;have h1:(1:Int)>0:=by lia
 simp only [h1,if_true,Int.ediv_one];split <;> lia
theorem qY {v:Mk}{o:Option Int}{Q:Option Int->Ai->Prop}(p:IsPart v o)(h:Q o s):Ay (Ax prog w) A (Builtin.Slice.slicePartIndex v) Q E s:=by
 cases p with
 | none=>exact slicePart_none h
 | int i t=>exact slicePart_int h
theorem iu {sl:Addr}{vl vu:Mk}{lo hi:Option Int}{n:Nat}{Q:Int×Int×Nat->Ai->Prop}(hs:s.heap.IsSliceOf sl vl vu .none)(pl:IsPart vl lo)(pu:IsPart vu hi)
  (h:Q (((sIx n 0 lo:Nat):Int),1,sIx n n hi - sIx n 0 lo) s):Ay (Ax prog w) A (Builtin.Slice.sliceApplied (.ref sl) (pure (n:Int))) Q E s:=by
 obtain ⟨os,hos,hcs,hds⟩:=id hs;unfold Builtin.Slice.sliceApplied Builtin.Slice.sliceFields;refine Ao<|Ao<|Kc hos hds (x:=vl) rfl<|Ao<|Kc hos hds (x:=vu) rfl<|Ao<|Kc hos hds (x:=.none) rfl<|Ba ?_
 refine Ao<|slicePart_none ?_
 show Ay _ _ (if ((1:Int)==0)=true then _ else _) _ _ s;rw [if_neg (by decide)];refine Ao<|qY pl<|Ao<|qY pu<|Ao<|Ba ?_
 show Ay _ _ (match Builtin.Slice.sliceAdjust lo hi 1 (n:Int) with | (lo,hi)=>pure (lo,(1:Int),WW lo hi 1)) _ _ s;rw [acI lo hi n];show Ay _ _ (pure (((sIx n 0 lo:Nat):Int),(1:Int),WW ((sIx n 0 lo:Nat):Int) ((sIx n n hi:Nat):Int) 1)) _ _ s;rw [zam];exact Ba h
theorem adh (xs:Array Mk)(i k:Nat):((Oo k).filterMap fun (m:Nat)=>xs[((i:Int)+(m:Int)*1).toNat]?).toArray=((xs.toList.drop i).take k).toArray:=by
 have e:(fun (m:Nat)=>xs[((i:Int)+(m:Int)*1).toNat]?)=fun m=>xs[i+m]?:=by
  funext m;have:((i:Int)+(m:Int)*1).toNat=i+m:=by lia
  rw [this]
 rw [e];have:=pick_run xs i k
 rw [List.filterMap_map] at this;have e2:((fun x=>xs[x]?) ∘ fun x=>i+x)=fun m=>xs[i+m]?:=rfl
 rw [e2] at this;rw [this]
theorem mF {t sl:Addr}{items:Array Mk}{vl vu:Mk}{lo hi:Option Int}{Q:Mk->Ai->Prop}(ht:IsTup s.heap t items)(hs:s.heap.IsSliceOf sl vl vu .none)(pl:IsPart vl lo)(pu:IsPart vu hi)
  (hw:¬ (sIx items.size 0 lo=0/\sIx items.size items.size hi=items.size))
  (h:Q (.ref s.heap.objs.size) { s with heap:=s.heap.push { cls:=.type "tuple",data:=.seq ((items.toList.drop (sIx items.size 0 lo)).take (sIx items.size items.size hi - sIx items.size 0 lo)).toArray } })
  (hsz:items.size<=Dp):Ay (Ax prog w) A (getItem (.ref t) (.ref sl)) Q E s:=by
 have htake:sizeOk (.seq ((items.toList.drop (sIx items.size 0 lo)).take (sIx items.size items.size hi - sIx items.size 0 lo)).toArray):=by
  show ((items.toList.drop (sIx items.size 0 lo)).take (sIx items.size items.size hi - sIx items.size 0 lo)).toArray.size<=Dp;rw [Io,QC,List.length_drop,Tp];lia
 have hj:sIx items.size items.size hi<=items.size:=afh _ _ (Bp _) hi;obtain ⟨os,hos,hcs,hds⟩:=id hs;have hTs:s.TypeIs (.ref sl) "slice":=⟨os,hos,hcs⟩
 unfold getItem;try with_reducible refine NK ?_
 first | refine Ao (Ba ?_) | skip
 refine Ao<|wpAny_sequenceKey ht.typeIs (by decide) ?_
 refine Ao (TK (name:=SQ "__getitem__") ht.typeIs Vc
  (Qk Vc ht.typeIs entry_tuple_getitem ?_ (args_tuple_getitem _ _)))
 show Ay _ _ (Builtin.Tuple.tupleItemsOf (.ref t) >>= _) _ _ s;refine Ao<|tupleItemsOf_ ht ?_
 refine Ao<|Q5 hTs ?_
 rw [if_pos (by decide)];refine Ao<|iu hs pl pu ?_
 have hno:¬ ((((sIx items.size 0 lo:Nat):Int)==0&&(1:Int)==1&&(sIx items.size items.size hi - sIx items.size 0 lo)==items.size)=true):=by
  intro q;rw [Nr,Nr] at q;have q1:((sIx items.size 0 lo:Nat):Int)=0:=eq_of_beq q.1.1;have q2:sIx items.size items.size hi - sIx items.size 0 lo=items.size:=eq_of_beq q.2;exact hw ⟨by lia,by lia⟩
 show Ay _ _ (if (((sIx items.size 0 lo:Nat):Int)==0&&(1:Int)==1&&(sIx items.size items.size hi - sIx items.size 0 lo)==items.size)=true then _ else _) _ _ s;rw [if_neg hno,adh];first
  | exact Ao (m:=UJ _) (M8 (Ba ⟨_,rfl,Ba h⟩) htake)
  | exact Ao (m:=UJ _) (M8 (Ao (Ba (Ba ⟨_,rfl,Ba h⟩))) htake)
  | exact Ao (Ao (m:=UJ _) (M8 (Ba (Ba ⟨_,rfl,Ba h⟩)) htake))
  | exact Ao (Ao (m:=UJ _) (M8 (Ba ⟨_,rfl,Ba h⟩) htake))
end
end HT
variable {ns : List Int}
namespace L2
open PySem PySem.Spec PyProof.Rows
abbrev TO:=St->Hp->(Option Int->Hp->Prop)->Prop
def PO (X:Cx)(e:Option Expr)(t:TO):Prop:=
 ∀ (ahJ:List (Addr×Obj)) (s:Ai) (Z : St) (H:Hp) (Q:Option Int->Hp->Prop),Av X ahJ Z H s->t Z H Q ->
  Ay (Ax X.prog X.w) X.A (evalPart e X.env) (fun u s'=>∃ o H',Av X ahJ Z H' s'/\IsPart u o/\Q o H') X.xe s
def adT:TO:=fun _ H Q=>Q FX H
def ZC (t:TE):TO:=fun Z H Q=>t Z H fun x H1=>∃ i,x=.int i/\Q (FN i) H1
theorem Ge:∀ {us:List Mk},Aw (ns.map V.int) us->O6 us ns:=by
 induction ns with
 | nil=>intro us r;rw [Jo] at r;cases r;exact .nil
 | cons n ns ih=>
  intro us r;rw [Bu] at r;cases r with
  | cons r1 r2=>
   obtain ⟨t,e⟩:=r1;subst e;exact .cons n t<|ih r2
section
variable {X:Cx}{e:Expr}{te:TE}{lo hi:Option Expr}{tl th:TO}{pos p2:Pos}
theorem adQ:PO X FX adT:=by
 intro ahJ s Z H Q I h;rw [evalPart_none];exact Ba ⟨FX,H,I,.none,h⟩
theorem zbX (h:PE X e te):PO X (FN e) (ZC te):=by
 intro ahJ s Z H Q I hw;rw [evalPart_some];refine Ei (h ahJ s Z H _ I hw) fun u s1 ⟨x,H1,I1,r1,q1⟩=>?_;obtain ⟨i,rfl,q⟩:=q1;obtain ⟨t,rfl⟩:=r1;exact ⟨FN i,H1,I1,.int i t,q⟩
def Qx (X:Cx)(r:V->Option Int->Option Int->Hp->VK->Prop):Prop:=
 ∀ (ahJ:List (Addr×Obj)) (s:Ai) (Z : St) (H:Hp) (x:V) (v vl vu:Mk) (lo hi:Option Int) (sl:Addr) (Q:VK),Av X ahJ Z H s->BX x v->s.heap.IsSliceOf sl vl vu .none->IsPart vl lo->IsPart vu hi->r x lo hi H Q ->
  ∃ T id,typeLookup (.type T) "__getitem__" = pure (FN (.builtin id))/\s.TypeIs v T/\Ay (Ax X.prog X.w) X.A (getItem v (.ref sl)) (EP X ahJ Z Q) X.xe s
theorem Qx.or {r r':V->Option Int->Option Int->Hp->VK->Prop}(h:Qx X r)(h':Qx X r'):Qx X (fun x lo hi H Q=>r x lo hi H Q\/r' x lo hi H Q):=by
 intro ahJ s Z H x v vl vu lo hi sl Q I rx hs pl pu q;rcases q with q | q
 ·exact h ahJ s Z H x v vl vu lo hi sl Q I rx hs pl pu q
 ·exact h' ahJ s Z H x v vl vu lo hi sl Q I rx hs pl pu q
def tSl (r:V->Option Int->Option Int->Hp->VK->Prop)(te:TE)(tl th:TO):TE:=fun Z H Q=>te Z H fun x H1=>tl Z H1 fun l H2=>th Z H2 fun u H3=>r x l u H3 Q
theorem adC {r:V->Option Int->Option Int->Hp->VK->Prop}(hr:Qx X r)(he:PE X e te)(hl:PO X lo tl)(hu:PO X hi th):PE X (.Subscript e (.Slice lo hi FX p2) pos) (tSl r te tl th):=by
 intro ahJ s Z H Q I h;refine Subscript_<|Ei (he ahJ s Z H _ I h) fun v s1 ⟨x,H1,I1,r1,q1⟩=>?_
 refine wpAny_Slice<|Ei (hl ahJ s1 Z H1 _ I1 q1) fun vl s2 ⟨l,H2,I2,pl,q2⟩=>Ei (hu ahJ s2 Z H2 _ I2 q2) fun vu s3 ⟨u,H3,I3,pu,q3⟩=>?_
 rw [evalPart_none];refine Ba ?_;have I4:Av X ahJ Z H3 { s3 with heap:=s3.heap.push { cls:=.type "slice",data:=.fields #[vl,vu,.none] } }:=I3.kept (t':=s3.toks) fun b ob q=>Eo _ q
 obtain ⟨T,id,hT,ht,hg⟩:=hr ahJ { s3 with heap:=s3.heap.push { cls:=.type "slice",data:=.fields #[vl,vu,.none] } } Z H3 x v vl vu l u s3.heap.objs.size Q I4 r1 (Heap.IsSliceOf.new ..) pl pu q3;show Ay (Ax X.prog X.w) X.A (subscriptTail e (.Slice lo hi FX p2) v (.ref s3.heap.objs.size)) (EP X ahJ Z Q) X.xe { s3 with heap:=s3.heap.push { cls:=.type "slice",data:=.fields #[vl,vu,.none] } };exact tail_any (ops:=[.ref s3.heap.objs.size,v]) ht hT hg<|by with_unfolding_all rfl
def J1 (xs:List V)(lo hi:Option Int):List V:=(xs.drop (HT.sIx xs.length 0 lo)).take (HT.sIx xs.length xs.length hi - HT.sIx xs.length 0 lo)
theorem nY (xs:List V)(lo hi:Option Int):(J1 xs lo hi).length<=xs.length:=by
 unfold J1;rw [QC,List.length_drop];lia
def abJ (K:Az):V->Option Int->Option Int->Hp->VK->Prop:=fun x lo hi H Q=>∃ a xs,x=.ref a/\Ew K H a xs /\
 ¬ (HT.sIx xs.length 0 lo=0/\HT.sIx xs.length xs.length hi=xs.length)/\∀ p,H p=FX->Q (.ref p) (Dd H p (.tup (J1 xs lo hi)))
theorem afb:Qx X (abJ X.K):=by
 intro ahJ s Z H x v vl vu lo hi sl Q I rx hs pl pu h;obtain ⟨a,xs,rfl,hx,hw,q⟩:=h;cases rx;obtain ⟨its,r,ht,hz⟩:=I.tuple hx;have ahK:its.toArray.size=xs.length:=by rw [Io];exact r.length.symm
 refine ⟨"tuple",_,Vc.lookup,ht.typeIs,?_⟩;refine HT.mF ht hs pl pu (by rw [ahK];exact hw) ?_ (by rw [ahK];exact hz);rw [ahK];refine ⟨.ref s.heap.objs.size,_,I.laid (t':=s.toks) (o:=.tup (J1 xs lo hi)) (fun b ob q=>Eo _ q) (Bp _) ?_,rfl,q _<|I.hok.fresh<|Bp _⟩;exact ⟨CW (nY xs lo hi) hz,_,(r.drop<|HT.sIx xs.length 0 lo).take (HT.sIx xs.length xs.length hi - HT.sIx xs.length 0 lo),Fq.new _ _⟩
def aa4 (K:Az):R2:=fun x y H Q=>∃ a b ns ms,x=.ref a/\y=.ref b/\Ew K H a (ns.map V.int)/\Ew K H b (ms.map V.int)/\Q (.bl (HT.lexLt ns ms)) H
theorem aep (hu:X.A.units<Gf):J6 X (Jb .Lt) (aa4 X.K):=by
 intro ahJ s Z H x y v u Q I rx ry h;obtain ⟨a,b,ns,ms,rfl,rfl,ha,hb,q⟩:=h;cases rx;cases ry;obtain ⟨its,r1,p1,_⟩:=I.tuple ha;obtain ⟨its2,r2,p2,_⟩:=I.tuple hb;have i1:O6 its.toArray.toList ns:=Ge r1;have i2:O6 its2.toArray.toList ms:=Ge r2;exact HT.qz p1 p2 i1 i2 hu ⟨.bl<|HT.lexLt ns ms,H,I,rfl,q⟩
def aag (K:Az):R2:=fun x y H Q=>∃ a b xs ys,x=.ref a/\y=.ref b/\Ew K H a xs/\Ew K H b ys/\xs≠[]/\xs.length+ys.length<=Dp /\
 (ys=[]->Q (.ref a) H)/\(ys≠[]->∀ p,H p=FX->Q (.ref p) (Dd H p (.tup (xs++ys))))
theorem Aw.nil_iff {xs:List V}{us:List Mk}(r:Aw xs us):us=[]↔xs=[]:=by
 cases r with
 | nil=>simp
 | cons _ _=>simp
theorem afU:J6 X (Jw .Add) (aag X.K):=by
 intro ahJ s Z H x y v u Q I rx ry h;obtain ⟨a,b,xs,ys,rfl,rfl,ha,hb,hx,hz,q1,q2⟩:=h;cases rx;cases ry;obtain ⟨its,r1,p1,_⟩:=I.tuple ha;obtain ⟨its2,r2,p2,_⟩:=I.tuple hb;refine HT.O8 p1 p2 (fun z=>hx<|r1.nil_iff.mp z) (fun z=>⟨.ref a,H,I,rfl,q1<|r2.nil_iff.mp z⟩) (fun z=>?_) (by rw [<-r1.length,<-r2.length];exact hz);refine ⟨.ref s.heap.objs.size,_,I.laid (t':=s.toks) (o:=.tup (xs++ys)) (fun b ob q=>Eo _ q) (Bp _) ?_,rfl,q2 (fun w=>z<|r2.nil_iff.mpr w) _<|I.hok.fresh<|Bp _⟩;exact ⟨by rw [JG];exact hz,_,r1.append r2,Fq.new _ _⟩
end
def Pa (n:Nat)(i:Int):Option Nat:=if 0<=i then (if i<n then FN i.toNat else FX) else if -(n:Int)<=i then FN (i+n).toNat else FX
def Ka {α : Type}(xs:List α)(i:Int):Option α:=(Pa xs.length i).bind fun j=>xs[j]?
theorem HX {n:Nat}{i:Int}{j:Nat}(h:Pa n i=FN j):seqIndex? i n=FN j/\j<n/\-(n:Int)<=i/\i<n:=by
 unfold Pa at h;by_cases h0:0<=i
 ·rw [if_pos h0] at h;by_cases h1:i<n
  ·rw [if_pos h1] at h;have e:i.toNat=j:=Eu h;exact ⟨by rw [seqIndex_of h0 h1,e],by lia,by lia,h1⟩
  ·rw [if_neg h1] at h;cases h
 ·rw [if_neg h0] at h;by_cases h1:-(n:Int)<=i
  ·rw [if_pos h1] at h;have e:(i+n).toNat=j:=Eu h;exact ⟨by rw [seqIndex_neg (by lia) h1,e],by lia,h1,by lia⟩
  ·rw [if_neg h1] at h;cases h
theorem xP {α : Type}{xs:List α}{i:Int}{v:α}(h:Ka xs i=FN v):∃ j,seqIndex? i xs.length=FN j/\xs[j]?=FN v/\j<xs.length/\-(xs.length:Int)<=i/\i<xs.length:=by
 unfold Ka at h;cases e:Pa xs.length i with
 | none=>rw [e] at h;cases h
 | some j=>
  rw [e] at h;obtain ⟨h1,h2,h3,h4⟩:=HX e;exact ⟨j,h1,h,h2,h3,h4⟩
theorem cL {α : Type}{xs:List α}{j:Nat}{v:α}(h:xs[j]?=FN v):Ka xs (j:Int)=FN v:=by
 have hj:j<xs.length:=(K5.mp h).1;have e:Pa xs.length (j:Int)=FN j:=by
  unfold Pa;rw [if_pos (by lia),if_pos (by lia)];simp
 unfold Ka;rw [e];exact h
def wK (b:Expr):Prop:=∀ o i,subscripted b false o i=operate [o,i] (getItem o i)
def Ru (X:Cx)(r:R2):Prop:=
 ∀ (value slice:Expr) (ahJ:List (Addr×Obj)) (s:Ai) (Z : St) (H:Hp) (x y:V) (v u:Mk) (Q:VK),Av X ahJ Z H s->BX x v->BX y u->r x y H Q ->
  subscripted slice false v u=operate [v,u] (getItem v u)->Ay (Ax X.prog X.w) X.A (subscriptTail value slice v u) (EP X ahJ Z Q) X.xe s
def MtR (X:Cx)(id:String)(r:V->List V->Hp->VK->Prop):Prop:=
 ∀ (ahJ:List (Addr×Obj)) (s:Ai) (Z : St) (H:Hp) (x:V) (xs:List V) (v:Mk) (us:List Mk) (Q:VK),Av X ahJ Z H s->BX x v->Aw xs us->r x xs H Q ->
  Ay (Ax X.prog X.w) X.A (call (.builtin id) (v::us)) (EP X ahJ Z Q) X.xe s
section
variable {X:Cx}{a b:Expr}{ta tb:TE}{pos:Pos}
theorem Ru.or {r r':R2}(h:Ru X r)(h':Ru X r'):Ru X (fun x y H Q=>r x y H Q\/r' x y H Q):=by
 intro value slice ahJ s Z H x y v u Q I rx ry q hs;rcases q with q | q
 ·exact h value slice ahJ s Z H x y v u Q I rx ry q hs
 ·exact h' value slice ahJ s Z H x y v u Q I rx ry q hs
theorem ZG {r:R2}(hr:Ru X r)(ha:PE X a ta)(hb:PE X b tb)(hs:wK b):PE X (.Subscript a b pos) (tOp r ta tb):=by
 intro ahJ s Z H Q I h;exact Subscript_<|X4 ha hb I h fun v u s2 x y H2 I2 rx ry q=>hr a b ahJ s2 Z H2 x y v u Q I2 rx ry q<|hs _ _
def aap (K:Az):R2:=fun x y H Q=>∃ p xs i v,x=.ref p/\y=.int i/\Ij K H p xs/\Ka xs i=FN v/\Q v H
def aaS (K:Az):R2:=fun x y H Q=>∃ p xs i v,x=.ref p/\y=.int i/\Ew K H p xs/\Ka xs i=FN v/\Q v H
def aau:R2:=fun x y H Q=>∃ z i c,x=.str z/\y=.int i/\z.length<=Dp/\Ka z.cps.toList i=FN c/\Q (.str ⟨#[c]⟩) H
theorem zbP:Ru X (aap X.K):=by
 intro value slice ahJ s Z H x y v u Q I rx ry h hs;obtain ⟨p,xs,i,z,rfl,rfl,hq,he,q⟩:=h;cases rx;obtain ⟨t,rfl⟩:=ry;obtain ⟨its,r,pl,hz⟩:=I.list hq;obtain ⟨j,h1,h2,h3,h4,h5⟩:=xP he;obtain ⟨w,ew,rw'⟩:=r.get h2;have hl:=r.length;have hn:=qD;have fin:EP X ahJ Z Q w s:=⟨z,H,I,rw',q⟩
 by_cases h0:0<=i
 ·have hj:i.toNat=j:=by
   rw [seqIndex_of h0 h5] at h1;exact Eu h1
  exact item_listR pl.isList h0 (by lia) (by rw [hj];simpa using ew) fin hs
 ·have hj:(i+(its.toArray.size:Int)).toNat=j:=by
   rw [seqIndex_neg (by lia) h4] at h1;rw [Io,<-hl];exact Eu h1
  exact subscriptTail_builtinR (x:=w) pl.isList.typeIs slot_list_getitem.lookup
   (wpAny_getItem_list_neg (Q:=fun r s'=>r=w/\EP X ahJ Z Q r s') pl.isList (by lia) (by rw [Io] <;> lia) (by lia) (by rw [hj];simpa using ew) ⟨rfl,fin⟩) hs
theorem aeK:Ru X (aaS X.K):=by
 intro value slice ahJ s Z H x y v u Q I rx ry h hs;obtain ⟨p,xs,i,z,rfl,rfl,hq,he,q⟩:=h;cases rx;obtain ⟨t,rfl⟩:=ry;obtain ⟨its,r,pl,hz⟩:=I.tuple hq;obtain ⟨j,h1,h2,h3,h4,h5⟩:=xP he;obtain ⟨w,ew,rw'⟩:=r.get h2;have hl:=r.length;have hn:=qD;have fin:EP X ahJ Z Q w s:=⟨z,H,I,rw',q⟩
 exact subscriptTail_builtinR (x:=w) pl.typeIs slot_tuple_getitem.lookup
  (getItem_tuple (j:=j) (Q:=fun r s'=>r=w/\EP X ahJ Z Q r s') pl (by lia) (by lia) (by rw [Io,<-hl];exact h1) (by simpa using ew) ⟨rfl,fin⟩) hs
theorem aex:Ru X aau:=by
 intro value slice ahJ s Z H x y v u Q I rx ry h hs;obtain ⟨z,i,c,rfl,rfl,hz,he,q⟩:=h;obtain ⟨t,rfl⟩:=rx;obtain ⟨t',rfl⟩:=ry;obtain ⟨j,h1,h2,h3,h4,h5⟩:=xP he;have hl:z.cps.toList.length=z.length:=by simp [Str.length]
 rw [hl] at h1 h4 h5;have hn:=qD;exact tail_any (typeIs_str s z t) slot_str_getitem.lookup (getItem_str (c:=c) (by
  have e1:decide (i < -(2^63:Int))=false:=decide_eq_false (by lia);have e2:decide (i>=2^63)=false:=decide_eq_false (by lia);rw [e1,e2,Bool.or_false]) (by rw [h1];simpa using h2) ⟨.str ⟨#[c]⟩,H,I.tok _,⟨_,rfl⟩,q⟩) hs
def rIx (K:Az):R2:=fun x y H Q=>aap K x y H Q\/aaS K x y H Q\/aau x y H Q
theorem afM:Ru X (rIx X.K):=zbP.or (aeK.or aex)
theorem zaf (its:List Mk)(n j:Nat)(u:Mk):SJ (·.setIfInBounds j u) { cls:=.type "list",data:=.seq its.toArray n } = { cls:=.type "list",data:=.seq (its.set j u).toArray n }:=by
 simp [SJ]
theorem Av.lst {ahJ:List (Addr×Obj)}{Z : St}{H:Hp}{s:Ai}{p:Addr}{xs:List V}(I:Av X ahJ Z H s)(h:H p=FN (.lst xs)) :
  ∃ (its:List Mk) (n:Nat),Aw xs its/\s.heap.get? p=FN { cls:=.type "list",data:=.seq its.toArray n }/\xs.length<=Dp:=by
 obtain ⟨z,its,n,r,e⟩:=I.hok p _ h;exact ⟨its,n,r,e,z⟩
theorem Av.lstUpd {ahJ:List (Addr×Obj)}{Z : St}{H:Hp}{s:Ai}{p:Addr}{xs ys:List V}{its its':List Mk}{n n':Nat}{f:Obj->Obj}(I:Av X ahJ Z H s)(h:H p=FN (.lst xs))
  (ho:s.heap.get? p=FN { cls:=.type "list",data:=.seq its.toArray n }) (hf:f { cls:=.type "list",data:=.seq its.toArray n } = { cls:=.type "list",data:=.seq its'.toArray n' }) (r:Aw ys its') (hz:ys.length<=Dp) (t:Nat) :
  Av X ahJ Z (Dd H p (.lst ys)) { s with heap:=s.heap.update p f,toks:=t }:=by
 have e:(s.heap.update p f).get? p=FN { cls:=.type "list",data:=.seq its'.toArray n' }:=by
  rw [VR f ho (by rw [hf] <;> rfl),hf]
 refine I.write (x:=p) (e:=p) (by rw [h];trivial) (.inl rfl) (fun b u hb q=>(TJ _ _<|Im hb).trans q) ⟨_,e⟩ ?_;exact ⟨hz,its',n',r,e⟩
def Ss:V->V->V->Hp->(Hp->Prop)->Prop:=fun o i v H Q=>∃ p xs k j,o=.ref p/\i=.int k/\H p=FN (.lst xs)/\Pa xs.length k=FN j/\Q (Dd H p (.lst (xs.set j v)))
theorem Kr:SN X Ss:=by
 intro ahJ s Z H o i v ov iv u Q I ro ri rv h;obtain ⟨p,xs,k,j,rfl,rfl,hp,hj,q⟩:=h;cases ro;obtain ⟨t,rfl⟩:=ri;obtain ⟨its,n,r,ho,hz⟩:=I.lst hp;obtain ⟨h1,h2,h3,h4⟩:=HX hj;have hl:=r.length;have hn:=qD;have I':Av X ahJ Z (Dd H p (.lst (xs.set j v))) { s with heap:=s.heap.update p (SJ (·.setIfInBounds j u)) }:=
  I.lstUpd hp ho (zaf its n j u) (r.set rv j) (by rw [List.length_set];exact hz) s.toks
 by_cases h0:0<=k
 ·have hk:k.toNat=j:=by
   rw [seqIndex_of h0 h4] at h1;exact Eu h1
  exact PySem.W.ki_setAt ho h0 (by lia) (by rw [Io,<-hl];exact h4) (by rw [hk];exact ⟨_,I',q⟩)
 ·have hk:(k+(its.toArray.size:Int)).toNat=j:=by
   rw [seqIndex_neg (by lia) h3] at h1;rw [Io,<-hl];exact Eu h1
  exact PySem.W.ki_setBack ho (by lia) (by rw [Io,<-hl];exact h3) (by lia) (by rw [hk];exact ⟨_,I',q⟩)
theorem vC (lo hi:Option Int)(n:Nat):(Uh lo hi FX n).1=((HT.sIx n 0 lo:Nat):Int)/\(Uh lo hi FX n).2.1=((HT.sIx n n hi:Nat):Int)/\(Uh lo hi FX n).2.2=1:=by
 refine ⟨?_,?_,rfl⟩
 ·cases lo with
  | none=>simp [Uh,HT.sIx]
  | some i=>
   simp only [Uh,HT.sIx,Option.getD_none,show (1:Int)>0 by decide,if_true];by_cases h:i<0
   ·simp only [h,if_true] <;> lia
   ·simp only [h,if_false] <;> lia
 ·cases hi with
  | none=>simp [Uh,HT.sIx]
  | some i=>
   simp only [Uh,HT.sIx,Option.getD_none,show (1:Int)>0 by decide,if_true];by_cases h:i<0
   ·simp only [h,if_true] <;> lia
   ·simp only [h,if_false] <;> lia
theorem rD (its:List Mk)(lo hi:Option Int):slicePick its.toArray lo hi FX=((its.drop (HT.sIx its.length 0 lo)).take (HT.sIx its.length its.length hi - HT.sIx its.length 0 lo)).toArray:=by
 obtain ⟨h1,h2,h3⟩:=vC lo hi its.toArray.size;unfold slicePick;rw [h1,h2,h3];simp only [sliceRange_one,pick_run,Io] <;> rfl
def abC (K:Az):V->Option Int->Option Int->Hp->VK->Prop:=fun x lo hi H Q=>∃ a xs,x=.ref a/\Ij K H a xs/\∀ p,H p=FX->Q (.ref p) (Dd H p (.lst (J1 xs lo hi)))
theorem zcm:Qx X (abC X.K):=by
 intro ahJ s Z H x v vl vu lo hi sl Q I rx hs pl pu h;obtain ⟨a,xs,rfl,hx,q⟩:=h;cases rx;obtain ⟨its,r,ht,hz⟩:=I.list hx;have ahK:=r.length;refine ⟨"list",_,slot_list_getitem.lookup,ht.isList.typeIs,?_⟩;refine wpAny_getItem_list_slice ht.isList hs pl pu .none (by simp) ?_ (by rw [Io] <;> lia);rw [rD,<-ahK];refine ⟨.ref s.heap.objs.size,_,I.laid (t':=s.toks) (o:=.lst (J1 xs lo hi)) (fun b ob q=>Eo _ q) (Bp _) ?_,rfl,q _<|I.hok.fresh<|Bp _⟩;exact ⟨CW (nY xs lo hi) hz,_,0,(r.drop<|HT.sIx xs.length 0 lo).take (HT.sIx xs.length xs.length hi - HT.sIx xs.length 0 lo),Ip _ rfl⟩
def Ey:V->Bool
 | .non=>true
 | .bl _=>true
 | .int _=>true
 | .str _=>true
 | _=>false
def eqV:V->V->Bool
 | .non,.non=>true
 | .bl a,.bl b=>a==b
 | .bl a,.int b=>(if a then 1 else 0)==b
 | .int a,.bl b=>a==(if b then 1 else 0)
 | .int a,.int b=>a==b
 | .str a,.str b=>a==b
 | _,_=>false
theorem Wt {A:DW}{s:Ai}{y x:V}{u v:Mk}(ry:BX y u)(rx:BX x v)(fy:Ey y=true)(fx:Ey x=true):TF A s u v (eqV y x):=by
 cases y with
 | non=>
  cases ry;cases x with
  | non=>cases rx;exact SeqAt.EqAt.same _
  | bl b=>cases rx;exact SeqAt.EqAt.none_bool b
  | int b=>obtain ⟨t,rfl⟩:=rx;exact SeqAt.EqAt.none_int b t
  | str b=>obtain ⟨t,rfl⟩:=rx;exact SeqAt.EqAt.none_str b t
  | _=>exact absurd (show false=true from fx) KY
 | bl a=>
  cases ry;cases x with
  | non=>cases rx;exact SeqAt.EqAt.bool_none a
  | bl b=>cases rx;exact SeqAt.EqAt.bool_bool a b
  | int b=>obtain ⟨t,rfl⟩:=rx;exact SeqAt.EqAt.bool_int a b t
  | str b=>obtain ⟨t,rfl⟩:=rx;exact SeqAt.EqAt.bool_str a b t
  | _=>exact absurd (show false=true from fx) KY
 | int a=>
  obtain ⟨t',rfl⟩:=ry;cases x with
  | non=>cases rx;exact SeqAt.EqAt.int_none a t'
  | bl b=>cases rx;exact SeqAt.EqAt.int_bool a t' b
  | int b=>obtain ⟨t,rfl⟩:=rx;exact SeqAt.EqAt.int_int a t' b t
  | str b=>obtain ⟨t,rfl⟩:=rx;exact SeqAt.EqAt.int_str a t' b t
  | _=>exact absurd (show false=true from fx) KY
 | str a=>
  obtain ⟨t',rfl⟩:=ry;cases x with
  | non=>cases rx;exact SeqAt.EqAt.str_none a t'
  | bl b=>cases rx;exact SeqAt.EqAt.str_bool a t' b
  | int b=>obtain ⟨t,rfl⟩:=rx;exact SeqAt.EqAt.str_int a t' b t
  | str b=>obtain ⟨t,rfl⟩:=rx;exact SeqAt.EqAt.str_str a t' b t
  | _=>exact absurd (show false=true from fx) KY
 | _=>exact absurd (show false=true from fy) KY
theorem u6:fL X (.builtin "len") (fun xs H Q=>∃ p ys,xs=[.ref p]/\(Ij X.K H p ys\/Ew X.K H p ys)/\Q (.int ys.length) H):=by
 intro ahJ s Z H xs us Q I r h;obtain ⟨p,ys,rfl,hq,q⟩:=h;obtain ⟨u,rfl,rx⟩:=Gv r;cases rx;have hn:=qD;rcases hq with hq | hq
 ·obtain ⟨its,r',pl,hz⟩:=I.list hq;have ahK:=r'.length;exact Calls.call_len_list pl.isList (by simp only [Io] <;> lia) ⟨.int ys.length,H,I.tok _,⟨s.toks+1,by rw [Io,ahK]⟩,q⟩
 ·obtain ⟨its,r',pl,hz⟩:=I.tuple hq;have ahK:=r'.length;exact len_tuple pl (by simp only [Io] <;> lia) ⟨.int ys.length,H,I.tok _,⟨s.toks+1,by rw [Io,ahK]⟩,q⟩
theorem fL.or {f:Mk}{r r':List V->Hp->VK->Prop}(h:fL X f r)(h':fL X f r'):fL X f (fun xs H Q=>r xs H Q\/r' xs H Q):=by
 intro ahJ s Z H xs us Q I rs q;rcases q with q | q
 ·exact h ahJ s Z H xs us Q I rs q
 ·exact h' ahJ s Z H xs us Q I rs q
theorem vU:fL X (.type "list") (fun xs H Q=>∃ p ys,xs=[.ref p]/\(Ij X.K H p ys\/Ew X.K H p ys)/\∀ l,H l=FX->Q (.ref l) (Dd H l (.lst ys))):=by
 intro ahJ s Z H xs us Q I r h;obtain ⟨p,ys,rfl,hq,q⟩:=h;obtain ⟨u,rfl,rx⟩:=Gv r;cases rx;have fin:∀ (its:List Mk),Aw ys its->ys.length<=Dp->∀ (h':Heap) (c':Nat),(∀ b o',s.heap.get? b=FN o'->h'.get? b=FN o') ->
   h'.get? s.heap.objs.size=FN { cls:=.type "list",dict:=FX,data:=.seq its.toArray c',slots:=#[] }->EP X ahJ Z Q (.ref s.heap.objs.size) { s with heap:=h' }:=fun its r' hz h' c' kp e=>
  ⟨.ref s.heap.objs.size,_,I.laid (t':=s.toks) kp (Bp _) (show d9 X.prog X.w _ h' _ (.lst ys) from ⟨hz,its,c',r',e⟩),rfl,q _ (I.hok.fresh (Bp _))⟩
 rcases hq with hq | hq
 ·obtain ⟨its,r',pl,hz⟩:=I.list hq;have ahK:=r'.length;obtain ⟨o,ho,hc,n,hd⟩:=pl.isList;exact call_list_seq p (.inl rfl) ho hc hd (fun h' c' kp e=>fin its r' hz h' c' kp e) (by simp only [Io] <;> lia)
 ·obtain ⟨its,r',pl,hz⟩:=I.tuple hq;have ahK:=r'.length;obtain ⟨o,ho,hc,n,hd⟩:=pl;exact call_list_seq p (.inr rfl) ho hc hd (fun h' c' kp e=>fin its r' hz h' c' kp e) (by simp only [Io] <;> lia)
theorem tV:fL X (.type "tuple") (fun xs H Q=>∃ p ys,xs=[.ref p]/\((Ij X.K H p ys/\∀ l,H l=FX->Q (.ref l) (Dd H l (.tup ys)))\/(Ew X.K H p ys/\Q (.ref p) H))):=by
 intro ahJ s Z H xs us Q I r h;obtain ⟨p,ys,rfl,h⟩:=h;obtain ⟨u,rfl,rx⟩:=Gv r;cases rx;rcases h with ⟨hq,q⟩ | ⟨hq,q⟩
 ·obtain ⟨its,r',pl,hz⟩:=I.list hq;have ahK:=r'.length;refine call_tuple_list pl.isList (fun h' kp=>?_) (by simp only [Io] <;> lia);have I1:Av X ahJ Z H { s with heap:=h' }:=I.kept (t':=s.toks) kp;have I2:Av X ahJ Z (Dd H h'.objs.size (.tup ys)) { s with heap:=h'.push { cls:=.type "tuple",data:=.seq its.toArray } }:=
   I1.laid (t':=s.toks) (fun b o e=>Eo _ e) (Bp _) (show d9 X.prog X.w _ _ _ (.tup ys) from ⟨hz,its,r',Fq.new _ _⟩)
  exact ⟨.ref h'.objs.size,_,I2,rfl,q _<|I1.hok.fresh<|Bp _⟩
 ·obtain ⟨its,r',pl,hz⟩:=I.tuple hq;exact call_tuple_same pl ⟨.ref p,H,I,rfl,q⟩
def tyV (K:Az)(T:String)(x:V)(H:Hp):Prop:=match x with
 | .str _=>T = "str"
 | .int _=>T = "int"
 | .ref p=>(T = "list"/\∃ xs,Ij K H p xs)\/(T = "tuple"/\∃ o,K.lookup p=FN o/\o.cls=.type "tuple"/\o.dict=FX) \/
   (T = "dict"/\((∃ kvs,H p=FN (.dK kvs))\/∃ kvs,H p=FN (.dT kvs)))\/(T = "set"/\∃ S n,H p=FN (.set S n))
 | _=>False
theorem afw {ahJ:List (Addr×Obj)}{Z : St}{H:Hp}{s:Ai}{T:String}{x:V}{v:Mk}(I:Av X ahJ Z H s)(r:BX x v)(ty:tyV X.K T x H):
  s.TypeIs v T/\∀ a,v=.ref a->∃ ob,s.heap.get? a=FN ob/\ob.dict=FX:=by
 cases x with
 | str z=>
  obtain ⟨t,rfl⟩:=r;cases (show T = "str" from ty)
  exact ⟨typeIs_str s z t,fun _ e=>nomatch e⟩
 | int i=>
  obtain ⟨t,rfl⟩:=r;cases (show T = "int" from ty)
  exact ⟨typeIs_int s i t,fun _ e=>nomatch e⟩
 | ref p=>
  cases r;rcases ty with ⟨rfl,xs,hq⟩ | ⟨rfl,o,hk,hc,hd⟩ | ⟨rfl,hk⟩ | ⟨rfl,S,n,hk⟩
  ·obtain ⟨its,_,pl,_⟩:=I.list hq;refine ⟨pl.isList.typeIs,fun a e=>?_⟩;cases e;obtain ⟨o,n,e,c,hd,_⟩:=pl;exact ⟨o,e,hd⟩
  ·refine ⟨⟨o,I.kIn p o hk,hc⟩,fun a e=>?_⟩;cases e;exact ⟨o,I.kIn _ o hk,hd⟩
  ·have z:∃ o,s.heap.get? p=FN o/\o.ExactDict:=by
    rcases hk with ⟨kvs,hk⟩ | ⟨kvs,hk⟩
    ·obtain ⟨_,_,_,_,o,_,_,e,ex,_⟩:=I.hok p _ hk;exact ⟨o,e,ex⟩
    ·obtain ⟨_,_,_,_,o,_,_,e,ex,_⟩:=I.hok p _ hk;exact ⟨o,e,ex⟩
   obtain ⟨o,e,ex⟩:=z;refine ⟨⟨o,e,ex.1⟩,fun a e2=>?_⟩;cases e2;exact ⟨o,e,ex.2.1⟩
  ·obtain ⟨o,_,_,_,e,ex,_⟩:=I.hok p _ hk;refine ⟨⟨o,e,ex.1⟩,fun a e2=>?_⟩;cases e2;exact ⟨o,e,ex.2.1⟩
 | _=>exact Qa ty
def tBM (K:Az)(T:String)(r:V->List V->Hp->VK->Prop)(to:TE)(t:TA):TE:=fun Z H Q=>to Z H fun x H1=>tyV K T x H1/\t Z H1 fun xs H2=>r x xs H2 Q
variable {o e:Expr}{es:List Expr}{to:TE}{t:TA}{name:Str}{apos ahL:Pos}{T id:String}{r:V->List V->Hp->VK->Prop}
theorem Yi (pa:PlainAttrs T)(slot:Slot T name id)(hty:typeOf (.builtin id)=pure (.type "method_descriptor"))(hm:MtR X id r)(ho:PE X o to)(ha:PA X (e::es) t)
  (hbase:attributeBase o name X.env (eval o X.env)=eval o X.env:=by rfl)
  (hfew:((J9 ahL (Dh (e::es) X.env)).all (fun x=>!x.1)&&(backToKw ahL (Ug [] X.env)).all (fun x=>x.1.isSome)
   && decide ((e::es).length+([]:List O7).length+(if ([]:List O7).isEmpty then 0 else 1)<30))=true:=by rfl)
  (hline:(apos.endLine==ahL.line)=true:=by rfl) (hs:Dh (e::es) X.env=(false,eval e X.env)::Dh es X.env:=by rfl) (hplain:(J9 ahL (Dh es X.env)).any (·.1)=false:=by rfl) :
  PE X (.Call (.Attribute o name apos) (e::es) [] ahL) (tBM X.K T r to t):=by
 intro ahJ s Z H Q I h;refine wpAny_Call_method_late hbase hfew hline rfl<|Ei (ho ahJ s Z H _ I h) fun v s1 ⟨x,H1,I1,r1,ty,q1⟩=>?_
 obtain ⟨h1,h2⟩:=afw I1 r1 ty;refine ⟨T,id,pa,slot,hty,h1,h2,?_⟩;have hA:=ha ahL ahJ s1 Z H1 _ I1 q1;rw [hs] at hA |-
 refine Calls.callWith_builtin (by show (false||(J9 ahL<|Dh es X.env).any (·.1))=false;rw [hplain] <;> rfl)<|Calls.evalArgs_plain ?_
 exact Ei hA fun us s2 ⟨vs,H2,I2,r2,q2⟩=>hm ahJ s2 Z H2 x vs v us Q I2 r1 r2 q2
/- xs.append(e), list.index on a module's tuple .. are MtR facts of 06m -/
end
def MtM (X:Cx)(id:String)(r:V->List V->Hp->VK->Prop):Prop:=
 ∀ (ahJ:List (Addr×Obj)) (s:Ai) (Z : St) (H:Hp) (x:V) (xs:List V) (v:Mk) (us:List Mk) (Q:VK),Av X ahJ Z H s->BX x v->Aw xs us->r x xs H Q ->
  Ay (Ax X.prog X.w) X.A (call (.builtin id) (v::us)) (EP X ahJ Z Q) X.xe s
theorem Aw.one:∀ {x:V} {us:List Mk},Aw [x] us->∃ u,us=[u]/\BX x u
 | _,_,.cons r .nil=>⟨_,rfl,r⟩
theorem Aw.rep {xs:List V}{us:List Mk}(h:Aw xs us):∀ k:Nat,Aw (Gs k xs).flatten (Gs k us).flatten
 | 0=>.nil
 | k+1=>by
  rw [Rg,Rg,U9,U9];exact Aw.append h<|Aw.rep h k
theorem K9 (its:List Mk):∀ (k:Nat) (acc:List Mk),
  List.foldl (fun x1 x2=>x1++x2) acc.toArray (Gs k its.toArray)=(acc++(Gs k its).flatten).toArray
 | 0,acc=>by simp
 | k+1,acc=>by
  have e:acc.toArray++its.toArray=(acc++its).toArray:=by simp
  have e2:(acc++its)++(Gs k its).flatten=acc++(Gs (k+1) its).flatten:=by
   rw [Rg,U9,Ph]
  rw [<-e2,<-K9 its k (acc++its),<-e,Rg,List.foldl_cons]
section
variable {X:Cx}{ahJ:List (Addr×Obj)}{Z : St}{H:Hp}{s:Ai}{l b:Addr}{xs ys zs:List V}
theorem Av.lset {its its':List Mk}{n:Nat}{f:Array Mk->Array Mk}{t':Nat}(I:Av X ahJ Z H s)(hH:H l=FN (.lst xs))
  (e:s.heap.get? l=FN { cls:=.type "list",data:=.seq its.toArray n }) (hf:f its.toArray=its'.toArray) (hv:Aw ys its') (hz:ys.length<=Dp) :
  Av X ahJ Z (Dd H l (.lst ys)) { s with heap:=s.heap.update l (SJ f),toks:=t' }:=by
 have q:=PySem.IsL.update e f;rw [hf] at q;refine I.write (x:=l) (e:=l) (by rw [hH];exact trivial) (.inl rfl) (fun b' u hb hu=>(TJ s.heap (SJ f)<|Im hb).trans hu) ⟨_,q⟩ ?_;exact ⟨hz,its',_,hv,q⟩
theorem Av.lnew {its:List Mk}{t':Nat}(I:Av X ahJ Z H s)(hv:Aw ys its)(hz:ys.length<=Dp):
  Av X ahJ Z (Dd H s.heap.objs.size (.lst ys)) { s with heap:=s.heap.push { cls:=.type "list",data:=.seq its.toArray },toks:=t' }:=
 I.laid (fun _ _ q=>Eo _ q) (Bp _) ⟨hz,its,0,hv,Ip _ rfl⟩
theorem Av.fresh (I:Av X ahJ Z H s):H s.heap.objs.size=FX:=I.hok.fresh (Bp _)
theorem Av.lstM (I:Av X ahJ Z H s)(hH:H l=FN (.lst xs)):xs.length<=Dp/\∃ (its:List Mk) (n:Nat),Aw xs its/\xs.length=its.length/\s.heap.get? l=FN { cls:=.type "list",data:=.seq its.toArray n }:=by
 obtain ⟨z,its,n,r,e⟩:=I.hok l _ hH;exact ⟨z,its,n,r,r.length,e⟩
end
section
variable {X:Cx}
def Dk:V->List V->Hp->VK->Prop:=fun x vs H Q=>∃ l xs y,x=.ref l/\vs=[y]/\H l=FN (.lst xs)/\xs.length<Dp/\Q .non (Dd H l (.lst (xs++[y])))
theorem uH:MtM X "list.append" Dk:=by
 intro ahJ s Z H x vs v us Q I rx rv h;obtain ⟨l,xs,y,rfl,rfl,hH,hz,q⟩:=h;cases rx;obtain ⟨u,rfl,ru⟩:=rv.one;obtain ⟨z,its,n,r,hl,e⟩:=I.lstM hH;refine call_meets F.slot_list_append ⟨_,e,rfl⟩ F.entry_list_append (F.args_list_append_2 _ _) (PySem.list_append l its.toArray n u (by rw [Io];lia)) ⟨e,?_⟩;refine ⟨.non,_,I.lset (its':=its++[u]) hH e (by simp) (r.append<|.cons ru .nil) ?_,rfl,q⟩;rw [JG,WL];lia
def aa3:R2:=fun x y H Q=>∃ l b xs zs,x=.ref l/\y=.ref b/\H l=FN (.lst xs)/\H b=FN (.lst zs)/\xs.length+zs.length<=Dp/\∀ p,H p=FX->Q (.ref p) (Dd H p (.lst (xs++zs)))
theorem afN:J6 X (Jw .Add) aa3:=by
 intro ahJ s Z H x y v u Q I rx ry h;obtain ⟨l,b,xs,zs,rfl,rfl,hH,hB,hz,q⟩:=h;cases rx;cases ry;obtain ⟨z,its,n,r,hl,e⟩:=I.lstM hH;obtain ⟨z2,its2,n2,r2,hl2,e2⟩:=I.lstM hB;refine PySem.P.add_list e e2 ?_ (by rw [Io,Io];lia);have ea:its.toArray++its2.toArray=(its++its2).toArray:=by simp
 rw [ea];exact ⟨.ref _,_,I.lnew (t':=s.toks) (r.append r2) (by rw [JG];lia),rfl,q _ I.fresh⟩
theorem O2 {α : Type}(xs:List α)(k:Nat):(Gs k xs).flatten.length=k*xs.length:=by
 induction k with
 | zero=>simp
 | succ k ih=>rw [Rg,U9,JG,ih,Nat.succ_mul,Ua]
end
section
variable {prog:DI}{w:Bw}{A:DW}{E:Mk->Ai->Prop}{s:Ai}
end
section
variable {X:Cx}
end
end L2
namespace Att
open PySem PySem.W PySem.Calls PyProof.Rows
theorem oE {P:Params}{h:Heap}:∀ (ns:List Int) (vs:List Mk),WellAll P h vs (ns.map WData.int)->O6 vs ns:=by
 intro ns;induction ns with
 | nil=>
  intro vs w;rw [Jo] at w;cases w;exact .nil
 | cons n ns ih=>
  intro vs w;rw [Bu] at w;cases w with
  | cons a b=>
   cases a;exact .cons _ _<|ih _ b
theorem zaC {l:OpenLaw}{n:Nat}(hn:l.most=FN n){P:Params}{h:Heap}{args:List WData}{vals:List Mk}
  (hpre:l.row.toRowW.claim.pre args=true) (hwl:WellAll P h vals args) :
  ∃ a vs ns,vals=[Value.ref a]/\args=[WData.list (ns.map WData.int)]/\h.get? a=FN { cls:=.type "list",data:=.seq vs.toArray }/\O6 vs ns/\ns.length<=n:=by
 have hsh:WShape.hasAll [] args [.list .int]=true:=(pre_splitW hpre).1;have hc:l.pre.holds [] { args:=args }=true:=(pre_splitW hpre).2;obtain ⟨d,r,rfl,h1,h2⟩:=hasAllW_cons hsh;obtain rfl:=hasAllW_nil h2;obtain ⟨xs,rfl,h3⟩:=hasW_list h1;obtain ⟨ns,rfl⟩:=items_int h3;have ahK:ns.length<=n:=by
  unfold OpenLaw.pre at hc;have h4:(WTm.not (.lt (.lit (.int (n:Int))) (.len (.arg 0)))).holds [] { args:=[.list (ns.map .int)] }=true:=by
   have h4:=(holds_andW hc).1;rw [hn] at h4;exact h4
  have h5:=condW_of h4 (w_not (Og w_lit (w_len_list (w_arg rfl))));rw [Bx] at h5;refine Nat.le_of_not_lt fun q=>?_;have q':(n:Int)<((ns.length:Nat):Int):=by lia
  first
   | (rw [decide_eq_true q'] at h5;exact absurd h5 (by decide))
   | (simp at h5;lia)
 cases hwl with
 | cons w1 w2=>
  cases w2;cases w1 with
  | list ho hall=>exact ⟨_,_,ns,rfl,rfl,ho,oE ns _ hall,ahK⟩
theorem acQ (l:OpenLaw)(args:List WData):l.row.toRowW.claim.post args (.bool true) args=true:=
 postW_of (r:=l.row.toRowW) (X:=(true==true))
  (show WShape.has [] (.bool true) .bool=true by first | rfl | decide | simp [WShape.has,WShape.arms,WShape.armsAll])
  (show (WTm.eq .res (.lit (.bool true))).value [] { args:=args,res:=FN (.bool true),after:=args }=FN (.bool (true==true)) from w_eq_bool (w_res rfl) w_lit) rfl
theorem yd {l:OpenLaw}{n:Nat}{q:DI}{loose:List Str}{XP:(Str->Option Mk)->Heap->Prop}{YP:Bw->Heap->Prop}{d:DefRec}
  (hn:l.most=FN n) (hdf:d.params.defaults=[])
  (call:∀ (w:Bw) (s₀ s₁ : Ai) (mg mb:Str->Option Mk) (fa:Addr) (o:Obj) (pm cd doc:Mk) (a:Addr) (vs:List Mk) (ns:List Int),
   Ground q loose [] XP w s₀ mg mb s₁.heap->YP w s₁.heap ->
   s₁.heap.get? fa=FN o->o.data=.func (docDef d.name d.params d.body d.scope pm cd doc)->s₁.heap.CodeRec cd d.name->mg d.name=FN (.ref fa) ->
   s₁.heap.get? a=FN { cls:=.type "list",data:=.seq vs.toArray }->O6 vs ns->ns.length<=n->s₁.gens = #[] ->
   Pb (Ax l.prog w) callerA (.call (.ref fa) ⟨[.ref a],[]⟩) (fun r s'=>r=.ok (.ret (.bool true))/\OldK s₁.heap s'.heap/\s'.os=s₁.os/\RK s'.gens) s₁) :
  WalkO q loose XP YP l.row.toRowW d [] (fun f vs=>PySem.call f vs):=by
 intro w s₀ s₁ mg mb G Y fa o pm cd doc dV kV ho hd hcd hD hmg hg args vals as hpre hlay hrd hwl hlo;obtain rfl:dV=.none:=Dflts.none hD hdf;obtain rfl:kV=.none:=Dflts.noKw hD;obtain ⟨a,vs,ns,rfl,rfl,hobj,hints,ahK⟩:=zaC hn hpre hwl;refine enter_call<|codeAny_mono (call w s₀ s₁ mg mb fa o pm cd doc a vs ns G Y ho (fd_plain hd) hcd hmg hobj hints ahK hg) fun r s' hq=>?_
 obtain ⟨rfl,h2,h3,h4⟩:=hq;exact ⟨.inl ⟨.bool true,.bool true,[],rfl,fun _=>rfl,.bool true,acQ l _,fun _=>⟨List.Pairwise.nil,fun _ hm=>(nomatch hm)⟩⟩,h2,h3,h4⟩
section
variable {prog:DI}{w:Bw}{A:DW}{E:Mk->Ai->Prop}{s:Ai}{K:Frag}
def ledger (h:Heap)(L d:Addr):List (Addr×Obj):=(Oo h.objs.size).filterMap fun a=>if a=L\/a=d then FX else (h.get? a).map fun o=>(a,o)
end
end Att
variable {XP : (Str->Option Mk)->Heap->Prop}{loose : List Str}{YP : Bw->Heap->Prop}
namespace L2
open PySem PySem.Spec PyProof.Rows
theorem vI:∀ {vs:List Mk} {ns:List Int},O6 vs ns->Aw (ns.map V.int) vs
 | _,_,.nil=>.nil
 | _,_,.cons n t h=>.cons ⟨t,rfl⟩ (vI h)
def Rn (H:Hp):Prop:=∀ b,H b=FX\/∃ o xs,H b=FN (.frz o (.lst xs))
theorem acY {P:DI}{w:Bw}{K:Az}{mg mb:Str->Option Mk}{CX:Rx}{k:Nat}{fa a:Addr}{fd:Kw}{x:Str}{sp:Sp}{s₁ : Ai}{vs:List Mk}{ns:List Int}
  (KX:K.In s₁.heap) (hns:s₁.heap.Ns IV mg) (hb:s₁.heap.Ns builtinsNs mb) (hbb:∀ x:Str,x ≠ "__name__"->mb x=RN x) (hlim:s₁.heap.NoLimit) (hg:s₁.gens = #[])
  (ha:s₁.heap.get? a=FN { cls:=.type "list",data:=.seq vs.toArray }) (hi:O6 vs ns) (hl:ns.length<=Dp) (hr:mY k callerA)
  (F:∀ base:Heap,K.In base->base.Ns IV mg->qm P w K mg base CX k fa fd [x] sp) (hbind:∀ (s:Ai) (u:Mk),BindsTo s fd ⟨[u],[]⟩ [(x,u)])
  (hsp:∀ H:Hp,Rn H->Ij K H a (ns.map V.int)->sp [.ref a] H (fun v _=>v=.bl true) fun _ _ _=>False)
  (hCX:∀ H e s',CX [] H s₁ (fun _ _ _=>False) e s'->False) :
  Pb (Ax P w) callerA (.call (.ref fa) ⟨[.ref a],[]⟩) (fun r s'=>r=.ok (.ret (.bool true))/\OldK s₁.heap s'.heap/\s'.os=s₁.os/\RK s'.gens) s₁:=by
 have rv:=vI hi;have lenV:=hi.length
 -- from an abstract heap in which nothing but the script may be tracked
 have core:∀ H:Hp,Rn H->Ij K H a (ns.map V.int)->JH P w H s₁.heap->(∀ b,H b≠FX->b=a)->(H a≠FX->K.lookup a=FX) ->
   Pb (Ax P w) callerA (.call (.ref fa) ⟨[.ref a],[]⟩) (fun r s'=>r=.ok (.ret (.bool true))/\OldK s₁.heap s'.heap/\s'.os=s₁.os/\RK s'.gens) s₁:=by
  intro H hO hS hok hA hK;have base_of:∀ {b:Addr} {o:Obj},s₁.heap.get? b=FN o->H b=FX->(K8 s₁.heap H).get? b=FN o:=fun e n=>zbr e n
  have noA:∀ {b:Addr} {o:Obj} {es:Array Py} {ep:Nat},s₁.heap.get? b=FN o->o.data=.dict es ep->H b=FX:=fun {b o es ep} e d=>by
   cases q:H b with
   | none=>rfl
   | some u=>
    have e':b=a:=hA b (by rw [q];simp);subst e';rw [ha] at e;cases e;have d':Data.seq vs.toArray _=Data.dict es ep:=d;cases d'
  have nsK:∀ {b:Addr} {m:Str->Option Mk},s₁.heap.Ns b m->(K8 s₁.heap H).Ns b m:=fun {b m} ⟨o,es,ep,e,d,r⟩=>⟨o,es,ep,base_of e (noA e d),d,r⟩
  have hKb:K.In (K8 s₁.heap H):=fun b o e=>base_of (KX b o e) (by
   cases q:H b with
   | none=>rfl
   | some u=>
    have e':b=a:=hA b (by rw [q];simp);subst e';rw [hK (by rw [q];simp)] at e;cases e)
  have hM:Mod K mg (K8 s₁.heap H):=⟨hKb,nsK hns,⟨mb,nsK hb,hbb⟩,let ⟨mc,h1,h2⟩:=hlim;⟨mc,nsK h1,h2⟩⟩
  have e0:Xo P w K mg (K8 s₁.heap H) callerA [] s₁ H:=⟨rfl,hM,fun b o e=>agH e,Nat.le_of_eq (acT _ _),trivial,fun b hb=>absurd (show b∈([]:List Addr) from hb) (by simp),hok,.of_eq hg,fun v e=>(nomatch e)⟩
  refine codeAny_mono ((F _ hKb<|nsK hns).run callerA [] s₁ H ⟨[.ref a],[]⟩ [.ref a] [.ref a] _ _ hr e0 (hbind s₁<|.ref a) (.cons rfl .nil) (hsp H hO hS)) fun r s' h=>?_;cases r with
  | error e=>exact (hCX H e s' h).elim
  | ok fl=>
   cases fl with
   | next=>exact Qa h
   | brk=>exact Qa h
   | cont=>exact Qa h
   | ret u=>
    obtain ⟨v,H',os,bare,un,hok',r',q⟩:=h;have q':v=.bl true:=q;subst q';obtain rfl:u=Value.bool true:=r';refine ⟨rfl,OldK.of_keep fun b o e=>?_,os,bare⟩;cases q:H b with
    | none=>exact un.keep b o e q (by intro z;exact absurd (show b∈([]:List Addr) from z) (by simp)) (by simp)
    | some u=>
     rcases hO b with z | ⟨ob,xs,z⟩
     ·rw [q] at z;cases z
     ·have z2:=un.frzs b ob _ z;obtain ⟨e1,_⟩:=hok b _ z;obtain ⟨e2,_⟩:=hok' b _ z2;rw [e] at e1;cases e1;exact e2
 cases hk:K.lookup a with
 | some o=>
  -- the script is one of the module's own objects
  have e:=KX a o hk;rw [ha] at e;cases e;refine core (fun _=>FX) (fun _=>.inl rfl) (.inr ⟨_,vs.toArray,_,hk,rfl,rfl,rfl,by rw [Io,lenV];exact hl,by simpa using rv⟩) (fun b u z=>by have z':(FX:Option HO)=FN u:=z;cases z') (fun b z=>absurd rfl z) fun z=>absurd rfl z
 | none=>
  refine core (fun b=>if b=a then FN (.frz { cls:=.type "list",data:=.seq vs.toArray } (.lst<|ns.map V.int)) else FX) (fun b=>?_) (.inl<|.inr ⟨{ cls:=.type "list",data:=.seq vs.toArray },if_pos rfl⟩) (fun b u z=>?_) (fun b z=>?_) fun _=>hk
  ·by_cases hb:b=a
   ·exact .inr ⟨_,_,if_pos hb⟩
   ·exact .inl<|if_neg hb
  ·by_cases hb:b=a
   ·have z':=(if_pos hb).symm.trans z;cases z'
    subst hb;exact ⟨ha,by rw [Bx];exact hl,vs,_,rv,ha⟩
   ·have z':=(if_neg hb).symm.trans z;cases z'
  ·by_cases hb:b=a
   ·exact hb
   ·exact absurd (if_neg hb) z
theorem Gk {l:PySem.W.OpenLaw}{n k:Nat}{q:DI}{d:DefRec}{K:Params->Az}{CX:Bw->Rx}{sp:Bw->Sp}{x:Str}
  (hn:l.most=FN n) (hn2:n<=Dp) (hdf:d.params.defaults=[]) (hr:mY k callerA)
  (hY:∀ (w:Bw) (h:Heap),YP w h->(K w.params).In h)
  (F:∀ (w:Bw) (mg:Str->Option Mk) (fa:Addr) (h:Heap),(K w.params).In h->h.Ns IV mg->mg d.name=FN (.ref fa) ->
   ∃ fd:Kw,(∀ (s:Ai) (u:Mk),BindsTo s fd ⟨[u],[]⟩ [(x,u)]) /\
    ∀ base:Heap,(K w.params).In base->base.Ns IV mg->qm l.prog w (K w.params) mg base (CX w) k fa fd [x] (sp w))
  (hsp:∀ (w:Bw) (H:Hp) (a:Addr) (ns:List Int),ns.length<=n->Rn H->Ij (K w.params) H a (ns.map V.int)->sp w [.ref a] H (fun v _=>v=.bl true) fun _ _ _=>False)
  (hCX:∀ (w:Bw) (H:Hp) (s:Ai) (e:Mk) (s':Ai),CX w [] H s (fun _ _ _=>False) e s'->False) :
  PySem.W.WalkO q loose XP YP l.row.toRowW d [] (fun f vs=>PySem.call f vs):=by
 refine Att.yd hn hdf fun w s₀ s₁ mg mb fa o pm cd doc a vs ns G Y ho hd hcd hmg hobj hints ahK hg=>?_;have KX:=hY w _ Y;obtain ⟨fd,hb,hF⟩:=F w mg fa _ KX G.T.g hmg;exact acY KX G.T.g G.T.b G.T.builtins G.T.nolimit hg hobj hints (CW ahK hn2) hr hF hb (fun H hO hS=>hsp w H a ns ahK hO hS) fun H e s'=>hCX w H s₁ e s'
end L2
/- THE LAST THEOREM (shape; LID, My.* are yours):
   My.Adr: a structure of the addresses that your layer names (classes,functions);My.Txt K t: a structure (Prop) of the equations over K;
   My.txt_mk:{K} {implicit addresses ..} (e1:nsIn K IV "law" = FN (FN (.ref f))) (e2:K.lookup f=FN ⟨oc,od,.func (fnOf "law" "law" params body scope dV kV doc pm an cdv ct),sl⟩) (e3:codeIn K cdv "law" = true) .. : ∃ t,My.Txt K t
theorem PySem.Challenge.cw_LID_holds : PySem.Challenge.rw_LID.Holds := by
 w_on;o_law;k_head;(case hw=>w_witness2)
 k_fill
 refine L2.Gk (l:=PySem.Challenge.rw_LID) (n:=63) (k:=40) (x := "script") (CX:=fun w=>..) (sp:=fun _=>My.sp_law) rfl (by decide) rfl ⟨rfl,by decide,by decide⟩ (fun w h Y=>PySem.W.kIn_of Y) ?F ?S ?C
 case F=>
  intro w mg fa h KX G hmg;have T:∃ t,My.Txt (L2.KOf KX) t:=by
   dsimp only [L2.KOf]                          -- K must stand as «<heap const> w.params» for k_is;refine' My.txt_mk ?e1 ?e2 ?e3 ..
   (case e1=>PySem.W.k_is)                    -- in the order: a name -> its address -> its object -> its parts
   (case e2=>PySem.W.k_is)
   ..
  obtain ⟨t,T⟩:=T;have e0:=hmg.symm.trans (Ul KX G T.law);cases e0                                       -- fa is the law's own address
  exact ⟨_,fun s u=>.of_eq rfl,fun base kb nb=>My.law_fn T kb nb⟩     -- if «.of_eq rfl» comes too early: refine' ⟨_,?b,fun base kb nb=>My.law_fn T kb nb⟩;exact fun s u=>.of_eq rfl
 case S=>exact fun w H a ns hl hO hS=>..
 case C=>exact ..
(the tactic k_is has no namespace: write k_is) -/
namespace L2
open PySem PySem.Spec PyProof.Rows
def mj (s:Stmt):Arguments:=match s with
 | .FunctionDef _ a _ _ _ _ _ _ _ _=>a
 | _=>{ posonlyargs:=[],args:=[],vararg:=FX,kwonlyargs:=[],kw_defaults:=[],kwarg:=FX,defaults:=[] }
def gK (s:Stmt):List Stmt:=match s with
 | .FunctionDef _ _ b _ _ _ _ _ _ _=>b
 | _=>[]
def bR (s:Stmt):Scope:=match s with
 | .FunctionDef _ _ _ _ _ _ sc _ _ _=>sc
 | _=>{ kind:=.function,names:=[],isGenerator:=false,isCoroutine:=false }
abbrev NT:Rx:=fun _ _ _ _ _ _=>False
abbrev E0:XK:=fun _ _ _=>False
theorem Yb {X:Cx}:Nv NT X E0:=fun _ _ _ _ _ _ _ h=>h.elim
structure TY (K:Az) (x qual:Str) (st:Stmt) (f:Addr) (fd:Kw):Prop where
 ex:∃ (oc:Mk) (od:Option Addr) (kV doc pm:Mk) (an:Option Addr) (cdv ct:Mk) (osl:Array (Option Mk)),
  fd=Te x qual (mj st) (gK st) (bR st) .none kV doc pm an cdv ct/\K.lookup f=FN ⟨oc,od,.func fd,osl⟩/\Vd K cdv qual=true
 kp:Rb K (.ref f)=true
section
variable {P:DI}{w:Bw}{K:Az}{mg:Str->Option Mk}{base:Heap}
theorem TY.ok {x qual:Str}{st:Stmt}{f:Addr}{fd:Kw}{N ps:List Str}{k:Nat}{sp:Sp}(F:TY K x qual st f fd)(S:mD N ps (bR st))(len:∀ vs H Q E,sp vs H Q E->vs.length=ps.length)
  (hbody:∀ (cdv:Mk) (A:DW) (outer:List Env) (s:Ai) (H:Hp) (vs:List V) (Q:VK) (E:XK),mY k (A.deeper (envOfC qual (bR st) s.heap.objs.size f cdv))->sp vs H Q E ->
   ∃ t,NP (Iz NT P w K mg base N qual (bR st) f cdv A outer s H E).nox (gK st) t/\t { nx:=fun _ H'=>Q .non H',rt:=Q } (start N vs) H):qm P w K mg base NT (k+1) f fd ps sp:=by
 obtain ⟨oc,od,kV,doc,pm,an,cdv,ct,osl,rfl,lk,hcd⟩:=F.ex;refine Zt lk hcd S len fun A outer s H vs Q E hr hsp=>?_;obtain ⟨t,h,q⟩:=hbody cdv A outer s H vs Q E hr hsp;exact ⟨t,h.nox,q⟩
theorem TY.binds {x qual:Str}{st:Stmt}{f:Addr}{fd:Kw}{ps:List Str}(F:TY K x qual st f fd)
  (h:∀ (kV doc pm:Mk) (an:Option Addr) (cdv ct:Mk) (us:List Mk),us.length=ps.length->bindArgs (Te x qual (mj st) (gK st) (bR st) .none kV doc pm an cdv ct) ⟨us,[]⟩=pure (ps.zip us)):JD K fd ps []:=by
 obtain ⟨oc,od,kV,doc,pm,an,cdv,ct,osl,rfl,lk,hcd⟩:=F.ex;exact .all<|h kV doc pm an cdv ct
theorem CJ {x qual:Str}{st:Stmt}{f:Addr}{oc:Mk}{od an:Option Addr}{osl:Array (Option Mk)}{kV doc pm cdv ct:Mk}(l:K.lookup f=FN ⟨oc,od,.func (Te x qual (mj st) (gK st) (bR st) .none kV doc pm an cdv ct),osl⟩)
  (c:Vd K cdv qual=true) (k:Rb K (.ref f)=true):TY K x qual st f (Te x qual (mj st) (gK st) (bR st) .none kV doc pm an cdv ct):=⟨⟨oc,od,kV,doc,pm,an,cdv,ct,osl,rfl,l,c⟩,k⟩
end
section
variable {X:Cx}
theorem pv (i:Nat){x:Str}{pos:Pos}(hN:X.N[i]?=FN x:=by rfl)(hv:Vis X.env.scope x:=by first | exact Or.inl rfl | exact Or.inr (Or.inl rfl) | exact Or.inr (Or.inr rfl))(hd:(x==("__debug__" : Str))=false:=by decide)
  (hcd:(x==("__classdict__" : Str))=false:=by decide):PE X (.Name x pos) (Y8 i):=aeU hN hv hd hcd
end
def Qq (env:Env):List (Str×Jq)->List (Str×Addr)->List (Str×Addr)
 | [],cs=>cs
 | (n,k)::r,cs=>Qq env r (if (k==NameKind.free)=true then (n,(env.cells.lookup n).getD 0)::cs else cs)
def Li (scope:Scope)(env:Env):List (Str×Addr):=Qq env scope.names []
variable {env : Env}
theorem uo {env:Env}{p:Str×Addr}:∀ (l:List (Str×Jq)) (cs:List (Str×Addr)),p∈Qq env l cs->p∈cs\/((p.1,NameKind.free)∈l/\p.2=(env.cells.lookup p.1).getD 0)
 | [],cs,h=>.inl h
 | (n,k)::r,cs,h=>by
  rcases uo r _ h with h | ⟨h1,h2⟩
  ·by_cases hk:(k==NameKind.free)=true
   ·rw [if_pos hk] at h;rcases G7.mp h with rfl | h
    ·have e:k=NameKind.free:=by simpa using hk
     subst e;exact .inr ⟨JW,rfl⟩
    ·exact .inl h
   ·rw [if_neg hk] at h;exact .inl h
  ·exact .inr ⟨IK _ h1,h2⟩
theorem zm {env:Env}{x:Str}:∀ (l:List (Str×Jq)) (cs:List (Str×Addr)),((x,NameKind.free)∈l\/∃ c,(x,c)∈cs)->∃ c,(x,c)∈Qq env l cs
 | [],cs,h=>by
  rcases h with h | h
  ·exact absurd h<|by simp
  ·exact h
 | (n,k)::r,cs,h=>by
  refine zm r _ ?_;rcases h with h | ⟨c,h⟩
  ·rcases G7.mp h with e | h
   ·injection e with e1 e2
    subst e1;subst e2;exact .inr ⟨_,by rw [if_pos<|by rfl];exact JW⟩
   ·exact .inl h
  ·refine .inr ⟨c,?_⟩;by_cases hk:(k==NameKind.free)=true
   ·rw [if_pos hk];exact IK _ h
   ·rw [if_neg hk];exact h
theorem gZ {x:Str}{c:Addr}:∀ {l:List (Str×Addr)},(x,c)∈l->∃ c',l.lookup x=FN c'
 | [],h=>absurd h (by simp)
 | (n,d)::r,h=>by
  by_cases e:x=n
  ·subst e;exact ⟨d,by simp [KD]⟩
  ·rcases G7.mp h with q | q
   ·injection q with q1 _
    exact absurd q1 e
   ·obtain ⟨c',h'⟩:=gZ q;refine ⟨c',?_⟩;have e':(x==n)=false:=beq_eq_false_iff_ne.mpr e;rw [KD,e'];exact h'
theorem Ht {scope:Scope}(h:∀ y∈scope.names,y.2=NameKind.free->∃ c,env.cells.lookup y.1=FN c):closureFor scope env=pure (Li scope env):=by
 unfold closureFor Li;have key:∀ (l:List (Str×Jq)) (cs:List (Str×Addr)),(∀ y∈l,y.2=NameKind.free->∃ c,env.cells.lookup y.1=FN c) ->
   (forIn l cs (fun (x:Str×Jq) (cs:List (Str×Addr))=>(if (x.2==NameKind.free)=true then cellOf env x.1 >>= fun c=>pure (ForInStep.yield ((x.1,c)::cs)) else pure (ForInStep.yield cs):Sem (ForInStep (List (Str×Addr))))))=pure (Qq env l cs):=by
  intro l;induction l with
  | nil=>intro cs _;rfl
  | cons x r ih=>
   intro cs hl;obtain ⟨n,k⟩:=x;rw [Vf];have hr:∀ y∈r,y.2=NameKind.free->∃ c,env.cells.lookup y.1=FN c:=fun y hy=>hl y (IK _ hy)
   by_cases hk:(k==NameKind.free)=true
   ·obtain ⟨c,hc⟩:=hl (n,k) JW (by simpa using hk);have hc':env.cells.lookup n=FN c:=hc;have e1:cellOf env n=pure c:=by unfold cellOf;rw [hc']
    simp only [hk,if_true,e1,pure_bind];rw [ih _ hr];simp only [Qq,hk,if_true,hc',Option.getD_some]
   ·simp only [hk,if_false,pure_bind,Qp];rw [ih _ hr];simp only [Qq,hk,if_false,Qp]
 have q:=key scope.names [] h
 simpa using q
variable {y : Str}
theorem iU {y:Str}{c:Addr}:∀ {names:List (Str×Jq)} {n:Nat} {acc:List (Str×Addr)},(y,c)∈JF n names acc↔(y,c)∈acc\/(y,c)∈JF n names []
 | [],n,acc=>by simp [JF]
 | (name,kind)::r,n,acc=>by
  unfold JF;split
  ·rw [iU (acc:=(name,n)::acc),iU (acc:=[(name,n)])];simp only [G7,QJ,or_false];exact ⟨fun h=>h.elim (fun h=>h.elim (fun h=>.inr<|.inl h) .inl) fun h=>.inr<|.inr h,fun h=>h.elim (fun h=>.inl<|.inr h) fun h=>h.elim (fun h=>.inl<|.inl h) .inr⟩
  ·exact iU
theorem wQ {y:Str}{c:Addr}:∀ {names:List (Str×Jq)} {n:Nat},(y,c)∈JF n names []->(y,NameKind.cell)∈names
 | [],n,h=>by simp [JF] at h
 | (name,kind)::r,n,h=>by
  unfold JF at h;split at h
  ·rename_i hk;rcases iU.mp h with q | q
   ·have hk':kind=.cell:=by simpa using hk
    simp only [G7,QJ,or_false,Prod.mk.injEq] at q;rw [q.1,hk'];exact JW
   ·exact IK _<|wQ q
  ·exact IK _<|wQ h
theorem Dj {y:Str}:∀ {names:List (Str×Jq)} {n:Nat},(y,NameKind.cell)∈names->∃ c,(y,c)∈JF n names []
 | [],n,h=>by simp at h
 | (name,kind)::r,n,h=>by
  unfold JF;rcases G7.mp h with q | q
  ·cases q;rw [if_pos (by rfl)];exact ⟨n,iU.mpr<|.inl JW⟩
  ·split
   ·obtain ⟨c,hc⟩:=Dj (n:=n+1) q;exact ⟨c,iU.mpr<|.inr hc⟩
   ·exact Dj q
variable {names : List (Str×Jq)}
theorem afW {h:Heap}{c:Addr}(e:(y,c)∈JF h.objs.size names []):(pushCells h names).IsCell c FX/\h.objs.size<=c:=
 (cellsFrom_ok names h h.objs.size [] ⟨fun _ _ z=>by simp at z,List.Pairwise.nil⟩ (Bp _)).empty y c e
theorem zbd {n:Nat}{z:Str}{c:Addr}(e:(y,c)∈JF n names [])(e':(z,c)∈JF n names []):y=z:=by
 have key:∀ (k:Nat),∃ h:Heap,h.objs.size=k:=fun k=>by
  induction k with
  | zero=>exact ⟨{ (default:Heap) with objs:=#[] },rfl⟩
  | succ k ih=>
   obtain ⟨h,e⟩:=ih;exact ⟨h.push { cls:=.type "cell",data:=.cell FX },by rw [Qh,e]⟩
 obtain ⟨h,rfl⟩:=key n;exact name_of_addr (cellsFrom_ok names h h.objs.size [] ⟨fun _ _ z=>by simp at z,List.Pairwise.nil⟩<|Bp _).apart e e'
variable {closure : List (Str×Addr)}
theorem zaD {M:Model}{A:DW}{E:Mk->Ai->Prop}{s:Ai}{scope:Scope}{globals:Addr}{qual:Str}{func:Option Addr}{code:Mk}{ar:Env}{builtins:Addr}{Q:Env->Ai->Prop}
  (hQ:Q { scope:=scope,locals:=s.heap.objs.size,globals:=globals,cells:=JF (s.heap.objs.size+1) scope.names closure,qual:=qual,func:=func,code:=ar.code,frame:=ar.frame,builtins:=ar.builtins } { s with heap:=pushCells (s.heap.push { cls:=.type "dict",data:=.dict #[] }) scope.names }) :
  Ay M A (newFunctionEnv scope globals closure [] qual func code (FN ar) builtins) Q E s:=by
 simp only [newFunctionEnv,Option.isSome_some,if_true];refine Ao<|wpAny_alloc ?_
 refine Ao<|wpAny_layCells _ (fun name kind cells=>by cases hkc:kind==NameKind.cell <;> simp [hkc]) _ _ _ _ ?_
 rw [show ({ s with heap:=s.heap.push { cls:=.type "dict",data:=.dict #[] } }:Ai).heap.objs.size=s.heap.objs.size+1 from Qh ..];rw [Vq];exact Ao<|Ba<|Ba hQ
def blk (X:Cx)(scope:Scope)(N':List Str)(C:Addr)(s:Ai)(H:Hp)(ex:List Addr):Cx where
 prog:=X.prog
 w:=X.w
 K:=X.K
 mg:=X.mg
 base:=X.base
 A:=X.A
 N:=N'
 s₀:=s
 H₀:=H
 env:=compEnvC scope (JF (C+1) scope.names (Li scope X.env)) C X.env
 outer:=X.stack
 stack:=X.stack
 ex:=ex
 fn:=fun y=>decide (scope.names.lookup y=FN .cell)
 calm:=X.calm
 pn:=[]
 xe:=fun _ _=>False
structure iD (X:Cx) (scope:Scope) (x:List Str) (ix:List Nat):Prop where
 kind:scope.kind=.function
 own:∀ y∈x,scope.names.lookup y=FN .local\/scope.names.lookup y=FN .cell
 names:∀ y∈scope.names,scope.names.lookup y.1=FN y.2
 free:∀ y∈scope.names,y.2=.free->X.env.scope.names.lookup y.1=FN .cell\/X.env.scope.names.lookup y.1=FN .free
 ixs:∀ i∈ix,scope.names.lookup (X.N.getD i "")=FN .free
 nd:(x++ix.map fun i=>X.N.getD i "").Nodup
def yJ:List Str->Bool
 | []=>true
 | x::r=>!(r.contains x)&&yJ r
def aan (sc:Scope)(N:List Str)(scope:Scope)(x:List Str)(ix:List Nat):Bool:=
 decide (scope.kind=.function)&&x.all (fun y=>decide (scope.names.lookup y=FN .local)||decide (scope.names.lookup y=FN .cell)) &&
 scope.names.all (fun y=>decide (scope.names.lookup y.1=FN y.2)) &&
 scope.names.all (fun y=>!decide (y.2=.free)||decide (sc.names.lookup y.1=FN .cell)||decide (sc.names.lookup y.1=FN .free)) &&
 ix.all (fun i=>decide (scope.names.lookup (N.getD i "")=FN .free))&&yJ (x++ix.map fun i=>N.getD i "")
theorem uQ:∀ {l:List Str},yJ l=true->l.Nodup
 | [],_=>List.nodup_nil
 | x::r,h=>by
  unfold yJ at h;rw [Nr] at h;refine Qj.mpr ⟨fun hm=>?_,uQ h.2⟩;have:r.contains x=true:=List.contains_iff_mem.mpr hm
  rw [this] at h;exact absurd h.1<|by decide
variable {ix : List Nat}
theorem cP {X:Cx}{scope:Scope}{x:List Str}(h:aan X.env.scope X.N scope x ix=true):iD X scope x ix:=by
 unfold aan at h;simp only [Nr,QB,decide_eq_true_eq,Bool.or_eq_true,Bool.not_eq_true',decide_eq_false_iff_not] at h;obtain ⟨⟨⟨⟨⟨h1,h3⟩,h4⟩,h5⟩,h6⟩,h7⟩:=h;refine ⟨h1,fun y hy=>h3 y hy,fun y hy=>h4 y hy,fun y hy hk=>?_,fun i hi=>h6 i hi,uQ h7⟩
 ·rcases h5 y hy with (q | q) | q
  ·exact absurd hk q
  ·exact .inl q
  ·exact .inr q
def Aq (ix:List Nat)(Z : St):St:=ix.map fun i=>(Z[i]?).getD FX
abbrev iw (X:Cx)(x:List Str)(ix:List Nat):List Str:=x++ix.map fun i=>X.N.getD i ""
theorem fX {scope:Scope}{env:Env}{x:Str}:∀ {names:List (Str×Jq)} {k:Jq},
  (names.map fun (p:Str×Jq)=>if (p.2==NameKind.free&&env.scope.kind==.function&&env.kindOf p.1==FN .cell)=true then (p.1,NameKind.cell) else (p.1,p.2)).lookup x=FN k ->
  names.lookup x=FN k\/(k=.cell/\names.lookup x=FN .free)
 | [],k,h=>by simp at h
 | (n,k')::r,k,h=>by
  rw [Bu] at h;cases hx:x==n with
  | true=>
   by_cases hc:(k'==NameKind.free&&env.scope.kind==.function&&env.kindOf n==FN .cell)=true
   ·rw [if_pos hc] at h;simp only [KD,hx] at h;have hk:k'=.free:=by
     have:=(Bool.and_eq_true_iff.mp (Bool.and_eq_true_iff.mp hc).1).1
     simpa using this
    subst hk;cases h;exact .inr ⟨rfl,by simp [KD,hx]⟩
   ·rw [if_neg hc] at h;simp only [KD,hx] at h;cases h;exact .inl<|by simp [KD,hx]
  | false=>
   have h':(r.map fun (p:Str×Jq)=>if (p.2==NameKind.free&&env.scope.kind==.function&&env.kindOf p.1==FN .cell)=true then (p.1,NameKind.cell) else (p.1,p.2)).lookup x=FN k:=by
    by_cases hc:(k'==NameKind.free&&env.scope.kind==.function&&env.kindOf n==FN .cell)=true
    ·rw [if_pos hc] at h;simpa only [KD,hx] using h
    ·rw [if_neg hc] at h;simpa only [KD,hx] using h
   rcases fX (scope:=scope) (env:=env) h' with q | ⟨q1,q2⟩
   ·exact .inl<|by simpa only [KD,hx] using q
   ·exact .inr ⟨q1,by simpa only [KD,hx] using q2⟩
theorem mW {env:Env}{x:Str}:∀ {names:List (Str×Jq)},names.lookup x=FN .free ->
  (names.map fun (p:Str×Jq)=>if (p.2==NameKind.free&&env.scope.kind==.function&&env.kindOf p.1==FN .cell)=true then (p.1,NameKind.cell) else (p.1,p.2)).lookup x=FN .cell \/
  (names.map fun (p:Str×Jq)=>if (p.2==NameKind.free&&env.scope.kind==.function&&env.kindOf p.1==FN .cell)=true then (p.1,NameKind.cell) else (p.1,p.2)).lookup x=FN .free
 | [],h=>by simp at h
 | (n,k')::r,h=>by
  rw [Bu];cases hx:x==n with
  | true=>
   simp only [KD,hx] at h;cases h;by_cases hc:(NameKind.free==NameKind.free&&env.scope.kind==.function&&env.kindOf n==FN .cell)=true
   ·rw [if_pos hc];exact .inl (by simp [KD,hx])
   ·rw [if_neg hc];exact .inr (by simp [KD,hx])
  | false=>
   have h':r.lookup x=FN .free:=by simpa only [KD,hx] using h
   have ih:=mW (env:=env) h';by_cases hc:(k'==NameKind.free&&env.scope.kind==.function&&env.kindOf n==FN .cell)=true
   ·rw [if_pos hc];simpa only [KD,hx] using ih
   ·rw [if_neg hc];simpa only [KD,hx] using ih
theorem mX {env:Env}{x:Str}:∀ {names:List (Str×Jq)},names.lookup x=FN .cell ->
  (names.map fun (p:Str×Jq)=>if (p.2==NameKind.free&&env.scope.kind==.function&&env.kindOf p.1==FN .cell)=true then (p.1,NameKind.cell) else (p.1,p.2)).lookup x=FN .cell
 | [],h=>by simp at h
 | (n,k')::r,h=>by
  rw [Bu];cases hx:x==n with
  | true=>
   simp only [KD,hx] at h;cases h;rw [if_neg (by simp)];simp [KD,hx]
  | false=>
   have ih:=mX (env:=env) (show r.lookup x=FN .cell by simpa only [KD,hx] using h);split
   ·simpa only [KD,hx] using ih
   ·simpa only [KD,hx] using ih
section
variable {X:Cx}{ahJ:List (Addr×Obj)}{Z : St}{H:Hp}{s:Ai}{scope:Scope}{x:List Str}{C:Addr}{fp:List Addr}
theorem HS (B:iD X scope x ix)(hy:y∈x):Qy (relabel scope X.env) y/\(decide (scope.names.lookup y=FN .cell)=true\/(relabel scope X.env).names.lookup y=FN .local):=by
 rcases B.own y hy with q | q
 ·have:=lookup_relabel_local (env:=X.env) q
  exact ⟨.inl this,.inr this⟩
 ·exact ⟨.inr<|mX (env:=X.env) q,.inl<|decide_eq_true q⟩
theorem rO (I:Av X ahJ Z H s)(B:iD X scope x ix):∀ y∈scope.names,y.2=NameKind.free->∃ c,X.env.cells.lookup y.1=FN c:=fun y hy hk=>I.ok.has y.1 (B.free y hy hk)
theorem agl (I:Av X ahJ Z H s)(B:iD X scope x ix){c:Addr}(h:(y,c)∈Li scope X.env):X.env.cells.lookup y=FN c:=by
 rcases uo scope.names [] h with q | ⟨q1,q2⟩
 ·exact absurd q<|by simp
 ·obtain ⟨c',e⟩:=rO I B _ q1 rfl;have e':X.env.cells.lookup y=FN c':=e;have q2':c=(X.env.cells.lookup y).getD 0:=q2;rw [e',Option.getD_some] at q2';rw [e',q2']
theorem mR (I:Av X ahJ Z H s)(B:iD X scope x ix){c:Addr}(h:(JF (C+1) scope.names (Li scope X.env)).lookup y=FN c):X.env.cells.lookup y=FN c\/(y,c)∈JF (C+1) scope.names []:=
 (iU.mp (Ri h)).imp_left (agl I B)
theorem Em {n:Nat}{c:Addr}(e:(y,c)∈JF n names []):n<=c:=by
 have key:∀ (names:List (Str×Jq)) (n:Nat),(y,c)∈JF n names []->n<=c:=by
  intro names;induction names with
  | nil=>intro n h;simp [JF] at h
  | cons a r ih=>
   intro n h;obtain ⟨name,kind⟩:=a;unfold JF at h;split at h
   ·rcases iU.mp h with q | q
    ·simp only [G7,QJ,or_false,Prod.mk.injEq] at q;exact Nat.le_of_eq q.2.symm
    ·exact CW (Qe n)<|ih (n+1) q
   ·exact ih n h
 exact key names n e
theorem zbF (B:iD X scope x ix){c:Addr}(hf:scope.names.lookup y=FN .free)(h:(y,c)∈JF (C+1) scope.names []):False:=by
 have:=B.names _ (wQ h)
 simp only at this;rw [hf] at this;cases this
theorem yI (h:scope.names.lookup y=FN .free\/scope.names.lookup y=FN .cell):∃ c,(JF (C+1) scope.names (Li scope X.env)).lookup y=FN c:=by
 rcases h with h | h
 ·obtain ⟨c,hc⟩:=zm (env:=X.env) scope.names [] (.inl (Ri h));exact gZ<|iU.mpr<|.inl hc
 ·obtain ⟨c,hc⟩:=Dj (n:=C+1) (Ri h);exact gZ<|iU.mpr<|.inr hc
theorem afK (I:Av X ahJ Z H s)(B:iD X scope x ix)(hC:s.heap.objs.size<=C)(hf:∀ b∈fp,Cp X ahJ H b)(ho:∀ b∈fp,∃ o,s.heap.get? b=FN o):
  (blk X scope (iw X x ix) C s H fp).Ok where
 mod:=I.ok.mod
 kind:=B.kind
 glob:=I.ok.glob
 blt:=I.ok.blt
 above:=hC
 inj:=fun y z c h1 h2=>by
  have far:∀ {y z:Str},X.env.cells.lookup y=FN c->(z,c)∈JF (C+1) scope.names []->False:=fun {y z} e q=>by
   obtain ⟨v,w⟩:=I.cell y c e;exact absurd (FJ w.lt<|CW (CW hC<|Qe C)<|Em q)<|O9 _
  rcases mR I B h1 with q1 | q1
  ·rcases mR I B h2 with q2 | q2
   ·exact I.ok.inj y z c q1 q2
   ·exact (far q1 q2).elim
  ·rcases mR I B h2 with q2 | q2
   ·exact (far q2 q1).elim
   ·exact zbd q1 q2
 has:=fun y hy=>by
  have hy':(relabel scope X.env).names.lookup y=FN .cell\/(relabel scope X.env).names.lookup y=FN .free:=hy;rcases hy' with q | q
  ·rcases fX (scope:=scope) (env:=X.env) q with r | ⟨_,r⟩
   ·exact yI<|.inr r
   ·exact yI<|.inl r
  ·rcases fX (scope:=scope) (env:=X.env) q with r | ⟨r,_⟩
   ·exact yI<|.inl r
   ·cases r
 cab:=fun y c hf h=>by
  have hf':scope.names.lookup y=FN .cell:=of_decide_eq_true hf;rcases iU.mp (Ri h) with q | q
  ·rcases uo scope.names [] q with q | ⟨q1,_⟩
   ·exact absurd q<|by simp
   ·have:=B.names _ q1
    simp only at this;rw [hf'] at this;cases this
  ·exact CW (CW hC<|Qe C)<|Em q
 hd:=I.ok.hd
 qt:=I.qt0
 frames:=I.ok.frames
 stk:=.inl rfl
 exf:=fun b hb=>by
  obtain ⟨o,e⟩:=ho b hb;refine ⟨G3<|FJ (Ej e) hC,fun y c h=>?_⟩;rcases mR I B h with q | q
  ·exact (hf b hb).2.2.2.2.1 y c q
  ·intro z;rw [z] at q;exact absurd (FJ (Ej e)<|CW (CW hC<|Qe C)<|Em q)<|O9 _
 bs:=I.bs
 bsz:=CW I.ok.bsz I.sz
 noex:=fun b o e hb=>by
  rcases (hf b hb).2.2.2.1 with q | q
  ·exact I.ok.noex b o e q
  ·exact absurd (FJ (Ej e)<|CW I.ok.bsz q)<|O9 _
 exfs:=fun b hb z=>by
  obtain ⟨_,h1,h2,_⟩:=hf b hb;rcases G7.mp (I.stkSub b z) with e | e
  ·exact h1 e
  ·exact h2 e
 funs:=I.stack
 frf:=I.stkFree
theorem adB {D:Addr}{h1:Heap}{tk:Nat}{m:Str->Option Mk}(I:Av X ahJ Z H s)(B:iD X scope x ix)(ok:(blk X scope (iw X x ix) C s H fp).Ok)
  (hD:D=s.heap.objs.size) (k:∀ b o,s.heap.get? b=FN o->h1.get? b=FN o) (hl:h1.get? D=FN { cls:=.type "list",data:=.seq #[] }) (hns:h1.Ns C m) (hCD:C≠D) (hC:s.heap.objs.size<=C) (hce:∀ y c,(y,c)∈JF (C+1) scope.names []->h1.IsCell c FX) :
  Av (blk X scope (iw X x ix) C s H fp) [] (Gs x.length FX++Aq ix Z) (Dd H D (.lst [])) { s with heap:=h1,toks:=tk } where
 ok:=ok
 os:=rfl
 bare:=I.bare
 base:=Un.laid k (by rw [hD];exact Bp _) (I.hok.fresh (by rw [hD];exact Bp _))
 loc:=by
  refine ⟨m,hns,fun i y v e1 e2 e3=>?_⟩;by_cases hix:i<x.length
  ·rw [Ow (by simpa using hix),Wk,if_pos hix] at e2;cases e2
  ·rw [OJ (by simpa using hix),List.length_replicate] at e2;have e1':(ix.map fun i=>X.N.getD i "")[i - x.length]?=FN y:=by
    have z:(x++ix.map fun i=>X.N.getD i "")[i]?=FN y:=e1
    rwa [OJ (by simpa using hix)] at z
   generalize i - x.length=j at e1' e2;unfold Aq at e2;rw [Fv] at e1' e2;cases hj:ix[j]? with
   | none=>rw [hj] at e2;cases e2
   | some i'=>
    rw [hj] at e1' e2;simp only [Option.map_some,Option.some.injEq] at e1' e2;have hi:Z[i']?=FN (FN v):=by
     cases q:Z[i']? with
     | none=>rw [q] at e2;cases e2
     | some z=>rw [q] at e2;exact congrArg FN e2
    have hlt:i'<X.N.length:=by
     have:=(K5.mp hi).1
     rw [I.len] at this;exact this
    have hn:X.N[i']?=FN y:=by
     rw [Nt,Gz hlt,Option.getD_some] at e1';rw [Gz hlt,e1']
    have hfree:scope.names.lookup y=FN .free:=by
     have:=B.ixs i' (K4 hj)
     rw [e1'] at this;exact this
    have kx:=B.free _ (Ri hfree) rfl;have vis:Vis X.env.scope y:=by
     rcases kx with q | q
     ·exact .inr<|.inl q
     ·exact .inr<|.inr q
    obtain ⟨m',_,hl'⟩:=I.loc;obtain ⟨u,r,lk⟩:=hl' i' y v hn hi vis;refine ⟨u,r,?_⟩;rcases lk with ⟨q,_⟩ | ⟨_,c,hc,hcell⟩
    ·have q':X.env.scope.names.lookup y=FN .local:=q;rcases kx with z | z <;> (rw [q'] at z;cases z)
    ·obtain ⟨c',hc'⟩:=yI (X:=X) (C:=C) (.inl hfree);have e:=(mR I B hc').resolve_right fun z=>zbF B hfree z
     rw [hc] at e;cases e;refine .inr ⟨mW (env:=X.env) hfree,c,hc',?_⟩;obtain ⟨o,ho,hd⟩:=hcell;exact ⟨o,k c o ho,hd⟩
 cell:=fun y c h=>by
  rcases mR I B h with q | q
  ·obtain ⟨v,o,ho,hd⟩:=I.cell y c q;exact ⟨v,o,k c o ho,hd⟩
  ·exact ⟨FX,hce y c q⟩
 free:=by
  show Dd H D (.lst []) C=FX;rw [aR hCD];exact I.hok.fresh hC
 freeC:=fun y c h=>by
  show Dd H D (.lst []) c=FX;rcases mR I B h with q | q
  ·obtain ⟨v,o,ho,hd⟩:=I.cell y c q;rw [aR (by rw [hD];exact G3 (Ej ho))];exact I.freeC y c q
  ·have g:s.heap.objs.size<c:=FJ (Nat.lt_succ_of_le hC) (Em q);rw [aR (by rw [hD];exact Ky g)];exact I.hok.fresh<|KQ g
 pin:=fun p hp=>absurd (show p∈([]:List (Addr×Obj)) from hp) (by simp)
 hok:=I.hok.laid k (by rw [hD];exact Bp _) ⟨Ja _,[],0,.nil,hl⟩
 len:=by
  show (Gs x.length FX++Aq ix Z).length=(iw X x ix).length;simp [Aq]
theorem Hv {Z':St}{H':Hp}{s':Ai}{h':Heap}{p':List (Addr×Obj)}(I:Av X ahJ Z H s)(hC:s.heap.objs.size<=C)(hf:∀ b∈fp,Cp X ahJ H b)(J:Av (blk X scope (iw X x ix) C s H fp) p' Z' H' s')
  (hs:Tj C s'.heap h'):Av X ahJ Z H' { s' with heap:=h' }:=by
 have I1:Av X ahJ Z H' s':=I.call' (ch:=fp) J.os J.base J.hok J.bare fun b hb=>⟨(hf b hb).2.2.2.1,(hf b hb).2.1,(hf b hb).2.2.2.2.1,(hf b hb).2.2.2.2.2⟩
 refine I1.turned (it:=C) (t':=s'.toks) (fun b o hb e=>(hs.2 b hb).trans e) J.free (Ky<|FJ I.lt hC) (.inr<|CW I.sz hC) (fun y c e z=>?_)<|fun p hp z=>?_
 ·obtain ⟨v,q⟩:=I.cell y c e;exact absurd (FJ q.lt (by rw [z];exact hC))<|O9 _
 ·exact absurd (FJ (Ej (I.pin p hp).1) (by rw [z];exact hC))<|O9 _
end
def R9 (X:Cx)(ifs:List Expr)(t:TT):Prop:=
 ∀ (ahJ:List (Addr×Obj)) (s:Ai) (Z : St) (H:Hp) (Q:Bool->Hp->Prop),Av X ahJ Z H s->t Z H Q ->
  Ay (Ax X.prog X.w) X.A (forIn ifs true fun c r=>if r=true then do let ok <-isTrue c X.env (eval c X.env);pure (ForInStep.yield ok) else pure (ForInStep.yield r)) (TP X ahJ Z Q) X.xe s
def abb:TT:=fun _ H Q=>Q true H
theorem zcr {X:Cx}:R9 X [] abb:=fun _ _ _ H _ I h=>Ba ⟨H,I,h⟩
theorem adi {X:Cx}{c:Expr}{t:TT}(h:PT X c t):R9 X [c] t:=fun ahJ s Z H Q I hq=>by
 rw [Vf];refine Ao ?_;rw [if_pos rfl];refine Ao<|Ei (h ahJ s Z H Q I hq) fun b s1 q=>Ba ?_
 exact Ba q
def Zh (n:Nat)(own:V->Hp->List V->Prop)(ix:List Nat)(tt:TT)(te:TE)(Z : St)(Q:VK)(J:It)(H1:Hp)(D:Addr):Prop:=∃ W:Nat->Nat->List V->Hp->Prop,(∃ m,W 0 m [] (Dd H1 D (.lst [])))/\∀ i m ys H,W i m ys H->H D=FN (.lst ys) ->
 (J.stop i H/\Q (.ref D) H)\/(J.go i H/\ys.length<Dp/\∀ x H',J.yld i H x H'->∃ vs,own x H' vs/\vs.length=n/\tt (vs.map FN++Aq ix Z) H' fun b H2=>
  if b=true then te (vs.map FN++Aq ix Z) H2 (fun v H3=>H3 D=FN (.lst ys)/\∃ m',m'<m/\W (i+1) m' (ys++[v]) (Dd H3 D (.lst (ys++[v]))))
  else H2 D=FN (.lst ys)/\∃ m',m'<m/\W (i+1) m' ys H2)
def wLC (n:Nat)(own:V->Hp->List V->Prop)(ix:List Nat)(tt:TT)(te:TE)(Z : St)(Q:VK)(J:It)(H1:Hp):Prop:=∀ D,H1 D=FX->Zh n own ix tt te Z Q J H1 D
def tLC (n:Nat)(own:V->Hp->List V->Prop)(ix:List Nat)(wi:TI)(tt:TT)(te:TE):TE:=fun Z H Q=>wi Z H fun J H1=>wLC n own ix tt te Z Q J H1
def Qf (n:Nat)(own:V->Hp->List V->Prop):TG:=fun v Z H N=>∃ vs,own v H vs/\vs.length=n/\N (vs.map FN++Z.drop n) H
variable {elt : Expr}{ifs : List Expr}{R : Result->Ai->Prop}
theorem acM {P:DI}{w:Bw}{A:DW}{s:Ai}{target iter:Expr}{scope:Scope}{pos:Pos}{it acc:Mk}(Iv:Nat->Ai->Prop)
  (turn:∀ n s,Iv n s->Ay (Ax P w) A (Ni it) (fun r s₁=>match r with
   | none=>R (.ok .next) s₁
   | some v=>Ay (Ax P w) A (letOwnedTupleGo target it v) (fun _ t₁=>Ay (Ax P w) A (assign target env v) (fun _ s₂=>
     Ay (Ax P w) A (forIn ifs true fun c r=>if r=true then do let ok <-isTrue c env (eval c env);pure (ForInStep.yield ok) else pure (ForInStep.yield r)) (fun ok s₃=>
      if ok=true then Ay (Ax P w) A (eval elt env) (fun x s₄=>
       Ay (Ax P w) A (call (.builtin "list.append") [acc,x]) (fun _ s₅=>∃ m,m<n/\Iv m s₅) (notedBy (Ax P w) A env fun e s'=>R (.error e) s') s₄) (notedBy (Ax P w) A env fun e s'=>R (.error e) s') s₃
      else ∃ m,m<n/\Iv m s₃) (notedBy (Ax P w) A env fun e s'=>R (.error e) s') s₂) (notedBy (Ax P w) A env fun e s'=>R (.error e) s') t₁) (notedBy (Ax P w) A env fun e s'=>R (.error e) s') s₁) (notedBy (Ax P w) A env fun e s'=>R (.error e) s') s)
  (n:Nat) (h:Iv n s):Pb (Ax P w) A (.compLoop (.ListComp elt [⟨target,iter,ifs,0⟩] scope pos) 0 it acc env) R s:=by
 refine codeAny_loop rfl Iv (fun n s hI=>?_) n h;show Ay _ A ((compTurn (.ListComp elt [⟨target,iter,ifs,0⟩] scope pos) 0 it acc env).onRaise (fun x=>do noteFrame x env;theTreesLotGoes x)) _ _ s;refine wpAny_noted ?_;rw [compTurn_list];refine Ao<|wpAny_standAt<|Ao<|KN (turn n s hI) (fun r s₁ k₁=>?_) fun _ _ z=>z
 cases r with
 | none=>exact Ba k₁
 | some v=>
  refine Ao<|KN k₁ (fun _ t₁ k₂=>Ao<|KN k₂ (fun _ s₂ k₃=>Ao<|KN k₃ (fun ok s₃ k₄=>?_) fun _ _ z=>z) fun _ _ z=>z) fun _ _ z=>z
  cases ok with
  | false=>exact Ba ⟨rfl,k₄⟩
  | true=>exact Ao (Ao (KN k₄ (fun x s₄ k₅=>Ao (KN k₅ (fun _ s₅ k₆=>Ba (Ba ⟨rfl,k₆⟩)) fun _ _ z=>z)) fun _ _ z=>z))
section
variable {X:Cx}{scope:Scope}{x:List Str}{iter tg:Expr}{px pos:Pos}{wi:TI}{tt:TT}{te:TE}{own:V->Hp->List V->Prop}
theorem HW {ahJ:List (Addr×Obj)}{Z : St}{s₂ : Ai}{H2:Hp}{it:Addr}{fp:List Addr}{tn:Nat->Heap->Prop}{J:It}{Q:VK}{E:Mk->Ai->Prop}{RR:Mk->Addr->Result->Ai->Prop}
  (hc:J.cm=true->X.calm=true) (B:iD X scope x ix) (hg:∀ C s H fp,PG (blk X scope (iw X x ix) C s H fp) tg (Qf x.length own)) (ht:∀ C s H fp,R9 (blk X scope (iw X x ix) C s H fp) ifs tt) (he:∀ C s H fp,PE (blk X scope (iw X x ix) C s H fp) elt te)
  (I2:Av X ahJ Z H2 s₂) (T:Ox X.prog X.w X.K tg J fp it tn) (st2:tn 0 s₂.heap) (f2:∀ b∈fp,Cp X ahJ H2 b) (hq:wLC x.length own ix tt te Z Q J H2)
  (hRR:∀ D C s' Z' H' p',s₂.heap.objs.size<=C->Av (blk X scope (iw X x ix) C s₂ H2 fp) p' Z' H' s'->Q (.ref D) H'->RR (.ref D) C (.ok .next) s') :
  Ay (Ax X.prog X.w) X.A (newList []) (fun acc s₃=>Ay (Ax X.prog X.w) X.A (newFunctionEnv scope X.env.globals (Li scope X.env) [] X.env.qual FX .none (FN X.env)) (fun cenv s₄=>
   Pb (Ax X.prog X.w) X.A (.compStart (.ListComp elt [⟨tg,iter,ifs,0⟩] scope pos) 0 (.ref it) acc { cenv with scope:=relabel scope X.env }) (RR acc cenv.locals) s₄) E s₃) E s₂:=by
 refine M8<|zaD ?_
 dsimp only;generalize hH2:s₂.heap.push { cls:=.type "list",dict:=FX,data:=.seq ([]:List Mk).toArray }=HH;generalize hh1:pushCells (HH.push { cls:=.type "dict",data:=.dict #[] }) scope.names=h₁;have hns₁ : h₁.Ns HH.objs.size (fun _=>FX):=by
  obtain ⟨o,es,ep,ho,r⟩:=Heap.Ns.new HH (.type "dict");exact ⟨o,es,ep,by rw [<-hh1];exact pushCells_keeps _ _ _ _ ho,r⟩
 have hkeep:∀ b o,HH.get? b=FN o->h₁.get? b=FN o:=fun b o e=>by rw [<-hh1];exact pushCells_keeps _ _ _ _ (Eo _ e)
 have hce:∀ y c,(y,c)∈JF (HH.objs.size+1) scope.names []->h₁.IsCell c FX:=fun y c e=>by
  rw [<-hh1];exact (afW (h:=HH.push { cls:=.type "dict",data:=.dict #[] }) (by rw [Qh];exact e)).1
 have hC:HH.objs.size=s₂.heap.objs.size+1:=by rw [<-hH2,Qh]
 have hDC:s₂.heap.objs.size≠HH.objs.size:=by rw [hC];exact G3 (Nat.lt_succ_self _)
 have hCle:s₂.heap.objs.size<=HH.objs.size:=by rw [hC];exact Qe _
 have old:∀ b o,s₂.heap.get? b=FN o->h₁.get? b=FN o:=fun b o e=>hkeep b o (hH2 ▸ Eo _ e)
 have hacc:h₁.get? s₂.heap.objs.size=FN { cls:=.type "list",data:=.seq #[] }:=hkeep _ _ (hH2 ▸ Ip _ rfl);have hob:∀ b∈fp,∃ o,s₂.heap.get? b=FN o:=fun b hb=>let ⟨o,e,_⟩:=T.obj 0 _ st2 b hb;⟨o,e⟩
 have ok:=afK (C:=HH.objs.size) I2 B hCle f2 hob;obtain ⟨W,⟨m0,w0⟩,turn⟩:=hq s₂.heap.objs.size (I2.hok.fresh (Bp _))
 -- the iterator's records, in the block
 have stat:∀ {H':Hp},(∀ b∈fp,H' b=FX)->∀ b∈fp,Cp (blk X scope (iw X x ix) HH.objs.size s₂ H2 fp) [] H' b:=fun {H'} hn b hb=>by
  obtain ⟨o,e⟩:=hob b hb;obtain ⟨_,g1,g2,g3,g4,g5⟩:=f2 b hb;refine ⟨hn b hb,G3<|FJ (Ej e) hCle,fun z=>?_,.inl hb,fun y c h=>?_,fun p hp=>absurd (show p∈([]:List (Addr×Obj)) from hp)<|by simp⟩
  ·rcases G7.mp (I2.stkSub b z) with q | q
   ·exact g1 q
   ·exact g2 q
  ·rcases mR I2 B h with q | q
   ·exact g4 y c q
   ·intro z;rw [z] at q;exact absurd (FJ (Ej e)<|CW (CW hCle<|Qe _)<|Em q)<|O9 _
 have loop:∀ s₃ : Ai,s₃ = { s₂ with heap:=h₁ } ->
   Pb (Ax X.prog X.w) X.A (.compLoop (.ListComp elt [⟨tg,iter,ifs,0⟩] scope pos) 0 (.ref it) (.ref s₂.heap.objs.size) (compEnvC scope (JF (HH.objs.size+1) scope.names (Li scope X.env)) HH.objs.size X.env))
    (RR (.ref s₂.heap.objs.size) HH.objs.size) s₃:=by
  rintro s₃ rfl;have J0:=adB (fp:=fp) (C:=HH.objs.size) (tk:=s₂.toks) I2 B ok rfl old hacc hns₁ (Im hDC) hCle hce;have fr0:∀ b∈fp,Dd H2 s₂.heap.objs.size (.lst []) b=FX:=fun b hb=>by
   obtain ⟨o,e⟩:=hob b hb;rw [aR (G3 (Ej e))];exact (f2 b hb).1
  refine acM (fun k s'=>∃ i ys H',Av (blk X scope (iw X x ix) HH.objs.size s₂ H2 fp) [] (Gs x.length FX++Aq ix Z) H' s'/\tn i s'.heap/\(∀ b∈fp,H' b=FX)/\H' s₂.heap.objs.size=FN (.lst ys)/\W i k ys H') ?_ m0
   ⟨0,[],_,J0,T.keep 0 _ _ st2 (fun b _ o e=>old b o e),fr0,bA,w0⟩
  rintro n s₄ ⟨i,ys,H4,I4,st4,fr4,hD4,w4⟩;rcases turn i n ys H4 w4 hD4 with ⟨stop,qn⟩ | ⟨go,hz,step⟩
  ·refine Ei (T.done (blk X scope (iw X x ix) HH.objs.size s₂ H2 fp) rfl rfl rfl hc i [] s₄ _ H4 _ I4 (stat fr4) st4 stop) fun r s5 ⟨hr,I5⟩=>?_;subst hr;exact hRR _ _ s5 _ H4 [] hCle I5 qn
  ·refine Ei (T.item (blk X scope (iw X x ix) HH.objs.size s₂ H2 fp) rfl rfl rfl hc i [] s₄ _ H4 _ I4 (stat fr4) st4 go) fun r s5 ⟨u,hr,h5⟩=>?_;subst hr;refine KN h5 (fun _ s6 ⟨xv,H6,I6,r6,y6,st6,fr6⟩=>?_) fun _ _ z=>z;have I6':=I6.pinned (stat fr6) (T.obj _ _ st6);obtain ⟨vs,hov,hvl,q7⟩:=step xv H6 y6;have fgt:∀ {Z9:St} {H9:Hp} {s9:Ai} {p9:List (Addr×Obj)},Z9.length=x.length->Av (blk X scope (iw X x ix) HH.objs.size s₂ H2 fp) p9 (Z9++Aq ix Z) H9 s9->Av (blk X scope (iw X x ix) HH.objs.size s₂ H2 fp) p9 (Gs x.length FX++Aq ix Z) H9 s9:=fun {Z9 H9 s9 p9} hl I9=>
    I9.weak (by simp [hl]) fun k v e=>by
     by_cases hk:k<x.length
     ·rw [Ow (by simpa using hk),Wk,if_pos hk] at e;cases e
     ·rw [OJ (by simpa using hk),List.length_replicate] at e;rw [OJ (by rw [hl];lia),hl];exact e
   refine KN (hg _ _ _ _ _ s6 _ H6 xv u (fun Z9 H9=>Z9=vs.map FN++(Gs x.length (FX:Option V)++Aq ix Z).drop x.length/\H9=H6) I6' r6 ⟨vs,hov,hvl,rfl,rfl⟩) (fun _ s7 ⟨Z7,H7,I7,e7,e8⟩=>?_) fun _ _ z=>z.elim;subst e7 e8;rw [List.drop_left' (by simp)] at I7;have hml:(vs.map FN).length=x.length:=by rw [Bx];exact hvl
   refine KN (ht _ _ _ _ _ s7 _ H7 _ I7 q7) (fun b s8 ⟨H8,I8,q8⟩=>?_) fun _ _ z=>z.elim;have pinned:∀ {H9:Hp} {s9:Ai} {Z9:St},Av (blk X scope (iw X x ix) HH.objs.size s₂ H2 fp) ([]++vG fp s6.heap) Z9 H9 s9->tn (i+1) s9.heap/\∀ b∈fp,H9 b=FX:=fun {H9 s9 Z9} I9=>by
    refine ⟨T.keep _ _ _ st6 fun b hb o e=>(I9.pin (b,o)<|Q7 _<|Q7 _<|jh hb e).1,fun b hb=>?_⟩;obtain ⟨o,e,d⟩:=T.obj _ _ st6 b hb;exact (I9.pin (b,o)<|Q7 _<|Q7 _<|jh hb e).2.1
   cases b with
   | false=>
    rw [if_neg KY] at q8 |-
    obtain ⟨hD8,m',hm,w8⟩:=q8;obtain ⟨t8,f8⟩:=pinned I8;exact ⟨m',hm,i+1,ys,H8,fgt hml I8.unpinned,t8,f8,hD8,w8⟩
   | true=>
    rw [if_pos rfl] at q8 |-
    refine KN (he _ _ _ _ _ s8 _ H8 _ I8 q8) (fun u9 s9 ⟨v9,H9,I9,r9,hD9,m',hm,w9⟩=>?_) fun _ _ z=>z.elim;refine KN (uH (X:=blk X scope (iw X x ix) HH.objs.size s₂ H2 fp) _ s9 _ H9 (.ref s₂.heap.objs.size) [v9] _ [u9] (fun _ H'=>H'=Dd H9 s₂.heap.objs.size (.lst<|ys++[v9])) I9 rfl (.cons r9 .nil) ⟨_,ys,v9,rfl,rfl,hD9,hz,rfl⟩) (fun _ s10 ⟨_,H10,I10,_,e10⟩=>?_) fun _ _ z=>z.elim;subst e10;obtain ⟨t10,f10⟩:=pinned I10;exact ⟨m',hm,i+1,ys++[v9],_,fgt hml I10.unpinned,t10,f10,bA,w9⟩
 exact codeAny_compStart_list (loop _ rfl)<|T.self _ 0 _ _ _ (T.keep 0 _ _ st2<|fun b _ o e=>old b o e)<|loop _ rfl
theorem aaf (ix:List Nat)(hc:X.calm=true)(B:iD X scope x ix)(hg:∀ C s H fp,PG (blk X scope (iw X x ix) C s H fp) tg (Qf x.length own))(hi:PI X tg iter wi)(ht:∀ C s H fp,R9 (blk X scope (iw X x ix) C s H fp) ifs tt)(he:∀ C s H fp,PE (blk X scope (iw X x ix) C s H fp) elt te)
  (hs:∀ v,U8 iter X.env v=pure v:=by intro _;rfl):PE X (.ListComp elt [⟨tg,iter,ifs,0⟩] scope pos) (tLC x.length own ix wi tt te):=by
 intro ahJ s Z H Q I h;rw [eval_ListComp];refine wpAny_comprehension_free (use:=FX) rfl hs (Ht<|rO I B) B.kind (fun y hy hk=>by rw [B.names y hy,hk]) ?_;refine Ei (hi ahJ s Z H _ I h) fun v s1 h1=>Ei h1 fun itv s2 h2=>?_;obtain ⟨it,fp,tn,J,H2,e,I2,T,st2,f2,hq⟩:=h2;subst e;refine HW (RR:=fun acc C=>compPost (Ax X.prog X.w) X.A X.xe FX (EP X ahJ Z Q) acc C) (fun _=>hc) B hg ht he I2 T st2 f2 hq fun D C s' Z' H' p' hC I' q'=>?_;obtain ⟨m,hn,_⟩:=I'.loc;exact ⟨m,hn,fun h' hs'=>⟨.ref D,H',Hv I2 hC f2 I' hs',rfl,q'⟩⟩
theorem ZS (ix:List Nat){i:Nat}{py spos:Pos}(hN:X.N.Nodup)(hi':X.N[i]?=FN y)(hy:Qy X.env.scope y)(hc:X.calm=true)(B:iD X scope x ix)(hg:∀ C s H fp,PG (blk X scope (iw X x ix) C s H fp) tg (Qf x.length own))(hi:PI X tg iter wi)
  (ht:∀ C s H fp,R9 (blk X scope (iw X x ix) C s H fp) ifs tt) (he:∀ C s H fp,PE (blk X scope (iw X x ix) C s H fp) elt te)
  (hsw:swapsWith (.ListComp elt [⟨tg,iter,ifs,0⟩] scope pos) (FN (.Name y py)) spos.line X.env=pure true:=by rfl)
  (hf:X.fn y=true\/X.env.scope.names.lookup y=FN .local:=by first | exact .inl rfl | exact .inr rfl | assumption)
  (hs:∀ v,U8 iter X.env v=pure v:=by intro _;rfl):PS X (.Assign [.Name y py] (.ListComp elt [⟨tg,iter,ifs,0⟩] scope pos) spos) (Xf (tLC x.length own ix wi tt te) (Gu i)):=by
 intro ahJ s Z H D I h;rw [exec_Assign_Name_used _ _ _ _ hsw];refine Ao<|wpAny_standAt<|Ao ?_
 show Ay _ X.A (do let _ <-comprehension (.ListComp elt [⟨tg,iter,ifs,0⟩] scope pos) scope X.env _ (newList []) false (eval iter X.env) (FN (assign (.Name y py) X.env))) _ _ s;refine Ao<|KN (wpAny_comprehension_free (use:=FN (assign (.Name y py) X.env)) (Q:=fun _ s'=>SP X ahJ D .next s') rfl hs (Ht<|rO I B) B.kind (fun y hy hk=>by rw [B.names y hy,hk]) ?_) (fun _ s' hq=>Ba<|Ba hq) fun _ _ e=>e
 refine Ei (hi ahJ s Z H _ I h) fun v s1 h1=>Ei h1 fun itv s2 h2=>?_;obtain ⟨it,fp,tn,J,H2,e,I2,T,st2,f2,hq⟩:=h2;subst e;refine HW (RR:=fun acc C=>compPost (Ax X.prog X.w) X.A X.xe (FN<|assign (.Name y py) X.env) (fun _ s'=>SP X ahJ D .next s') acc C) (fun _=>hc) B hg ht he I2 T st2 f2 hq fun D' C s' Z' H' p' hC I' q'=>?_;obtain ⟨m,hn,_⟩:=I'.loc;have I3:Av X ahJ Z H' s':=Hv (h':=s'.heap) I2 hC f2 I' (.refl ..);show Ay _ X.A (assign (.Name y py) X.env (.ref D')) _ _ s';have cneC:∀ z c,X.env.cells.lookup z=FN c->c≠C:=fun z c e q=>by
  obtain ⟨v,w⟩:=I2.cell z c e;exact absurd (FJ w.lt (by rw [q];exact hC))<|O9 _
 have lneC:X.env.locals≠C:=G3 (FJ I2.lt hC);refine wpAny_assign_Name<|uz (v:=.ref D') I3 hN hi' hy rfl (fun s'' I'' hsb=>?_) hf
 obtain ⟨a,hsb,ha⟩:=hsb;have haC:C≠a:=by
  rcases ha with rfl | ha
  ·exact Im lneC
  ·exact Im<|cneC _ _ ha
 refine ⟨m,hn.sameBut hsb haC,fun h' hs'=>⟨_,H',?_,q'⟩⟩;refine I''.turned (it:=C) (t':=s''.toks) (fun b o hb e=>(hs'.2 b hb).trans e) I'.free (Im lneC) (.inr<|CW I2.sz hC) cneC<|fun p hp z=>?_
 exact absurd (FJ (Ej (I2.pin p hp).1) (by rw [z];exact hC))<|O9 _
end
variable {own : V->Hp->List V->Prop}
def Sm (n:Nat)(i:Int):Prop:=i.natAbs<2^n
theorem Sm.bits {n:Nat}{i:Int}(h:Sm n i):Builtin.Int.intBits i<=n:=by
 unfold Builtin.Int.intBits;by_cases e:i=0
 ·subst e;exact Ja _
 ·have e':(i==0)=false:=beq_eq_false_iff_ne.mpr e;rw [e'];have h0:i.natAbs≠0:=by lia
  have:=(Nat.log2_lt h0).mpr h
  simp only [Qp,if_false];lia
variable {m : Nat}
theorem Sm.mono {n:Nat}{i:Int}(h:Sm m i)(hmn:m<=n):Sm n i:=FJ h (Vy (by decide) hmn)
theorem Sm.mul {n:Nat}{i j:Int}(h:Sm m i)(h':Sm n j):Sm (m+n) (i*j):=by
 unfold Sm at *;rw [T8,Oq];by_cases e:j.natAbs=0
 ·rw [e,Nat.mul_zero];exact Nat.mul_pos (Sv<|by decide)<|Sv<|by decide
 ·exact FJ (Nat.mul_lt_mul_of_pos_right h<|Nat.pos_of_ne_zero e)<|Nat.mul_le_mul_left _<|KQ h'
theorem Sm.add {n:Nat}{i j:Int}(h:Sm m i)(h':Sm n j):Sm (max m n+1) (i+j):=by
 have h1:=h.mono (Nat.le_max_left m n);have h2:=h'.mono (Nat.le_max_right m n);unfold Sm at *;rw [Nat.pow_succ];lia
theorem Sm.neg {n:Nat}{i:Int}(h:Sm n i):Sm n (-i):=by unfold Sm at *;rw [Int.natAbs_neg];exact h
theorem Sm.sub {n:Nat}{i j:Int}(h:Sm m i)(h':Sm n j):Sm (max m n+1) (i - j):=by
 rw [Int.sub_eq_add_neg];exact h.add h'.neg
theorem Sm.zero {n:Nat}:Sm n 0:=Sv (by decide)
theorem GD {n:Nat}{i:Int}(h1:-(2^n:Int)<i)(h2:i<(2^n:Int)):Sm n i:=by
 unfold Sm;have e:((2^n:Nat):Int)=(2:Int)^n:=by simp
 lia
def o9 (i j:Int):Prop:=∃ m n,m<=1000000/\n<=1000000/\Sm m i/\Sm n j
theorem o9.ok {i j:Int}(h:o9 i j):IntMulOk i j:=by
 obtain ⟨m,n,hm,hn,h1,h2⟩:=h;have e:(2:Nat)^20=1048576:=by decide
 exact .of_bits (by have:=h1.bits;lia) (by have:=h2.bits;lia)
def Ia (_ j:Int):Prop:=j≠0/\∃ n,n<=8000/\Sm n j
theorem zct {n:Nat}{j:Int}(hn:n<=8000)(h:Sm n j):j.natAbs.log2<9000:=by
 by_cases e:j.natAbs=0
 ·rw [e];decide
 ·have:=(Nat.log2_lt e).mpr h
  lia
section
variable {X:Cx}
theorem Eh:J6 X (Jw .Mult) (rI o9 fun i j=>.int (i*j)):=opI fun _ _ _ _ _ _ _ hc q=>mul_int q hc.ok
theorem zav:J6 X (Jw .FloorDiv) (rI Ia fun i j=>.int (i.fdiv j)):=opI fun i j _ _ _ _ _ hc q=>by
 obtain ⟨h1,n,hn,h2⟩:=hc;exact floordiv_int h1 q<|.inl<|PyProof.noPylong_of_log2<|zct hn h2
theorem vA:∀ {bs:List Bool} {its:List Mk} {i:Nat} {v:Mk},Aw (bs.map V.bl) its->its[i]?=FN v->∃ b,bs[i]?=FN b/\v=.bool b
 | [],_,_,_,.nil,e=>by simp at e
 | b::bs,_,0,_,.cons r _,e=>by simp at e;subst e;exact ⟨b,rfl,r⟩
 | _::bs,_,i+1,v,.cons _ t,e=>by
  obtain ⟨b,h1,h2⟩:=vA (i:=i) (v:=v) t (by simpa using e);exact ⟨b,by simpa using h1,h2⟩
def aaA (K:Az)(H:Hp):V->String->Bool->Prop
 | .int _,T,b=>(T = "int"/\b=true)\/(T = "bool"/\b=false)\/(T = "tuple"/\b=false)\/(T = "list"/\b=false)
 | .bl _,T,b=>(T = "int"/\b=true)\/(T = "bool"/\b=true)\/(T = "tuple"/\b=false)\/(T = "list"/\b=false)
 | .str _,T,b=>(T = "int"/\b=false)\/(T = "bool"/\b=false)\/(T = "tuple"/\b=false)\/(T = "list"/\b=false)
 | .non,T,b=>(T = "int"/\b=false)\/(T = "bool"/\b=false)\/(T = "tuple"/\b=false)\/(T = "list"/\b=false)
 | .ref p,T,b=>(∃ xs,Ew K H p xs/\((T = "int"/\b=false)\/(T = "bool"/\b=false)\/(T = "tuple"/\b=true)\/(T = "list"/\b=false))) \/
   (∃ xs,Ij K H p xs/\((T = "int"/\b=false)\/(T = "bool"/\b=false)\/(T = "tuple"/\b=false)\/(T = "list"/\b=true)))
 | _,_,_=>False
theorem zbw:fL X (.builtin "isinstance") (fun xs H Q=>∃ x T b,xs=[x,.ty T]/\aaA X.K H x T b/\Q (.bl b) H):=by
 intro ahJ s Z H xs us Q I r h;obtain ⟨x,T,b,rfl,hi,q⟩:=h;obtain ⟨u,w',rfl,rx,ru⟩:=Kp r;cases ru;have k0:EP X ahJ Z Q (.bool b) s:=⟨.bl b,H,I,rfl,q⟩
 have k1:EP X ahJ Z Q (.bool b) { s with toks:=s.toks+1 }:=⟨.bl b,H,I.tok _,rfl,q⟩
 cases x with
 | int i=>
  obtain ⟨t,rfl⟩:=rx;rcases hi with ⟨rfl,rfl⟩ | ⟨rfl,rfl⟩ | ⟨rfl,rfl⟩ | ⟨rfl,rfl⟩
  ·exact IsiPair.int_int k0
  ·exact IsiPair.int_bool k1
  ·exact IsiPair.int_tuple k1
  ·exact IsiPair.int_list k1
 | bl i=>
  cases rx;rcases hi with ⟨rfl,rfl⟩ | ⟨rfl,rfl⟩ | ⟨rfl,rfl⟩ | ⟨rfl,rfl⟩
  ·first | exact IsiPair.bool_int k0 | exact IsiPair.bool_int k1
  ·first | exact IsiPair.bool_bool k0 | exact IsiPair.bool_bool k1
  ·exact IsiPair.bool_tuple k1
  ·exact IsiPair.bool_list k1
 | str i=>
  obtain ⟨t,rfl⟩:=rx;rcases hi with ⟨rfl,rfl⟩ | ⟨rfl,rfl⟩ | ⟨rfl,rfl⟩ | ⟨rfl,rfl⟩
  ·exact IsiPair.str_int k1
  ·exact IsiPair.str_bool k1
  ·exact IsiPair.str_tuple k1
  ·exact IsiPair.str_list k1
 | non=>
  cases rx;rcases hi with ⟨rfl,rfl⟩ | ⟨rfl,rfl⟩ | ⟨rfl,rfl⟩ | ⟨rfl,rfl⟩
  ·exact IsiPair.NoneType_int k1
  ·exact IsiPair.NoneType_bool k1
  ·exact IsiPair.NoneType_tuple k1
  ·exact IsiPair.NoneType_list k1
 | ref p=>
  cases rx;rcases hi with ⟨xs,hS,hi⟩ | ⟨xs,hS,hi⟩
  ·obtain ⟨its,_,⟨o,e,c,_⟩,_⟩:=I.tuple hS;rcases hi with ⟨rfl,rfl⟩ | ⟨rfl,rfl⟩ | ⟨rfl,rfl⟩ | ⟨rfl,rfl⟩
   ·exact IsiPair.tuple_int e c k1
   ·exact IsiPair.tuple_bool e c k1
   ·exact IsiPair.tuple_tuple e c k0
   ·exact IsiPair.tuple_list e c k1
  ·obtain ⟨its,_,pl,_⟩:=I.list hS;obtain ⟨o,e,c,_⟩:=pl.isList;rcases hi with ⟨rfl,rfl⟩ | ⟨rfl,rfl⟩ | ⟨rfl,rfl⟩ | ⟨rfl,rfl⟩
   ·exact IsiPair.list_int e c k1
   ·exact IsiPair.list_bool e c k1
   ·exact IsiPair.list_tuple e c k1
   ·exact IsiPair.list_list e c k0
 | _=>exact (show False from hi).elim
end
inductive W where
 | non | bl (b:Bool) | int (i:Int) | str (x:Str) | ty (n:String) | tup (ws:List W) | lst (ws:List W) | loc (n:Nat) | kls (ws:List W) | exc (n:Str)
 | exa (n:Str) (ws:List W)
 | fnv (f:Addr) (i:Nat)
inductive Cell where
 | lst (ws:List W) | obj (C:Addr) (fs:List (Str×W)) | dct (kvs:List (Key×W))
 | dtt (kvs:List (List Int×W))
structure Gh where
 nx:Nat
 c:Nat->Option Cell
structure Mu where
 f:Nat->Option Addr
 hid:Addr->Prop
def abx (K:Az)(p:Addr)(xs:List V):Prop:=
 ∃ (o:Obj) (its:Array Mk) (n:Nat),K.lookup p=FN o/\o.cls=.type "list"/\o.dict=FX/\o.data=.seq its n/\its.size<=Dp/\Aw xs its.toList
def Frz (H:Hp)(μ : Mu)(p:Addr)(xs:List V):Prop:=H p=FN (.lst xs)/\(∀ n,μ.f n≠FN p)/\¬ μ.hid p
def Frk (K:Az)(H:Hp)(p:Addr)(xs:List V):Prop:=(∃ o,H p=FN (.frz o (.lst xs)))\/abx K p xs
variable {μ : Mu}
theorem Frz.sq {K:Az}{H:Hp}{p:Addr}{xs:List V}(h:Frz H μ p xs):Ij K H p xs:=.inl (.inl h.1)
theorem Frk.sq {K:Az}{H:Hp}{p:Addr}{xs:List V}(h:Frk K H p xs):Ij K H p xs:=by
 rcases h with h | h
 ·exact .inl<|.inr h
 ·exact .inr h
def vmB:List Mk:=[.type "ValueError",.type "Exception",.type "BaseException",.type "object"]
def aa5 (K:Az)(C:Addr)(n:Str):Bool:=Jp K IV n==FN (FN (.ref C))&&PySem.W.typeIn K (.ref C)==FN (.type "type")&&match PySem.W.clsIn K C with
 | some cd=>cd.name==n&&cd.mro.contains (.type "BaseException")
 | none=>false
def Yu (K:Az)(C:Addr)(n:Str):Bool:=aa5 K C n&&(match PySem.W.clsIn K C with
 | some cd=>(match cd.mro with
  | [.ref C',.ref R,a,b,c,d]=>C'==C&&[a,b,c,d]==vmB&&Jp K IV "EaselError"==FN (FN (.ref R))&&(PySem.W.clsIn K R).any (fun c=>c.name==("EaselError" : Str))
  | _=>false)
 | none=>false)&&Ra K (.ref C) "__getattribute__"==FN (FN (.builtin "BaseException.__getattribute__"))&&Ra K (.ref C) "__getattr__"==FN FX&&Ra K (.ref C) "__class__"==FN (FN (.builtin "object.__class__"))&&PySem.W.specialIn K (.builtin "object.__class__") "__get__"==FN (FN (.builtin "getset_descriptor.__get__"))
 && PySem.W.takesIn K (.builtin "object.__class__")==FN true
def aam (n:Str):List Str:=if n = "Apart" then ["word", "places"] else ["at"]
def aa2 (K:Az)(C:Addr)(n:Str):Bool:=Yu K C n&&PySem.W.hasDictIn K C&&(aam n).all fun f=>Ra K (.ref C) f==FN FX
def Xoa (K:Az)(o:Obj)(n:Str)(dd:Addr):Prop:=∃ C,o.cls=.ref C/\o.dict=FN dd/\PySem.W.notCls o=true/\aa2 K C n=true
def Xob (K:Az)(o:Obj)(n:Str):Prop:=∃ C,o.cls=.ref C/\o.dict=FX/\PySem.W.notCls o=true/\Yu K C n=true
mutual
def Ak (K:Az)(H:Hp)(μ : Mu):W->V->Prop
 | .non,v=>v=.non
 | .bl b,v=>v=.bl b
 | .int i,v=>v=.int i
 | .str x,v=>v=.str x
 | .ty n,v=>v=.ty n
 | .tup ws,v=>∃ p xs,v=.ref p/\Ew K H p xs/\aM K H μ ws xs
 | .lst ws,v=>∃ p xs,v=.ref p/\Frz H μ p xs/\aM K H μ ws xs
 | .kls ws,v=>∃ p xs,v=.ref p/\Frk K H p xs/\aM K H μ ws xs
 | .loc n,v=>∃ p,v=.ref p/\μ.f n=FN p
 | .exc n,v=>∃ p o u,v=.ref p/\H p=FN (.frz o u)/\Xob K o n
 | .exa n ws,v=>∃ p o u dd ns xs,v=.ref p/\H p=FN (.frz o u)/\Xoa K o n dd/\H dd=FN (.xd (List.zip ns xs))/\ns=aam n/\ns.length=xs.length/\aM K H μ ws xs
 | .fnv f _,v=>v=.ref f
def aM (K:Az)(H:Hp)(μ : Mu):List W->List V->Prop
 | [],xs=>xs=[]
 | w::ws,xs=>∃ v vs,xs=v::vs/\Ak K H μ w v/\aM K H μ ws vs
end
section
variable {K:Az}{H H' H1 H2:Hp}{μ' μ1 μ2 : Mu}{h h':Gh}{w:W}{ws:List W}{v:V}{xs:List V}
theorem aM.len:∀ {ws:List W} {xs:List V},aM K H μ ws xs->ws.length=xs.length
 | [],xs,h=>by
  have e:xs=[]:=by rw [aM] at h;exact h
  rw [e];rfl
 | w::ws,xs,h=>by
  rw [aM] at h;obtain ⟨v,vs,e,_,h⟩:=h;rw [e,Iw,Iw,aM.len h]
theorem aM.get:∀ {ws:List W} {xs:List V} {i:Nat} {w:W},aM K H μ ws xs->ws[i]?=FN w->∃ v,xs[i]?=FN v/\Ak K H μ w v
 | [],_,_,_,_,e=>by simp at e
 | a::ws,xs,0,w,h,e=>by
  rw [aM] at h;obtain ⟨v,vs,e1,r,_⟩:=h;simp at e;subst e;subst e1;exact ⟨v,rfl,r⟩
 | a::ws,xs,i+1,w,h,e=>by
  rw [aM] at h;obtain ⟨v,vs,e1,_,h⟩:=h;subst e1;obtain ⟨u,h1,h2⟩:=aM.get (i:=i) (w:=w) h (by simpa using e);exact ⟨u,by simpa using h1,h2⟩
theorem aM.nil:aM K H μ [] []:=by rw [aM]
theorem aM.cons (r:Ak K H μ w v)(h:aM K H μ ws xs):aM K H μ (w::ws) (v::xs):=by
 rw [aM];exact ⟨v,xs,rfl,r,h⟩
theorem aM.append:∀ {ws:List W} {xs:List V} {us:List W} {ys:List V},aM K H μ ws xs->aM K H μ us ys->aM K H μ (ws++us) (xs++ys)
 | [],xs,us,ys,h,g=>by
  rw [aM] at h;subst h;exact g
 | w::ws,xs,us,ys,h,g=>by
  rw [aM] at h;obtain ⟨v,vs,e,r,h⟩:=h;subst e;exact aM.cons r<|aM.append h g
theorem aM.one (r:Ak K H μ w v):aM K H μ [w] [v]:=aM.cons r aM.nil
theorem aM.set (r:Ak K H μ w v):∀ {ws:List W} {xs:List V} (i:Nat),aM K H μ ws xs->aM K H μ (ws.set i w) (xs.set i v)
 | [],xs,i,h=>by rw [aM] at h;subst h;exact aM.nil
 | a::ws,xs,0,h=>by
  rw [aM] at h;obtain ⟨u,vs,e,_,h⟩:=h;subst e;exact aM.cons r h
 | a::ws,xs,i+1,h=>by
  rw [aM] at h;obtain ⟨u,vs,e,q,h⟩:=h;subst e;exact aM.cons q<|aM.set r i h
theorem aM.take:∀ {ws:List W} {xs:List V} (n:Nat),aM K H μ ws xs->aM K H μ (ws.take n) (xs.take n)
 | _,_,0,_=>by simp only [List.take_zero];exact aM.nil
 | [],xs,n+1,h=>by rw [aM] at h;subst h;exact aM.nil
 | a::ws,xs,n+1,h=>by
  rw [aM] at h;obtain ⟨u,vs,e,q,h⟩:=h;subst e;exact aM.cons q<|aM.take n h
theorem aM.drop:∀ {ws:List W} {xs:List V} (n:Nat),aM K H μ ws xs->aM K H μ (ws.drop n) (xs.drop n)
 | _,_,0,h=>h
 | [],xs,n+1,h=>by rw [aM] at h;subst h;exact aM.nil
 | a::ws,xs,n+1,h=>by
  rw [aM] at h;obtain ⟨u,vs,e,q,h⟩:=h;subst e;exact aM.drop n h
structure K7 (K:Az) (H:Hp) (μ : Mu) (H':Hp) (μ':Mu):Prop where
 t:∀ p xs,Ew K H p xs->Ew K H' p xs
 l:∀ p xs,Frz H μ p xs->Frz H' μ' p xs
 k:∀ p xs,Frk K H p xs->Frk K H' p xs
 m:∀ n p,μ.f n=FN p->μ'.f n=FN p
 x:∀ p o u,H p=FN (.frz o u)->H' p=FN (.frz o u)
 y:∀ p fs,H p=FN (.xd fs)->H' p=FN (.xd fs)
structure Ex (K:Az) (H:Hp) (μ : Mu) (H':Hp) (μ':Mu):Prop extends K7 K H μ H' μ' where
 o:∀ p u,μ.hid p->H p=FN u->μ'.hid p/\H' p=FN u
mutual
theorem Ak.ex (e:K7 K H μ H' μ'):∀ {w:W} {v:V},Ak K H μ w v->Ak K H' μ' w v
 | .non,_,h=>by rw [Ak] at h |-;exact h
 | .bl _,_,h=>by rw [Ak] at h |-;exact h
 | .int _,_,h=>by rw [Ak] at h |-;exact h
 | .str _,_,h=>by rw [Ak] at h |-;exact h
 | .ty _,_,h=>by rw [Ak] at h |-;exact h
 | .tup ws,_,h=>by
  rw [Ak] at h |-
  obtain ⟨p,xs,e1,hs,hr⟩:=h;exact ⟨p,xs,e1,e.t _ _ hs,aM.ex e hr⟩
 | .lst ws,_,h=>by
  rw [Ak] at h |-
  obtain ⟨p,xs,e1,hs,hr⟩:=h;exact ⟨p,xs,e1,e.l _ _ hs,aM.ex e hr⟩
 | .kls ws,_,h=>by
  rw [Ak] at h |-
  obtain ⟨p,xs,e1,hs,hr⟩:=h;exact ⟨p,xs,e1,e.k _ _ hs,aM.ex e hr⟩
 | .loc n,_,h=>by
  rw [Ak] at h |-
  obtain ⟨p,e1,hm⟩:=h;exact ⟨p,e1,e.m _ _ hm⟩
 | .exc n,_,h=>by
  rw [Ak] at h |-
  obtain ⟨p,o,u,e1,hm,hx⟩:=h;exact ⟨p,o,u,e1,e.x _ _ _ hm,hx⟩
 | .exa n ws,_,h=>by
  rw [Ak] at h |-
  obtain ⟨p,o,u,dd,ns,xs,e1,hm,hx,hd,e2,e3,hr⟩:=h;exact ⟨p,o,u,dd,ns,xs,e1,e.x _ _ _ hm,hx,e.y _ _ hd,e2,e3,aM.ex e hr⟩
 | .fnv _ _,_,h=>by rw [Ak] at h |-;exact h
theorem aM.ex (e:K7 K H μ H' μ'):∀ {ws:List W} {xs:List V},aM K H μ ws xs->aM K H' μ' ws xs
 | [],_,h=>by rw [aM] at h |-;exact h
 | w::ws,_,h=>by
  rw [aM] at h |-
  obtain ⟨v,vs,e1,r,h⟩:=h;exact ⟨v,vs,e1,Ak.ex e r,aM.ex e h⟩
end
structure GP (K:Az) (H:Hp) (μ : Mu) (H':Hp) (μ':Mu):Prop where
 r:∀ w v,Ak K H μ w v->Ak K H' μ' w v
 o:∀ p u,μ.hid p->H p=FN u->μ'.hid p/\H' p=FN u
theorem GP.refl:GP K H μ H μ:=⟨fun _ _ h=>h,fun _ _ h g=>⟨h,g⟩⟩
theorem GP.trans (a:GP K H μ H1 μ1)(b:GP K H1 μ1 H2 μ2):GP K H μ H2 μ2:=
 ⟨fun w v h=>b.r w v (a.r w v h),fun p u h g=>let ⟨h1,g1⟩:=a.o p u h g;b.o p u h1 g1⟩
theorem Ex.ext (e:Ex K H μ H' μ'):GP K H μ H' μ':=⟨fun _ _ h=>Ak.ex e.toEx0 h,e.o⟩
theorem GP.s (e:GP K H μ H' μ'):∀ {ws:List W} {xs:List V},aM K H μ ws xs->aM K H' μ' ws xs
 | [],_,h=>by rw [aM] at h |-;exact h
 | w::ws,_,h=>by
  rw [aM] at h |-
  obtain ⟨v,vs,e1,r,h⟩:=h;exact ⟨v,vs,e1,e.r _ _ r,GP.s e h⟩
def Xj:Option HO->Prop
 | some (.lst _)=>True
 | some (.dK _)=>True
 | some (.ins _ _ _)=>True
 | some (.ext _)=>True
 | _=>False
def ni {κ : Type}(K:Az)(H:Hp)(μ : Mu):List (κ×W)->List (κ×V)->Prop:=Jm fun (p:κ×W) (q:κ×V)=>p.1=q.1/\Ak K H μ p.2 q.2
def aaX (x:List Int×Addr×Mk):Py:=⟨reduceHash (Builtin.Tuple.tupleHashOf (x.1.map hashInt)),.ref x.2.1,x.2.2⟩
def Cr (a:Addr)(xs:List (List Int×Addr×Mk))(h:Heap):Prop:=xs.length<=Dp/\(a==Kv)=false/\(xs.map (·.1)).Nodup/\∃ o es ep,h.get? a=FN o/\o.ExactDict/\o.data=.dict es ep/\es.toList=xs.map aaX
def qF (K:Az)(H:Hp)(μ : Mu)(p:Addr):Cell->Prop
 | .lst ws=>∃ xs,H p=FN (.lst xs)/\aM K H μ ws xs
 | .obj C fs=>∃ dx fvs,H p=FN (.ins C dx fvs)/\ni K H μ fs fvs
 | .dct kvs=>∃ kvv,H p=FN (.dK kvv)/\ni K H μ kvs kvv
 | .dtt kvs=>∃ xs vs,H p=FN (.ext (Cr p xs))/\kvs.map (·.1)=xs.map (·.1)/\Aw vs (xs.map (·.2.2))/\aM K H μ (kvs.map fun x=>W.tup (x.1.map W.int)) (xs.map fun x=>V.ref x.2.1)/\aM K H μ (kvs.map (·.2)) vs
structure DA (K:Az) (μ : Mu) (H:Hp) (h:Gh):Prop where
 inj:∀ m n p,μ.f m=FN p->μ.f n=FN p->m=n
 dom:∀ n p,μ.f n=FN p->n<h.nx
 trk:∀ n p,μ.f n=FN p->Xj (H p)
 cel:∀ n c,h.c n=FN c->∃ p,μ.f n=FN p/\qF K H μ p c
 hd:∀ p,μ.hid p->(∃ xs,H p=FN (.lst xs))/\∀ n,μ.f n≠FN p
theorem qF.ext {p:Addr}{c:Cell}(e:GP K H μ H' μ')(hp:H' p=H p)(x:qF K H μ p c):qF K H' μ' p c:=by
 cases c with
 | lst ws=>obtain ⟨xs,a,b⟩:=x;exact ⟨xs,hp.trans a,e.s b⟩
 | obj C fs=>obtain ⟨dx,fvs,a,b⟩:=x;exact ⟨dx,fvs,hp.trans a,Paired.mapP b fun _ _ z=>⟨z.1,e.r _ _ z.2⟩⟩
 | dct kvs=>obtain ⟨kvv,a,b⟩:=x;exact ⟨kvv,hp.trans a,Paired.mapP b fun _ _ z=>⟨z.1,e.r _ _ z.2⟩⟩
 | dtt kvs=>obtain ⟨xs,vs,a,b,c,d,f⟩:=x;exact ⟨xs,vs,hp.trans a,b,c,e.s d,e.s f⟩
theorem Rd.laid {p q:Addr}{o u:HO}(hp:H p=FX)(r:Rd H q u):Rd (Dd H p o) q u:=by
 have ne:q≠p:=by
  rcases r with r | ⟨_,r⟩
  ·exact aV r hp
  ·exact aV r hp
 unfold Rd;rw [aR ne];exact r
theorem Ex.laid {p:Addr}{o:HO}(hp:H p=FX):Ex K H μ (Dd H p o) μ where
 t:=fun q xs h=>by
  rcases h with h | h
  ·exact .inl<|h.laid hp
  ·exact .inr h
 l:=fun q xs h=>⟨by rw [aR (aV h.1 hp)];exact h.1,h.2⟩
 k:=fun q xs h=>by
  rcases h with ⟨o',h⟩ | h
  ·exact .inl ⟨o',by rw [aR<|aV h hp];exact h⟩
  ·exact .inr h
 m:=fun _ _ h=>h
 x:=fun q o' u e=>by rw [aR (aV e hp)];exact e
 y:=fun q fs e=>by rw [aR (aV e hp)];exact e
 o:=fun q u z e=>⟨z,by rw [aR (aV e hp)];exact e⟩
theorem DA.laid {p:Addr}{o:HO}(R:DA K μ H h)(hp:H p=FX):DA K μ (Dd H p o) h where
 inj:=R.inj
 dom:=R.dom
 trk:=fun n q e=>by
  have:=R.trk n q e
  have ne:q≠p:=fun z=>by subst z;rw [hp] at this;exact this
  rw [aR ne];exact this
 cel:=fun n c e=>by
  obtain ⟨q,e1,x⟩:=R.cel n c e;have:=R.trk n q e1
  have ne:q≠p:=fun z=>by subst z;rw [hp] at this;exact this
  exact ⟨q,e1,x.ext (Ex.laid hp).ext (aR ne)⟩
 hd:=fun q z=>by
  obtain ⟨⟨xs,e⟩,g⟩:=R.hd q z;exact ⟨⟨xs,by rw [aR<|aV e hp];exact e⟩,g⟩
theorem Ak.tupNew {p:Addr}(hp:H p=FX)(r:aM K H μ ws xs):Ak K (Dd H p (.tup xs)) μ (.tup ws) (.ref p):=by
 rw [Ak];exact ⟨p,xs,rfl,Ew.of bA,(Ex.laid hp).ext.s r⟩
theorem Ak.lstNew {p:Addr}(R:DA K μ H h)(hp:H p=FX)(r:aM K H μ ws xs):Ak K (Dd H p (.lst xs)) μ (.lst ws) (.ref p):=by
 rw [Ak];refine ⟨p,xs,rfl,⟨bA,fun n e=>?_,fun z=>?_⟩,(Ex.laid hp).ext.s r⟩
 ·have:=R.trk n p e
  rw [hp] at this;exact this
 ·obtain ⟨⟨xs,e⟩,_⟩:=R.hd p z;rw [hp] at e;cases e
def Mu.put (μ : Mu)(n:Nat)(p:Addr):Mu:=⟨fun m=>if m=n then FN p else μ.f m,μ.hid⟩
theorem Mu.put_same {n:Nat}{p:Addr}:(μ.put n p).f n=FN p:=by show (if n=n then FN p else μ.f n)=_;rw [if_pos rfl]
theorem Mu.put_ne {n:Nat}{p:Addr}(e:m≠n):(μ.put n p).f m = μ.f m:=by show (if m=n then FN p else μ.f m)=_;rw [if_neg e]
def Gh.new (h:Gh)(c:Cell):Gh:=⟨h.nx+1,fun m=>if m=h.nx then FN c else h.c m⟩
def Gh.set (h:Gh)(n:Nat)(c:Cell):Gh:=⟨h.nx,fun m=>if m=n then FN c else h.c m⟩
theorem DA.dead (R:DA K μ H h){n:Nat}(hn:h.nx<=n):μ.f n=FX:=by
 cases e:μ.f n with
 | none=>rfl
 | some p=>exact absurd (R.dom n p e) (by lia)
theorem Ex.newCell {p:Addr}{o:HO}(R:DA K μ H h)(hp:H p=FX):Ex K H μ (Dd H p o) (μ.put h.nx p) where
 t:=fun q xs z=>(Ex.laid (μ:=μ) hp).t q xs z
 l:=fun q xs z=>by
  have nq:=aV z.1 hp;refine ⟨by rw [aR nq];exact z.1,fun n e=>?_,z.2.2⟩;by_cases hn:n=h.nx
  ·subst hn;rw [Mu.put_same] at e;exact nq (Eu e).symm
  ·rw [Mu.put_ne hn] at e;exact z.2.1 n e
 k:=fun q xs z=>(Ex.laid (μ:=μ) hp).k q xs z
 m:=fun n q e=>by
  have hn:n≠h.nx:=fun z=>by subst z;rw [R.dead (Bp _)] at e;cases e
  rw [Mu.put_ne hn];exact e
 x:=fun q o' u e=>by rw [aR (aV e hp)];exact e
 y:=fun q fs e=>by rw [aR (aV e hp)];exact e
 o:=fun q u z e=>⟨z,by rw [aR (aV e hp)];exact e⟩
theorem DA.newCell {p:Addr}{o:HO}{c:Cell}(R:DA K μ H h)(hp:H p=FX)(mo:Xj (FN o))(ck:qF K (Dd H p o) (μ.put h.nx p) p c):DA K (μ.put h.nx p) (Dd H p o) (h.new c) where
 inj:=fun m n q em en=>by
  by_cases hm:m=h.nx
  ·by_cases hn:n=h.nx
   ·rw [hm,hn]
   ·rw [hm,Mu.put_same] at em;rw [Mu.put_ne hn] at en;have e:p=q:=Eu em;subst e;have:=R.trk n _ en
    rw [hp] at this;exact this.elim
  ·rw [Mu.put_ne hm] at em;by_cases hn:n=h.nx
   ·rw [hn,Mu.put_same] at en;have e:p=q:=Eu en;subst e;have:=R.trk m _ em
    rw [hp] at this;exact this.elim
   ·rw [Mu.put_ne hn] at en;exact R.inj m n q em en
 dom:=fun n q e=>by
  show n<h.nx+1;by_cases hn:n=h.nx
  ·lia
  ·rw [Mu.put_ne hn] at e;have:=R.dom n q e
   lia
 trk:=fun n q e=>by
  by_cases hn:n=h.nx
  ·rw [hn,Mu.put_same] at e;have e:p=q:=Eu e;subst e;rw [bA];exact mo
  ·rw [Mu.put_ne hn] at e;have:=R.trk n q e
   have ne:q≠p:=fun z=>by subst z;rw [hp] at this;exact this
   rw [aR ne];exact this
 cel:=fun n d e=>by
  have e:(if n=h.nx then FN c else h.c n)=FN d:=e;by_cases hn:n=h.nx
  ·rw [if_pos hn] at e;have e:c=d:=Eu e;subst e;exact ⟨p,by rw [hn,Mu.put_same],ck⟩
  ·rw [if_neg hn] at e;obtain ⟨q,e1,x⟩:=R.cel n d e;have:=R.trk n q e1
   have ne:q≠p:=fun z=>by subst z;rw [hp] at this;exact this
   exact ⟨q,by rw [Mu.put_ne hn];exact e1,x.ext (Ex.newCell R hp).ext (aR ne)⟩
 hd:=fun q z=>by
  obtain ⟨⟨xs,e⟩,g⟩:=R.hd q z;have ne:=aV e hp;refine ⟨⟨xs,by rw [aR ne];exact e⟩,fun n en=>?_⟩;by_cases hn:n=h.nx
  ·rw [hn,Mu.put_same] at en;exact ne (Eu en).symm
  ·rw [Mu.put_ne hn] at en;exact g n en
theorem Rd.kept {p q:Addr}{o u:HO}(mo:Xj (H p))(r:Rd H q u)(hn:q≠p):Rd (Dd H p o) q u:=by
 unfold Rd;rw [aR hn];exact r
theorem Ex.write {n:Nat}{p:Addr}{o:HO}(R:DA K μ H h)(hn:μ.f n=FN p):Ex K H μ (Dd H p o) μ where
 t:=fun q xs z=>by
  rcases z with z | z
  ·refine .inl<|z.kept (R.trk n p hn) fun e=>?_
   subst e;have:=R.trk n q hn
   rcases z with r | ⟨_,r⟩ <;> rw [r] at this <;> exact this
  ·exact .inr z
 l:=fun q xs z=>⟨by rw [aR (fun e=>z.2.1 n (by rw [e];exact hn))];exact z.1,z.2⟩
 k:=fun q xs z=>by
  rcases z with ⟨o',z⟩ | z
  ·refine .inl ⟨o',?_⟩;rw [aR (fun e=>?_)]
   ·exact z
   ·subst e;have:=R.trk n q hn
    rw [z] at this;exact this
  ·exact .inr z
 m:=fun _ _ e=>e
 x:=fun q o' u e=>by
  rw [aR (fun y=>?_)]
  ·exact e
  ·subst y;have:=R.trk n q hn
   rw [e] at this;exact this
 y:=fun q fs e=>by
  rw [aR (fun y=>?_)]
  ·exact e
  ·subst y;have:=R.trk n q hn
   rw [e] at this;exact this
 o:=fun q u z e=>⟨z,by rw [aR (fun y=>(R.hd q z).2 n (by rw [y];exact hn))];exact e⟩
theorem DA.write {n:Nat}{p:Addr}{o:HO}{c:Cell}(R:DA K μ H h)(hn:μ.f n=FN p)(mo:Xj (FN o))(ck:qF K (Dd H p o) μ p c):DA K μ (Dd H p o) (h.set n c) where
 inj:=R.inj
 dom:=R.dom
 trk:=fun m q e=>by
  by_cases z:q=p
  ·subst z;rw [bA];exact mo
  ·rw [aR z];exact R.trk m q e
 cel:=fun m d e=>by
  have e:(if m=n then FN c else h.c m)=FN d:=e;by_cases hm:m=n
  ·rw [if_pos hm] at e;have e:c=d:=Eu e;subst e;exact ⟨p,by rw [hm];exact hn,ck⟩
  ·rw [if_neg hm] at e;obtain ⟨q,e1,x⟩:=R.cel m d e;have ne:q≠p:=fun z=>by subst z;exact hm (R.inj m n q e1 hn)
   exact ⟨q,e1,x.ext (Ex.write R hn).ext (aR ne)⟩
 hd:=fun q z=>by
  obtain ⟨⟨xs,e⟩,g⟩:=R.hd q z;exact ⟨⟨xs,by rw [aR<|fun y=>g n (by rw [y];exact hn)];exact e⟩,g⟩
mutual
def Lo (k:Nat):W->Prop
 | .tup ws=>Kh k ws
 | .lst ws=>Kh k ws
 | .kls ws=>Kh k ws
 | .exa _ ws=>Kh k ws
 | .loc n=>n<k
 | _=>True
def Kh (k:Nat):List W->Prop
 | []=>True
 | w::ws=>Lo k w/\Kh k ws
end
mutual
theorem Ak.lo {k:Nat}(hd:∀ n p,μ.f n=FN p->n<k):∀ {w:W} {v:V},Ak K H μ w v->Lo k w
 | .non,_,_=>by rw [Lo] <;> first | trivial | (intros;contradiction)
 | .bl _,_,_=>by rw [Lo] <;> first | trivial | (intros;contradiction)
 | .int _,_,_=>by rw [Lo] <;> first | trivial | (intros;contradiction)
 | .str _,_,_=>by rw [Lo] <;> first | trivial | (intros;contradiction)
 | .ty _,_,_=>by rw [Lo] <;> first | trivial | (intros;contradiction)
 | .exc _,_,_=>by rw [Lo] <;> first | trivial | (intros;contradiction)
 | .fnv _ _,_,_=>by rw [Lo] <;> first | trivial | (intros;contradiction)
 | .exa _ ws,_,h=>by
  rw [Ak] at h;obtain ⟨_,_,_,_,_,_,_,_,_,_,_,_,hr⟩:=h;rw [Lo];exact aM.lo hd hr
 | .tup ws,_,h=>by
  rw [Ak] at h;obtain ⟨p,xs,_,_,hr⟩:=h;rw [Lo];exact aM.lo hd hr
 | .lst ws,_,h=>by
  rw [Ak] at h;obtain ⟨p,xs,_,_,hr⟩:=h;rw [Lo];exact aM.lo hd hr
 | .kls ws,_,h=>by
  rw [Ak] at h;obtain ⟨p,xs,_,_,hr⟩:=h;rw [Lo];exact aM.lo hd hr
 | .loc n,_,h=>by
  rw [Ak] at h;obtain ⟨p,_,hm⟩:=h;rw [Lo];exact hd n p hm
theorem aM.lo {k:Nat}(hd:∀ n p,μ.f n=FN p->n<k):∀ {ws:List W} {xs:List V},aM K H μ ws xs->Kh k ws
 | [],_,_=>by rw [Kh];trivial
 | w::ws,_,h=>by
  rw [aM] at h;obtain ⟨v,vs,_,r,h⟩:=h;rw [Kh];exact ⟨Ak.lo hd r,aM.lo hd h⟩
end
def Mu.cut (μ : Mu)(k:Nat):Mu:=⟨fun n=>if n<k then μ.f n else FX,μ.hid⟩
theorem Mu.cut_some {k n:Nat}{p:Addr}(e:(μ.cut k).f n=FN p):n<k/\μ.f n=FN p:=by
 have e:(if n<k then μ.f n else FX)=FN p:=e;by_cases hn:n<k
 ·rw [if_pos hn] at e;exact ⟨hn,e⟩
 ·rw [if_neg hn] at e;cases e
mutual
theorem Ak.cut {k:Nat}:∀ {w:W} {v:V},Ak K H μ w v->Lo k w->Ak K H (μ.cut k) w v
 | .non,_,h,_=>by rw [Ak] at h |-;exact h
 | .bl _,_,h,_=>by rw [Ak] at h |-;exact h
 | .int _,_,h,_=>by rw [Ak] at h |-;exact h
 | .str _,_,h,_=>by rw [Ak] at h |-;exact h
 | .ty _,_,h,_=>by rw [Ak] at h |-;exact h
 | .exc _,_,h,_=>by rw [Ak] at h |-;exact h
 | .fnv _ _,_,h,_=>by rw [Ak] at h |-;exact h
 | .exa _ ws,_,h,l=>by
  rw [Ak] at h |-
  rw [Lo] at l;obtain ⟨p,o,u,dd,ns,xs,e1,hm,hx,hd,e2,e3,hr⟩:=h;exact ⟨p,o,u,dd,ns,xs,e1,hm,hx,hd,e2,e3,aM.cut hr l⟩
 | .tup ws,_,h,l=>by
  rw [Ak] at h |-
  rw [Lo] at l;obtain ⟨p,xs,e1,hs,hr⟩:=h;exact ⟨p,xs,e1,hs,aM.cut hr l⟩
 | .lst ws,_,h,l=>by
  rw [Ak] at h |-
  rw [Lo] at l;obtain ⟨p,xs,e1,hs,hr⟩:=h;exact ⟨p,xs,e1,⟨hs.1,fun n e=>hs.2.1 n (Mu.cut_some e).2,hs.2.2⟩,aM.cut hr l⟩
 | .kls ws,_,h,l=>by
  rw [Ak] at h |-
  rw [Lo] at l;obtain ⟨p,xs,e1,hs,hr⟩:=h;exact ⟨p,xs,e1,hs,aM.cut hr l⟩
 | .loc n,_,h,l=>by
  rw [Ak] at h |-
  rw [Lo] at l;obtain ⟨p,e1,hm⟩:=h;refine ⟨p,e1,?_⟩;show (if n<k then μ.f n else FX)=FN p;rw [if_pos l];exact hm
theorem aM.cut {k:Nat}:∀ {ws:List W} {xs:List V},aM K H μ ws xs->Kh k ws->aM K H (μ.cut k) ws xs
 | [],_,h,_=>by rw [aM] at h |-;exact h
 | w::ws,_,h,l=>by
  rw [aM] at h |-
  rw [Kh] at l;obtain ⟨v,vs,e1,r,h⟩:=h;exact ⟨v,vs,e1,Ak.cut r l.1,aM.cut h l.2⟩
end
end
variable {ws : List W}{μ' : Mu}
section
variable {K:Az}{H H' H1 H2:Hp}{μ1 μ2 : Mu}{h h':Gh}{w:W}{v:V}{xs ys:List V}{p:Addr}
def Mu.hide (μ : Mu)(p:Addr):Mu:=⟨μ.f,fun q=>q=p\/μ.hid q⟩
def Mu.unhide (μ : Mu)(p:Addr):Mu:=⟨μ.f,fun q=>q≠p/\μ.hid q⟩
structure R8 (p:Addr) (K:Az) (H:Hp) (μ : Mu) (H':Hp) (μ':Mu):Prop where
 r:∀ w v,Ak K H μ w v->Ak K H' μ' w v
 o:∀ q u,q≠p->μ.hid q->H q=FN u->μ'.hid q/\H' q=FN u
theorem GP.x (a:GP K H μ H1 μ1)(hp:¬ μ.hid p)(b:R8 p K H1 μ1 H2 μ2):GP K H μ H2 μ2:=
 ⟨fun w v z=>b.r w v (a.r w v z),fun q u z e=>let ⟨z1,e1⟩:=a.o q u z e;b.o q u (fun y=>hp (by rw [<-y];exact z)) z1 e1⟩
theorem GP.hide {o:HO}(hp:H p=FX):GP K H μ (Dd H p o) (μ.hide p):=Ex.ext {
 t:=fun q xs z=>(Ex.laid (μ:=μ) hp).t q xs z
 l:=fun q xs z=>by
  have nq:=aV z.1 hp;refine ⟨by rw [aR nq];exact z.1,z.2.1,fun y=>?_⟩;rcases y with y | y
  ·exact nq y
  ·exact z.2.2 y
 k:=fun q xs z=>(Ex.laid (μ:=μ) hp).k q xs z
 m:=fun _ _ e=>e
 x:=fun q o' u e=>by rw [aR (aV e hp)];exact e
 y:=fun q fs e=>by rw [aR (aV e hp)];exact e
 o:=fun q u z e=>⟨.inr z,by rw [aR (aV e hp)];exact e⟩ }
theorem DA.nohid (R:DA K μ H h)(hp:H p=FX):¬ μ.hid p:=fun z=>by
 obtain ⟨⟨xs,e⟩,_⟩:=R.hd p z;rw [hp] at e;cases e
theorem DA.hide (R:DA K μ H h)(hp:H p=FX):DA K (μ.hide p) (Dd H p (.lst xs)) h where
 inj:=R.inj
 dom:=R.dom
 trk:=(R.laid hp).trk
 cel:=fun n c e=>by
  obtain ⟨q,e1,x⟩:=R.cel n c e;have:=R.trk n q e1
  have ne:q≠p:=fun z=>by subst z;rw [hp] at this;exact this
  exact ⟨q,e1,x.ext (GP.hide hp)<|aR ne⟩
 hd:=fun q z=>by
  rcases z with z | z
  ·subst z;refine ⟨⟨xs,bA⟩,fun n e=>?_⟩;have:=R.trk n q e
   rw [hp] at this;exact this
  ·exact (R.laid (o:=.lst xs) hp).hd q z
theorem K7.grow (R:DA K μ H h)(hp:μ.hid p):K7 K H μ (Dd H p (.lst ys)) μ where
 t:=fun q xs z=>by
  rcases z with z | z
  ·refine .inl ?_;unfold Rd;rw [aR (fun y=>?_)]
   ·exact z
   ·subst y;obtain ⟨⟨xs',e⟩,_⟩:=R.hd q hp;rcases z with r | ⟨_,r⟩ <;> rw [e] at r <;> cases r
  ·exact .inr z
 l:=fun q xs z=>⟨by rw [aR (fun y=>z.2.2 (by rw [y];exact hp))];exact z.1,z.2⟩
 k:=fun q xs z=>by
  rcases z with ⟨o',z⟩ | z
  ·refine .inl ⟨o',?_⟩;rw [aR (fun y=>?_)]
   ·exact z
   ·subst y;obtain ⟨⟨xs',e⟩,_⟩:=R.hd q hp;rw [e] at z;cases z
  ·exact .inr z
 m:=fun _ _ e=>e
 x:=fun q o' u e=>by
  rw [aR (fun y=>?_)]
  ·exact e
  ·subst y;obtain ⟨⟨xs',e'⟩,_⟩:=R.hd q hp;rw [e'] at e;cases e
 y:=fun q fs e=>by
  rw [aR (fun y=>?_)]
  ·exact e
  ·subst y;obtain ⟨⟨xs',e'⟩,_⟩:=R.hd q hp;rw [e'] at e;cases e
theorem R8.grow (R:DA K μ H h)(hp:μ.hid p):R8 p K H μ (Dd H p (.lst ys)) μ:=
 ⟨fun _ _ z=>Ak.ex (K7.grow R hp) z,fun q u ne z e=>⟨z,by rw [aR ne];exact e⟩⟩
theorem DA.grow (R:DA K μ H h)(hp:μ.hid p):DA K μ (Dd H p (.lst ys)) h where
 inj:=R.inj
 dom:=R.dom
 trk:=fun n q e=>by
  have ne:q≠p:=fun z=>(R.hd p hp).2 n (by rw [<-z];exact e)
  rw [aR ne];exact R.trk n q e
 cel:=fun n c e=>by
  obtain ⟨q,e1,x⟩:=R.cel n c e;have ne:q≠p:=fun z=>(R.hd p hp).2 n (by rw [<-z];exact e1)
  refine ⟨q,e1,?_⟩;cases c with
  | lst ws=>obtain ⟨xs,a,b⟩:=x;exact ⟨xs,(aR ne).trans a,aM.ex (K7.grow R hp) b⟩
  | obj C fs=>obtain ⟨dx,fvs,a,b⟩:=x;exact ⟨dx,fvs,(aR ne).trans a,Paired.mapP b fun _ _ z=>⟨z.1,Ak.ex (K7.grow R hp) z.2⟩⟩
  | dct kvs=>obtain ⟨kvv,a,b⟩:=x;exact ⟨kvv,(aR ne).trans a,Paired.mapP b fun _ _ z=>⟨z.1,Ak.ex (K7.grow R hp) z.2⟩⟩
  | dtt kvs=>obtain ⟨xs,vs,a,b,c,d,f⟩:=x;exact ⟨xs,vs,(aR ne).trans a,b,c,aM.ex (K7.grow R hp) d,aM.ex (K7.grow R hp) f⟩
 hd:=fun q z=>by
  by_cases e:q=p
  ·subst e;exact ⟨⟨ys,bA⟩,(R.hd q hp).2⟩
  ·rw [aR e];exact R.hd q z
theorem K7.unhide:K7 K H μ H (μ.unhide p) where
 t:=fun _ _ z=>z
 l:=fun q xs z=>⟨z.1,z.2.1,fun y=>z.2.2 y.2⟩
 k:=fun _ _ z=>z
 m:=fun _ _ e=>e
 x:=fun _ _ _ e=>e
 y:=fun _ _ e=>e
theorem R8.unhide:R8 p K H μ H (μ.unhide p):=⟨fun _ _ z=>Ak.ex K7.unhide z,fun q u ne z e=>⟨⟨ne,z⟩,e⟩⟩
theorem DA.unhide (R:DA K μ H h):DA K (μ.unhide p) H h where
 inj:=R.inj
 dom:=R.dom
 trk:=R.trk
 cel:=fun n c e=>by
  obtain ⟨q,e1,x⟩:=R.cel n c e;refine ⟨q,e1,?_⟩;cases c with
  | lst ws=>obtain ⟨xs,a,b⟩:=x;exact ⟨xs,a,aM.ex K7.unhide b⟩
  | obj C fs=>obtain ⟨dx,fvs,a,b⟩:=x;exact ⟨dx,fvs,a,Paired.mapP b fun _ _ z=>⟨z.1,Ak.ex K7.unhide z.2⟩⟩
  | dct kvs=>obtain ⟨kvv,a,b⟩:=x;exact ⟨kvv,a,Paired.mapP b fun _ _ z=>⟨z.1,Ak.ex K7.unhide z.2⟩⟩
  | dtt kvs=>obtain ⟨xs,vs,a,b,c,d,f⟩:=x;exact ⟨xs,vs,a,b,c,aM.ex K7.unhide d,aM.ex K7.unhide f⟩
 hd:=fun q z=>R.hd q z.2
theorem Ak.built (R:DA K μ H h)(hp:μ.hid p)(e:H p=FN (.lst xs))(r:aM K H μ ws xs):Ak K H (μ.unhide p) (.lst ws) (.ref p):=by
 rw [Ak];exact ⟨p,xs,rfl,⟨e,(R.hd p hp).2,fun z=>z.1 rfl⟩,aM.ex K7.unhide r⟩
end
abbrev Sw:=List (Option W)
abbrev WK:=W->Gh->Prop
abbrev ME:=Sw->Gh->WK->Prop
abbrev MT:=Sw->Gh->(Bool->Gh->Prop)->Prop
abbrev MA:=Sw->Gh->(List W->Gh->Prop)->Prop
structure bV where
 nx:Sw->Gh->Prop
 rt:WK
 bk:Sw->Gh->Prop:=fun _ _=>False
 ct:Sw->Gh->Prop:=fun _ _=>False
abbrev MS:=bV->Sw->Gh->Prop
abbrev MG:=W->Sw->Gh->(Sw->Gh->Prop)->Prop
abbrev Oz:=List W->Sw->Gh->(Sw->Gh->Prop)->Prop
structure Xw where
 cls:Str
 fs:List (Str×W)
abbrev Cd:=Xw->Gh->Prop
abbrev Ar:=List W->Gh->WK->Cd->Prop
def EF:Cd:=fun _ _=>False
structure Slots (K:Az) (H:Hp) (μ : Mu) (Zw:Sw) (Z : St):Prop where
 len:Zw.length = Z.length
 get:∀ (i:Nat) (w:W),Zw[i]?=FN (FN w)->∃ v,Z[i]?=FN (FN v)/\Ak K H μ w v
def DQ (K:Az)(H:Hp)(μ : Mu)(Q:WK):VK:=fun v H'=>∃ μ' w h',GP K H μ H' μ'/\DA K μ' H' h'/\Ak K H' μ' w v/\Q w h'
def DB (K:Az)(H:Hp)(μ : Mu)(Q:Bool->Gh->Prop):Bool->Hp->Prop:=fun b H'=>∃ μ' h',GP K H μ H' μ'/\DA K μ' H' h'/\Q b h'
def zar (K:Az)(H:Hp)(μ : Mu)(Q:List W->Gh->Prop):List V->Hp->Prop:=fun vs H'=>∃ μ' ws h',GP K H μ H' μ'/\DA K μ' H' h'/\aM K H' μ' ws vs/\Q ws h'
def DN (K:Az)(H:Hp)(μ : Mu)(N:Sw->Gh->Prop):St->Hp->Prop:=fun Z' H'=>∃ μ' Zw' h',GP K H μ H' μ'/\DA K μ' H' h'/\Slots K H' μ' Zw' Z'/\N Zw' h'
section
variable {K:Az}{H H' H1 H2:Hp}{μ1 μ2 : Mu}{h h' h1:Gh}{w:W}{v:V}{Z : St}{Zw:Sw}
theorem Slots.ext (S:Slots K H μ Zw Z)(e:GP K H μ H' μ'):Slots K H' μ' Zw Z:=⟨S.len,fun i w q=>let ⟨v,a,b⟩:=S.get i w q;⟨v,a,e.r _ _ b⟩⟩
theorem Slots.set (S:Slots K H μ Zw Z)(r:Ak K H μ w v)(i:Nat):Slots K H μ (Zw.set i (FN w)) (Z.set i (FN v)):=by
 refine ⟨by rw [List.length_set,List.length_set,S.len],fun j u q=>?_⟩;rw [List.getElem?_set] at q |-
 by_cases hij:i=j
 ·rw [if_pos hij] at q |-
  by_cases hl:i < Zw.length
  ·rw [if_pos hl] at q;rw [if_pos (by rw [<-S.len];exact hl)];have e:w=u:=by injection q with q;injection q
   subst e;exact ⟨v,rfl,r⟩
  ·rw [if_neg hl] at q;cases q
 ·rw [if_neg hij] at q |-
  exact S.get j u q
theorem DQ.trans {Q:WK}(e:GP K H μ H1 μ1)(q:DQ K H1 μ1 Q v H'):DQ K H μ Q v H':=let ⟨μ',w,h',a,b⟩:=q;⟨μ',w,h',e.trans a,b⟩
theorem DB.trans {Q:Bool->Gh->Prop}{b:Bool}(e:GP K H μ H1 μ1)(q:DB K H1 μ1 Q b H'):DB K H μ Q b H':=let ⟨μ',h',a,b⟩:=q;⟨μ',h',e.trans a,b⟩
theorem DN.trans {N:Sw->Gh->Prop}{Z':St}(e:GP K H μ H1 μ1)(q:DN K H1 μ1 N Z' H'):DN K H μ N Z' H':=let ⟨μ',w,h',a,b⟩:=q;⟨μ',w,h',e.trans a,b⟩
end
def tD (K:Az)(m:ME):TE:=fun Z H Q=>∃ μ h Zw Qw,DA K μ H h/\Slots K H μ Zw Z/\m Zw h Qw/\∀ v H',DQ K H μ Qw v H'->Q v H'
def tDT (K:Az)(m:MT):TT:=fun Z H Q=>∃ μ h Zw Qw,DA K μ H h/\Slots K H μ Zw Z/\m Zw h Qw/\∀ b H',DB K H μ Qw b H'->Q b H'
def tDA (K:Az)(m:MA):TA:=fun Z H Q=>∃ μ h Zw Qw,DA K μ H h/\Slots K H μ Zw Z/\m Zw h Qw/\∀ vs H',zar K H μ Qw vs H'->Q vs H'
def tDG (K:Az)(g:MG):TG:=fun v Z H N=>∃ μ h Zw w Nw,DA K μ H h/\Slots K H μ Zw Z/\Ak K H μ w v/\g w Zw h Nw/\∀ Z' H',DN K H μ Nw Z' H'->N Z' H'
def aa0 (K:Az)(g:Oz):QL:=fun vs Z H N=>∃ μ h Zw ws Nw,DA K μ H h/\Slots K H μ Zw Z/\aM K H μ ws vs/\g ws Zw h Nw/\∀ Z' H',DN K H μ Nw Z' H'->N Z' H'
structure yE (K:Az) (H:Hp) (μ : Mu) (Dw:bV) (D:Ends):Prop where
 nx:∀ Z' H',DN K H μ Dw.nx Z' H'->D.nx Z' H'
 rt:∀ v H',DQ K H μ Dw.rt v H'->D.rt v H'
 bk:∀ Z' H',DN K H μ Dw.bk Z' H'->D.bk Z' H'
 ct:∀ Z' H',DN K H μ Dw.ct Z' H'->D.ct Z' H'
def tDS (K:Az)(m:MS):TS:=fun D Z H=>∃ μ h Zw Dw,DA K μ H h/\Slots K H μ Zw Z/\m Dw Zw h/\yE K H μ Dw D
theorem yE.trans {K:Az}{H H1:Hp}{μ μ1:Mu}{Dw:bV}{D:Ends}(k:yE K H μ Dw D)(e:GP K H μ H1 μ1):yE K H1 μ1 Dw D:=
 ⟨fun _ _ q=>k.nx _ _ (q.trans e),fun _ _ q=>k.rt _ _ (q.trans e),fun _ _ q=>k.bk _ _ (q.trans e),fun _ _ q=>k.ct _ _ (q.trans e)⟩
section
variable {X:Cx}{e:Expr}{es:List Expr}{st:Stmt}{sts:List Stmt}
theorem PE.of {t t':TE}(h:PE X e t)(k:∀ Z H Q,t' Z H Q->t Z H Q):PE X e t':=fun ahJ s Z H Q I q=>h ahJ s Z H Q I (k Z H Q q)
theorem PT.of {t t':TT}(h:PT X e t)(k:∀ Z H Q,t' Z H Q->t Z H Q):PT X e t':=fun ahJ s Z H Q I q=>h ahJ s Z H Q I (k Z H Q q)
theorem PW.of {t t':TT}(h:PW X e t)(k:∀ Z H Q,t' Z H Q->t Z H Q):PW X e t':=fun wh ahJ s Z H Q I q=>h wh ahJ s Z H Q I (k Z H Q q)
theorem PA.of {t t':TA}(h:PA X es t)(k:∀ Z H Q,t' Z H Q->t Z H Q):PA X es t':=fun pos ahJ s Z H Q I q=>h pos ahJ s Z H Q I (k Z H Q q)
theorem PG.of {t t':TG}(h:PG X e t)(k:∀ v Z H Q,t' v Z H Q->t v Z H Q):PG X e t':=fun ahJ s Z H v u Q I r q=>h ahJ s Z H v u Q I r (k v Z H Q q)
theorem Rm.of {t t':QL}(h:Rm X es t)(k:∀ v Z H Q,t' v Z H Q->t v Z H Q):Rm X es t':=fun ahJ s Z H v u Q I r q=>h ahJ s Z H v u Q I r (k v Z H Q q)
theorem PS.of {t t':TS}(h:PS X st t)(k:∀ D Z H,t' D Z H->t D Z H):PS X st t':=fun ahJ s Z H D I q=>h ahJ s Z H D I (k D Z H q)
theorem NP.of {t t':TS}(h:NP X sts t)(k:∀ D Z H,t' D Z H->t D Z H):NP X sts t':=fun ahJ s Z H D I q=>h ahJ s Z H D I (k D Z H q)
end
abbrev DE (X:Cx)(e:Expr)(m:ME):Prop:=PE X e (tD X.K m)
abbrev DT (X:Cx)(e:Expr)(m:MT):Prop:=PT X e (tDT X.K m)
abbrev DWt (X:Cx)(e:Expr)(m:MT):Prop:=PW X e (tDT X.K m)
abbrev Jc (X:Cx)(es:List Expr)(m:MA):Prop:=PA X es (tDA X.K m)
abbrev DG (X:Cx)(e:Expr)(m:MG):Prop:=PG X e (tDG X.K m)
abbrev Xk (X:Cx)(es:List Expr)(m:Oz):Prop:=Rm X es (aa0 X.K m)
abbrev DS (X:Cx)(st:Stmt)(m:MS):Prop:=PS X st (tDS X.K m)
abbrev Rv (X:Cx)(st:List Stmt)(m:MS):Prop:=NP X st (tDS X.K m)
section
variable {X:Cx}{e a b c:Expr}{ma mb mc:ME}{pos:Pos}
def aA (i:Nat):ME:=fun Z h Q=>match Z[i]? with
 | some (FN w)=>Q w h
 | _=>False
def mC (w:W):ME:=fun _ h Q=>Q w h
theorem dv (i:Nat)(he:PE X e (Y8 i)):DE X e (aA i):=he.of fun Z H Q ⟨μ,h,Zw,Qw,R,S,m,k⟩=>by
 unfold aA at m;cases q:Zw[i]? with
 | none=>rw [q] at m;exact m.elim
 | some o=>
  rw [q] at m;cases o with
  | none=>exact m.elim
  | some w=>
   obtain ⟨v,h1,h2⟩:=S.get i w q;exact ⟨v,h1,k _ _ ⟨μ,w,h,.refl,R,h2,m⟩⟩
theorem dc {w:W}{v:V}(he:PE X e (tC v))(r:∀ H μ,Ak X.K H μ w v):DE X e (mC w):=he.of fun Z H Q ⟨μ,h,Zw,Qw,R,S,m,k⟩=>k _ _ ⟨μ,w,h,.refl,R,r H μ,m⟩
theorem aF {i:Int}{j pos}:DE X (.Constant (.int i) j pos) (mC (.int i)):=dc afH fun _ _=>by rw [Ak]
theorem KR {i:Bool}{j pos}:DE X (.Constant (.bool i) j pos) (mC (.bl i)):=dc Zf fun _ _=>by rw [Ak]
theorem V0 {j pos}:DE X (.Constant .none j pos) (mC .non):=dc afJ fun _ _=>by rw [Ak]
theorem bI {i:Str}{j pos}:DE X (.Constant (.str i) j pos) (mC (.str i)):=dc M4 fun _ _=>by rw [Ak]
abbrev M2:=W->W->Gh->WK->Prop
def AP (r:M2)(ma mb:ME):ME:=fun Z h Q=>ma Z h fun x h1=>mb Z h1 fun y h2=>r x y h2 Q
def aaT (K:Az)(r:R2)(mr:M2):Prop:=∀ {H:Hp} {μ : Mu} {h:Gh} {x y:V} {wx wy:W} {Qw:WK} {Q:VK},DA K μ H h->Ak K H μ wx x->Ak K H μ wy y->mr wx wy h Qw ->
 (∀ v H',DQ K H μ Qw v H'->Q v H')->r x y H Q
theorem two {K:Az}{Z : St}{H:Hp}{Q:VK}{mr:M2}{R2':V->V->Hp->Prop}(h:tD K (AP mr ma mb) Z H Q)
  (k:∀ {H2:Hp} {μ2:Mu} {h2:Gh} {x y:V} {wx wy:W} {Qw:WK},DA K μ2 H2 h2->Ak K H2 μ2 wx x->Ak K H2 μ2 wy y->mr wx wy h2 Qw->(∀ v H',DQ K H2 μ2 Qw v H'->Q v H')->R2' x y H2) :
  tD K ma Z H fun x H1=>tD K mb Z H1 fun y H2=>R2' x y H2:=by
 obtain ⟨μ,g,Zw,Qw,R,S,m,q⟩:=h;refine ⟨μ,g,Zw,_,R,S,m,fun x H1 ⟨μ1,wx,h1,e1,R1,r1,m1⟩=>?_⟩;refine ⟨μ1,h1,Zw,_,R1,S.ext e1,m1,fun y H2 ⟨μ2,wy,h2,e2,R2,r2,m2⟩=>?_⟩;exact k R2 (e2.r _ _ r1) r2 m2 fun v H' z=>q _ _<|(z.trans e2).trans e1
def Js (X:Cx)(f:Mk->Mk->Sem Mk)(mr:M2):Prop:=∃ r,J6 X f r/\aaT X.K r mr
theorem bN {op:Operator}{mr:M2}(ho:Js X (Jw op) mr)(ha:DE X a ma)(hb:DE X b mb):DE X (.BinOp a op b pos) (AP mr ma mb):=by
 obtain ⟨r,o,s⟩:=ho;exact (Yv o ha hb).of fun Z H Q h=>two h fun R r1 r2 m k=>s R r1 r2 m k
theorem Yt {op:CmpOp}{mr:M2}(ho:Js X (Jb op) mr)(ha:DE X a ma)(hb:DE X b mb)(hm:Td op b=false):DE X (.Compare a [op] [b] pos) (AP mr ma mb):=by
 obtain ⟨r,o,s⟩:=ho;exact (zbU o ha hb hm).of fun Z H Q h=>two h fun R r1 r2 m k=>s R r1 r2 m k
def bM (m:ME):MT:=fun Z h Q=>m Z h fun w h1=>match w with
 | .bl c=>Q c h1
 | _=>False
theorem adH {K:Az}{Z : St}{H:Hp}{m:ME}{Q:Bool->Hp->Prop}(h:tDT K (bM m) Z H Q):tD K m Z H fun x H'=>∃ k,x=.bl k/\Q k H':=by
 obtain ⟨μ,g,Zw,Qw,R,S,mm,q⟩:=h;refine ⟨μ,g,Zw,_,R,S,mm,fun v H' ⟨μ1,w,h1,e1,R1,r1,m1⟩=>?_⟩;cases w with
 | bl c=>rw [Ak] at r1;exact ⟨c,r1,q _ _ ⟨μ1,h1,e1,R1,m1⟩⟩
 | _=>exact m1.elim
theorem afd {op:CmpOp}{mr:M2}(ho:Js X (Jb op) mr)(ha:DE X a ma)(hb:DE X b mb)(hm:Td op b=false):DT X (.Compare a [op] [b] pos) (bM (AP mr ma mb)):=by
 obtain ⟨r,o,s⟩:=ho;exact (adA o ha hb hm).of fun Z H Q h=>two (adH h) fun R r1 r2 m k=>s R r1 r2 m k
def Hz (c:Bool)(a b:Prop):Prop:=match c with
 | true=>a
 | false=>b
def br (c:Bool)(a b:Prop):Prop:=(c=true->a)/\(c=false->b)
theorem Cq {c:Bool}{a b:Prop}(e:c=true)(x:a):br c a b:=⟨fun _=>x,fun z=>by rw [e] at z;cases z⟩
theorem gj {c:Bool}{a b:Prop}(e:c=false)(x:b):br c a b:=⟨fun z=>(by rw [e] at z;cases z),fun _=>x⟩
theorem v8 {c:Prop}[Decidable c]{a b:Prop}(x:c->a)(y:¬ c->b):br (decide c) a b:=⟨fun e=>x (of_decide_eq_true e),fun e=>y (of_decide_eq_false e)⟩
def Yp (t u:MT):MT:=fun Z h Q=>t Z h fun c h1=>br c (u Z h1 Q) (Q false h1)
def Nb (t u:MT):MT:=fun Z h Q=>t Z h fun c h1=>br c (Q true h1) (u Z h1 Q)
def Ii (t:MT):MT:=fun Z h Q=>t Z h fun c h1=>Q (!c) h1
variable {tA tB':MT}{rest:List Expr}
theorem adD (ha:DT X a tA):DWt X (.BoolOp .And [a] pos) tA:=adV ha
theorem kO (ha:DT X a tA):DWt X (.BoolOp .Or [a] pos) tA:=aek ha
theorem aef (ha:DT X a tA)(hb:DWt X (.BoolOp .And (b::rest) pos) tB'):DWt X (.BoolOp .And (a::b::rest) pos) (Yp tA tB'):=(aei ha hb).of fun Z H Q ⟨μ,g,Zw,Qw,R,S,m,q⟩=>by
 refine ⟨μ,g,Zw,_,R,S,m,fun c H1 ⟨μ1,h1,e1,R1,m1⟩=>?_⟩;cases c with
 | true=>
  rw [if_pos rfl];exact ⟨μ1,h1,Zw,_,R1,S.ext e1,m1.1 rfl,fun b H' z=>q _ _<|z.trans e1⟩
 | false=>
  rw [if_neg KY];exact q _ _ ⟨μ1,h1,e1,R1,m1.2 rfl⟩
theorem lJ (ha:DT X a tA)(hb:DWt X (.BoolOp .Or (b::rest) pos) tB'):DWt X (.BoolOp .Or (a::b::rest) pos) (Nb tA tB'):=(Zn ha hb).of fun Z H Q ⟨μ,g,Zw,Qw,R,S,m,q⟩=>by
 refine ⟨μ,g,Zw,_,R,S,m,fun c H1 ⟨μ1,h1,e1,R1,m1⟩=>?_⟩;cases c with
 | true=>
  rw [if_pos rfl];exact q _ _ ⟨μ1,h1,e1,R1,m1.1 rfl⟩
 | false=>
  rw [if_neg KY];exact ⟨μ1,h1,Zw,_,R1,S.ext e1,m1.2 rfl,fun b H' z=>q _ _<|z.trans e1⟩
theorem nW (ha:DT X a tA):DT X (.UnaryOp .Not a pos) (Ii tA):=(agv ha).of fun Z H Q ⟨μ,g,Zw,Qw,R,S,m,q⟩=>
 ⟨μ,g,Zw,_,R,S,m,fun c H1 ⟨μ1,h1,e1,R1,m1⟩=>q _ _ ⟨μ1,h1,e1,R1,m1⟩⟩
def Yy (a b:ME):ME:=fun Z h Q=>a Z h fun x h1=>match x with
 | .bl true=>b Z h1 Q
 | .bl false=>Q (.bl false) h1
 | _=>False
def abl (a b:ME):ME:=fun Z h Q=>a Z h fun x h1=>match x with
 | .bl false=>b Z h1 Q
 | .bl true=>Q (.bl true) h1
 | _=>False
def YX (a:ME):ME:=fun Z h Q=>a Z h fun x h1=>match x with
 | .bl c=>Q (.bl (!c)) h1
 | _=>False
def mIf (t:MT)(a b:ME):ME:=fun Z h Q=>t Z h fun c h1=>br c (a Z h1 Q) (b Z h1 Q)
theorem aay (hc:DT X c tA)(ha:DE X a ma)(hb:DE X b mb):DE X (.IfExp c a b pos) (mIf tA ma mb):=(zby hc ha hb).of fun Z H Q ⟨μ,g,Zw,Qw,R,S,m,q⟩=>by
 refine ⟨μ,g,Zw,_,R,S,m,fun c H1 ⟨μ1,h1,e1,R1,m1⟩=>?_⟩;cases c with
 | true=>
  rw [if_pos rfl];exact ⟨μ1,h1,Zw,_,R1,S.ext e1,m1.1 rfl,fun b H' z=>q _ _<|z.trans e1⟩
 | false=>
  rw [if_neg KY];exact ⟨μ1,h1,Zw,_,R1,S.ext e1,m1.2 rfl,fun b H' z=>q _ _<|z.trans e1⟩
def mUn (r:W->Gh->WK->Prop)(a:ME):ME:=fun Z h Q=>a Z h fun x h1=>r x h1 Q
def Yg:W->Gh->WK->Prop:=fun x h Q=>match x with
 | .int i=>Q (.int (-i)) h
 | _=>False
theorem Y9 (ha:DE X a ma):DE X (.UnaryOp .USub a pos) (mUn Yg ma):=(Yx agn ha).of fun Z H Q ⟨μ,g,Zw,Qw,R,S,m,q⟩=>by
 refine ⟨μ,g,Zw,_,R,S,m,fun v H1 ⟨μ1,w,h1,e1,R1,r1,m1⟩=>?_⟩;cases w with
 | int i=>rw [Ak] at r1;exact ⟨i,r1,q _ _ ⟨μ1,.int (-i),h1,e1,R1,by rw [Ak],m1⟩⟩
 | _=>exact m1.elim
def aL:MA:=fun _ h Q=>Q [] h
def ao (a:ME)(r:MA):MA:=fun Z h Q=>a Z h fun x h1=>r Z h1 fun xs h2=>Q (x::xs) h2
variable {es:List Expr}{mr:MA}
theorem oY:Jc X [] aL:=afE.of fun Z H Q ⟨μ,g,Zw,Qw,R,S,m,q⟩=>q _ _ ⟨μ,[],g,.refl,R,.nil,m⟩
theorem adS (ha:DE X e ma)(hr:Jc X es mr)(hs:Dh (e::es) X.env=(false,eval e X.env)::Dh es X.env:=by rfl):Jc X (e::es) (ao ma mr):=(aeB ha hr hs).of fun Z H Q ⟨μ,g,Zw,Qw,R,S,m,q⟩=>by
 refine ⟨μ,g,Zw,_,R,S,m,fun v H1 ⟨μ1,w,h1,e1,R1,r1,m1⟩=>?_⟩;refine ⟨μ1,h1,Zw,_,R1,S.ext e1,m1,fun vs H2 ⟨μ2,ws,h2,e2,R2,r2,m2⟩=>?_⟩;exact q _ _ ⟨μ2,w::ws,h2,e1.trans e2,R2,.cons (e2.r _ _ r1) r2,m2⟩
def fG (n:Nat)(P:Prop):Prop:=Hz (Pu n 1000) P (n<=Dp/\P)
theorem fG.ok {n:Nat}{P:Prop}(h:fG n P):n<=Dp/\P:=by
 unfold fG at h;cases e:Pu n 1000 with
 | true=>rw [e] at h;exact ⟨CW (Vt e) (by decide),h⟩
 | false=>rw [e] at h;exact h
theorem fG.mk {n:Nat}{P:Prop}(hn:n<=Dp)(h:P):fG n P:=by
 unfold fG;cases e:Pu n 1000 with
 | true=>exact h
 | false=>exact ⟨hn,h⟩
def je (t:MA):ME:=fun Z h Q=>t Z h fun ws h1=>fG ws.length (Q (.tup ws) h1)
def lA (t:MA):ME:=fun Z h Q=>t Z h fun ws h1=>fG ws.length (Q (.lst ws) h1)
def vQ (t:MA):ME:=fun Z h Q=>t Z h fun ws h1=>fG ws.length (Q (.loc h1.nx) (h1.new (.lst ws)))
theorem dW {x1}(h:Jc X es mr):DE X (.Tuple es x1 pos) (je mr):=(agz h).of fun Z H Q ⟨μ,g,Zw,Qw,R,S,m,q⟩=>
 ⟨μ,g,Zw,_,R,S,m,fun vs H1 ⟨μ1,ws,h1,e1,R1,r1,sz⟩=>⟨by rw [<-r1.len];exact sz.ok.1,fun p hp=>q _ _ ⟨μ1,.tup ws,h1,e1.trans (Ex.laid hp).ext,R1.laid hp,.tupNew hp r1,sz.ok.2⟩⟩⟩
theorem eV (h:Jc X es mr):DE X (.List es pos) (lA mr):=(Lq h).of fun Z H Q ⟨μ,g,Zw,Qw,R,S,m,q⟩=>
 ⟨μ,g,Zw,_,R,S,m,fun vs H1 ⟨μ1,ws,h1,e1,R1,r1,sz⟩=>⟨by rw [<-r1.len];exact sz.ok.1,fun p hp=>q _ _ ⟨μ1,.lst ws,h1,e1.trans (Ex.laid hp).ext,R1.laid hp,.lstNew R1 hp r1,sz.ok.2⟩⟩⟩
theorem afu {K:Az}{H:Hp}{h:Gh}{p:Addr}{xs:List V}(R:DA K μ H h)(hp:H p=FX)(r:aM K H μ ws xs):
  DA K (μ.put h.nx p) (Dd H p (.lst xs)) (h.new (.lst ws)):=R.newCell hp trivial ⟨xs,bA,(Ex.newCell R hp).ext.s r⟩
theorem uE (h:Jc X es mr):DE X (.List es pos) (vQ mr):=(Lq h).of fun Z H Q ⟨μ,g,Zw,Qw,R,S,m,q⟩=>
 ⟨μ,g,Zw,_,R,S,m,fun vs H1 ⟨μ1,ws,h1,e1,R1,r1,sz⟩=>⟨by rw [<-r1.len];exact sz.ok.1,fun p hp=>q _ _ ⟨μ1.put h1.nx p,.loc h1.nx,h1.new (.lst ws),e1.trans (Ex.newCell R1 hp).ext,afu R1 hp r1,by rw [Ak];exact ⟨p,rfl,Mu.put_same⟩,sz.ok.2⟩⟩⟩
def Ks (K:Az)(ms:Ar):Sp:=fun vs H Q _=>∃ μ h ws Qw,DA K μ H h/\aM K H μ ws vs/\ms ws h Qw EF/\∀ v H',DQ K H μ Qw v H'->Q v H'
def aJ (ms:Ar)(E:Cd)(ma:MA):ME:=fun Z h Q=>ma Z h fun ws h1=>ms ws h1 Q E
theorem RJ {K:Az}{Z : St}{H:Hp}{Q:VK}{E:XK}{ms:Ar}{ma:MA}(h:tD K (aJ ms EF ma) Z H Q):Tt (Ks K ms) [] E (tDA K ma) Z H Q:=by
 obtain ⟨μ,g,Zw,Qw,R,S,m,q⟩:=h;refine ⟨μ,g,Zw,_,R,S,m,fun vs H1 ⟨μ1,ws,h1,e1,R1,r1,m1⟩=>?_⟩;show Ks K ms (vs++[]) H1 Q E;rw [T9];exact ⟨μ1,h1,ws,Qw,R1,r1,m1,fun v H' z=>q _ _<|z.trans e1⟩
theorem agu {k:Nat}{f:Addr}{fd:Kw}{ps:List Str}{ms:Ar}{x:Str}{p:Pos}(F:qm X.prog X.w X.K X.mg X.base NT k f fd ps (Ks X.K ms))(hr:mY k X.A)(hg:Gl X x)(hm:X.mg x=FN (.ref f))(hk:Rb X.K (.ref f)=true)
  (hb:JD X.K fd ps []) (ha:Jc X (e::es) mr) (hdb:(x==("__debug__" : Str))=false:=by decide) (he:Dh (e::es) X.env=(false,eval e X.env)::Dh es X.env:=by rfl) (hpl:(J9 pos (Dh es X.env)).any (·.1)=false:=by rfl) :
  DE X (.Call (.Name x p) (e::es) [] pos) (aJ ms EF mr):=(zbD F hr hg hm hk hb .nil Yb ha hdb he hpl).of fun _ _ _ h=>RJ h
def Xi (h:Gh)(w:W):Option Bool:=match w with
 | .non=>FN false
 | .bl b=>FN b
 | .int i=>FN (i != 0)
 | .tup ws=>FN (!ws.isEmpty)
 | .lst ws=>FN (!ws.isEmpty)
 | .kls ws=>FN (!ws.isEmpty)
 | .loc n=>(match h.c n with
  | some (.lst ws)=>FN (!ws.isEmpty)
  | _=>FX)
 | _=>FX
def Cg (m:ME):MT:=fun Z h Q=>m Z h fun w h1=>match Xi h1 w with
 | some b=>Q b h1
 | none=>False
theorem aM.emp {K:Az}{H:Hp}{xs:List V}(r:aM K H μ ws xs):ws.isEmpty=xs.isEmpty:=by
 have:=r.len
 cases ws <;> cases xs <;> first | rfl | cases this
theorem kE (he:DE X e ma)(h:∀ whole,isTrue e X.env whole=(do let v <-whole;standAt e.pos;holding [v] (truthy v)):=by intro _;rfl):DT X e (Cg ma):=(adg he h).of fun Z H Q ⟨μ,g,Zw,Qw,R,S,m,q⟩=>by
 refine ⟨μ,g,Zw,_,R,S,m,fun v H1 ⟨μ1,w,h1,e1,R1,r1,m1⟩=>?_⟩;dsimp only at m1;split at m1
 ·rename_i b eb;refine ⟨b,?_,q _ _ ⟨μ1,h1,e1,R1,m1⟩⟩;cases w with
  | non=>rw [Ak] at r1;subst r1;cases eb;rfl
  | bl c=>rw [Ak] at r1;subst r1;cases eb;rfl
  | int c=>rw [Ak] at r1;subst r1;cases eb;rfl
  | tup ws=>
   rw [Ak] at r1;obtain ⟨p,xs,ev,hs,rs⟩:=r1;subst ev;cases eb;exact .inr<|.inl ⟨xs,hs,by rw [rs.emp]⟩
  | lst ws=>
   rw [Ak] at r1;obtain ⟨p,xs,ev,hs,rs⟩:=r1;subst ev;cases eb;exact .inl ⟨xs,hs.sq,by rw [rs.emp]⟩
  | kls ws=>
   rw [Ak] at r1;obtain ⟨p,xs,ev,hs,rs⟩:=r1;subst ev;cases eb;exact .inl ⟨xs,hs.sq,by rw [rs.emp]⟩
  | loc n=>
   rw [Ak] at r1;obtain ⟨p,ev,hm⟩:=r1;subst ev;unfold Xi at eb;dsimp only at eb;cases ec:h1.c n with
   | none=>rw [ec] at eb;cases eb
   | some cl=>
    rw [ec] at eb;cases cl with
    | lst ws=>
     cases eb;obtain ⟨p',hm',xs,hx,rs⟩:=R1.cel n _ ec;have ep:p'=p:=by rw [hm] at hm';exact (Eu hm').symm
     subst ep;exact .inl ⟨xs,.of hx,by rw [rs.emp]⟩
    | _=>cases eb
  | _=>cases eb
 ·exact m1.elim
abbrev MC:=List W->Gh->WK->Prop
def Dz (r:MC)(ma:MA):ME:=fun Z h Q=>ma Z h fun ws h1=>r ws h1 Q
def aaB (K:Az)(r:List V->Hp->VK->Prop)(mr:MC):Prop:=∀ {H:Hp} {μ : Mu} {h:Gh} {vs:List V} {ws:List W} {Qw:WK} {Q:VK},DA K μ H h->aM K H μ ws vs->mr ws h Qw->(∀ v H',DQ K H μ Qw v H'->Q v H')->r vs H Q
def fD (X:Cx)(f:Mk)(mr:MC):Prop:=∃ r,fL X f r/\aaB X.K r mr
theorem TQ {K:Az}{Z : St}{H:Hp}{Q:VK}{r:List V->Hp->VK->Prop}{mc:MC}{ma:MA}(s:aaB K r mc)(h:tD K (Dz mc ma) Z H Q):tCB r (tDA K ma) Z H Q:=by
 obtain ⟨μ,g,Zw,Qw,R,S,m,q⟩:=h;exact ⟨μ,g,Zw,_,R,S,m,fun vs H1 ⟨μ1,ws,h1,e1,R1,r1,m1⟩=>s R1 r1 m1 fun v H' z=>q _ _<|z.trans e1⟩
theorem aeD {x:Str}{p:Pos}{id:String}{mc:MC}(hc:fD X (.builtin id) mc)(hg:Gl X x)(hm:X.mg x=FX)(hv:RN x=FN (.builtin id))(ha:Jc X (e::es) mr)(hn:x ≠ "__name__":=by decide)(hdb:(x==("__debug__" : Str))=false:=by decide)
  (he:Dh (e::es) X.env=(false,eval e X.env)::Dh es X.env:=by rfl) (hpl:(J9 pos (Dh es X.env)).any (·.1)=false:=by rfl):DE X (.Call (.Name x p) (e::es) [] pos) (Dz mc mr):=by
 obtain ⟨r,c,s⟩:=hc;exact (zbb c hg hm hv ha hn hdb he hpl).of fun _ _ _ h=>TQ s h
theorem zaR {x:Str}{p:Pos}{T:String}{mc:MC}(hc:fD X (.type T) mc)(hg:Gl X x)(hm:X.mg x=FX)(hv:RN x=FN (.type T))(ha:Jc X (e::es) mr)(hn:x ≠ "__name__":=by decide)(hdb:(x==("__debug__" : Str))=false:=by decide)
  (he:Dh (e::es) X.env=(false,eval e X.env)::Dh es X.env:=by rfl) (hpl:(J9 pos (Dh es X.env)).any (·.1)=false:=by rfl):DE X (.Call (.Name x p) (e::es) [] pos) (Dz mc mr):=by
 obtain ⟨r,c,s⟩:=hc;exact (acj c hg hm hv ha hn hdb he hpl).of fun _ _ _ h=>TQ s h
end
variable {mr : MA}{ma mb : ME}{ms : Ar}{c : Prop}
section
variable {X:Cx}{e a b c tg:Expr}{mc:ME}{pos:Pos}{es:List Expr}
def kI (i:Nat):MG:=fun w Z h N=>N (Z.set i (FN w)) h
theorem zbN {i:Nat}(hg:PG X e (Gu i)):DG X e (kI i):=hg.of fun v Z H N ⟨μ,h,Zw,w,Nw,R,S,r,m,k⟩=>k _ _ ⟨μ,Zw.set i (FN w),h,.refl,R,S.set r i,m⟩
def v7:Oz:=fun ws Z h N=>match ws with
 | []=>N Z h
 | _=>False
def bY (g:MG)(r:Oz):Oz:=fun ws Z h N=>match ws with
 | w::ws'=>g w Z h fun Z1 h1=>r ws' Z1 h1 N
 | []=>False
theorem dO:Xk X [] v7:=CZ.of fun vs Z H N ⟨μ,h,Zw,ws,Nw,R,S,r,m,k⟩=>by
 cases ws with
 | nil=>rw [aM] at r;exact ⟨r,k _ _ ⟨μ,Zw,h,.refl,R,S,m⟩⟩
 | cons w ws=>exact m.elim
theorem aQ {g:MG}{u:Oz}(h1:DG X e g)(h2:Xk X es u)(hs:(Jy (e::es) X.env).map (·.2)=assign e X.env::(Jy es X.env).map (·.2):=by rfl):Xk X (e::es) (bY g u):=(tE h1 h2 hs).of fun vs Z H N ⟨μ,h,Zw,ws,Nw,R,S,r,m,k⟩=>by
 cases ws with
 | nil=>exact m.elim
 | cons w ws=>
  rw [aM] at r;obtain ⟨v,vr,ev,r1,r2⟩:=r;refine ⟨v,vr,ev,μ,h,Zw,w,_,R,S,r1,m,fun Z1 H1 ⟨μ1,Zw1,h1,e1,R1,S1,m1⟩=>?_⟩;exact ⟨μ1,h1,Zw1,ws,_,R1,S1,e1.s r2,m1,fun Z2 H2 z=>k _ _<|z.trans e1⟩
def aaE (n:Nat)(g:Oz):MG:=fun w Z h N=>match w with
 | .tup ws=>Hz (KJ ws.length n) (g ws Z h N) False
 | _=>False
abbrev Oi:=W->W->W->Gh->(Gh->Prop)->Prop
def yC (K:Az)(t:Qn)(ms:Oi):Prop:=∀ {H:Hp} {μ : Mu} {h:Gh} {o i v:V} {wo wi w:W} {Nw:Gh->Prop} {N:Hp->Prop},DA K μ H h->Ak K H μ wo o->Ak K H μ wi i->Ak K H μ w v->ms wo wi w h Nw ->
 (∀ H',(∃ μ' h',GP K H μ H' μ'/\DA K μ' H' h'/\Nw h')->N H')->t o i v H N
def J5 (mo mi:ME)(ms:Oi):MG:=fun w Z h N=>mo Z h fun o h1=>mi Z h1 fun i h2=>ms o i w h2 fun h3=>N Z h3
theorem p7 {o i:Expr}{mo mi:ME}{t:Qn}{ms:Oi}(ho:DE X o mo)(hi:DE X i mi)(hs:SN X t)(hm:yC X.K t ms)
  (ha:∀ v,assign (.Subscript o i pos) X.env v=(do
   let ov <-holding [v] (eval o X.env)
   let iv <-holding [v,ov] (eval i X.env)
   standAt pos
   holding [v,ov,iv] (setItem ov iv v)
   release [v,ov,iv] []):=by intro _;rfl):DG X (.Subscript o i pos) (J5 mo mi ms):=
 (afy ho hi hs ha).of fun v Z H N ⟨μ,h,Zw,w,Nw,R,S,r,m,k⟩=>by
  refine ⟨μ,h,Zw,_,R,S,m,fun o H1 ⟨μ1,wo,h1,e1,R1,r1,m1⟩=>?_⟩;refine ⟨μ1,h1,Zw,_,R1,S.ext e1,m1,fun i H2 ⟨μ2,wi,h2,e2,R2,r2,m2⟩=>?_⟩;refine hm R2 (e2.r _ _ r1) r2 (e2.r _ _<|e1.r _ _ r) m2 fun H3 ⟨μ3,h3,e3,R3,m3⟩=>?_;exact k _ _ ⟨μ3,Zw,h3,(e1.trans e2).trans e3,R3,S.ext<|(e1.trans e2).trans e3,m3⟩
def Je:Oi:=fun o i w h N=>match o,i with
 | .loc n,.int k=>(match h.c n with
  | some (.lst ws)=>(match Pa ws.length k with
   | some j=>N (h.set n (.lst (ws.set j w)))
   | none=>False)
  | _=>False)
 | _,_=>False
theorem DA.lstAt {K:Az}{H:Hp}{h:Gh}{n:Nat}(R:DA K μ H h)(e:h.c n=FN (.lst ws)):∃ p xs,μ.f n=FN p/\H p=FN (.lst xs)/\aM K H μ ws xs:=by
 obtain ⟨p,e1,xs,e2,r⟩:=R.cel n _ e;exact ⟨p,xs,e1,e2,r⟩
theorem zf {K:Az}:yC K Ss Je:=by
 intro H μ h o i v wo wi w Nw N R ro ri r m k;cases wo with
 | loc n=>
  cases wi with
  | int z=>
   rw [Ak] at ro;rw [Ak] at ri;obtain ⟨p,eo,hp⟩:=ro;unfold Je at m;dsimp only at m;cases ec:h.c n with
   | none=>rw [ec] at m;exact m.elim
   | some cl=>
    rw [ec] at m;cases cl with
    | lst ws=>
     dsimp only at m;obtain ⟨p',xs,hp',hx,rs⟩:=R.lstAt ec;have ep:p'=p:=by rw [hp] at hp';exact (Eu hp').symm
     subst ep;cases ej:Pa ws.length z with
     | none=>rw [ej] at m;exact m.elim
     | some j=>
      rw [ej] at m;refine ⟨p',xs,z,j,eo,ri,hx,by rw [<-rs.len];exact ej,k _ ⟨μ,_,(Ex.write R hp).ext,R.write hp trivial ?_,m⟩⟩;exact ⟨_,bA,aM.set ((Ex.write R hp).ext.r _ _ r) j<|(Ex.write R hp).ext.s rs⟩
    | _=>exact m.elim
  | _=>exact m.elim
 | _=>exact m.elim
variable {st:Stmt}{rest body:List Stmt}{m1 m2:MS}{t:MT}
def dB:MS:=fun D Z h=>D.nx Z h
def bw (m u:MS):MS:=fun D Z h=>m { D with nx:=u D } Z h
theorem bF:Rv X [] dB:=adl.of fun D Z H ⟨μ,h,Zw,Dw,R,S,m,k⟩=>k.nx _ _ ⟨μ,Zw,h,.refl,R,S,m⟩
theorem aG (h1:DS X st m1):Rv X [st] m1:=zce h1
theorem au (h1:DS X st m1)(h2:Rv X rest m2):Rv X (st::rest) (bw m1 m2):=(aeE h1 h2).of fun D Z H ⟨μ,h,Zw,Dw,R,S,m,k⟩=>by
 refine ⟨μ,h,Zw,_,R,S,m,?_,k.rt,k.bk,k.ct⟩;intro Z' H' ⟨μ1,Zw1,h1,e1,R1,S1,m1⟩;exact ⟨μ1,h1,Zw1,Dw,R1,S1,m1,k.trans e1⟩
def xT (m:ME):MS:=fun D Z h=>m Z h fun _ h1=>D.nx Z h1
theorem nZ (he:DE X e ma)(hs:swapsWith e FX pos.line X.env=pure false:=by rfl):DS X (.Expr e pos) (xT ma):=(zcq he hs).of fun D Z H ⟨μ,h,Zw,Dw,R,S,m,k⟩=>
 ⟨μ,h,Zw,_,R,S,m,fun v H1 ⟨μ1,w,h1,e1,R1,_,m1⟩=>k.nx _ _ ⟨μ1,Zw,h1,e1,R1,S.ext e1,m1⟩⟩
def cF (m:ME):MS:=fun D Z h=>m Z h D.rt
theorem aO (he:DE X e ma):DS X (.Return (FN e) pos) (cF ma):=(afR he).of fun D Z H ⟨μ,h,Zw,Dw,R,S,m,k⟩=>⟨μ,h,Zw,_,R,S,m,k.rt⟩
def lq (t:MT)(a b:MS):MS:=fun D Z h=>t Z h fun c h1=>br c (a D Z h1) (b D Z h1)
theorem d8 {a b:List Stmt}(hc:DT X c t)(ha:Rv X a m1)(hb:Rv X b m2):DS X (.If c a b pos) (lq t m1 m2):=(Zj hc ha hb).of fun D Z H ⟨μ,h,Zw,Dw,R,S,m,k⟩=>by
 refine ⟨μ,h,Zw,_,R,S,m,fun b H1 ⟨μ1,h1,e1,R1,q⟩=>?_⟩;cases b with
 | true=>rw [if_pos rfl];exact ⟨μ1,h1,Zw,Dw,R1,S.ext e1,q.1 rfl,k.trans e1⟩
 | false=>rw [if_neg KY];exact ⟨μ1,h1,Zw,Dw,R1,S.ext e1,q.2 rfl,k.trans e1⟩
def uR (x:Str)(E:Cd):MS:=fun _ _ h=>E ⟨x,[]⟩ h
theorem tZ {x:Str}:DS X st (uR x EF):=acu.of fun _ _ _ ⟨_,_,_,_,_,_,m,_⟩=>m.elim
def bK (m:ME)(g:MG):MS:=fun D Z h=>m Z h fun w h1=>g w Z h1 D.nx
theorem aeR {K:Az}{Z : St}{H:Hp}{D:Ends}{m:ME}{g:MG}(q:tDS K (bK m g) D Z H):Xf (tD K m) (tDG K g) D Z H:=by
 obtain ⟨μ,h,Zw,Dw,R,S,m,k⟩:=q;exact ⟨μ,h,Zw,_,R,S,m,fun v H1 ⟨μ1,w,h1,e1,R1,r1,m1⟩=>⟨μ1,h1,Zw,w,_,R1,S.ext e1,r1,m1,fun Z' H' z=>k.nx _ _<|z.trans e1⟩⟩
theorem gw {g:MG}(he:DE X e ma)(hg:DG X tg g)(hs:swapsWithSole [tg] e pos.line X.env=pure false:=by rfl)(hw:swappedStores [tg] e X.env=pure FX:=by rfl)
  (h1:(Jy [tg] X.env).map (·.2)=[assign tg X.env]:=by rfl):DS X (.Assign [tg] e pos) (bK ma g):=(aeo he hg hs hw h1).of fun _ _ _ q=>aeR q
theorem LQ {K:Az}{Z : St}{H:Hp}{D:Ends}{m:ME}{t:TE}{i:Nat}(ht:∀ Z H Q,tD K m Z H Q->t Z H Q)(q:tDS K (bK m (kI i)) D Z H):Xf t (Gu i) D Z H:=by
 obtain ⟨μ,h,Zw,Dw,R,S,m,k⟩:=q;exact ht _ _ _ ⟨μ,h,Zw,_,R,S,m,fun v H1 ⟨μ1,w,h1,e1,R1,r1,m1⟩=>k.nx _ _ ⟨μ1,Zw.set i<|some w,h1,e1,R1,(S.ext e1).set r1 i,m1⟩⟩
theorem Wy {i:Nat}{x:Str}{pos':Pos}(hN:X.N.Nodup)(hi:X.N[i]?=FN x)(hx:Qy X.env.scope x)(he:DE X e ma)(hs:swapsWith e (FN (.Name x pos')) pos.line X.env=pure false:=by rfl)
  (hf:X.fn x=true\/X.env.scope.names.lookup x=FN .local:=by first | exact .inl rfl | exact .inr rfl | assumption) :
  DS X (.Assign [.Name x pos'] e pos) (bK ma (kI i)):=(Ww hN hi hx he hs hf).of fun _ _ _ q=>LQ (fun _ _ _ z=>z) q
def abU (i j:Nat)(ta:MA):MS:=fun D Z h=>ta Z h fun ws h1=>match ws with
 | [v,w]=>D.nx ((Z.set i (FN v)).set j (FN w)) h1
 | _=>False
structure Src where
 ws:List W
 cell:Option (Nat×List W)
def Src.chk (s:Src)(h:Gh):Prop:=match s.cell with
 | none=>True
 | some n=>h.c n.1=FN (.lst n.2)
abbrev MI:=Sw->Gh->(Src->Gh->Prop)->Prop
def R6 (K:Az)(J:It)(src:Src)(H:Hp)(μ : Mu):Prop:=∀ {H2:Hp} {μ2:Mu} {h2:Gh} {i:Nat},GP K H μ H2 μ2->DA K μ2 H2 h2->src.chk h2 ->
 (∀ w,src.ws[i]?=FN w->J.go i H2/\∀ x H3,J.yld i H2 x H3->∃ μ3,GP K H2 μ2 H3 μ3/\DA K μ3 H3 h2/\Ak K H3 μ3 w x)/\(src.ws.length<=i->J.stop i H2)
def acF (K:Az)(H:Hp)(μ : Mu)(Rw:Src->Gh->Prop):It->Hp->Prop:=fun J H'=>∃ μ' src h',GP K H μ H' μ'/\DA K μ' H' h'/\R6 K J src H' μ'/\Rw src h'
def tDI (K:Az)(mi:MI):TI:=fun Z H R=>∃ μ h Zw Rw,DA K μ H h/\Slots K H μ Zw Z/\mi Zw h Rw/\∀ J H',acF K H μ Rw J H'->R J H'
abbrev Qz (X:Cx)(tg iter:Expr)(mi:MI):Prop:=PI X tg iter (tDI X.K mi)
theorem PI.of {iter:Expr}{t t':TI}(h:PI X tg iter t)(k:∀ Z H R,t' Z H R->t Z H R):PI X tg iter t':=fun ahJ s Z H R I q=>h ahJ s Z H R I (k Z H R q)
def dX (h:Gh):W->Option (List W)
 | .lst ws=>FN ws
 | .kls ws=>FN ws
 | .loc n=>(match h.c n with
  | some (.lst ws)=>FN ws
  | _=>FX)
 | _=>FX
def view (h:Gh):W->Option (List W)
 | .tup ws=>FN ws
 | .lst ws=>FN ws
 | .kls ws=>FN ws
 | .loc n=>dX h (.loc n)
 | _=>FX
def T6 (h:Gh):W->Option Src
 | .tup ws=>FN ⟨ws,FX⟩
 | .lst ws=>FN ⟨ws,FX⟩
 | .kls ws=>FN ⟨ws,FX⟩
 | .loc n=>(match h.c n with
  | some (.lst ws)=>FN ⟨ws,FN (n,ws)⟩
  | _=>FX)
 | _=>FX
theorem aeJ {K:Az}{H:Hp}{p:Addr}(r:Ak K H μ (.lst ws) (.ref p)):R6 K (Itl K p) ⟨ws,FX⟩ H μ:=by
 intro H2 μ2 h2 i e R2 _;have r2:=e.r _ _ r;rw [Ak] at r2;obtain ⟨q,xs,eq,hf,rs⟩:=r2;cases eq;refine ⟨fun w ew=>?_,fun hl=>⟨xs,hf.sq,by rw [<-rs.len];exact hl⟩⟩;obtain ⟨v,ev,rv⟩:=rs.get ew;refine ⟨⟨xs,v,hf.sq,ev⟩,fun x H3 ⟨e3,y⟩=>?_⟩;subst e3;have:=y xs hf.sq
 rw [ev] at this;cases this;exact ⟨μ2,.refl,R2,rv⟩
theorem afk {K:Az}{H:Hp}{p:Addr}(r:Ak K H μ (.kls ws) (.ref p)):R6 K (Itl K p) ⟨ws,FX⟩ H μ:=by
 intro H2 μ2 h2 i e R2 _;have r2:=e.r _ _ r;rw [Ak] at r2;obtain ⟨q,xs,eq,hf,rs⟩:=r2;cases eq;refine ⟨fun w ew=>?_,fun hl=>⟨xs,hf.sq,by rw [<-rs.len];exact hl⟩⟩;obtain ⟨v,ev,rv⟩:=rs.get ew;refine ⟨⟨xs,v,hf.sq,ev⟩,fun x H3 ⟨e3,y⟩=>?_⟩;subst e3;have:=y xs hf.sq
 rw [ev] at this;cases this;exact ⟨μ2,.refl,R2,rv⟩
theorem zbA {K:Az}{H:Hp}{p:Addr}{n:Nat}(r:Ak K H μ (.loc n) (.ref p)):R6 K (Itl K p) ⟨ws,FN (n,ws)⟩ H μ:=by
 intro H2 μ2 h2 i e R2 ck;have r2:=e.r _ _ r;rw [Ak] at r2;obtain ⟨q,eq,hm⟩:=r2;cases eq;obtain ⟨p',xs,hm',hx,rs⟩:=R2.lstAt (show h2.c n=FN (.lst ws) from ck);have ep:p'=p:=by rw [hm] at hm';exact (Eu hm').symm
 subst ep;refine ⟨fun w ew=>?_,fun hl=>⟨xs,.of hx,by rw [<-rs.len];exact hl⟩⟩;obtain ⟨v,ev,rv⟩:=rs.get ew;refine ⟨⟨xs,v,.of hx,ev⟩,fun x H3 ⟨e3,y⟩=>?_⟩;subst e3;have:=y xs (.of hx)
 rw [ev] at this;cases this;exact ⟨μ2,.refl,R2,rv⟩
theorem zbW {K:Az}{H:Hp}{p:Addr}(r:Ak K H μ (.tup ws) (.ref p)):R6 K (Itt K p) ⟨ws,FX⟩ H μ:=by
 intro H2 μ2 h2 i e R2 _;have r2:=e.r _ _ r;rw [Ak] at r2;obtain ⟨q,xs,eq,hf,rs⟩:=r2;cases eq;refine ⟨fun w ew=>?_,fun hl=>⟨xs,hf,by rw [<-rs.len];exact hl⟩⟩;obtain ⟨v,ev,rv⟩:=rs.get ew;refine ⟨⟨xs,v,hf,ev⟩,fun x H3 ⟨e3,y⟩=>?_⟩;subst e3;have:=y xs hf
 rw [ev] at this;cases this;exact ⟨μ2,.refl,R2,rv⟩
def abL (K:Az)(tl:TE):TI:=fun Z H R=>tl Z H fun x H1=>(∃ a,x=.ref a/\(∃ xs,Ij K H1 a xs)/\R (Itl K a) H1)\/(∃ a,x=.ref a/\(∃ xs,Ew K H1 a xs)/\R (Itt K a) H1)
theorem afg {l:Expr}{tl:TE}(hl:PE X l tl):PI X tg l (abL X.K tl):=by
 intro ahJ s Z H R I h;refine Ei (hl ahJ s Z H _ I h) fun v s1 ⟨x,H1,I1,r1,q1⟩=>?_;rcases q1 with ⟨a,e,⟨xs,hq⟩,q⟩ | ⟨a,e,⟨xs,hq⟩,q⟩
 ·subst e;cases r1;obtain ⟨its,rv,p,hz⟩:=I1.list hq;refine wpAny_pyIter_list p.isList ?_;refine ⟨s1.heap.objs.size,[s1.heap.objs.size],_,_,H1,rfl,I1.kept (t':=s1.toks) fun b o e=>Eo _ e,zaJ a _,⟨_,Ip _ rfl,rfl,rfl⟩,fun b hb=>?_,q⟩;have e:b=s1.heap.objs.size:=by simpa using hb
  subst e;exact I1.fpOk (Bp _)<|I1.hok.fresh<|Bp _
 ·subst e;cases r1;obtain ⟨its,rv,p,hz⟩:=I1.tuple hq;refine wpAny_pyIter_tuple (show s1.heap.IsTuple a its.toArray from p) ?_;refine ⟨s1.heap.objs.size,[s1.heap.objs.size],_,_,H1,rfl,I1.kept (t':=s1.toks) fun b o e=>Eo _ e,zan a _,⟨_,Ip _ rfl,rfl,rfl⟩,fun b hb=>?_,q⟩;have e:b=s1.heap.objs.size:=by simpa using hb
  subst e;exact I1.fpOk (Bp _)<|I1.hok.fresh<|Bp _
def Hx (m:ME):MI:=fun Z h R=>m Z h fun w h1=>match T6 h1 w with
 | some s=>R s h1
 | none=>False
theorem cj {l:Expr}(hl:DE X l ma):Qz X tg l (Hx ma):=PI.of (afg hl) fun Z H Q ⟨μ,h,Zw,Rw,R,S,m,k⟩=>by
 refine ⟨μ,h,Zw,_,R,S,m,fun v H1 ⟨μ1,w,h1,e1,R1,r1,m1⟩=>?_⟩;cases w with
 | tup ws=>
  have r1':=r1;rw [Ak] at r1;obtain ⟨p,xs,ev,hs,_⟩:=r1;subst ev;exact .inr ⟨p,rfl,⟨xs,hs⟩,k _ _ ⟨μ1,⟨ws,FX⟩,h1,e1,R1,zbW r1',m1⟩⟩
 | lst ws=>
  have r1':=r1;rw [Ak] at r1;obtain ⟨p,xs,ev,hs,_⟩:=r1;subst ev;exact .inl ⟨p,rfl,⟨xs,hs.sq⟩,k _ _ ⟨μ1,⟨ws,FX⟩,h1,e1,R1,aeJ r1',m1⟩⟩
 | kls ws=>
  have r1':=r1;rw [Ak] at r1;obtain ⟨p,xs,ev,hs,_⟩:=r1;subst ev;exact .inl ⟨p,rfl,⟨xs,hs.sq⟩,k _ _ ⟨μ1,⟨ws,FX⟩,h1,e1,R1,afk r1',m1⟩⟩
 | loc n=>
  have r1':=r1;rw [Ak] at r1;obtain ⟨p,ev,hm⟩:=r1;subst ev;unfold T6 at m1;dsimp only at m1;cases ec:h1.c n with
  | none=>rw [ec] at m1;exact m1.elim
  | some cl=>
   rw [ec] at m1;cases cl with
   | lst ws=>
    obtain ⟨p',xs,hm',hx,rs⟩:=R1.lstAt ec;have ep:p'=p:=by rw [hm] at hm';exact (Eu hm').symm
    subst ep;exact .inl ⟨p',rfl,⟨xs,.of hx⟩,k _ _ ⟨μ1,⟨ws,FN (n,ws)⟩,h1,e1,R1,zbA r1',m1⟩⟩
   | _=>exact m1.elim
 | _=>exact m1.elim
def wg (lo:Int)(n:Nat):List W:=(Oo n).map fun (k:Nat)=>.int (lo+(k:Int))
theorem MF {K:Az}{H:Hp}{lo:Int}{n:Nat}:R6 K (Itr lo n) ⟨wg lo n,FX⟩ H μ:=by
 intro H2 μ2 h2 i e R2 _;refine ⟨fun w ew=>?_,fun hl=>?_⟩
 ·have hi:i<n:=by
   have:=(K5.mp ew).1
   simpa [wg] using this
  have ew':w=.int (lo+(i:Int)):=by
   unfold wg at ew;rw [Fv,List.getElem?_range hi] at ew;exact (Eu ew).symm
  subst ew';refine ⟨hi,fun x H3 ⟨e3,y⟩=>?_⟩;subst e3;exact ⟨μ2,.refl,R2,by rw [Ak];exact y⟩
 ·have:n<=i:=by simpa [wg] using hl
  exact this
def uP (j:Int)(P:Prop):Prop:=Hz (decide (-1000<=j)&&decide (j<=1000)) P ((-(2^62)<=j/\j<2^62)/\P)
theorem uP.ok {j:Int}{P:Prop}(h:uP j P):(-(2^62)<=j/\j<2^62)/\P:=by
 unfold uP at h;cases e:(decide (-1000<=j)&&decide (j<=1000)) with
 | true=>
  rw [e] at h;rw [Nr,decide_eq_true_iff,decide_eq_true_iff] at e;exact ⟨⟨by lia,by lia⟩,h⟩
 | false=>rw [e] at h;exact h
theorem uP.mk {j:Int}{P:Prop}(h1:-(2^62)<=j)(h2:j<2^62)(h:P):uP j P:=by
 unfold uP;cases e:(decide (-1000<=j)&&decide (j<=1000)) with
 | true=>exact h
 | false=>exact ⟨⟨h1,h2⟩,h⟩
def iQ (ma:MA):MI:=fun Z h R=>ma Z h fun ws h1=>match ws with
 | [.int j]=>uP j (R ⟨wg 0 j.toNat,FX⟩ h1)
 | _=>False
def Qm (ma:MA):MI:=fun Z h R=>ma Z h fun ws h1=>match ws with
 | [.int i,.int j]=>uP i (uP j (R ⟨wg i (j - i).toNat,FX⟩ h1))
 | _=>False
theorem afq {a:Expr}{p pos:Pos}(hg:Gl X "range")(hm:X.mg "range" = FX)(ha:Jc X [a] mr)(hs:Dh [a] X.env=[(false,eval a X.env)]:=by rfl):Qz X tg (.Call (.Name "range" p) [a] [] pos) (iQ mr):=
 PI.of (zay hg hm ha hs) fun Z H Q ⟨μ,h,Zw,Rw,R,S,m,k⟩=>by
  refine ⟨μ,h,Zw,_,R,S,m,fun vs H1 ⟨μ1,ws,h1,e1,R1,r1,m1⟩=>?_⟩;dsimp only at m1;split at m1
  ·rename_i j;rw [aM] at r1;obtain ⟨v,vr,ev,ra,r1⟩:=r1;rw [aM] at r1;rw [Ak] at ra;subst ev r1 ra;exact ⟨j,rfl,m1.ok.1.1,m1.ok.1.2,k _ _ ⟨μ1,_,h1,e1,R1,MF,m1.ok.2⟩⟩
  ·exact m1.elim
theorem zao {a b:Expr}{p pos:Pos}(hg:Gl X "range")(hm:X.mg "range" = FX)(ha:Jc X [a,b] mr)(hs:Dh [a,b] X.env=[(false,eval a X.env),(false,eval b X.env)]:=by rfl)(hs2:Dh [b] X.env=[(false,eval b X.env)]:=by rfl):
  Qz X tg (.Call (.Name "range" p) [a,b] [] pos) (Qm mr):=
 PI.of (zaN hg hm ha hs hs2) fun Z H Q ⟨μ,h,Zw,Rw,R,S,m,k⟩=>by
  refine ⟨μ,h,Zw,_,R,S,m,fun vs H1 ⟨μ1,ws,h1,e1,R1,r1,m1⟩=>?_⟩;dsimp only at m1;split at m1
  ·rename_i i j;rw [aM] at r1;obtain ⟨v,vr,ev,ra,r1⟩:=r1;rw [aM] at r1;obtain ⟨v',vr',ev',rb,r1⟩:=r1;rw [aM] at r1;rw [Ak] at ra rb;subst ev ev' r1 ra rb;exact ⟨i,j,rfl,⟨m1.ok.1.1,m1.ok.1.2,m1.ok.2.ok.1.1,m1.ok.2.ok.1.2⟩,k _ _ ⟨μ1,_,h1,e1,R1,MF,m1.ok.2.ok.2⟩⟩
  ·exact m1.elim
def Src.go (s:Src)(h:Gh)(P:Prop):Prop:=match s.cell with
 | none=>P
 | some n=>h.c n.1=FN (.lst n.2)/\P
theorem Src.go_ok {s:Src}{h:Gh}{P:Prop}(x:s.go h P):s.chk h/\P:=by
 unfold Src.go at x;unfold Src.chk;cases e:s.cell with
 | none=>rw [e] at x;exact ⟨trivial,x⟩
 | some n=>rw [e] at x;exact x
def iB (s:Src)(g:MG)(b:MS)(D:bV):List W->Sw->Gh->Prop
 | [],Z,h=>s.go h (D.nx Z h)
 | w::r,Z,h=>s.go h (g w Z h fun Z1 h1=>b { D with nx:=iB s g b D r,ct:=iB s g b D r,bk:=D.nx } Z1 h1)
def oN (mi:MI)(g:MG)(b:MS):MS:=fun D Z h=>mi Z h fun s h1=>iB s g b D s.ws Z h1
theorem eE {iter:Expr}{body:List Stmt}{mi:MI}{g:MG}{mb0:MS}{pos:Pos}(hp:aeG (Ax X.prog X.w) X.A X.env X.xe)(hc:X.calm=true)(hi:Qz X tg iter mi)(hg:DG X tg g)(hb:Rv X body mb0)
  (hs:∀ x,U8 iter X.env x=pure x:=by intro _;rfl):DS X (.For tg iter body [] pos) (oN mi g mb0):=(afT hp hc hi hg hb hs).of fun D Z H ⟨μ,h,Zw,Dw,R,S,m,k⟩=>by
 refine ⟨μ,h,Zw,_,R,S,m,fun J H1 ⟨μ1,src,h1,e1,R1,ok,m1⟩=>?_⟩;refine ⟨fun i n Z' H'=>n=src.ws.length - i/\i<=src.ws.length/\DN X.K H1 μ1 (iB src g mb0 Dw<|src.ws.drop i) Z' H',⟨src.ws.length,by simp,Ja _,μ1,Zw,h1,.refl,R1,S.ext e1,by rw [List.drop_zero];exact m1⟩,?_⟩;rintro i n Z2 H2 ⟨hn,hle,μ2,Zw2,h2,e2,R2,S2,m2⟩;by_cases hlt:i<src.ws.length
 ·rw [Us hlt] at m2;obtain ⟨ck,m2⟩:=Src.go_ok m2;obtain ⟨hgo,hy⟩:=(ok e2 R2 ck).1 src.ws[i] (Gz hlt);refine .inr ⟨hgo,fun Z' H'=>DN X.K H2 μ2 (iB src g mb0 Dw<|src.ws.drop<|i+1) Z' H',fun Z' H' z=>⟨src.ws.length - (i+1),by lia,rfl,hlt,z.trans e2⟩,fun x H3 y=>?_⟩;obtain ⟨μ3,e3,R3,rx⟩:=hy x H3 y;refine ⟨μ3,h2,Zw2,src.ws[i],_,R3,S2.ext e3,rx,m2,fun Z4 H4 ⟨μ4,Zw4,h4,e4,R4,S4,m4⟩=>?_⟩;have e24:=e3.trans e4;have e14:=(e1.trans e2).trans e24;exact ⟨μ4,h4,Zw4,_,R4,S4,m4,fun Z' H' z=>z.trans e24,fun v H' z=>k.rt _ _<|z.trans e14,fun Z' H' z=>k.nx _ _<|z.trans e14,fun Z' H' z=>z.trans e24⟩
 ·have ei:i=src.ws.length:=by lia
  subst ei;rw [List.drop_length] at m2;obtain ⟨ck,m2⟩:=Src.go_ok m2;exact .inl ⟨(ok e2 R2 ck).2 (Bp _),k.nx _ _ ⟨μ2,Zw2,h2,e1.trans e2,R2,S2,m2⟩⟩
def lg (ix:List Nat)(Z : Sw):Sw:=ix.map fun i=>(Z[i]?).getD FX
theorem Slots.blk {K:Az}{H:Hp}{Zw:Sw}{Z : St}(S:Slots K H μ Zw Z):∀ {ws:List W} {vs:List V},aM K H μ ws vs->Slots K H μ (ws.map FN++lg ix Zw) (vs.map FN++Aq ix Z):=by
 intro ws vs r;have hl:=r.len;refine ⟨by simp [lg,Aq,hl],fun i u q=>?_⟩;by_cases hi:i<ws.length
 ·rw [Ow (by simpa using hi),Fv] at q;have q':ws[i]?=FN u:=by
   cases e:ws[i]? with
   | none=>rw [e] at q;cases q
   | some a=>rw [e] at q;simpa using q
  obtain ⟨v,hv,rv⟩:=r.get q';refine ⟨v,?_,rv⟩;rw [Ow (by rw [Bx];lia),Fv,hv];rfl
 ·rw [OJ (by simpa using hi),Bx] at q;rw [OJ (by rw [Bx];lia),Bx,<-hl];generalize i - ws.length=i at q |-
  unfold lg at q;unfold Aq;rw [Fv] at q |-
  cases e:ix[i]? with
  | none=>rw [e] at q;cases q
  | some j=>
   rw [e] at q;cases e2:Zw[j]? with
   | none=>simp [e2] at q
   | some o=>
    have eo:o=FN u:=by simpa [e2] using q
    subst eo;obtain ⟨v',h1,h2⟩:=S.get j u e2;exact ⟨v',by simp [h1],h2⟩
def jO:MT:=fun _ h Q=>Q true h
def qb (s:Src)(own:W->Option (List W))(ix:List Nat)(tt:MT)(te:ME)(Z : Sw)(Q:WK):List W->List W->Gh->Prop
 | [],acc,h=>s.go h (Q (.lst acc) h)
 | w::r,acc,h=>s.go h (match own w with
  | some vs=>tt (vs.map FN++lg ix Z) h fun c h1=>Hz c (te (vs.map FN++lg ix Z) h1 fun v h2=>qb s own ix tt te Z Q r (acc++[v]) h2) (qb s own ix tt te Z Q r acc h1)
  | none=>False)
def GK (own:W->Option (List W))(ix:List Nat)(mi:MI)(tt:MT)(te:ME):ME:=fun Z h Q=>mi Z h fun s h1=>fG s.ws.length (qb s own ix tt te Z Q s.ws [] h1)
def CQ (K:Az)(n:Nat)(own:V->Hp->List V->Prop)(ow:W->Option (List W)):Prop:=∀ {H:Hp} {μ : Mu} {w:W} {v:V} {ws:List W},Ak K H μ w v->ow w=FN ws->∃ vs,own v H vs/\vs.length=n/\aM K H μ ws vs
def Ik (w:W):Option (List W):=FN [w]
def Rz (n:Nat)(w:W):Option (List W):=match w with
 | .tup ws=>(match KJ ws.length n with
  | true=>FN ws
  | false=>FX)
 | _=>FX
def ov1:V->Hp->List V->Prop:=fun v _ vs=>vs=[v]
def ovT (K:Az):V->Hp->List V->Prop:=fun v H vs=>∃ a,v=.ref a/\Ew K H a vs
theorem BL {K:Az}:CQ K 1 ov1 Ik:=by
 intro H μ w v ws r e;cases (show FN [w]=FN ws from e)
 exact ⟨[v],rfl,rfl,.one r⟩
theorem Du {K:Az}{n:Nat}:CQ K n (ovT K) (Rz n):=by
 intro H μ w v ws r e;cases w with
 | tup us=>
  unfold Rz at e;dsimp only at e;cases en:KJ us.length n with
  | false=>rw [en] at e;cases e
  | true=>
   rw [en] at e;cases (show FN us=FN ws from e)
   rw [Ak] at r;obtain ⟨p,xs,ev,hs,rs⟩:=r;exact ⟨xs,⟨p,ev,hs⟩,by rw [<-rs.len];exact Vs en,rs⟩
 | _=>cases e
abbrev U0 (X:Cx)(ifs:List Expr)(m:MT):Prop:=R9 X ifs (tDT X.K m)
theorem gM:U0 X [] jO:=fun ahJ s Z H Q I ⟨μ,h,Zw,Qw,R,S,m,k⟩=>zcr ahJ s Z H Q I (k _ _ ⟨μ,h,.refl,R,m⟩)
theorem oJ (h:DT X c t):U0 X [c] t:=adi h
theorem WQ {K:Az}{Z : St}{H:Hp}{Q:VK}{n:Nat}{ow:W->Option (List W)}{mi:MI}{tt:MT}{te:ME}(oo:CQ K n own ow)(q:tD K (GK ow ix mi tt te) Z H Q):tLC n own ix (tDI K mi) (tDT K tt) (tD K te) Z H Q:=by
 obtain ⟨μ,h,Zw,Qw,R,S,m,k⟩:=q;refine ⟨μ,h,Zw,_,R,S,m,fun J H1 ⟨μ1,src,h1,e1,R1,ok,hz0⟩=>?_⟩;obtain ⟨hz,m1⟩:=hz0.ok;intro D hD;have nD:=R1.nohid hD;have hD1:GP K H1 μ1 (Dd H1 D (.lst [])) (μ1.hide D):=GP.hide hD;refine ⟨fun i n ys H'=>n=src.ws.length - i/\i<=src.ws.length/\ys.length<=i/\H' D=FN (.lst ys)/\∃ μ' acc h',GP K H1 μ1 H' μ'/\DA K μ' H' h'/\μ'.hid D/\aM K H' μ' acc ys/\qb src ow ix tt te Zw Qw (src.ws.drop i) acc h',
  ⟨src.ws.length,by simp,Ja _,Bp _,bA,μ1.hide D,[],h1,hD1,R1.hide hD,.inl rfl,.nil,by rw [List.drop_zero];exact m1⟩,?_⟩
 rintro i n' ys H2 ⟨hn,hle,hys,hH2,μ2,acc,h2,e2,R2,hid2,ra,m2⟩ _;by_cases hlt:i<src.ws.length
 ·rw [Us hlt] at m2;obtain ⟨ck,m2⟩:=Src.go_ok m2;obtain ⟨hgo,hy⟩:=(ok e2 R2 ck).1 src.ws[i] (Gz hlt);refine .inr ⟨hgo,by lia,fun x H3 y=>?_⟩;obtain ⟨μ3,e3,R3,rx⟩:=hy x H3 y;have e13:=e2.trans e3;cases eo:ow src.ws[i] with
  | none=>rw [eo] at m2;exact m2.elim
  | some us=>
   rw [eo] at m2;obtain ⟨vs,hov,hvl,rvs⟩:=oo rx eo;have S3:=(S.ext (e1.trans e13)).blk (ix:=ix) rvs;refine ⟨vs,hov,hvl,μ3,h2,_,_,R3,S3,m2,fun b H4 ⟨μ4,h4,e4,R4,m4⟩=>?_⟩;have e24:=e3.trans e4;obtain ⟨hid4,hH4⟩:=e24.o D _ hid2 hH2;cases b with
   | false=>
    dsimp only;rw [if_neg KY];exact ⟨hH4,src.ws.length - (i+1),by lia,rfl,hlt,by lia,hH4,μ4,acc,h4,e2.trans e24,R4,hid4,e24.s ra,m4⟩
   | true=>
    dsimp only;rw [if_pos rfl];refine ⟨μ4,h4,_,_,R4,S3.ext e4,m4,fun v H5 ⟨μ5,w5,h5,e5,R5,r5,m5⟩=>?_⟩;have e25:=e24.trans e5;obtain ⟨hid5,hH5⟩:=e25.o D _ hid2 hH2;have g:=R8.grow (ys:=ys++[v]) R5 hid5;have rs:aM K (Dd H5 D (.lst (ys++[v]))) μ5 (acc++[w5]) (ys++[v]):=aM.ex (K7.grow R5 hid5) (aM.append (e25.s ra) (aM.one r5));exact ⟨hH5,src.ws.length - (i+1),by lia,rfl,hlt,by rw [JG];simp;lia,bA,μ5,acc++[w5],h5,(e2.trans e25).x nD g,R5.grow hid5,hid5,rs,m5⟩
 ·have ei:i=src.ws.length:=by lia
  subst ei;rw [List.drop_length] at m2;obtain ⟨ck,m2⟩:=Src.go_ok m2;exact .inl ⟨(ok e2 R2 ck).2 (Bp _),k _ _ ⟨μ2.unhide D,.lst acc,h2,e1.trans<|e2.x nD .unhide,R2.unhide,Ak.built R2 hid2 hH2 ra,m2⟩⟩
variable {scope:Scope}{x:Str}{xs:List Str}{iter:Expr}{px:Pos}{mi:MI}{tt:MT}{te:ME}
theorem Ck (B:iD X scope [x] ix)(C:Addr)(s:Ai)(H:Hp)(fp:List Addr):PG (blk X scope (iw X [x] ix) C s H fp) (.Name x px) (Qf 1 ov1):=by
 obtain ⟨o1,o2⟩:=HS B (y:=x) (by simp);intro ahJ s' Z H' v u Q I r ⟨vs,hv,hl,q⟩;cases hv;refine sO (X:=blk X scope (iw X [x] ix) C s H fp) (i:=0) B.nd rfl o1 o2 ahJ s' Z H' v u Q I r ?_;have ahK:Z.length=(iw X [x] ix).length:=I.len;cases Z with
 | nil=>simp at ahK
 | cons o Z=>exact q
theorem Gi {py pt:Pos}{kt:Nat}(hc:X.calm=true)(B:iD X scope [x,y] ix)(C:Addr)(s:Ai)(H:Hp)(fp:List Addr)
  (h1:∀ env,(Jy [.Name x px,.Name y py] env).map (·.2)=assign (.Name x px) env::(Jy [.Name y py] env).map (·.2):=by intro _;rfl)
  (h2:∀ env,(Jy [.Name y py] env).map (·.2)=assign (.Name y py) env::(Jy [] env).map (·.2):=by intro _;rfl)
  (h3:∀ env,(Jy [.Name x px,.Name y py] env).length=2:=by intro _;rfl) (h4:∀ env,(Jy [.Name x px,.Name y py] env).findIdx? (·.1)=FX:=by intro _;rfl) :
  PG (blk X scope (iw X [x,y] ix) C s H fp) (.Tuple [.Name x px,.Name y py] kt pt) (Qf 2 (ovT X.K)):=by
 obtain ⟨o1,u1⟩:=HS B (y:=x) (by simp);obtain ⟨o2,u2⟩:=HS B (y:=y) (by simp);intro ahJ s' Z H' v u Q I r ⟨vs,⟨a,ea,ha⟩,hl,q⟩;have ahK:Z.length=(iw X [x,y] ix).length:=I.len;refine zcy (X:=blk X scope (iw X [x,y] ix) C s H fp) (n:=2) hc (tE (sO (i:=0) B.nd rfl o1 u1) (tE (sO (i:=1) B.nd rfl o2 u2) CZ<|h2 _)<|h1 _) (h3 _) (h4 _) ahJ s' Z H' v u Q I r ?_;refine ⟨a,vs,ea,ha,hl,?_⟩;match vs,hl,q with
 | [v1,v2],_,q=>
  match Z,ahK,q with
  | [],ahK,_=>simp at ahK
  | [_],ahK,_=>simp at ahK
  | _::_::Z,_,q=>exact ⟨v1,[v2],rfl,v2,[],rfl,rfl,q⟩
theorem Sd {ow:W->Option (List W)}(ix:List Nat)(hc:X.calm=true)(B:iD X scope xs ix)(oo:CQ X.K xs.length own ow)(hg:∀ C s H fp,PG (blk X scope (iw X xs ix) C s H fp) tg (Qf xs.length own))(hi:Qz X tg iter mi)
  (ht:∀ C s H fp,U0 (blk X scope (iw X xs ix) C s H fp) ifs tt) (he:∀ C s H fp,DE (blk X scope (iw X xs ix) C s H fp) elt te)
  (hs:∀ v,U8 iter X.env v=pure v:=by intro _;rfl):DE X (.ListComp elt [⟨tg,iter,ifs,0⟩] scope pos) (GK ow ix mi tt te):=(aaf ix hc B hg hi ht he hs).of fun _ _ _ q=>WQ oo q
theorem Fl {ow:W->Option (List W)}(ix:List Nat){i:Nat}{py spos:Pos}(hN:X.N.Nodup)(hi':X.N[i]?=FN y)(hy:Qy X.env.scope y)(hc:X.calm=true)(B:iD X scope xs ix)(oo:CQ X.K xs.length own ow)
  (hg:∀ C s H fp,PG (blk X scope (iw X xs ix) C s H fp) tg (Qf xs.length own)) (hi:Qz X tg iter mi)
  (ht:∀ C s H fp,U0 (blk X scope (iw X xs ix) C s H fp) ifs tt) (he:∀ C s H fp,DE (blk X scope (iw X xs ix) C s H fp) elt te)
  (hsw:swapsWith (.ListComp elt [⟨tg,iter,ifs,0⟩] scope pos) (FN (.Name y py)) spos.line X.env=pure true:=by rfl)
  (hf:X.fn y=true\/X.env.scope.names.lookup y=FN .local:=by first | exact .inl rfl | exact .inr rfl | assumption)
  (hs:∀ v,U8 iter X.env v=pure v:=by intro _;rfl):DS X (.Assign [.Name y py] (.ListComp elt [⟨tg,iter,ifs,0⟩] scope pos) spos) (bK (GK ow ix mi tt te) (kI i)):=
 (ZS ix hN hi' hy hc B hg hi ht he hsw hf hs).of fun _ _ _ q=>LQ (fun _ _ _ z=>WQ oo z) q
theorem Yl {κ : Type}{K:Az}{H0 H:Hp}{μ0 μ : Mu}{k:Nat}(hd:∀ n p,μ0.f n=FN p->n<k):∀ {fs:List (κ×W)} {f0 fv:List (κ×V)},ni K H0 μ0 fs f0->ni K H μ fs fv->ni K H (μ.cut k) fs fv
 | [],_,_,_,.nil=>.nil
 | _::_,_,_,.cons a b,.cons c d=>.cons ⟨c.1,Ak.cut c.2 (Ak.lo hd a.2)⟩ (Yl hd b d)
def uT (pure:Bool)(h:Gh)(w:W)(h':Gh)(Q:WK):Prop:=match pure with
 | false=>Q w h'
 | true=>(∀ n c,n<h.nx->h.c n=FN c->h'.c n=FN c)/\((Lo h.nx w/\Q w h)\/∃ n ws,w=.loc n/\h.nx<=n/\h'.c n=FN (.lst ws)/\Kh h.nx ws/\Q (.lst ws) h)
def Es (n N:Nat)(pure:Bool)(body:Cd->MS):Ar:=fun ws h Q E=>Hz (KJ ws.length n)
 (body E { nx:=fun _ h'=>uT pure h .non h' Q,rt:=fun w h'=>uT pure h w h' Q } (ws.map FN++Gs (N - ws.length) FX) h) False
theorem Mf {n N:Nat}{pure:Bool}{body:Cd->MS}{h:Gh}{Q:WK}{E:Cd}(x:Es n N pure body ws h Q E):ws.length=n /\
  body E { nx:=fun _ h'=>uT pure h .non h' Q,rt:=fun w h'=>uT pure h w h' Q } (ws.map FN++Gs (N - ws.length) FX) h:=by
 unfold Es at x;cases e:KJ ws.length n with
 | true=>rw [e] at x;exact ⟨Vs e,x⟩
 | false=>rw [e] at x;exact (show False from x).elim
theorem DA.cut {K:Az}{H H':Hp}{μ μ':Mu}{h h':Gh}(R:DA K μ H h)(R':DA K μ' H' h')(e:GP K H μ H' μ')(hc:∀ n c,h.c n=FN c->h'.c n=FN c):DA K (μ'.cut h.nx) H' h where
 inj:=fun m n p a b=>R'.inj m n p (Mu.cut_some a).2 (Mu.cut_some b).2
 dom:=fun n p a=>(Mu.cut_some a).1
 trk:=fun n p a=>R'.trk n p (Mu.cut_some a).2
 cel:=fun n c a=>by
  obtain ⟨p0,m0,x0⟩:=R.cel n c a;obtain ⟨p,m,x⟩:=R'.cel n c (hc n c a);have hn:=R.dom n p0 m0;refine ⟨p,by show (if n<h.nx then μ'.f n else FX)=FN p;rw [if_pos hn];exact m,?_⟩;cases c with
  | lst ws=>
   obtain ⟨xs0,_,r0⟩:=x0;obtain ⟨xs,hx,r⟩:=x;exact ⟨xs,hx,aM.cut r<|aM.lo R.dom r0⟩
  | obj C fs=>
   obtain ⟨dx0,f0,_,r0⟩:=x0;obtain ⟨dx,fv,hx,r⟩:=x;exact ⟨dx,fv,hx,Yl R.dom r0 r⟩
  | dct kvs=>
   obtain ⟨f0,_,r0⟩:=x0;obtain ⟨fv,hx,r⟩:=x;exact ⟨fv,hx,Yl R.dom r0 r⟩
  | dtt kvs=>
   obtain ⟨_,_,_,_,_,d0,f0⟩:=x0;obtain ⟨xs,vs,a,b,c,d,f⟩:=x;exact ⟨xs,vs,a,b,c,aM.cut d<|aM.lo R.dom d0,aM.cut f<|aM.lo R.dom f0⟩
 hd:=fun p z=>⟨(R'.hd p z).1,fun n a=>(R'.hd p z).2 n (Mu.cut_some a).2⟩
theorem GP.cut {K:Az}{H H':Hp}{μ μ':Mu}{h:Gh}(R:DA K μ H h)(e:GP K H μ H' μ'):GP K H μ H' (μ'.cut h.nx):=
 ⟨fun w v r=>Ak.cut (e.r w v r) (Ak.lo R.dom r),fun p u z a=>e.o p u z a⟩
theorem G6 {K:Az}{H H':Hp}{h h':Gh}{w:W}{v:V}{Q:WK}{pure:Bool}(R:DA K μ H h)(e:GP K H μ H' μ')(R':DA K μ' H' h')(r:Ak K H' μ' w v)(x:uT pure h w h' Q):DQ K H μ Q v H':=by
 cases pure with
 | false=>exact ⟨μ',w,h',e,R',r,x⟩
 | true=>
  obtain ⟨hc0,⟨lo,q⟩ | ⟨n,ws,ew,hn,ec,lo,q⟩⟩:=x;all_goals have hc:∀ n c,h.c n=FN c->h'.c n=FN c:=fun n c a=>hc0 n c (let ⟨p,m,_⟩:=R.cel n c a;R.dom n p m) a
  ·exact ⟨μ'.cut h.nx,w,h,e.cut R,R.cut R' e hc,Ak.cut r lo,q⟩
  ·subst ew;refine ⟨μ'.cut h.nx,.lst ws,h,e.cut R,R.cut R' e hc,?_,q⟩;rw [Ak] at r;rw [Ak];obtain ⟨p,ev,hm⟩:=r;obtain ⟨p',xs,hm',hx,rs⟩:=R'.lstAt ec;have ep:p'=p:=by rw [hm] at hm';exact (Eu hm').symm
   subst ep;refine ⟨p',xs,ev,⟨hx,fun m a=>?_,fun z=>(R'.hd p' z).2 n hm⟩,aM.cut rs lo⟩;obtain ⟨a1,a2⟩:=Mu.cut_some a;have:=R'.inj m n p' a2 hm
   lia
theorem wu {K:Az}{H:Hp}{N:List Str}:∀ {ws:List W} {vs:List V},aM K H μ ws vs->Slots K H μ (ws.map FN++Gs (N.length - ws.length) FX) (start N vs):=by
 intro ws vs r;have hl:=r.len;refine ⟨by simp [start,hl],fun i w q=>?_⟩;by_cases hi:i<ws.length
 ·rw [Ow (by simpa using hi),Fv] at q;have q':ws[i]?=FN w:=by
   cases e:ws[i]? with
   | none=>rw [e] at q;cases q
   | some a=>rw [e] at q;simpa using q
  obtain ⟨v,hv,rv⟩:=r.get q';refine ⟨v,?_,rv⟩;unfold start;rw [Ow (by rw [Bx];lia),Fv,hv];rfl
 ·rw [OJ (by simpa using hi),Wk] at q;split at q <;> cases q
theorem aat {P:DI}{w:Bw}{K:Az}{mg:Str->Option Mk}{base:Heap}{x qual:Str}{st:Stmt}{f:Addr}{fd:Kw}{N ps:List Str}{k:Nat}{pure:Bool}{body:Cd->MS}(F:TY K x qual st f fd)(S:mD N ps (bR st))
  (hb:∀ (cdv:Mk) (A:DW) (outer:List Env) (s:Ai) (H:Hp) (E:XK),mY k (A.deeper (envOfC qual (bR st) s.heap.objs.size f cdv)) ->
   Rv (Iz NT P w K mg base N qual (bR st) f cdv A outer s H E).nox (gK st) (body EF)):qm P w K mg base NT (k+1) f fd ps (Ks K (Es ps.length N.length pure body)):=by
 refine F.ok S (fun vs H Q E ⟨μ,h,ws,Qw,R,r,m,k⟩=>by rw [<-r.len];exact (Mf m).1)<|fun cdv A outer s H vs Q E hr ⟨μ,h,ws,Qw,R,r,m0,k⟩=>?_
 obtain ⟨hl,m⟩:=Mf m0;refine ⟨_,hb cdv A outer s H E hr,μ,h,_,_,R,wu r,m,?_,?_,?_,?_⟩
 ·rintro Z' H' ⟨μ1,Zw1,h1,e1,R1,S1,m1⟩;exact k _ _<|G6 (w:=.non) R e1 R1 (by rw [Ak]) m1
 ·rintro v H' ⟨μ1,w1,h1,e1,R1,r1,m1⟩;exact k _ _<|G6 R e1 R1 r1 m1
 ·rintro Z' H' ⟨μ1,Zw1,h1,e1,R1,S1,m1⟩;exact m1.elim
 ·rintro Z' H' ⟨μ1,Zw1,h1,e1,R1,S1,m1⟩;exact m1.elim
end
variable {te : ME}{mi : MI}{tt : MT}{kt : Nat}
section
variable {X:Cx}{K:Az}
theorem DQ.int {H:Hp}{μ : Mu}{h:Gh}{i:Int}{Q:WK}(R:DA K μ H h)(q:Q (.int i) h):DQ K H μ Q (.int i) H:=⟨μ,.int i,h,.refl,R,by rw [Ak],q⟩
theorem DQ.bl {H:Hp}{μ : Mu}{h:Gh}{i:Bool}{Q:WK}(R:DA K μ H h)(q:Q (.bl i) h):DQ K H μ Q (.bl i) H:=⟨μ,.bl i,h,.refl,R,by rw [Ak],q⟩
def zac (C:Int->Int->Prop)(g:Int->Int->Int):M2:=fun x y h Q=>match x,y with
 | .int i,.int j=>C i j/\Q (.int (g i j)) h
 | _,_=>False
def yg:M2:=fun x y h Q=>match x,y with
 | .int i,.int j=>Q (.int (i - j)) h
 | _,_=>False
theorem nT:Js X (Jw .Sub) yg:=⟨_,afO,by
 intro H μ h x y wx wy Qw Q R rx ry m k;unfold yg at m;split at m
 ·rw [Ak] at rx ry;exact ⟨_,_,rx,ry,k _ _<|.int R m⟩
 ·exact m.elim⟩
def gC:M2:=fun x y h Q=>match x,y with
 | .int i,.int j=>o9 i j/\Q (.int (i*j)) h
 | _,_=>False
theorem cC:Js X (Jw .Mult) gC:=⟨_,Eh,by
 intro H μ h x y wx wy Qw Q R rx ry m k;unfold gC at m;split at m
 ·rw [Ak] at rx ry;exact ⟨_,_,rx,ry,m.1,k _ _<|.int R m.2⟩
 ·exact m.elim⟩
def Mr:M2:=fun x y h Q=>match x,y with
 | .int i,.int j=>Ia i j/\Q (.int (i.fdiv j)) h
 | _,_=>False
theorem Dc:Js X (Jw .FloorDiv) Mr:=⟨_,zav,by
 intro H μ h x y wx wy Qw Q R rx ry m k;unfold Mr at m;split at m
 ·rw [Ak] at rx ry;exact ⟨_,_,rx,ry,m.1,k _ _<|.int R m.2⟩
 ·exact m.elim⟩
def Bv:M2:=fun x y h Q=>match x,y with
 | .int i,.int j=>j≠0/\Q (.int (i.fmod j)) h
 | _,_=>False
theorem rK:Js X (Jw .Mod) Bv:=⟨_,adx,by
 intro H μ h x y wx wy Qw Q R rx ry m k;unfold Bv at m;split at m
 ·rw [Ak] at rx ry;exact ⟨_,_,rx,ry,m.1,k _ _<|.int R m.2⟩
 ·exact m.elim⟩
def RT:M2:=fun x y h Q=>match x,y with
 | .int i,.int j=>ZF i j/\Q (.int (i^j.toNat)) h
 | _,_=>False
theorem Uk:Js X (Jw .Pow) RT:=⟨_,zcv,by
 intro H μ h x y wx wy Qw Q R rx ry m k;unfold RT at m;split at m
 ·rw [Ak] at rx ry;exact ⟨_,_,rx,ry,m.1,k _ _<|.int R m.2⟩
 ·exact m.elim⟩
def kLt:M2:=fun x y h Q=>match x,y with
 | .int i,.int j=>Q (.bl (decide (i<j))) h
 | _,_=>False
theorem Xp:Js X (Jb .Lt) kLt:=⟨_,YM,by
 intro H μ h x y wx wy Qw Q R rx ry m k;unfold kLt at m;split at m
 ·rw [Ak] at rx ry;exact ⟨_,_,rx,ry,k _ _<|.bl R m⟩
 ·exact m.elim⟩
def QS:M2:=fun x y h Q=>match x,y with
 | .int i,.int j=>Q (.bl (decide (j<i))) h
 | _,_=>False
theorem Qi:Js X (Jb .Gt) QS:=⟨_,XF,by
 intro H μ h x y wx wy Qw Q R rx ry m k;unfold QS at m;split at m
 ·rw [Ak] at rx ry;exact ⟨_,_,rx,ry,k _ _<|.bl R m⟩
 ·exact m.elim⟩
def kGe:M2:=fun x y h Q=>match x,y with
 | .int i,.int j=>Q (.bl (decide (j<=i))) h
 | _,_=>False
theorem abe:Js X (Jb .GtE) kGe:=⟨_,aad,by
 intro H μ h x y wx wy Qw Q R rx ry m k;unfold kGe at m;split at m
 ·rw [Ak] at rx ry;exact ⟨_,_,rx,ry,k _ _<|.bl R m⟩
 ·exact m.elim⟩
theorem aM.ne_nil {H:Hp}{xs:List V}(r:aM K H μ ws xs):xs=[]↔ws=[]:=by
 have:=r.len
 constructor
 ·intro e;subst e;exact Ql this
 ·intro e;subst e;exact Ql this.symm
def BJ:M2:=fun x y h Q=>match y with
 | .int i=>(match view h x with
  | some ws=>(match Ka ws i with
   | some w=>Q w h
   | none=>False)
  | none=>False)
 | _=>False
theorem aM.at {H:Hp}{μ : Mu}{ws:List W}{xs:List V}{i:Int}{w:W}(r:aM K H μ ws xs)(e:Ka ws i=FN w):∃ v,Ka xs i=FN v/\Ak K H μ w v:=by
 unfold Ka at e |-
 rw [<-r.len];cases q:Pa ws.length i with
 | none=>rw [q] at e;cases e
 | some j=>rw [q] at e;exact r.get e
theorem cW {H:Hp}{h:Gh}{w:W}{v:V}(R:DA K μ H h)(r:Ak K H μ w v)(e:dX h w=FN ws):∃ p xs,v=.ref p/\Ij K H p xs/\aM K H μ ws xs:=by
 cases w with
 | lst us=>
  rw [Ak] at r;obtain ⟨p,xs,ev,hs,rs⟩:=r;cases (show FN us=FN ws from e)
  exact ⟨p,xs,ev,hs.sq,rs⟩
 | kls us=>
  rw [Ak] at r;obtain ⟨p,xs,ev,hs,rs⟩:=r;cases (show FN us=FN ws from e)
  exact ⟨p,xs,ev,hs.sq,rs⟩
 | loc n=>
  rw [Ak] at r;obtain ⟨p,ev,hm⟩:=r;unfold dX at e;dsimp only at e;cases ec:h.c n with
  | none=>rw [ec] at e;cases e
  | some cl=>
   rw [ec] at e;cases cl with
   | lst us=>
    cases (show FN us=FN ws from e)
    obtain ⟨p',xs,hm',hx,rs⟩:=R.lstAt ec;have ep:p'=p:=by rw [hm] at hm';exact (Eu hm').symm
    subst ep;exact ⟨p',xs,ev,.of hx,rs⟩
   | _=>cases e
 | _=>cases e
theorem xO {H:Hp}{h:Gh}{w:W}{v:V}(R:DA K μ H h)(r:Ak K H μ w v)(e:view h w=FN ws):∃ p xs,v=.ref p/\(Ij K H p xs\/Ew K H p xs)/\aM K H μ ws xs:=by
 cases w with
 | tup us=>
  rw [Ak] at r;obtain ⟨p,xs,ev,hs,rs⟩:=r;cases (show FN us=FN ws from e)
  exact ⟨p,xs,ev,.inr hs,rs⟩
 | lst us=>
  obtain ⟨p,xs,ev,hs,rs⟩:=cW (ws:=ws) R r e;exact ⟨p,xs,ev,.inl hs,rs⟩
 | kls us=>
  obtain ⟨p,xs,ev,hs,rs⟩:=cW (ws:=ws) R r e;exact ⟨p,xs,ev,.inl hs,rs⟩
 | loc n=>
  obtain ⟨p,xs,ev,hs,rs⟩:=cW (ws:=ws) R r e;exact ⟨p,xs,ev,.inl hs,rs⟩
 | _=>cases e
theorem aeY:aaT K (rIx K) BJ:=by
 intro H μ h x y wx wy Qw Q R rx ry m k;unfold BJ at m;split at m
 ·rename_i i;split at m
  ·rename_i ws ev;split at m
   ·rename_i w ew;obtain ⟨p,xs,ex,hs,rs⟩:=xO R rx ev;obtain ⟨v,hv,rv⟩:=rs.at ew;rw [Ak] at ry;have fin:=k _ _ ⟨μ,w,h,.refl,R,rv,m⟩;rcases hs with hs | hs
    ·exact .inl ⟨p,xs,i,v,ex,ry,hs,hv,fin⟩
    ·exact .inr<|.inl ⟨p,xs,i,v,ex,ry,hs,hv,fin⟩
   ·exact m.elim
  ·exact m.elim
 ·exact m.elim
theorem abh {a b:Expr}{pos:Pos}(ha:DE X a ma)(hb:DE X b mb)(hs:wK b):DE X (.Subscript a b pos) (AP BJ ma mb):=(ZG afM ha hb hs).of fun Z H Q h=>two h fun R r1 r2 m k=>aeY R r1 r2 m k
abbrev MO:=Sw->Gh->(Option Int->Gh->Prop)->Prop
def tDO (K:Az)(m:MO):TO:=fun Z H Q=>∃ μ h Zw Qw,DA K μ H h/\Slots K H μ Zw Z/\m Zw h Qw/\∀ o H',(∃ μ' h',GP K H μ H' μ'/\DA K μ' H' h'/\Qw o h')->Q o H'
abbrev DO (X:Cx)(e:Option Expr)(m:MO):Prop:=PO X e (tDO X.K m)
theorem PO.of {e:Option Expr}{t t':TO}(h:PO X e t)(k:∀ Z H Q,t' Z H Q->t Z H Q):PO X e t':=by
 unfold PO at h |-
 intros
 apply h <;> first | assumption | (apply k;assumption)
def oH:MO:=fun _ h Q=>Q FX h
def Fp (m:ME):MO:=fun Z h Q=>m Z h fun w h1=>match w with
 | .int i=>Q (FN i) h1
 | _=>False
theorem GR:DO X FX oH:=PO.of adQ fun Z H Q ⟨μ,h,Zw,Qw,R,S,m,k⟩=>k _ _ ⟨μ,h,.refl,R,m⟩
theorem DX {e:Expr}(he:DE X e ma):DO X (FN e) (Fp ma):=PO.of (zbX he) fun Z H Q ⟨μ,h,Zw,Qw,R,S,m,k⟩=>by
 refine ⟨μ,h,Zw,_,R,S,m,fun v H1 ⟨μ1,w,h1,e1,R1,r1,m1⟩=>?_⟩;dsimp only at m1;split at m1
 ·rw [Ak] at r1;exact ⟨_,r1,k _ _ ⟨μ1,h1,e1,R1,m1⟩⟩
 ·exact m1.elim
def Ag (xs:List W)(lo hi:Option Int):List W:=(xs.drop (HT.sIx xs.length 0 lo)).take (HT.sIx xs.length xs.length hi - HT.sIx xs.length 0 lo)
def mSl (r:W->Option Int->Option Int->Gh->WK->Prop)(m:ME)(l u:MO):ME:=fun Z h Q=>m Z h fun x h1=>l Z h1 fun lo h2=>u Z h2 fun hi h3=>r x lo hi h3 Q
theorem aM.cutv {H:Hp}{xs:List V}(r:aM K H μ ws xs)(lo hi:Option Int):aM K H μ (Ag ws lo hi) (J1 xs lo hi):=by
 unfold Ag J1;rw [<-r.len];exact (r.drop _).take _
end
mutual
def Dv:W->W->Bool
 | .non,.non=>true
 | .bl a,.bl b=>a==b
 | .bl a,.int b=>(if a then 1 else 0)==b
 | .int a,.bl b=>a==(if b then 1 else 0)
 | .int a,.int b=>a==b
 | .str a,.str b=>a==b
 | .tup a,.tup b=>lW a b
 | .lst a,.lst b=>lW a b
 | _,_=>false
def lW:List W->List W->Bool
 | [],[]=>true
 | a::as,b::bs=>Dv a b&&lW as bs
 | _,_=>false
end
def Ce:Nat->W->Bool
 | _,.non=>true
 | _,.bl _=>true
 | _,.int _=>true
 | _,.str _=>true
 | n+1,.tup ws=>ws.all (Ce n)
 | n+1,.lst ws=>ws.all (Ce n)
 | _,_=>false
mutual
def Dt (K:Az)(H:Hp):W->V->Prop
 | .non,v=>v=.non
 | .bl b,v=>v=.bl b
 | .int i,v=>v=.int i
 | .str x,v=>v=.str x
 | .tup ws,v=>∃ p xs,v=.ref p/\Ew K H p xs/\GZ K H ws xs
 | .lst ws,v=>∃ p xs,v=.ref p/\Ij K H p xs/\GZ K H ws xs
 | .ty _,_=>False
 | .kls _,_=>False
 | .loc _,_=>False
 | .exc _,_=>False
 | .exa _ _,_=>False
 | .fnv _ _,_=>False
def GZ (K:Az)(H:Hp):List W->List V->Prop
 | [],xs=>xs=[]
 | w::ws,xs=>∃ v vs,xs=v::vs/\Dt K H w v/\GZ K H ws vs
end
section
variable {X:Cx}{K:Az}{H:Hp}{h:Gh}
theorem GZ.len:∀ {ws:List W} {xs:List V},GZ K H ws xs->ws.length=xs.length
 | [],xs,h=>by
  have e:xs=[]:=by rw [GZ] at h;exact h
  rw [e];rfl
 | w::ws,xs,h=>by
  rw [GZ] at h;obtain ⟨v,vs,e,_,h⟩:=h;rw [e,Iw,Iw,GZ.len h]
theorem GZ.get:∀ {ws:List W} {xs:List V} {i:Nat} {w:W},GZ K H ws xs->ws[i]?=FN w->∃ v,xs[i]?=FN v/\Dt K H w v
 | [],_,_,_,_,e=>by simp at e
 | a::ws,xs,0,w,h,e=>by
  rw [GZ] at h;obtain ⟨v,vs,e1,r,_⟩:=h;simp at e;subst e;subst e1;exact ⟨v,rfl,r⟩
 | a::ws,xs,i+1,w,h,e=>by
  rw [GZ] at h;obtain ⟨v,vs,e1,_,h⟩:=h;subst e1;obtain ⟨u,h1,h2⟩:=GZ.get (i:=i) (w:=w) h (by simpa using e);exact ⟨u,by simpa using h1,h2⟩
theorem vH {n:Nat}(one:∀ {w:W} {v:V},Ak K H μ w v->Ce n w=true->Dt K H w v):∀ {ws:List W} {xs:List V},aM K H μ ws xs->ws.all (Ce n)=true->GZ K H ws xs
 | [],_,h,_=>by rw [aM] at h;rw [GZ];exact h
 | w::ws,_,h,p=>by
  rw [aM] at h;rw [GZ];obtain ⟨v,vs,e,r,h⟩:=h;rw [Sq,Nr] at p;exact ⟨v,vs,e,one r p.1,vH one h p.2⟩
theorem Jv:∀ (n:Nat) {w:W} {v:V},Ak K H μ w v->Ce n w=true->Dt K H w v:=by
 intro n;induction n with
 | zero=>
  intro w v r p;cases w with
  | non=>rw [Ak] at r;rw [Dt];exact r
  | bl _=>rw [Ak] at r;rw [Dt];exact r
  | int _=>rw [Ak] at r;rw [Dt];exact r
  | str _=>rw [Ak] at r;rw [Dt];exact r
  | _=>simp [Ce] at p
 | succ n ih=>
  intro w v r p;cases w with
  | non=>rw [Ak] at r;rw [Dt];exact r
  | bl _=>rw [Ak] at r;rw [Dt];exact r
  | int _=>rw [Ak] at r;rw [Dt];exact r
  | str _=>rw [Ak] at r;rw [Dt];exact r
  | tup ws=>
   rw [Ak] at r;rw [Dt];obtain ⟨p',xs,e,hs,rs⟩:=r;exact ⟨p',xs,e,hs,vH ih rs<|by simpa [Ce] using p⟩
  | lst ws=>
   rw [Ak] at r;rw [Dt];obtain ⟨p',xs,e,hs,rs⟩:=r;exact ⟨p',xs,e,hs.sq,vH ih rs<|by simpa [Ce] using p⟩
  | _=>simp [Ce] at p
theorem tB:∀ {a b:List W},a.length≠b.length->lW a b=false
 | [],[],h=>absurd rfl h
 | [],_::_,_=>by simp [lW]
 | _::_,[],_=>by simp [lW]
 | a::as,b::bs,h=>by
  rw [lW,tB (a:=as) (b:=bs) (by simpa using h),Bool.and_false]
def Xc (a b:List W)(j:Nat):Bool:=Dv (a.getD j .non) (b.getD j .non)
theorem tH:∀ {a b:List W},a.length=b.length->(Oo a.length).all (Xc a b)=lW a b
 | [],[],_=>by simp [lW]
 | [],_::_,h=>by simp at h
 | _::_,[],h=>by simp at h
 | a::as,b::bs,h=>by
  rw [lW,<-tH (a:=as) (b:=bs) (by simpa using h),Iw,List.range_succ_eq_map,Sq,List.all_map];rfl
mutual
theorem zG {ahJ:List (Addr×Obj)}{s:Ai}{Z : St}(I:Av X ahJ Z H s):∀ {w u:W} {v:V},Dt X.K H w v->Dt X.K H u v->Dv w u=true
 | .non,u,v,h,g=>by rw [Dt] at h;subst h;cases u <;> rw [Dt] at g <;> first | rfl | exact g.elim | (obtain ⟨_,_,g,_⟩:=g;cases g;done) | (cases g;done)
 | .bl b,u,v,h,g=>by rw [Dt] at h;subst h;cases u <;> rw [Dt] at g <;> first | (injection g with g;simp [Dv,g];done) | exact g.elim | (obtain ⟨_,_,g,_⟩:=g;cases g;done) | (cases g;done)
 | .int b,u,v,h,g=>by rw [Dt] at h;subst h;cases u <;> rw [Dt] at g <;> first | (injection g with g;simp [Dv,g];done) | exact g.elim | (obtain ⟨_,_,g,_⟩:=g;cases g;done) | (cases g;done)
 | .str b,u,v,h,g=>by rw [Dt] at h;subst h;cases u <;> rw [Dt] at g <;> first | (injection g with g;simp [Dv,g];done) | exact g.elim | (obtain ⟨_,_,g,_⟩:=g;cases g;done) | (cases g;done)
 | .tup ws,u,v,h,g=>by
  rw [Dt] at h;obtain ⟨p,xs,e,hs,ds⟩:=h;subst e;cases u with
  | tup us=>
   rw [Dt] at g;obtain ⟨p',xs',e',hs',ds'⟩:=g;cases e'
   have:=I.tuple_inj hs hs'
   subst this;rw [Dv];exact oU I ds ds'
  | lst us=>
   rw [Dt] at g;obtain ⟨p',xs',e',hs',ds'⟩:=g;cases e'
   obtain ⟨_,_,t,_⟩:=I.tuple hs;obtain ⟨_,_,l,_⟩:=I.list hs';exact absurd rfl<|Wf l.isList<|show s.heap.IsTuple _ _ from t
  | ty _=>rw [Dt] at g;exact g.elim
  | loc _=>rw [Dt] at g;exact g.elim
  | kls _=>rw [Dt] at g;exact g.elim
  | _=>rw [Dt] at g;cases g
 | .lst ws,u,v,h,g=>by
  rw [Dt] at h;obtain ⟨p,xs,e,hs,ds⟩:=h;subst e;cases u with
  | lst us=>
   rw [Dt] at g;obtain ⟨p',xs',e',hs',ds'⟩:=g;cases e'
   have:=I.list_inj hs hs'
   subst this;rw [Dv];exact oU I ds ds'
  | tup us=>
   rw [Dt] at g;obtain ⟨p',xs',e',hs',ds'⟩:=g;cases e'
   obtain ⟨_,_,t,_⟩:=I.tuple hs';obtain ⟨_,_,l,_⟩:=I.list hs;exact absurd rfl<|Wf l.isList<|show s.heap.IsTuple _ _ from t
  | ty _=>rw [Dt] at g;exact g.elim
  | loc _=>rw [Dt] at g;exact g.elim
  | kls _=>rw [Dt] at g;exact g.elim
  | _=>rw [Dt] at g;cases g
 | .ty _,_,_,h,_=>by rw [Dt] at h;exact h.elim
 | .loc _,_,_,h,_=>by rw [Dt] at h;exact h.elim
 | .exc _,_,_,h,_=>by rw [Dt] at h;exact h.elim
 | .exa _ _,_,_,h,_=>by rw [Dt] at h;exact h.elim
 | .kls _,_,_,h,_=>by rw [Dt] at h;exact h.elim
theorem oU {ahJ:List (Addr×Obj)}{s:Ai}{Z : St}(I:Av X ahJ Z H s):∀ {ws us:List W} {vs:List V},GZ X.K H ws vs->GZ X.K H us vs->lW ws us=true
 | [],us,vs,h,g=>by
  rw [GZ] at h;subst h;cases us with
  | nil=>rfl
  | cons _ _=>rw [GZ] at g;obtain ⟨_,_,g,_⟩:=g;cases g
 | w::ws,us,vs,h,g=>by
  rw [GZ] at h;obtain ⟨v,vs',e,h1,h2⟩:=h;subst e;cases us with
  | nil=>rw [GZ] at g;cases g
  | cons u us=>
   rw [GZ] at g;obtain ⟨v',vs'',e',g1,g2⟩:=g;cases e'
   rw [lW,zG I h1 g1,oU I h2 g2];rfl
end
theorem Ib {A:DW}:A.in1.units=A.units+1:=rfl
theorem aes {n:Nat}(h:Ce n (.tup ws)=true):∃ m,n=m+1/\ws.all (Ce m)=true:=by
 cases n with
 | zero=>simp [Ce] at h
 | succ m=>exact ⟨m,rfl,by simpa [Ce] using h⟩
theorem Fd {n:Nat}(h:Ce n (.lst ws)=true):∃ m,n=m+1/\ws.all (Ce m)=true:=by
 cases n with
 | zero=>simp [Ce] at h
 | succ m=>exact ⟨m,rfl,by simpa [Ce] using h⟩
theorem yu {s:Ai}{A:DW}{n:Nat}{us:List W}{xs ys:List V}{its jts:List Mk}(d1:GZ K H ws xs)(d2:GZ K H us ys)(p1:ws.all (Ce n)=true)(p2:us.all (Ce n)=true)(r1:Aw xs its)(r2:Aw ys jts)
  (one:∀ {w u:W} {v x:V} {a b:Mk},Dt K H w v->Dt K H u x->Ce n w=true->Ce n u=true->BX v a->BX x b->TF A s a b (Dv w u)) :
  ∀ j (h1:j<its.toArray.size) (h2:j<jts.toArray.size),TF A s its.toArray[j] jts.toArray[j] (Xc ws us j):=by
 intro j h1 h2;have l1:j<ws.length:=by rw [d1.len,r1.length];simpa using h1
 have l2:j<us.length:=by rw [d2.len,r2.length];simpa using h2
 obtain ⟨v,ev,dv⟩:=d1.get (Gz l1);obtain ⟨x,ex,dx⟩:=d2.get (Gz l2);obtain ⟨a,ea,ra⟩:=r1.get ev;obtain ⟨b,eb,rb⟩:=r2.get ex;have ea':its.toArray[j]=a:=by simpa using (K5.mp ea).2
 have eb':jts.toArray[j]=b:=by simpa using (K5.mp eb).2
 have e:Xc ws us j=Dv ws[j] us[j]:=by
  unfold Xc;rw [Nt,Nt,Gz l1,Gz l2];rfl
 rw [ea',eb',e];exact one dv dx (QB.mp p1 _<|U7 l1) (QB.mp p2 _<|U7 l2) ra rb
theorem Gb {xs:List V}{its:List Mk}(d:GZ K H ws xs)(r:Aw xs its):its.toArray.size=ws.length:=by
 rw [d.len,r.length];simp
theorem agJ {us:List W}:((Oo (min ws.length us.length)).all (Xc ws us)&&ws.length==us.length)=lW ws us:=by
 by_cases e:ws.length=us.length
 ·rw [<-e,Nat.min_self,tH e];simp
 ·rw [tB e];have e2:(ws.length==us.length)=false:=beq_eq_false_iff_ne.mpr e;rw [e2,Bool.and_false]
inductive Kd (s:Ai):W->Mk->Prop where
 | non:Kd s .non .none
 | bl (b:Bool):Kd s (.bl b) (.bool b)
 | int (i:Int) (t:Tok):Kd s (.int i) (.int i t)
 | str (x:Str) (t:Tok):Kd s (.str x) (.str x t)
 | tup (ws:List W) {p:Addr} {its:Array Mk} (q:s.heap.IsTuple p its):Kd s (.tup ws) (.ref p)
 | lst (ws:List W) {p:Addr} {its:Array Mk} (q:s.heap.IsList p its):Kd s (.lst ws) (.ref p)
theorem uG {ahJ:List (Addr×Obj)}{s:Ai}{Z : St}(I:Av X ahJ Z H s){w:W}{v:V}{a:Mk}(d:Dt X.K H w v)(r:BX v a):Kd s w a:=by
 cases w with
 | non=>rw [Dt] at d;subst d;cases r;exact .non
 | bl b=>rw [Dt] at d;subst d;cases r;exact .bl b
 | int b=>rw [Dt] at d;subst d;obtain ⟨t,rfl⟩:=r;exact .int b t
 | str b=>rw [Dt] at d;subst d;obtain ⟨t,rfl⟩:=r;exact .str b t
 | tup ws=>rw [Dt] at d;obtain ⟨p,xs,e,hs,_⟩:=d;subst e;cases r;obtain ⟨its,_,q,_⟩:=I.tuple hs;exact .tup ws q
 | lst ws=>rw [Dt] at d;obtain ⟨p,xs,e,hs,_⟩:=d;subst e;cases r;obtain ⟨its,_,q,_⟩:=I.list hs;exact .lst ws q.isList
 | _=>rw [Dt] at d;exact d.elim
def sq1:W->Bool
 | .tup _=>true
 | .lst _=>true
 | _=>false
def o7:W->W->Bool
 | .tup _,.tup _=>true
 | .lst _,.lst _=>true
 | _,_=>false
def Xu (w u:W):Bool:=!(sq1 w||sq1 u)
open SeqAt.EqAt in
theorem MK {s:Ai}{A:DW}{w u:W}{a b:Mk}(hu:A.units<Gf)(k1:Kd s w a)(k2:Kd s u b)(h:o7 w u=false)(f:Xu w u=false):TF A s a b (Dv w u):=by
 cases k1 <;> cases k2 <;> try (first | (cases h;done) | (cases f;done))
 ·apply none_tuple <;> assumption
 ·apply none_list <;> assumption
 ·apply bool_tuple <;> assumption
 ·apply bool_list <;> assumption
 ·apply int_tuple <;> assumption
 ·apply int_list <;> assumption
 ·apply str_tuple <;> assumption
 ·apply str_list <;> assumption
 ·apply tuple_none <;> assumption
 ·apply tuple_bool <;> assumption
 ·apply tuple_int <;> assumption
 ·apply tuple_str <;> assumption
 ·apply tuple_list <;> assumption
 ·apply list_none <;> assumption
 ·apply list_bool <;> assumption
 ·apply list_int <;> assumption
 ·apply list_str <;> assumption
 ·apply list_tuple <;> assumption
open SeqAt.RcAt in
theorem agf {s:Ai}{A:DW}{w u:W}{a b:Mk}(hu:A.units<Gf)(k1:Kd s w a)(k2:Kd s u b)(h:o7 w u=false):SeqAt.RcAt A s a b (Dv w u):=by
 cases k1 <;> cases k2 <;> try (first | (cases h;done))
 ·apply none_none <;> assumption
 ·apply none_bool <;> assumption
 ·apply none_int <;> assumption
 ·apply none_str <;> assumption
 ·apply none_tuple <;> assumption
 ·apply none_list <;> assumption
 ·apply bool_none <;> assumption
 ·apply bool_bool <;> assumption
 ·apply bool_int <;> assumption
 ·apply bool_str <;> assumption
 ·apply bool_tuple <;> assumption
 ·apply bool_list <;> assumption
 ·apply int_none <;> assumption
 ·apply int_bool <;> assumption
 ·apply int_int <;> assumption
 ·apply int_str <;> assumption
 ·apply int_tuple <;> assumption
 ·apply int_list <;> assumption
 ·apply str_none <;> assumption
 ·apply str_bool <;> assumption
 ·apply str_int <;> assumption
 ·apply str_str <;> assumption
 ·apply str_tuple <;> assumption
 ·apply str_list <;> assumption
 ·apply tuple_none <;> assumption
 ·apply tuple_bool <;> assumption
 ·apply tuple_int <;> assumption
 ·apply tuple_str <;> assumption
 ·apply tuple_list <;> assumption
 ·apply list_none <;> assumption
 ·apply list_bool <;> assumption
 ·apply list_int <;> assumption
 ·apply list_str <;> assumption
 ·apply list_tuple <;> assumption
open SeqAt.RcNeAt in
theorem afP {s:Ai}{A:DW}{w u:W}{a b:Mk}(hu:A.units<Gf)(k1:Kd s w a)(k2:Kd s u b)(h:o7 w u=false):SeqAt.RcNeAt A s a b (!Dv w u):=by
 cases k1 <;> cases k2 <;> try (first | (cases h;done))
 ·apply none_none <;> assumption
 ·apply none_bool <;> assumption
 ·apply none_int <;> assumption
 ·apply none_str <;> assumption
 ·apply none_tuple <;> assumption
 ·apply none_list <;> assumption
 ·apply bool_none <;> assumption
 ·apply bool_bool <;> assumption
 ·apply bool_int <;> assumption
 ·apply bool_str <;> assumption
 ·apply bool_tuple <;> assumption
 ·apply bool_list <;> assumption
 ·apply int_none <;> assumption
 ·apply int_bool <;> assumption
 ·apply int_int <;> assumption
 ·apply int_str <;> assumption
 ·apply int_tuple <;> assumption
 ·apply int_list <;> assumption
 ·apply str_none <;> assumption
 ·apply str_bool <;> assumption
 ·apply str_int <;> assumption
 ·apply str_str <;> assumption
 ·apply str_tuple <;> assumption
 ·apply str_list <;> assumption
 ·apply tuple_none <;> assumption
 ·apply tuple_bool <;> assumption
 ·apply tuple_int <;> assumption
 ·apply tuple_str <;> assumption
 ·apply tuple_list <;> assumption
 ·apply list_none <;> assumption
 ·apply list_bool <;> assumption
 ·apply list_int <;> assumption
 ·apply list_str <;> assumption
 ·apply list_tuple <;> assumption
theorem vp:∀ {w u:W},o7 w u=true->(∃ ws us,w=.tup ws/\u=.tup us)\/∃ ws us,w=.lst ws/\u=.lst us
 | .tup ws,.tup us,_=>.inl ⟨ws,us,rfl,rfl⟩
 | .lst ws,.lst us,_=>.inr ⟨ws,us,rfl,rfl⟩
def wV:V->W
 | .bl b=>.bl b
 | .int b=>.int b
 | .str b=>.str b
 | _=>.non
theorem X8 {v x:V}(h:Ey v=true)(g:Ey x=true):Dv (wV v) (wV x)=eqV v x:=by
 cases v <;> first | (cases h;done) | (cases x <;> first | (cases g;done) | rfl)
theorem Lz {w:W}{v:V}(d:Dt K H w v)(h:sq1 w=false):Ey v=true/\w=wV v:=by
 cases w with
 | tup _=>cases h
 | lst _=>cases h
 | non=>rw [Dt] at d;subst d;exact ⟨rfl,rfl⟩
 | bl _=>rw [Dt] at d;subst d;exact ⟨rfl,rfl⟩
 | int _=>rw [Dt] at d;subst d;exact ⟨rfl,rfl⟩
 | str _=>rw [Dt] at d;subst d;exact ⟨rfl,rfl⟩
 | _=>rw [Dt] at d;exact d.elim
theorem Lx {s:Ai}{A:DW}{w u:W}{v x:V}{a b:Mk}(dw:Dt K H w v)(du:Dt K H u x)(hf:Xu w u=true)(ra:BX v a)(rb:BX x b):TF A s a b (Dv w u):=by
 have hf:=Bool.or_eq_false_iff.mp (Eq.mp (Bool.not_eq_true' _) hf);have ⟨f1,e1⟩:=Lz dw hf.1;have ⟨f2,e2⟩:=Lz du hf.2;rw [e1,e2,X8 f1 f2];exact Wt ra rb f1 f2
theorem Mi {ahJ:List (Addr×Obj)}{s:Ai}{Z : St}(I:Av X ahJ Z H s){n:Nat}{A:DW}{w u:W}{v x:V}{a b:Mk}(ih:∀ {w u:W} {v x:V} {a b:Mk},Dt X.K H w v->Dt X.K H u x->Ce n w=true->Ce n u=true->BX v a->BX x b->TF A.in1 s a b (Dv w u))(hu:A.units<Gf)(h2:o7 w u=true)(dw:Dt X.K H w v)(du:Dt X.K H u x)(pw:Ce (n+1) w=true)(pu:Ce (n+1) u=true)(ra:BX v a)(rb:BX x b):∃ p q,v=.ref p/\x=.ref q/\a=.ref p/\b=.ref q/\SeqAt.RcAt A s a b (Dv w u)/\SeqAt.RcNeAt A s a b (!Dv w u):=by
 rcases vp h2 with ⟨ws,us,rfl,rfl⟩ | ⟨ws,us,rfl,rfl⟩ <;> rw [Dt] at dw du <;> obtain ⟨p,xs1,rfl,hs1,ds1⟩:=dw <;> obtain ⟨q,xs2,rfl,hs2,ds2⟩:=du <;> cases ra <;> cases rb <;> refine ⟨p,q,rfl,rfl,rfl,rfl,?_⟩ <;> rw [Dv] <;> rw [Ce] at pw pu
 ·obtain ⟨its1,rv1,q1,_⟩:=I.tuple hs1;obtain ⟨its2,rv2,q2,_⟩:=I.tuple hs2;have it:=yu ds1 ds2 pw pu rv1 rv2 ih;rw [<-agJ,<-Gb ds1 rv1,<-Gb ds2 rv2];exact ⟨.tuples q1 q2 hu it,.tuples q1 q2 hu it⟩
 ·obtain ⟨its1,rv1,q1,_⟩:=I.list hs1;obtain ⟨its2,rv2,q2,_⟩:=I.list hs2;by_cases hl:ws.length=us.length
  ·have it:=yu ds1 ds2 pw pu rv1 rv2 ih;have e:its1.toArray.size=its2.toArray.size:=by rw [Gb ds1 rv1,Gb ds2 rv2,hl]
   rw [<-tH hl,<-Gb ds1 rv1];exact ⟨.lists q1.isList q2.isList e hu it,.lists q1.isList q2.isList e hu it⟩
  ·rw [tB hl];have e:(its1.toArray.size != its2.toArray.size)=true:=by rw [Gb ds1 rv1,Gb ds2 rv2];exact bne_iff_ne.mpr hl
   exact ⟨.lists_lengths q1.isList q2.isList e hu,.lists_lengths q1.isList q2.isList e hu⟩
theorem CP {w u:W}(h:o7 w u=true):∀ {n:Nat},Ce n w=true->∃ m,n=m+1
 | 0,p=>by rcases vp h with ⟨_,_,rfl,_⟩ | ⟨_,_,rfl,_⟩ <;> cases p
 | m+1,_=>⟨m,rfl⟩
theorem WD {ahJ:List (Addr×Obj)}{s:Ai}{Z : St}(I:Av X ahJ Z H s):∀ (n:Nat) {A:DW} {w u:W} {v x:V} {a b:Mk},A.units+n<Gf->Dt X.K H w v->Dt X.K H u x->Ce n w=true->Ce n u=true->BX v a->BX x b->TF A s a b (Dv w u):=by
 intro n;induction n with
 | zero=>
  intro A w u v x a b hu dw du pw pu ra rb;by_cases hf:Xu w u=true
  ·exact Lx dw du hf ra rb
  by_cases h2:o7 w u=true
  ·obtain ⟨m,e⟩:=CP h2 pw;cases e
  ·exact MK hu (uG I dw ra) (uG I du rb) (VH _ ▸ h2)<|VH _ ▸ hf
 | succ n ih=>
  intro A w u v x a b hu dw du pw pu ra rb;by_cases hf:Xu w u=true
  ·exact Lx dw du hf ra rb
  by_cases h2:o7 w u=true
  ·have hu':=Ot (VG _ _) hu;obtain ⟨p,q,rfl,rfl,rfl,rfl,z,_⟩:=Mi I (ih (A:=A.in1) (by rw [Ib,Nat.add_assoc,Ua 1];exact hu)) hu' h2 dw du pw pu ra rb;by_cases hp:p=q
   ·subst hp;rw [zG I dw du];exact SeqAt.EqAt.same _
   ·exact SeqAt.EqAt.of_refs hp z
  ·exact MK (Ot (VG _ _) hu) (uG I dw ra) (uG I du rb) (VH _ ▸ h2)<|VH _ ▸ hf
theorem rcN {ahJ:List (Addr×Obj)}{s:Ai}{Z : St}(I:Av X ahJ Z H s){A:DW}{w u:W}{v x:V}{a b:Mk}{p:Prop}(hu:A.units+(m+1)<Gf)(hu':A.units<Gf)(h2:o7 w u=true)(dw:Dt X.K H w v)(du:Dt X.K H u x)(pw:Ce (m+1) w=true)(pu:Ce (m+1) u=true)(ra:BX v a)(rb:BX x b)(f:SeqAt.RcAt A s a b (Dv w u)/\SeqAt.RcNeAt A s a b (!Dv w u)->p):p:=by
 obtain ⟨_,_,_,_,_,_,z⟩:=Mi I (WD I m (A:=A.in1) (by rw [Ib,Nat.add_assoc,Ua 1];exact hu)) hu' h2 dw du pw pu ra rb;exact f z
theorem Xz {ahJ:List (Addr×Obj)}{s:Ai}{Z : St}(I:Av X ahJ Z H s)(n:Nat){A:DW}{w u:W}{v x:V}{a b:Mk}(hu:A.units+n<Gf)(dw:Dt X.K H w v)(du:Dt X.K H u x)(pw:Ce n w=true)(pu:Ce n u=true)(ra:BX v a)(rb:BX x b):SeqAt.RcAt A s a b (Dv w u):=by
 have hu':=Ot (VG _ _) hu;by_cases h2:o7 w u=true
 ·obtain ⟨m,rfl⟩:=CP h2 pw;exact rcN I hu hu' h2 dw du pw pu ra rb (·.1)
 ·exact agf hu' (uG I dw ra) (uG I du rb)<|VH _ ▸ h2
theorem zch {ahJ:List (Addr×Obj)}{s:Ai}{Z : St}(I:Av X ahJ Z H s)(n:Nat){A:DW}{w u:W}{v x:V}{a b:Mk}(hu:A.units+n<Gf)(dw:Dt X.K H w v)(du:Dt X.K H u x)(pw:Ce n w=true)(pu:Ce n u=true)(ra:BX v a)(rb:BX x b):SeqAt.RcNeAt A s a b (!Dv w u):=by
 have hu':=Ot (VG _ _) hu;by_cases h2:o7 w u=true
 ·obtain ⟨m,rfl⟩:=CP h2 pw;exact rcN I hu hu' h2 dw du pw pu ra rb (·.2)
 ·exact afP hu' (uG I dw ra) (uG I du rb)<|VH _ ▸ h2
def Cw (h:Gh):W->Option W
 | .loc n=>(match h.c n with
  | some (.lst ws)=>FN (.lst ws)
  | _=>FX)
 | w=>FN w
theorem lH {w d:W}{v:V}{n:Nat}(R:DA K μ H h)(r:Ak K H μ w v)(e:Cw h w=FN d)(p:Ce n d=true):Dt K H d v:=by
 have other:Cw h w=FN w->Dt K H d v:=fun z=>by
  rw [z] at e;cases e;exact Jv n r p
 cases w with
 | loc m=>
  unfold Cw at e;dsimp only at e;cases ec:h.c m with
  | none=>rw [ec] at e;cases e
  | some cl=>
   rw [ec] at e;cases cl with
   | lst us=>
    cases (show FN (W.lst us)=FN d from e)
    obtain ⟨p',xs,hm',hx,rs⟩:=R.lstAt ec;rw [Ak] at r;obtain ⟨q,ev,hm⟩:=r;have ep:p'=q:=by rw [hm] at hm';exact (Eu hm').symm
    subst ep;obtain ⟨k,rfl,p⟩:=Fd p;rw [Dt];exact ⟨p',xs,ev,.of hx,vH (Jv k) rs p⟩
   | _=>cases e
 | _=>exact other rfl
def aaK (K:Az)(neg:Bool):R2:=fun x y H Q=>∃ w u,Dt K H w x/\Dt K H u y/\Ce 30 w=true/\Ce 30 u=true/\Q (.bl (if neg then !Dv w u else Dv w u)) H
theorem agC (hu:X.A.units+30<Gf):J6 X (Jb .Eq) (aaK X.K false):=by
 intro ahJ s Z H x y v u Q I rx ry ⟨w,w',d1,d2,p1,p2,q⟩;exact Xz I 30 hu d1 d2 p1 p2 rx ry X.prog X.w X.xe _<|zA I q rfl
theorem Mh (hu:X.A.units+30<Gf):J6 X (Jb .NotEq) (aaK X.K true):=by
 intro ahJ s Z H x y v u Q I rx ry ⟨w,w',d1,d2,p1,p2,q⟩;exact zch I 30 hu d1 d2 p1 p2 rx ry X.prog X.w X.xe _<|zA I q rfl
def J8:M2:=fun x y h Q=>match Cw h x,Cw h y with
 | some a,FN b=>Hz (Ce 30 a&&Ce 30 b) (Q (.bl (Dv a b)) h) False
 | _,_=>False
def KZ:M2:=fun x y h Q=>match Cw h x,Cw h y with
 | some a,FN b=>Hz (Ce 30 a&&Ce 30 b) (Q (.bl (!Dv a b)) h) False
 | _,_=>False
theorem qg (hu:X.A.units+30<Gf):Js X (Jb .Eq) J8:=⟨_,agC hu,by
 intro H μ h x y wx wy Qw Q R rx ry m k;unfold J8 at m;split at m
 ·rename_i a b ea eb;cases hp:(Ce 30 a&&Ce 30 b) with
  | true=>
   rw [hp] at m;rw [Nr] at hp;exact ⟨a,b,lH R rx ea hp.1,lH R ry eb hp.2,hp.1,hp.2,k _ _<|.bl R m⟩
  | false=>rw [hp] at m;exact (show False from m).elim
 ·exact m.elim⟩
theorem RV (hu:X.A.units+30<Gf):Js X (Jb .NotEq) KZ:=⟨_,Mh hu,by
 intro H μ h x y wx wy Qw Q R rx ry m k;unfold KZ at m;split at m
 ·rename_i a b ea eb;cases hp:(Ce 30 a&&Ce 30 b) with
  | true=>
   rw [hp] at m;rw [Nr] at hp;exact ⟨a,b,lH R rx ea hp.1,lH R ry eb hp.2,hp.1,hp.2,k _ _<|.bl R m⟩
  | false=>rw [hp] at m;exact (show False from m).elim
 ·exact m.elim⟩
theorem abH {A:DW}{k:Nat}(hr:mY k A):A.units+30<Gf:=by have:=hr.units;lia
end
section
variable {X:Cx}{K:Az}
theorem jH {H:Hp}{w:W}{vs:List V}(r:aM K H μ [w] vs):∃ v,vs=[v]/\Ak K H μ w v:=by
 rw [aM] at r;obtain ⟨v,vr,ev,ra,r⟩:=r;rw [aM] at r;subst r;exact ⟨v,ev,ra⟩
theorem BR {H:Hp}{w u:W}{vs:List V}(r:aM K H μ [w,u] vs):∃ v x,vs=[v,x]/\Ak K H μ w v/\Ak K H μ u x:=by
 rw [aM] at r;obtain ⟨v,vr,ev,ra,r⟩:=r;obtain ⟨x,e,rb⟩:=jH r;subst e;exact ⟨v,x,ev,ra,rb⟩
theorem o9.of {i j:Int}{n:Nat}(hi:Sm m i)(hj:Sm n j)(hm:m<=1000000)(hn:n<=1000000):o9 i j:=⟨m,n,hm,hn,hi,hj⟩
theorem Sm.lit {i:Int}(h:Pu (i.natAbs+1) (2^64)=true):Sm 64 i:=by
 have:=Vt h
 unfold Sm;lia
def Gd:MC:=fun ws h Q=>match ws with
 | [w]=>(match view h w with
  | some xs=>Q (.int (xs.length:Int)) h
  | none=>False)
 | _=>False
theorem kZ:fD X (.builtin "len") Gd:=⟨_,u6,by
 intro H μ h vs ws Qw Q R r m k;unfold Gd at m;split at m
 ·split at m
  ·rename_i w _ xs ev;obtain ⟨v,e,rv⟩:=jH r;obtain ⟨p,ys,ex,hs,rs⟩:=xO R rv ev;subst e ex;exact ⟨p,ys,rfl,hs,by rw [<-rs.len];exact k _ _ (.int R m)⟩
  ·exact m.elim
 ·exact m.elim⟩
def R7:MC:=fun ws h Q=>match ws with
 | [.int i]=>Q (.int (if i<0 then -i else i)) h
 | _=>False
theorem QK:fD X (.builtin "abs") R7:=⟨_,aen,by
 intro H μ h vs ws Qw Q R r m k;unfold R7 at m;split at m
 ·obtain ⟨v,e,rv⟩:=jH r;rw [Ak] at rv;subst e rv;exact ⟨_,rfl,k _ _<|.int R m⟩
 ·exact m.elim⟩
def UL:MC:=fun ws h Q=>match ws with
 | [.int i,.int j]=>Q (.int (if j>i then j else i)) h
 | _=>False
theorem U5 (hc:X.calm=true):fD X (.builtin "max") UL:=⟨_,acB hc,by
 intro H μ h vs ws Qw Q R r m k;unfold UL at m;split at m
 ·obtain ⟨v,x,e,rv,rx⟩:=BR r;rw [Ak] at rv rx;subst e rv rx;exact ⟨_,_,rfl,k _ _<|.int R m⟩
 ·exact m.elim⟩
def Ig:List W->Option (List Bool)
 | []=>FN []
 | .bl b::ws=>(Ig ws).map (b::·)
 | _=>FX
theorem Et {H:Hp}{μ : Mu}:∀ {ws:List W} {xs:List V} {bs:List Bool},aM K H μ ws xs->Ig ws=FN bs->xs=bs.map V.bl
 | [],xs,bs,r,e=>by
  rw [aM] at r;cases (show FN []=FN bs from e)
  exact r
 | w::ws,xs,bs,r,e=>by
  rw [aM] at r;obtain ⟨v,vr,ev,ra,r⟩:=r;cases w with
  | bl b=>
   rw [Ak] at ra;rw [Ig] at e;cases q:Ig ws with
   | none=>rw [q] at e;cases e
   | some cs=>
    rw [q] at e;cases (show FN (b::cs)=FN bs from e)
    rw [ev,ra,Et r q];rfl
  | _=>cases e
def aaj:MC:=fun ws h Q=>match ws with
 | [w]=>(match dX h w with
  | some us=>(match Ig us with
   | some bs=>Q (.bl (bs.all id)) h
   | none=>False)
  | none=>False)
 | _=>False
def Xh (h:Gh)(w:W)(T:String):Option Bool:=match w with
 | .int _=>if T = "int" then FN true else if T = "bool"\/T = "tuple"\/T = "list" then FN false else FX
 | .bl _=>if T = "int"\/T = "bool" then FN true else if T = "tuple"\/T = "list" then FN false else FX
 | .str _=>if T = "int"\/T = "bool"\/T = "tuple"\/T = "list" then FN false else FX
 | .non=>if T = "int"\/T = "bool"\/T = "tuple"\/T = "list" then FN false else FX
 | .tup _=>if T = "tuple" then FN true else if T = "int"\/T = "bool"\/T = "list" then FN false else FX
 | w=>(match dX h w with
  | some _=>if T = "list" then FN true else if T = "int"\/T = "bool"\/T = "tuple" then FN false else FX
  | none=>FX)
theorem aeh {H:Hp}{h:Gh}{w:W}{v:V}{T:String}{b:Bool}(R:DA K μ H h)(r:Ak K H μ w v)(e:Xh h w T=FN b):aaA K H v T b:=by
 unfold Xh at e;split at e
 ·rw [Ak] at r;subst r;split at e
  ·rename_i t;subst t;cases e;exact .inl ⟨rfl,rfl⟩
  ·split at e
   ·rename_i t;cases e;rcases t with t | t | t <;> subst t
    ·exact .inr<|.inl ⟨rfl,rfl⟩
    ·exact .inr<|.inr<|.inl ⟨rfl,rfl⟩
    ·exact .inr<|.inr<|.inr ⟨rfl,rfl⟩
   ·cases e
 ·rw [Ak] at r;subst r;split at e
  ·rename_i t;cases e;rcases t with t | t <;> subst t
   ·exact .inl ⟨rfl,rfl⟩
   ·exact .inr<|.inl ⟨rfl,rfl⟩
  ·split at e
   ·rename_i t;cases e;rcases t with t | t <;> subst t
    ·exact .inr<|.inr<|.inl ⟨rfl,rfl⟩
    ·exact .inr<|.inr<|.inr ⟨rfl,rfl⟩
   ·cases e
 ·rw [Ak] at r;subst r;split at e
  ·rename_i t;cases e;rcases t with t | t | t | t <;> subst t
   ·exact .inl ⟨rfl,rfl⟩
   ·exact .inr<|.inl ⟨rfl,rfl⟩
   ·exact .inr<|.inr<|.inl ⟨rfl,rfl⟩
   ·exact .inr<|.inr<|.inr ⟨rfl,rfl⟩
  ·cases e
 ·rw [Ak] at r;subst r;split at e
  ·rename_i t;cases e;rcases t with t | t | t | t <;> subst t
   ·exact .inl ⟨rfl,rfl⟩
   ·exact .inr<|.inl ⟨rfl,rfl⟩
   ·exact .inr<|.inr<|.inl ⟨rfl,rfl⟩
   ·exact .inr<|.inr<|.inr ⟨rfl,rfl⟩
  ·cases e
 ·rw [Ak] at r;obtain ⟨p,xs,ev,hs,_⟩:=r;subst ev;refine .inl ⟨xs,hs,?_⟩;split at e
  ·rename_i t;subst t;cases e;exact .inr (.inr (.inl ⟨rfl,rfl⟩))
  ·split at e
   ·rename_i t;cases e;rcases t with t | t | t <;> subst t
    ·exact .inl ⟨rfl,rfl⟩
    ·exact .inr<|.inl ⟨rfl,rfl⟩
    ·exact .inr<|.inr<|.inr ⟨rfl,rfl⟩
   ·cases e
 ·split at e
  ·rename_i ws ev;obtain ⟨p,xs,ex,hs,_⟩:=cW R r ev;subst ex;refine .inr ⟨xs,hs,?_⟩;split at e
   ·rename_i t;subst t;cases e;exact .inr (.inr (.inr ⟨rfl,rfl⟩))
   ·split at e
    ·rename_i t;cases e;rcases t with t | t | t <;> subst t
     ·exact .inl ⟨rfl,rfl⟩
     ·exact .inr<|.inl ⟨rfl,rfl⟩
     ·exact .inr<|.inr<|.inl ⟨rfl,rfl⟩
    ·cases e
  ·cases e
def HF:MC:=fun ws h Q=>match ws with
 | [w,.ty T]=>(match Xh h w T with
  | some b=>Q (.bl b) h
  | none=>False)
 | _=>False
theorem Bq:fD X (.builtin "isinstance") HF:=⟨_,zbw,by
 intro H μ h vs ws Qw Q R r m k;unfold HF at m;split at m
 ·split at m
  ·rename_i w T _ b eb;obtain ⟨v,x,e,rv,rx⟩:=BR r;have hi:=aeh R rv eb;rw [Ak] at rx;subst e rx;exact ⟨v,T,b,rfl,hi,k _ _<|.bl R m⟩
  ·exact m.elim
 ·exact m.elim⟩
def cD:MC:=fun ws h Q=>match ws with
 | [.tup us]=>Q (.tup us) h
 | [w]=>(match dX h w with
  | some us=>Q (.tup us) h
  | none=>False)
 | _=>False
theorem cH:fD X (.type "tuple") cD:=⟨_,tV,by
 intro H μ h vs ws Qw Q R r m k;unfold cD at m;split at m
 ·obtain ⟨v,e,rv⟩:=jH r;have rv':=rv;rw [Ak] at rv;obtain ⟨p,xs,ex,hs,rs⟩:=rv;subst e ex;exact ⟨p,xs,rfl,.inr ⟨hs,k _ _ ⟨μ,_,h,.refl,R,rv',m⟩⟩⟩
 ·split at m
  ·rename_i w _ _ us ev;obtain ⟨v,e,rv⟩:=jH r;obtain ⟨p,ys,ex,hs,rs⟩:=cW R rv ev;subst e ex;exact ⟨p,ys,rfl,.inl ⟨hs,fun l hl=>k _ _ ⟨μ,_,h,(Ex.laid hl).ext,R.laid hl,.tupNew hl rs,m⟩⟩⟩
  ·exact m.elim
 ·exact m.elim⟩
def uY:MC:=fun ws h Q=>match ws with
 | [w]=>(match view h w with
  | some us=>Q (.lst us) h
  | none=>False)
 | _=>False
theorem zT:fD X (.type "list") uY:=⟨_,vU,by
 intro H μ h vs ws Qw Q R r m k;unfold uY at m;split at m
 ·split at m
  ·rename_i w _ xs ev;obtain ⟨v,e,rv⟩:=jH r;obtain ⟨p,ys,ex,hs,rs⟩:=xO R rv ev;subst e ex;exact ⟨p,ys,rfl,hs,fun l hl=>k _ _ ⟨μ,_,h,(Ex.laid hl).ext,R.laid hl,.lstNew R hl rs,m⟩⟩
  ·exact m.elim
 ·exact m.elim⟩
abbrev MM:=W->List W->Gh->WK->Prop
def aaU (K:Az)(r:V->List V->Hp->VK->Prop)(mr:MM):Prop:=∀ {H:Hp} {μ : Mu} {h:Gh} {x:V} {vs:List V} {wx:W} {ws:List W} {Qw:WK} {Q:VK},DA K μ H h->Ak K H μ wx x->aM K H μ ws vs->mr wx ws h Qw->(∀ v H',DQ K H μ Qw v H'->Q v H')->r x vs H Q
def BZ (h:Gh)(w:W)(P:Prop):Prop:=match w with
 | .loc n=>(match h.c n with
  | some (.lst _)=>P
  | _=>False)
 | _=>False
theorem yw {H:Hp}{h:Gh}{w:W}{v:V}{P:Prop}(R:DA K μ H h)(r:Ak K H μ w v)(e:BZ h w P):tyV K "list" v H/\P:=by
 unfold BZ at e;split at e
 ·split at e
  ·rename_i n _ ws ec;rw [Ak] at r;obtain ⟨p,ev,hm⟩:=r;obtain ⟨p',xs,hm',hx,rs⟩:=R.lstAt ec;have ep:p'=p:=by rw [hm] at hm';exact (Eu hm').symm
   subst ep ev;exact ⟨.inl ⟨rfl,xs,.of hx⟩,e⟩
  ·exact e.elim
 ·exact e.elim
def Qv (r:MM)(mo:ME)(ma:MA):ME:=fun Z h Q=>mo Z h fun x h1=>BZ h1 x (ma Z h1 fun xs h2=>r x xs h2 Q)
variable {o e:Expr}{es:List Expr}{mo:ME}{ma:MA}{name:Str}{apos ahL:Pos}{id:String}{r:V->List V->Hp->VK->Prop}{mr:MM}
theorem abO (slot:Slot "list" name id)(hty:typeOf (.builtin id)=pure (.type "method_descriptor"))(hm:MtR X id r)(hs:aaU X.K r mr)(ho:DE X o mo)(ha:Jc X (e::es) ma)
  (hbase:attributeBase o name X.env (eval o X.env)=eval o X.env:=by rfl)
  (hfew:((J9 ahL (Dh (e::es) X.env)).all (fun x=>!x.1)&&(backToKw ahL (Ug [] X.env)).all (fun x=>x.1.isSome)
   && decide ((e::es).length+([]:List O7).length+(if ([]:List O7).isEmpty then 0 else 1)<30))=true:=by rfl)
  (hline:(apos.endLine==ahL.line)=true:=by rfl) (hst:Dh (e::es) X.env=(false,eval e X.env)::Dh es X.env:=by rfl) (hplain:(J9 ahL (Dh es X.env)).any (·.1)=false:=by rfl) :
  DE X (.Call (.Attribute o name apos) (e::es) [] ahL) (Qv mr mo ma):=(Yi PySem.F.plainAttrs_list slot hty hm ho ha hbase hfew hline hst hplain).of fun Z H Q ⟨μ,h,Zw,Qw,R,S,m,k⟩=>by
 refine ⟨μ,h,Zw,_,R,S,m,fun v H1 ⟨μ1,w,h1,e1,R1,r1,il⟩=>⟨(yw R1 r1 il).1,?_⟩⟩;have m1:=(yw R1 r1 il).2;exact ⟨μ1,h1,Zw,_,R1,S.ext e1,m1,fun vs H2 ⟨μ2,ws,h2,e2,R2,r2,m2⟩=>hs R2 (e2.r _ _ r1) r2 m2 fun v H' z=>k _ _<|(z.trans e2).trans e1⟩
def gY:MM:=fun x ws h Q=>match x,ws with
 | .loc n,[w]=>(match h.c n with
  | some (.lst us)=>us.length<Dp/\Q .non (h.set n (.lst (us++[w])))
  | _=>False)
 | _,_=>False
theorem Ws {H:Hp}{h:Gh}{n:Nat}{v:V}{us:List W}(R:DA K μ H h)(r:Ak K H μ (.loc n) v)(ec:h.c n=FN (.lst us)):∃ p xs,v=.ref p/\μ.f n=FN p/\H p=FN (.lst xs)/\aM K H μ us xs:=by
 rw [Ak] at r;obtain ⟨p,ev,hm⟩:=r;obtain ⟨p',xs,hm',hx,rs⟩:=R.lstAt ec;have ep:p'=p:=by rw [hm] at hm';exact (Eu hm').symm
 subst ep;exact ⟨p',xs,ev,hm,hx,rs⟩
theorem DQ.wrote {H:Hp}{h:Gh}{n:Nat}{p:Addr}{us:List W}{xs:List V}{Q:WK}{w:W}{v:V}(R:DA K μ H h)(hm:μ.f n=FN p)(rs:aM K H μ us xs)(rw':Ak K H μ w v)(q:Q w (h.set n (.lst us))):DQ K H μ Q v (Dd H p (.lst xs)):=
 ⟨μ,w,h.set n (.lst us),(Ex.write R hm).ext,R.write hm trivial ⟨xs,bA,(Ex.write R hm).ext.s rs⟩,(Ex.write R hm).ext.r _ _ rw',q⟩
theorem adL:aaU K Dk gY:=by
 intro H μ h x vs wx ws Qw Q R rx rs m k;unfold gY at m;split at m
 ·split at m
  ·rename_i n w _ us ec;obtain ⟨p,xs,ex,hm,hx,r1⟩:=Ws R rx ec;obtain ⟨v,ev,rv⟩:=jH rs;exact ⟨p,xs,v,ex,ev,hx,by rw [<-r1.len];exact m.1,k _ _<|.wrote R hm (r1.append<|.one rv) (by rw [Ak]) m.2⟩
  ·exact m.elim
 ·exact m.elim
theorem nM (ho:DE X o mo)(ha:Jc X [e] ma)
  (hbase:attributeBase o "append" X.env (eval o X.env)=eval o X.env:=by rfl)
  (hfew:((J9 ahL (Dh [e] X.env)).all (fun x=>!x.1)&&(backToKw ahL (Ug [] X.env)).all (fun x=>x.1.isSome)
   && decide (([e]:List Expr).length+([]:List O7).length+(if ([]:List O7).isEmpty then 0 else 1)<30))=true:=by rfl)
  (hline:(apos.endLine==ahL.line)=true:=by rfl) (hst:Dh [e] X.env=(false,eval e X.env)::Dh [] X.env:=by rfl) (hplain:(J9 ahL (Dh [] X.env)).any (·.1)=false:=by rfl) :
  DE X (.Call (.Attribute o "append" apos) [e] [] ahL) (Qv gY mo ma):=abO PySem.F.slot_list_append PySem.F.type_list_append uH adL ho ha hbase hfew hline hst hplain
theorem acP:J6 X (Jb .IsNot) (fun x y H Q=>∃ c b,x=.bl c/\y=.bl b/\Q (.bl (!(c==b))) H):=by
 intro ahJ s Z H x y v u Q I rx ry ⟨c,b,ex,ey,q⟩;subst ex ey;cases rx;cases ry;exact Ba<|zA I q (by cases c <;> cases b <;> rfl)
def Jl:W->Bool
 | .non=>true
 | _=>false
theorem aec {H:Hp}{w:W}{v:V}(r:Ak K H μ w v):decide (v=.non)=Jl w:=by
 cases w with
 | non=>rw [Ak] at r;subst r;rfl
 | bl _=>rw [Ak] at r;subst r;rfl
 | int _=>rw [Ak] at r;subst r;rfl
 | str _=>rw [Ak] at r;subst r;rfl
 | ty _=>rw [Ak] at r;subst r;rfl
 | tup _=>rw [Ak] at r;obtain ⟨_,_,e,_⟩:=r;subst e;rfl
 | lst _=>rw [Ak] at r;obtain ⟨_,_,e,_⟩:=r;subst e;rfl
 | kls _=>rw [Ak] at r;obtain ⟨_,_,e,_⟩:=r;subst e;rfl
 | loc _=>rw [Ak] at r;obtain ⟨_,e,_⟩:=r;subst e;rfl
 | exc _=>rw [Ak] at r;obtain ⟨_,_,_,e,_⟩:=r;subst e;rfl
 | exa _ _=>rw [Ak] at r;obtain ⟨_,_,_,_,_,_,e,_⟩:=r;subst e;rfl
 | fnv _ _=>rw [Ak] at r;subst r;rfl
def kIs:M2:=fun x y h Q=>match x,y with
 | .bl c,.bl b=>Q (.bl (c==b)) h
 | w,.non=>Q (.bl (Jl w)) h
 | _,_=>False
def FQ:M2:=fun x y h Q=>match x,y with
 | .bl c,.bl b=>Q (.bl (!(c==b))) h
 | w,.non=>Q (.bl (!Jl w)) h
 | _,_=>False
theorem afl:Js X (Jb .IsNot) FQ:=⟨_,acP.or afj,by
 intro H μ h x y wx wy Qw Q R rx ry m k;unfold FQ at m;split at m
 ·rw [Ak] at rx ry;exact .inl ⟨_,_,rx,ry,k _ _<|.bl R m⟩
 ·rw [<-aec rx] at m;rw [Ak] at ry;exact .inr ⟨ry,k _ _<|.bl R m⟩
 ·exact m.elim⟩
theorem zap (bs:List Bool):((Oo bs.length).any fun i=>(bs[i]?).getD true)=bs.any id:=by
 rw [VB,Sy,Sy];constructor
 ·rintro ⟨i,hi,e⟩;have hi':=List.mem_range.mp hi;exact ⟨bs[i],U7 hi',by simpa [hi'] using e⟩
 ·rintro ⟨b,hb,e⟩;obtain ⟨i,hi,rfl⟩:=Vr.mp hb;exact ⟨i,List.mem_range.mpr hi,by simpa [hi] using e⟩
theorem zaH (hc:X.calm=true):fL X (.builtin "any") (fun xs H Q=>∃ (p:Addr) (bs:List Bool),xs=[.ref p]/\Ij X.K H p (bs.map V.bl)/\Q (.bl (bs.any id)) H):=by
 intro ahJ s Z H xs us Q I r ⟨p,bs,e,hS,q⟩;subst e;obtain ⟨u,rfl,ru⟩:=Gv r;cases ru;obtain ⟨its,rv,pl,hz⟩:=I.list hS;have ahK:its.length=bs.length:=by rw [<-rv.length,Bx]
 have hl:=pl.isList;have hlt:p<s.heap.objs.size:=by obtain ⟨_,e,_⟩:=hl;exact Ej e
 refine call_any_walk<|wpAny_pyIter_list hl ?_
 refine ⟨s.heap.objs.size,[s.heap.objs.size,p],[s.heap.objs.size],its.toArray.size,_,_,fun i=>(bs[i]?).getD true,rfl,Walks.list (A:=X.A.in1) (I.ok.hd hc) _ p (G3 hlt) its.toArray,
  ⟨⟨_,Ip _ rfl,rfl,rfl⟩,hl.push _⟩,fun i v s' Q' E' hP hQ=>?_,fun h' tk hk=>?_⟩
 ·obtain ⟨b,e,rfl⟩:=vA rv (by simpa using hP);simp only [e,Option.getD_some] at hQ;exact wpAny_truthy_bool hQ
 ·have e:((Oo its.toArray.size).any fun i=>(bs[i]?).getD true)=bs.any id:=by
   rw [Io,ahK];exact zap bs
  rw [e];refine ⟨.bl<|bs.any id,H,I.kept (h':=h') (t':=tk)<|fun b x e=>?_,rfl,q⟩;exact hk b x (fun hm=>by rw [Jr.mp hm] at e;exact O9 _ (Ej e))<|Eo _ e
def VN:MC:=fun ws h Q=>match ws with
 | [w]=>(match dX h w with
  | some us=>(match Ig us with
   | some bs=>Q (.bl (bs.any id)) h
   | none=>False)
  | none=>False)
 | _=>False
theorem Y7 (hc:X.calm=true):fD X (.builtin "any") VN:=⟨_,zaH hc,by
 intro H μ h vs ws Qw Q R r m k;unfold VN at m;split at m
 ·split at m
  ·split at m
   ·rename_i w _ us ev _ bs eb;obtain ⟨v,e,rv⟩:=jH r;obtain ⟨p,ys,ex,hs,rs⟩:=cW R rv ev;subst e ex;exact ⟨p,bs,rfl,by rw [<-Et rs eb];exact hs,k _ _<|.bl R m⟩
   ·exact m.elim
  ·exact m.elim
 ·exact m.elim⟩
theorem acX:J6 X (Jw .Add) (fun x y H Q=>∃ a b ys,x=.ref a/\y=.ref b/\Ew X.K H a []/\Ew X.K H b ys/\Q (.ref b) H):=by
 intro ahJ s Z H x y v u Q I rx ry ⟨a,b,ys,ex,ey,ha,hb,q⟩;subst ex ey;cases rx;cases ry;obtain ⟨its,r1,p1,_⟩:=I.tuple ha;obtain ⟨jts,r2,p2,_⟩:=I.tuple hb;cases r1;obtain ⟨⟨cls,dd,data,sl⟩,ho,hc,n,hd⟩:=id p1;obtain ⟨⟨cls2,dd2,data2,sl2⟩,ho2,hc2,n2,hd2⟩:=id p2;simp only at hc hd hc2 hd2;subst hc hd hc2 hd2;exact concat_meets ⟨_,ho,rfl⟩ ⟨_,ho2,rfl⟩ noFill_tuple_add seq_tuple_add PySem.F.slot_tuple_add PySem.F.entry_tuple_add (PySem.F.args_tuple_add_2 _ _)
  (tuple_addW0 a b _ _ n n2 dd dd2 sl sl2 (by simp)) ⟨ho,ho2,⟨.ref b,H,I,rfl,q⟩⟩
def Xv (h:Gh):W->Option (List W)
 | .lst ws=>FN ws
 | .loc n=>(match h.c n with
  | some (.lst ws)=>FN ws
  | _=>FX)
 | _=>FX
theorem Ea {H:Hp}{h:Gh}{w:W}{v:V}(R:DA K μ H h)(r:Ak K H μ w v)(e:Xv h w=FN ws):∃ p xs,v=.ref p/\H p=FN (.lst xs)/\aM K H μ ws xs:=by
 cases w with
 | lst us=>
  rw [Ak] at r;obtain ⟨p,xs,ev,hs,rs⟩:=r;cases (show FN us=FN ws from e)
  exact ⟨p,xs,ev,hs.1,rs⟩
 | loc n=>
  unfold Xv at e;dsimp only at e;cases ec:h.c n with
  | none=>rw [ec] at e;cases e
  | some cl=>
   rw [ec] at e;cases cl with
   | lst us=>
    cases (show FN us=FN ws from e)
    obtain ⟨p,xs,ev,_,hx,rs⟩:=Ws R r ec;exact ⟨p,xs,ev,hx,rs⟩
   | _=>cases e
 | _=>cases e
def dN:M2:=fun x y h Q=>match x,y with
 | .int i,.int j=>Q (.int (i+j)) h
 | .tup [],.tup b=>Q (.tup b) h
 | .tup (a0::a),.tup b=>fG (a.length+1+b.length) (Q (.tup (a0::a++b)) h)
 | x,y=>(match Xv h x,Xv h y with
  | some a,FN b=>fG (a.length+b.length) (Q (.lst (a++b)) h)
  | _,_=>False)
theorem cV:Js X (Jw .Add) dN:=⟨_,(adG.or (acX.or afU)).or afN,by
 intro H μ h x y wx wy Qw Q R rx ry m k;unfold dN at m;split at m
 ·rw [Ak] at rx ry;exact .inl<|.inl ⟨_,_,rx,ry,k _ _<|.int R m⟩
 ·rename_i b;have ry':=ry;rw [Ak] at rx ry;obtain ⟨p,xs,ex,hx,r1⟩:=rx;obtain ⟨q,ys,ey,hy,r2⟩:=ry;rw [aM] at r1;subst r1;rw [ey] at ry';exact .inl<|.inr<|.inl ⟨p,q,ys,ex,ey,hx,hy,k _ _ ⟨μ,_,h,.refl,R,ry',m⟩⟩
 ·rename_i a0 a b;have rx':=rx;rw [Ak] at rx ry;obtain ⟨p,xs,ex,hx,r1⟩:=rx;obtain ⟨q,ys,ey,hy,r2⟩:=ry;have sz:=m.ok.1;refine .inl<|.inr<|.inr ⟨p,q,xs,ys,ex,ey,hx,hy,fun z=>(by have:=r1.ne_nil.mp z;cases this),by rw [<-r1.len,<-r2.len];exact sz,fun z=>?_,fun z l hl=>?_⟩
  ·have eb:b=[]:=r2.ne_nil.mp z;subst eb;refine k _ _ ⟨μ,.tup (a0::a++[]),h,.refl,R,?_,m.ok.2⟩;rw [T9,<-ex];exact rx'
  ·exact k _ _ ⟨μ,_,h,(Ex.laid hl).ext,R.laid hl,.tupNew hl<|r1.append r2,m.ok.2⟩
 ·split at m
  ·rename_i a b ea eb;obtain ⟨p,xs,ex,hx,r1⟩:=Ea R rx ea;obtain ⟨q,ys,ey,hy,r2⟩:=Ea R ry eb;have sz:=m.ok.1;exact .inr ⟨p,q,xs,ys,ex,ey,hx,hy,by rw [<-r1.len,<-r2.len];exact sz,fun l hl=>k _ _ ⟨μ,_,h,(Ex.laid hl).ext,R.laid hl,.lstNew R hl<|r1.append r2,m.ok.2⟩⟩
  ·exact m.elim⟩
variable {o e:Expr}{mo:ME}{ma:MA}{apos ahL:Pos}
end
def JQ (K:Az):Sp:=fun vs H Q _=>∃ (a:Addr) (ns:List Int),vs=[.ref a]/\Ij K H a (ns.map V.int)/\Rn H/\ns.length<=63/\∀ H',Q (.bl true) H'
def g0:Gh:=⟨0,fun _=>FX⟩
def μ0:Mu:=⟨fun _=>FX,fun _=>False⟩
theorem aaq {K:Az}{H:Hp}:DA K μ0 H g0 where
 inj:=fun m n p h=>by cases (show (FX:Option Addr)=FN p from h)
 dom:=fun n p h=>by cases (show (FX:Option Addr)=FN p from h)
 trk:=fun n p h=>by cases (show (FX:Option Addr)=FN p from h)
 cel:=fun n c h=>by cases (show (FX:Option Cell)=FN c from h)
 hd:=fun p h=>Qa h
theorem j4 {K:Az}{H:Hp}{μ : Mu}:∀ ns:List Int,aM K H μ (ns.map W.int) (ns.map V.int)
 | []=>.nil
 | n::ns=>.cons (by rw [Ak]) (j4 ns)
theorem agO {P:DI}{w:Bw}{K:Az}{mg:Str->Option Mk}{base:Heap}{k:Nat}{f:Addr}{fd:Kw}{ps:List Str}
  (hm:∀ ns:List Int,ns.length<=63->ms [.kls (ns.map W.int)] g0 (fun w _=>w=.bl true) EF) (F:qm P w K mg base NT k f fd ps (Ks K ms)):qm P w K mg base NT k f fd ps (JQ K):=
 F.imp fun vs H Q E ⟨a,ns,e,hS,hO,hl,q⟩=>by
  subst e;refine ⟨μ0,g0,[.kls<|ns.map W.int],_,aaq,.one ?_,hm ns hl,fun v H' ⟨μ',w',h',_,_,r,e⟩=>?_⟩
  ·rw [Ak];refine ⟨a,ns.map V.int,rfl,?_,j4 ns⟩;rcases hS with (hS | hS) | hS
   ·rcases hO a with z | ⟨o,xs,z⟩ <;> rw [hS] at z <;> cases z
   ·exact .inl hS
   ·exact .inr hS
  ·subst e;rw [Ak] at r;subst r;exact q H'
inductive Sk where
 | l | t
def Sk.sq (k:Sk)(h:Heap)(a:Addr)(its:Array Mk):Prop:=match k with
 | .l=>h.IsList a its
 | .t=>h.IsTuple a its
def Sk.it (k:Sk)(h:Heap)(i a:Addr)(n:Nat):Prop:=match k with
 | .l=>h.IsListIter i a n
 | .t=>h.IsTupleIter i a n
def Sk.nm:Sk->String
 | .l => "list_iterator"
 | .t => "tuple_iterator"
section
variable {P:DI}{w:Bw}{A:DW}{E:Mk->Ai->Prop}{s:Ai}{k k1 k2:Sk}
theorem Sk.it_at {h h':Heap}{i a:Addr}{n:Nat}(x:k.it h i a n)(e:∀ o,h.get? i=FN o->h'.get? i=FN o):k.it h' i a n:=by
 cases k with
 | l=>obtain ⟨o,ho,r⟩:=x;exact ⟨o,e o ho,r⟩
 | t=>obtain ⟨o,ho,r⟩:=x;exact ⟨o,e o ho,r⟩
theorem Sk.sq_at {h h':Heap}{a:Addr}{its:Array Mk}(x:k.sq h a its)(e:∀ o,h.get? a=FN o->h'.get? a=FN o):k.sq h' a its:=by
 cases k with
 | l=>obtain ⟨o,ho,r⟩:=x;exact ⟨o,e o ho,r⟩
 | t=>obtain ⟨o,ho,r⟩:=x;exact ⟨o,e o ho,r⟩
theorem Sk.it_obj {h:Heap}{i a:Addr}{n:Nat}(x:k.it h i a n):∃ o,h.get? i=FN o/\o.cls=.type k.nm/\o.data=.fields #[.ref a,.int n 0]:=by
 cases k with
 | l=>exact x
 | t=>exact x
theorem adu {it t:Addr}{i:Nat}{its:Array Mk}{x:Mk}{Q:Mk->Ai->Prop}(hi:s.heap.IsTupleIter it t i)(ht:s.heap.IsTuple t its)(hx:its[i]?=FN x)
  (q:∀ h',h'.IsTupleIter it t (i+1)->Tj it s.heap h'->Q x { s with heap:=h' }):Ay (Ax P w) A (Rf (.ref it)) Q E s:=by
 obtain ⟨o,go,gc,gd⟩:=id hi;obtain ⟨ol,gol,_,nl,gdl⟩:=ht;unfold Rf;refine Ao (TK (name:=SQ "__next__") hi.typeIs Wr
  (Qk Wr hi.typeIs PySem.F.entry_tuple_iterator_next ?_ (PySem.F.args_tuple_iterator_next_1 _)))
 show Ay _ _ (field (.ref it) 0 >>= _) _ _ s;refine Ao<|Kc go gd (x:=.ref t) rfl ?_
 show Ay _ _ (if (Value.ref t==Value.none)=true then _ else _) _ _ s;rw [if_neg (by exact KY)];show Ay _ _ (field (.ref it) 1 >>= _) _ _ s;refine Ao<|Kc go gd (x:=.int i 0) rfl ?_
 show Ay _ _ (seqItems? (.ref t) >>= _) _ _ s;refine Ao<|T7 gol gdl ?_
 simp only [V6,hx];refine Ao<|wpAny_setField go gd (by simp)<|Ba ⟨x,rfl,Ba<|q _ ?_<|WR ..⟩
 exact ⟨_,VR _ go<|Obj.isFreed_of_fields<|Vx gd _,(Obj.cls_mapFields ..).trans gc,by rw [Vx gd];simp [Ol]⟩
theorem vd {it t:Addr}{i:Nat}{its:Array Mk}{Q:Mk->Ai->Prop}(hh:A.handled=FX)(hi:s.heap.IsTupleIter it t i)(ht:s.heap.IsTuple t its)(hx:its[i]?=FX)
  (q:∀ h' e,V4 it s.heap h'->(∃ o,h'.get? e=FN o/\o.cls=.type "StopIteration")->E (.ref e) { s with heap:=h' }):Ay (Ax P w) A (Rf (.ref it)) Q E s:=by
 obtain ⟨o,go,gc,gd⟩:=id hi;obtain ⟨ol,gol,_,nl,gdl⟩:=ht;unfold Rf;refine Ao (TK (name:=SQ "__next__") hi.typeIs Wr
  (Qk Wr hi.typeIs PySem.F.entry_tuple_iterator_next ?_ (PySem.F.args_tuple_iterator_next_1 _)))
 show Ay _ _ (field (.ref it) 0 >>= _) _ _ s;refine Ao<|Kc go gd (x:=.ref t) rfl ?_
 show Ay _ _ (if (Value.ref t==Value.none)=true then _ else _) _ _ s;rw [if_neg (by exact KY)];show Ay _ _ (field (.ref it) 1 >>= _) _ _ s;refine Ao<|Kc go gd (x:=.int i 0) rfl ?_
 show Ay _ _ (seqItems? (.ref t) >>= _) _ _ s;refine Ao<|T7 gol gdl ?_
 simp only [V6,hx];refine Ao<|Np<|Ao<|wpAny_setField go gd (by simp) ?_
 show Ay _ _ (newExc (.type "StopIteration") [] >>= _) _ _ _;refine Ao ?_;simp only [newExc,newTuple];refine Ao<|M8 ?_<|by size_fits
 refine Ao (m:=Uw _ _)<|wpAny_of_eq (a:=Value.none) (by first | rfl | (simp only [Uw];rfl)) ?_
 refine M8 ?_<|by size_fits
 simp only [raiseNew];refine Ao<|wpAny_handled ?_
 first | rw [show A.in1.handled=FX from hh] | rw [hh]
 refine Ao<|Ba<|wpAny_throw ?_
 exact q _ _ (((WR ..).extBut.push _).push _) ⟨_,Ip _ rfl,rfl⟩
theorem Sk.next {it a:Addr}{i:Nat}{its:Array Mk}{x:Mk}{Q:Mk->Ai->Prop}(hi:k.it s.heap it a i)(hs:k.sq s.heap a its)(hx:its[i]?=FN x)
  (q:∀ h',k.it h' it a (i+1)->Tj it s.heap h'->Q x { s with heap:=h' }):Ay (Ax P w) A (Rf (.ref it)) Q E s:=by
 cases k with
 | l=>exact wpAny_nextOf_list_item hi hs hx q
 | t=>exact adu hi hs hx q
theorem Sk.stop {it a:Addr}{i:Nat}{its:Array Mk}{Q:Mk->Ai->Prop}(hh:A.handled=FX)(hi:k.it s.heap it a i)(hs:k.sq s.heap a its)(hx:its[i]?=FX)
  (q:∀ h' e,V4 it s.heap h'->(∃ o,h'.get? e=FN o/\o.cls=.type "StopIteration")->E (.ref e) { s with heap:=h' }):Ay (Ax P w) A (Rf (.ref it)) Q E s:=by
 cases k with
 | l=>exact wpAny_nextOf_list_end hh hi hs hx q
 | t=>exact vd hh hi hs hx q
theorem Sk.iter {a:Addr}{its:Array Mk}{Q:Mk->Ai->Prop}(hs:k.sq s.heap a its)
  (q:Q (.ref s.heap.objs.size) { s with heap:=s.heap.push { cls:=.type k.nm,data:=.fields #[.ref a,.int 0 0] } }):Ay (Ax P w) A (pyIter (.ref a)) Q E s:=by
 cases k with
 | l=>exact wpAny_pyIter_list hs q
 | t=>exact wpAny_pyIter_tuple hs q
structure Zap (z TI TO i1 i2:Addr):Prop where
 a1:TI≠z
 a2:TO≠z
 a3:i1≠z
 a4:i2≠z
 a5:TI≠TO
 a6:TI≠i1
 a7:TI≠i2
 a8:TO≠i1
 a9:TO≠i2
 b1:i1≠i2
structure Off (a z TO i1 i2:Addr):Prop where
 z:a≠z
 o:a≠TO
 i:a≠i1
 j:a≠i2
theorem adZ {z TI TO i1 i2 l1 l2:Addr}{n1 n2:Nat}{xs ys:Array Mk}{x y a b:Mk}{Q:Option Mk->Ai->Prop}(D:Zap z TI TO i1 i2)(o1:Off l1 z TO i1 i2)(o2:Off l2 z TO i1 i2)
  (gz:IsZip s.heap z TI TO .none) (gI:Nh s.heap TI (.ref i1) (.ref i2)) (gO:Nh s.heap TO a b) (g1:k1.it s.heap i1 l1 n1) (g2:k2.it s.heap i2 l2 n2) (gx:k1.sq s.heap l1 xs) (gy:k2.sq s.heap l2 ys)
  (hx:xs[n1]?=FN x) (hy:ys[n2]?=FN y)
  (q:∀ h',IsZip h' z TI TO (Ol s.heap.objs.size)->Nh h' TO x y->k1.it h' i1 l1 (n1+1)->k2.it h' i2 l2 (n2+1)->Nh h' s.heap.objs.size x y->h'.objs.size=s.heap.objs.size+1 ->
   (∀ c o,c≠z->c≠TO->c≠i1->c≠i2->s.heap.get? c=FN o->h'.get? c=FN o)->Q (FN (.ref s.heap.objs.size)) { s with heap:=h' }) :
  Ay (Ax P w) A (Ni (.ref z)) Q E s:=by
 have gT:s.TypeIs (.ref z) "zip":=⟨_,gz,rfl⟩
 unfold Ni;refine Ao<|Uu<|TK (name:=SQ "__next__") gT Wd<|Qk Wd gT PySem.F.entry_zip_next ?_<|PySem.F.args_zip_next_1 _
 show Ay _ _ (field (.ref z) 2 >>= _) _ _ _;refine Ao<|Kc gz rfl (x:=.bool false) rfl ?_
 show Ay _ _ (field (.ref z) 3 >>= _) _ _ _;refine Ao<|Kc gz rfl (x:=.ref TI) rfl ?_
 refine Ao<|T7 gI rfl ?_
 show Ay _ _ (Wo (.ref z) >>= _) _ _ _;refine Ao ?_;unfold Wo;refine Ao<|Kc gz rfl (x:=.none) rfl<|Ba ?_
 simp only [if_true];refine Ao<|Np ?_
 refine Ao<|Kc gz rfl (x:=.ref TO) rfl ?_
 refine Ao<|V8 gz (by simp) fun h₁ z₁ s₁=>?_
 replace z₁ : IsZip h₁ z TI TO .ellipsis:=z₁;refine Ao ?_;simp only [List.zipIdx_cons,List.zipIdx_nil,Vf,Vq]
 -- the first one
 refine Ao<|Ao<|wpAny_onRaise ?_
 show Ay _ _ (Rf (.ref i1) >>= _) _ _ _;refine Ao<|Sk.next (k:=k1) (s:={ s with heap:=h₁ }) (Sk.it_at g1 fun o e=>s₁.extBut _ o D.a3 e) (Sk.sq_at gx fun o e=>s₁.extBut _ o o1.z e) hx fun h₂ g1₂ s₂=>Ba ?_
 have gO₂ : Nh h₂ TO a b:=s₂.extBut _ _ D.a8 (s₁.extBut _ _ D.a2 gO);refine Ao<|T7 gO₂ rfl ?_
 refine Ao<|wpAny_updateSeq_pair gO₂ fun h₃ gO₃ s₃=>?_
 replace gO₃ : Nh h₃ TO x b:=gO₃;refine Ao<|wpAny_letGo<|Ba ?_
 -- the second one
 refine Ao<|Ao<|wpAny_onRaise ?_
 show Ay _ _ (Rf (.ref i2) >>= _) _ _ _;refine Ao (Sk.next (k:=k2) (s:={ s with heap:=h₃ }) (Sk.it_at g2 fun o e=>s₃.extBut _ o D.a9.symm (s₂.extBut _ o D.b1.symm (s₁.extBut _ o D.a4 e)))
  (Sk.sq_at gy fun o e=>s₃.extBut _ o o2.o (s₂.extBut _ o o2.i (s₁.extBut _ o o2.z e))) hy fun h₄ g2₄ s₄=>Ba ?_)
 have gO₄ : Nh h₄ TO x b:=s₄.extBut _ _ D.a9 gO₃;refine Ao<|T7 gO₄ rfl ?_
 refine Ao<|wpAny_updateSeq_pair gO₄ fun h₅ gO₅ s₅=>?_
 replace gO₅ : Nh h₅ TO x y:=gO₅;refine Ao<|wpAny_letGo<|Ba<|Ba ?_
 -- the pair is handed out
 refine Ao<|T7 gO₅ rfl ?_
 refine Ao<|wpAny_newTuple ?_
 have size:h₅.objs.size=s.heap.objs.size:=by rw [s₅.1,s₄.1,s₃.1,s₂.1,s₁.1]
 have z₅ : IsZip h₅ z TI TO .ellipsis:=s₅.extBut _ _ D.a2.symm (s₄.extBut _ _ D.a4.symm (s₃.extBut _ _ D.a2.symm (s₂.extBut _ _ D.a3.symm z₁)));have all₅ : ∀ c o,c≠z->c≠TO->c≠i1->c≠i2->s.heap.get? c=FN o->h₅.get? c=FN o:=fun c o c1 c2 c3 c4 e=>s₅.extBut _ _ c2 (s₄.extBut _ _ c4 (s₃.extBut _ _ c2 (s₂.extBut _ _ c3 (s₁.extBut _ _ c1 e))))
 have g1₅ : k1.it h₅ i1 l1 (n1+1):=Sk.it_at g1₂ fun o e=>s₅.extBut _ o D.a8.symm (s₄.extBut _ o D.b1 (s₃.extBut _ o D.a8.symm e))
 have g2₅ : k2.it h₅ i2 l2 (n2+1):=Sk.it_at g2₄ fun o e=>s₅.extBut _ o D.a9.symm e
 have zlt:z<h₅.objs.size:=Ej z₅;show Ay _ _ (Builtin.SmallTypes.ownedTupleHandOut (.ref z) (.ref h₅.objs.size) >>= _) _ _ _;refine Ao ?_;unfold Builtin.SmallTypes.ownedTupleHandOut;have z₆ : IsZip (h₅.push { cls:=.type "tuple",data:=.seq #[x,y] }) z TI TO .ellipsis:=Eo _ z₅;refine Ao<|V8 z₆ (by simp) fun h₇ z₇ s₇=>?_
 replace z₇ : IsZip h₇ z TI TO (Ol h₅.objs.size):=z₇;refine V8 z₇ (by simp) fun h₈ z₈ s₈=>?_;replace z₈ : IsZip h₈ z TI TO (Ol h₅.objs.size):=z₈;have up:∀ c o,c≠z->h₅.get? c=FN o->h₈.get? c=FN o:=fun c o c1 e=>s₈.extBut _ _ c1 (s₇.extBut _ _ c1 (Eo _ e))
 have T₈ : Nh h₈ h₅.objs.size x y:=s₈.extBut _ _ (Ky zlt) (s₇.extBut _ _ (Ky zlt) (Ip _ rfl));have size8:h₈.objs.size=h₅.objs.size+1:=by rw [s₈.1,s₇.1,Qh]
 rw [size] at z₈ T₈ size8;refine Ba ⟨_,rfl,Ba ?_⟩;show Q (FN (.ref h₅.objs.size)) _;rw [size];exact q h₈ z₈ (up _ _ D.a2 gO₅) (Sk.it_at g1₅ fun o e=>up _ o D.a3 e) (Sk.it_at g2₅ fun o e=>up _ o D.a4 e) T₈ size8 fun c o c1 c2 c3 c4 e=>up c o c1<|all₅ c o c1 c2 c3 c4 e
theorem zbo {z TI TO i1 i2 l1 l2:Addr}{n1 n2:Nat}{xs ys:Array Mk}{a b:Mk}{Q:Option Mk->Ai->Prop}(hh:A.handled=FX)(D:Zap z TI TO i1 i2)(o1:Off l1 z TO i1 i2)(o2:Off l2 z TO i1 i2)
  (gz:IsZip s.heap z TI TO .none) (gI:Nh s.heap TI (.ref i1) (.ref i2)) (gO:Nh s.heap TO a b) (g1:k1.it s.heap i1 l1 n1) (g2:k2.it s.heap i2 l2 n2) (gx:k1.sq s.heap l1 xs) (gy:k2.sq s.heap l2 ys)
  (hend:xs[n1]?=FX\/ys[n2]?=FX)
  (q:∀ h',(∀ c o,c≠z->c≠TO->c≠i1->c≠i2->s.heap.get? c=FN o->h'.get? c=FN o)->Q FX { s with heap:=h' }):Ay (Ax P w) A (Ni (.ref z)) Q E s:=by
 have gT:s.TypeIs (.ref z) "zip":=⟨_,gz,rfl⟩
 have fin:∀ (h':Heap) (e:Addr),(∀ c o,c≠z->c≠TO->c≠i1->c≠i2->s.heap.get? c=FN o->h'.get? c=FN o)->(∃ o,h'.get? e=FN o/\o.cls=.type "StopIteration") ->
   Ay (Ax P w) A (do if <-isInstance (.ref e) (.type "StopIteration") then pure FX else throw (.ref e)) Q E { s with heap:=h' }:=fun h' e all ⟨o,ho,hc⟩=>
  Ao (wpAny_isInstance (T := "StopIteration") (b:=true) ⟨o,ho,hc⟩ isSubtype_stop (Ba (q _ all)))
 unfold Ni;refine Ao<|Uu<|TK (name:=SQ "__next__") gT Wd<|Qk Wd gT PySem.F.entry_zip_next ?_<|PySem.F.args_zip_next_1 _
 show Ay _ _ (field (.ref z) 2 >>= _) _ _ _;refine Ao<|Kc gz rfl (x:=.bool false) rfl ?_
 show Ay _ _ (field (.ref z) 3 >>= _) _ _ _;refine Ao<|Kc gz rfl (x:=.ref TI) rfl ?_
 refine Ao<|T7 gI rfl ?_
 show Ay _ _ (Wo (.ref z) >>= _) _ _ _;refine Ao ?_;unfold Wo;refine Ao<|Kc gz rfl (x:=.none) rfl<|Ba ?_
 simp only [if_true];refine Ao<|Np ?_
 refine Ao<|Kc gz rfl (x:=.ref TO) rfl ?_
 refine Ao<|V8 gz (by simp) fun h₁ z₁ s₁=>?_
 replace z₁ : IsZip h₁ z TI TO .ellipsis:=z₁;refine Ao ?_;simp only [List.zipIdx_cons,List.zipIdx_nil,Vf,Vq];refine Ao<|Ao<|wpAny_onRaise ?_
 show Ay _ _ (Rf (.ref i1) >>= _) _ _ _;have g1₁ : k1.it h₁ i1 l1 n1:=Sk.it_at g1 fun o e=>s₁.extBut _ o D.a3 e
 have gx₁ : k1.sq h₁ l1 xs:=Sk.sq_at gx fun o e=>s₁.extBut _ o o1.z e
 cases hx:xs[n1]? with
 | none=>
  refine Ao<|Sk.stop (k:=k1) (s:={ s with heap:=h₁ }) hh g1₁ gx₁ hx fun h₂ e s₂ he=>?_
  obtain ⟨oe,hoe,hce⟩:=he;have z₂ : IsZip h₂ z TI TO .ellipsis:=s₂ _ _ D.a3.symm z₁;have ez:e≠z:=fun y=>by subst y;rw [z₂] at hoe;cases hoe;simp at hce
  refine V8 z₂ (by simp) fun h₃ _ s₃=>fin h₃ e (fun c o c1 _ c3 _ y=>s₃.extBut _ _ c1<|s₂ _ _ c3<|s₁.extBut _ _ c1 y) ⟨oe,s₃.extBut _ _ ez hoe,hce⟩
 | some x=>
  have hy:ys[n2]?=FX:=by
   rcases hend with h | h
   ·rw [hx] at h;cases h
   ·exact h
  refine Ao<|Sk.next (k:=k1) (s:={ s with heap:=h₁ }) g1₁ gx₁ hx fun h₂ g1₂ s₂=>Ba ?_
  have gO₂ : Nh h₂ TO a b:=s₂.extBut _ _ D.a8 (s₁.extBut _ _ D.a2 gO);refine Ao<|T7 gO₂ rfl ?_
  refine Ao<|wpAny_updateSeq_pair gO₂ fun h₃ gO₃ s₃=>?_
  refine Ao<|wpAny_letGo<|Ba ?_
  refine Ao<|Ao<|wpAny_onRaise ?_
  show Ay _ _ (Rf (.ref i2) >>= _) _ _ _;refine Ao (Sk.stop (k:=k2) (s:={ s with heap:=h₃ }) hh (Sk.it_at g2 fun o e=>s₃.extBut _ o D.a9.symm (s₂.extBut _ o D.b1.symm (s₁.extBut _ o D.a4 e)))
   (Sk.sq_at gy fun o e=>s₃.extBut _ o o2.o (s₂.extBut _ o o2.i (s₁.extBut _ o o2.z e))) hy fun h₄ e s₄ he=>?_)
  obtain ⟨oe,hoe,hce⟩:=he;have z₄ : IsZip h₄ z TI TO .ellipsis:=s₄ _ _ D.a4.symm (s₃.extBut _ _ D.a2.symm (s₂.extBut _ _ D.a3.symm z₁));have ez:e≠z:=fun y=>by subst y;rw [z₄] at hoe;cases hoe;simp at hce
  refine V8 z₄ (by simp) fun h₅ _ s₅=>fin h₅ e (fun c o c1 c2 c3 c4 y=>s₅.extBut _ _ c1<|s₄ _ _ c4<|s₃.extBut _ _ c2<|s₂.extBut _ _ c3<|s₁.extBut _ _ c1 y) ⟨oe,s₅.extBut _ _ ez hoe,hce⟩
abbrev zh1 (k1:Sk)(h:Heap)(l1:Addr):Heap:=h.push { cls:=.type k1.nm,data:=.fields #[.ref l1,.int 0 0] }
abbrev zh2 (k1 k2:Sk)(h:Heap)(l1 l2:Addr):Heap:=(zh1 k1 h l1).push { cls:=.type k2.nm,data:=.fields #[.ref l2,.int 0 0] }
abbrev zh3 (k1 k2:Sk)(h:Heap)(l1 l2:Addr):Heap:=(zh2 k1 k2 h l1 l2).push { cls:=.type "tuple",data:=.seq #[.ref h.objs.size,.ref (zh1 k1 h l1).objs.size] }
abbrev zh4 (k1 k2:Sk)(h:Heap)(l1 l2:Addr):Heap:=(zh3 k1 k2 h l1 l2).push { cls:=.type "tuple",data:=.seq #[.none,.none] }
abbrev zh5 (k1 k2:Sk)(h:Heap)(l1 l2:Addr):Heap:=(zh4 k1 k2 h l1 l2).push { cls:=.type "zip",data:=.fields #[.none,.bool false,.bool false,.ref (zh2 k1 k2 h l1 l2).objs.size,.ref (zh3 k1 k2 h l1 l2).objs.size] }
theorem acU (l1 l2:Addr)(xs ys:Array Mk):Meets (Qt.«zip.__new__» ⟨[.type "zip",.ref l1,.ref l2],[]⟩) (fun _ R s=>k1.sq s.heap l1 xs/\k2.sq s.heap l2 ys /\
   R (.ok (.ret (.ref (zh4 k1 k2 s.heap l1 l2).objs.size))) { s with heap:=zh5 k1 k2 s.heap l1 l2 }):=
 .of_wp fun prog w A R s h=>by
  obtain ⟨hp,g,d,tk,os⟩:=s;obtain ⟨gl1,gl2,h⟩:=h;have hsub:=sub_zip;have L1:k1.sq (Shared.heap ⟨hp,g,d,tk,os⟩) l1 xs:=gl1;have L2':k2.sq (Shared.heap ⟨hp.push { cls:=.type k1.nm,data:=.fields #[.ref l1,.int 0 0] },g,d,tk,os⟩) l2 ys:=Sk.sq_at gl2 fun o e=>Eo _ e
  wp_walk using Sk.iter L1,Sk.iter L2'
  exact ⟨_,rfl,h⟩
theorem zaX {l1 l2:Addr}{xs ys:Array Mk}{Q:Mk->Ai->Prop}(gl1:k1.sq s.heap l1 xs)(gl2:k2.sq s.heap l2 ys)
  (q:∀ h',IsZip h' (s.heap.objs.size+4) (s.heap.objs.size+2) (s.heap.objs.size+3) .none->Nh h' (s.heap.objs.size+2) (.ref s.heap.objs.size) (.ref (s.heap.objs.size+1)) ->
   Nh h' (s.heap.objs.size+3) .none .none->k1.it h' s.heap.objs.size l1 0->k2.it h' (s.heap.objs.size+1) l2 0->h'.objs.size=s.heap.objs.size+5 ->
   (∀ c o,s.heap.get? c=FN o->h'.get? c=FN o)->Q (.ref (s.heap.objs.size+4)) { s with heap:=h' }):Ay (Ax P w) A (call (.type "zip") [.ref l1,.ref l2]) Q E s:=by
 refine callType_new PySem.F.called_zip (by decide) (PySem.F.typeCall_zip_2 _ _) (PySem.F.newCall_zip_2 _ _) (fun obj=>PySem.F.args_object_init_3 obj _ _) PySem.F.entry_zip_new (acU (k1:=k1) (k2:=k2) l1 l2 xs ys) ⟨gl1,gl2,?_⟩;have e1:(zh1 k1 s.heap l1).objs.size=s.heap.objs.size+1:=Qh ..;have e2:(zh2 k1 k2 s.heap l1 l2).objs.size=s.heap.objs.size+2:=by rw [Qh,e1]
 have e3:(zh3 k1 k2 s.heap l1 l2).objs.size=s.heap.objs.size+3:=by rw [Qh,e2]
 have e4:(zh4 k1 k2 s.heap l1 l2).objs.size=s.heap.objs.size+4:=by rw [Qh,e3]
 have e5:(zh5 k1 k2 s.heap l1 l2).objs.size=s.heap.objs.size+5:=by rw [Qh,e4]
 have f5:(zh5 k1 k2 s.heap l1 l2).get? (zh4 k1 k2 s.heap l1 l2).objs.size=FN _:=Ip _ rfl;have f4:(zh5 k1 k2 s.heap l1 l2).get? (zh3 k1 k2 s.heap l1 l2).objs.size=FN _:=Eo _ (Ip _ rfl);have f3:(zh5 k1 k2 s.heap l1 l2).get? (zh2 k1 k2 s.heap l1 l2).objs.size=FN _:=Eo _ (Eo _ (Ip _ rfl));have f2:(zh5 k1 k2 s.heap l1 l2).get? (zh1 k1 s.heap l1).objs.size=FN _:=Eo _ (Eo _ (Eo _ (Ip _ rfl)));have f1:(zh5 k1 k2 s.heap l1 l2).get? s.heap.objs.size=FN _:=Eo _ (Eo _ (Eo _ (Eo _ (Ip _ rfl))));show _/\_;rw [e2,e3,e4] at f5;rw [e1,e2] at f3;rw [e3] at f4;rw [e1] at f2;rw [e4];refine ⟨⟨_,f5,rfl⟩,q _ f5 f3 f4 ?_ ?_ e5 fun c o x=>Eo _<|Eo _<|Eo _<|Eo _<|Eo _ x⟩
 ·cases k1 with
  | l=>exact ⟨_,f1,rfl,rfl⟩
  | t=>exact ⟨_,f1,rfl,rfl⟩
 ·cases k2 with
  | l=>exact ⟨_,f2,rfl,rfl⟩
  | t=>exact ⟨_,f2,rfl,rfl⟩
end
section
variable {X:Cx}{ahJ:List (Addr×Obj)}{Z : St}{H:Hp}{s:Ai}{h':Heap}
theorem Av.turnedL {t':Nat}{ch:List Addr}(I:Av X ahJ Z H s)(k:∀ b o,b∉ch->s.heap.get? b=FN o->h'.get? b=FN o)(hf:∀ b∈ch,Cp X ahJ H b):Av X ahJ Z H { s with heap:=h',toks:=t' }:=by
 have nit:∀ b u,H b=FN u->b∉ch:=fun b u e z=>by rw [(hf b z).1] at e;cases e
 refine I.step (g':=s.gens) (d':=s.drawn) (ch:=ch) (fun b hb=>?_) (fun b o _ _ hc e _=>k b o hc e) (fun b o _ _ hc e _=>⟨o.slots,k b o hc e⟩) (fun _ _ _ _ n=>n)
  (fun b o hc e=>⟨o,k b o hc e⟩) (fun _ _ e=>e) (fun _ _ _ e=>e) (fun b ps e=>⟨#[],by rw [e];simp⟩) (fun m hm=>?_) (fun b u e=>?_) I.bare
 ·obtain ⟨_,f1,_,f3,f4,f5⟩:=hf b hb;exact ⟨f3,f1,f4,f5⟩
 ·obtain ⟨o,es,ep,ho,r⟩:=hm;exact ⟨o,es,ep,k _ o (fun z=>(hf _ z).2.1 rfl) ho,r⟩
 ·refine (I.hok b u e).stay (fun c v hc q=>k c v ?_ q) (fun _ q=>q) fun _ _ q=>q;rcases hc with z | z
  ·rw [z];exact nit b u e
  ·exact nit c _ z
end
def Sk.v (k:Sk)(K:Az)(H:Hp)(a:Addr)(xs:List V):Prop:=match k with
 | .l=>Ij K H a xs
 | .t=>Ew K H a xs
theorem Av.sk {X:Cx}{ahJ:List (Addr×Obj)}{Z : St}{H:Hp}{s:Ai}{k:Sk}{a:Addr}{xs:List V}(I:Av X ahJ Z H s)(h:k.v X.K H a xs):∃ its:List Mk,Aw xs its/\k.sq s.heap a its.toArray:=by
 cases k with
 | l=>obtain ⟨its,r,p,_⟩:=I.list h;exact ⟨its,r,p.isList⟩
 | t=>obtain ⟨its,r,p,_⟩:=I.tuple h;exact ⟨its,r,p⟩
theorem Av.sk_inj {X:Cx}{ahJ:List (Addr×Obj)}{Z : St}{H:Hp}{s:Ai}{k:Sk}{a:Addr}{xs ys:List V}(I:Av X ahJ Z H s)(h:k.v X.K H a xs)(g:k.v X.K H a ys):xs=ys:=by
 cases k with
 | l=>exact I.list_inj h g
 | t=>exact I.tuple_inj h g
def Itz (K:Az)(k1 k2:Sk)(l1 l2:Addr):It:=
  ⟨fun i H=>∃ xs ys x y,k1.v K H l1 xs/\k2.v K H l2 ys/\xs[i]?=FN x/\ys[i]?=FN y,
   fun i H v H'=>∃ p x y,H p=FX/\v=.ref p/\H'=Dd H p (.tup [x,y])/\(∀ xs,k1.v K H l1 xs->xs[i]?=FN x)/\∀ ys,k2.v K H l2 ys->ys[i]?=FN y,
   fun i H=>∃ xs ys,k1.v K H l1 xs/\k2.v K H l2 ys/\(xs.length<=i\/ys.length<=i),true⟩
def aai (k1 k2:Sk)(z TI TO i1 i2 l1 l2:Addr)(n:Nat)(h:Heap):Prop:=IsZip h z TI TO .none/\Nh h TI (.ref i1) (.ref i2)/\(∃ a b,Nh h TO a b)/\k1.it h i1 l1 n/\k2.it h i2 l2 n
variable {elts : List Expr}
theorem zbf {P:DI}{w:Bw}{K:Az}{pos:Pos}{k1 k2:Sk}{z TI TO i1 i2 l1 l2:Addr}(D:Zap z TI TO i1 i2)(o1:Off l1 z TO i1 i2)(o2:Off l2 z TO i1 i2):
  Ox P w K (.Tuple elts kt pos) (Itz K k1 k2 l1 l2) [z,TI,TO,i1,i2] z (aai k1 k2 z TI TO i1 i2 l1 l2) where
 mem:=by simp
 obj:=fun i h st b hb=>by
  obtain ⟨gz,gI,⟨a,b',gO⟩,g1,g2⟩:=st;simp only [G7,QJ,or_false] at hb;rcases hb with rfl | rfl | rfl | rfl | rfl
  ·exact ⟨_,gz,fun v y=>by cases y⟩
  ·exact ⟨_,gI,fun v y=>by cases y⟩
  ·exact ⟨_,gO,fun v y=>by cases y⟩
  ·obtain ⟨o,e,_,d⟩:=Sk.it_obj g1;exact ⟨o,e,fun v y=>by rw [d] at y;cases y⟩
  ·obtain ⟨o,e,_,d⟩:=Sk.it_obj g2;exact ⟨o,e,fun v y=>by rw [d] at y;cases y⟩
 keep:=fun i h h' st k=>by
  obtain ⟨gz,gI,⟨a,b,gO⟩,g1,g2⟩:=st;exact ⟨k z (by simp) _ gz,k TI (by simp) _ gI,⟨a,b,k TO (by simp) _ gO⟩,Sk.it_at g1 fun o e=>k i1 (by simp) o e,Sk.it_at g2 fun o e=>k i2 (by simp) o e⟩
 item:=by
  intro X hP hw hK hc i ahJ s Z H E I hf st hg;subst hP hw hK;obtain ⟨gz,gI,⟨a,b,gO⟩,g1,g2⟩:=st;obtain ⟨xs,ys,x,y,hx,hy,ex,ey⟩:=hg;obtain ⟨its,r1,p1⟩:=I.sk hx;obtain ⟨jts,r2,p2⟩:=I.sk hy;obtain ⟨u,hu,ru⟩:=r1.get ex;obtain ⟨v,hv,rv⟩:=r2.get ey;refine adZ D o1 o2 gz gI gO g1 g2 p1 p2 (x:=u) (y:=v) (by simpa using hu) (by simpa using hv) fun h1 z1 O1 g1' g2' T1 size1 all1=>⟨_,rfl,?_⟩;have pz:s.heap.objs.size≠z:=Ky (Ej gz);have lt:∀ b∈[z,TI,TO,i1,i2],s.heap.objs.size≠b:=fun b hb=>by
   simp only [G7,QJ,or_false] at hb;rcases hb with rfl | rfl | rfl | rfl | rfl
   ·exact pz
   ·exact Ky<|Ej gI
   ·exact Ky<|Ej gO
   ·obtain ⟨o,e,_⟩:=Sk.it_obj g1;exact Ky (Ej e)
   ·obtain ⟨o,e,_⟩:=Sk.it_obj g2;exact Ky (Ej e)
  have all:∀ c o,c∉[z,TI,TO,i1,i2]->s.heap.get? c=FN o->h1.get? c=FN o:=fun c o hc e=>
   all1 c o (fun q=>hc (by simp [q])) (fun q=>hc (by simp [q])) (fun q=>hc (by simp [q])) (fun q=>hc (by simp [q])) e
  refine wpAny_letOwnedTupleGo_zip (s:={ s with heap:=h1 }) z1 fun h2 z2 sb=>?_;have fr:H s.heap.objs.size=FX:=I.hok.fresh (Bp _);have I1:Av X ahJ Z (Dd H s.heap.objs.size (.tup [x,y])) { s with heap:=s.heap.push { cls:=.type "tuple",data:=.seq #[u,v] } }:=
   I.laid (t':=s.toks) (fun b o e=>Eo _ e) (Bp _) ⟨(by show 2<=Dp;decide),[u,v],.cons ru (.cons rv .nil),⟨_,Ip _ rfl,rfl,⟨_,rfl⟩,rfl⟩⟩
  have hf1:∀ b∈[z,TI,TO,i1,i2],Cp X ahJ (Dd H s.heap.objs.size (.tup [x,y])) b:=fun b hb=>⟨by rw [aR (Im (lt b hb))];exact (hf b hb).1,(hf b hb).2⟩
  have I2:Av X ahJ Z (Dd H s.heap.objs.size (.tup [x,y])) { s with heap:=h2 }:=by
   refine Av.turnedL (s:={ s with heap:=s.heap.push { cls:=.type "tuple",data:=.seq #[u,v] } }) (h':=h2) (t':=s.toks) (ch:=[z,TI,TO,i1,i2]) I1 (fun b o hb e=>?_) hf1;have bz:b≠z:=fun q=>hb (by simp [q])
   rcases Heap.get?_push_cases e with ⟨rfl,rfl⟩ | e'
   ·exact sb.extBut _ _ bz T1
   ·exact sb.extBut _ _ bz<|all b o hb e'
  refine ⟨.ref s.heap.objs.size,_,I2,rfl,⟨s.heap.objs.size,x,y,fr,rfl,rfl,fun xs' q=>by rw [I.sk_inj q hx];exact ex,fun ys' q=>by rw [I.sk_inj q hy];exact ey⟩,?_,fun b hb=>(hf1 b hb).1⟩;exact ⟨z2,sb.extBut _ _ D.a1<|all1 _ _ D.a1 D.a5 D.a6 D.a7 gI,⟨u,v,sb.extBut _ _ D.a2 O1⟩,Sk.it_at g1' fun o e=>sb.extBut _ o D.a3 e,Sk.it_at g2' fun o e=>sb.extBut _ o D.a4 e⟩
 done:=by
  intro X hP hw hK hc i ahJ s Z H E I hf st hg;subst hP hw hK;obtain ⟨gz,gI,⟨a,b,gO⟩,g1,g2⟩:=st;obtain ⟨xs,ys,hx,hy,hend⟩:=hg;obtain ⟨its,r1,p1⟩:=I.sk hx;obtain ⟨jts,r2,p2⟩:=I.sk hy;have l1:=r1.length;have l2:=r2.length;refine zbo (I.ok.hd<|hc rfl) D o1 o2 gz gI gO g1 g2 p1 p2 (hend.imp (fun q=>by simp;lia) fun q=>by simp;lia) fun h1 all1=>⟨rfl,I.turnedL (t':=s.toks) (ch:=[z,TI,TO,i1,i2]) (fun c o hc e=>?_) hf⟩;exact all1 c o (fun q=>hc<|by simp [q]) (fun q=>hc<|by simp [q]) (fun q=>hc<|by simp [q]) (fun q=>hc<|by simp [q]) e
 self:=fun _ _ _ _ _ st h=>wpAny_pyIter_zip st.1 h
section
variable {X:Cx}{K:Az}
def sqk (K:Az)(H:Hp)(x:V)(k:Sk)(a:Addr):Prop:=x=.ref a/\∃ xs,k.v K H a xs
def abS (K:Az)(ta:TA):TI:=fun Z H R=>ta Z H fun vs H1=>∃ x y k1 k2 a b,vs=[x,y]/\sqk K H1 x k1 a/\sqk K H1 y k2 b/\R (Itz K k1 k2 a b) H1
theorem Sk.sq_lt {k:Sk}{h:Heap}{a:Addr}{its:Array Mk}(x:k.sq h a its):a<h.objs.size:=by
 cases k with
 | l=>obtain ⟨o,e,_⟩:=x;exact Ej e
 | t=>obtain ⟨o,e,_⟩:=x;exact Ej e
theorem j6 {a b:Nat}(h:a≠b):(show Addr from a)≠(show Addr from b):=h
theorem afc (n:Nat):Zap (n+4) (n+2) (n+3) n (n+1) where
 a1:=j6 (show n+2≠n+4 by lia)
 a2:=j6 (show n+3≠n+4 by lia)
 a3:=j6 (show n≠n+4 by lia)
 a4:=j6 (show n+1≠n+4 by lia)
 a5:=j6 (show n+2≠n+3 by lia)
 a6:=j6 (show n+2≠n by lia)
 a7:=j6 (show n+2≠n+1 by lia)
 a8:=j6 (show n+3≠n by lia)
 a9:=j6 (show n+3≠n+1 by lia)
 b1:=j6 (show n≠n+1 by lia)
theorem Ma {a n:Nat}(h:a<n):Off a (n+4) (n+3) n (n+1) where
 z:=j6 (show a≠n+4 by lia)
 o:=j6 (show a≠n+3 by lia)
 i:=j6 (show a≠n by lia)
 j:=j6 (show a≠n+1 by lia)
theorem Yw {n c:Nat}(h:c∈([n+4,n+2,n+3,n,n+1]:List Nat)):n<=c:=by
 simp only [G7,QJ,or_false] at h;lia
theorem agc {e1 e2:Expr}{ta:TA}{p pos tpos:Pos}(hg:Gl X "zip")(hm:X.mg "zip" = FX)(ha:PA X [e1,e2] ta)
  (hs:Dh [e1,e2] X.env=(false,eval e1 X.env)::Dh [e2] X.env:=by rfl) (hpl:(J9 pos (Dh [e2] X.env)).any (·.1)=false:=by rfl) :
  PI X (.Tuple elts kt tpos) (.Call (.Name "zip" p) [e1,e2] [] pos) (abS X.K ta):=by
 intro ahJ s Z H R I h;refine V7<|mV I hg hm boot_zip ?_ (by decide)<|by decide
 refine VL (Ei (ha pos ahJ s Z H _ I h) fun us s1 ⟨vs,H1,I1,r1,q1⟩=>?_) hs hpl;obtain ⟨x,y,k1,k2,a,b,ev,⟨ex,xs,hx⟩,⟨ey,ys,hy⟩,q⟩:=q1;subst ev ex ey;obtain ⟨u1,u2,eu,ru1,ru2⟩:=Kp r1;subst eu;cases ru1;cases ru2;obtain ⟨its,r1,p1⟩:=I1.sk hx;obtain ⟨jts,r2,p2⟩:=I1.sk hy;have la:=Sk.sq_lt p1;have lb:=Sk.sq_lt p2;refine zaX p1 p2 fun h' gz gI gO g1 g2 size all=>?_;refine wpAny_pyIter_zip gz ?_;have I2:Av X ahJ Z H1 { s1 with heap:=h' }:=I1.kept (t':=s1.toks) all;generalize hn:s1.heap.objs.size=n at gz gI gO g1 g2 size la lb |-
 refine ⟨n+4,[n+4,n+2,n+3,n,n+1],_,_,H1,rfl,I2,zbf (afc n) (Ma la)<|Ma lb,⟨gz,gI,⟨_,_,gO⟩,g1,g2⟩,fun c hc=>?_,q⟩;have hc':n<=c:=Yw hc;exact I1.fpOk (by rw [hn];exact hc')<|I1.hok.fresh (by rw [hn];exact hc')
def m6:List W->List W->List W
 | a::as,b::bs=>.tup [a,b]::m6 as bs
 | _,_=>[]
theorem nJ:∀ {as bs:List W} {i:Nat} {w:W},(m6 as bs)[i]?=FN w->∃ a b,as[i]?=FN a/\bs[i]?=FN b/\w=.tup [a,b]
 | [],_,_,_,e=>by simp [m6] at e
 | _::_,[],_,_,e=>by simp [m6] at e
 | a::as,b::bs,0,w,e=>by
  have e:FN (W.tup [a,b])=FN w:=e;exact ⟨a,b,rfl,rfl,(Eu e).symm⟩
 | a::as,b::bs,i+1,w,e=>by
  obtain ⟨x,y,h1,h2,h3⟩:=nJ (as:=as) (bs:=bs) (i:=i) (w:=w) (by simpa [m6] using e);exact ⟨x,y,by simpa using h1,by simpa using h2,h3⟩
theorem nO:∀ {as bs:List W},(m6 as bs).length=min as.length bs.length
 | [],bs=>by simp [m6]
 | _::_,[]=>by simp [m6]
 | a::as,b::bs=>by rw [m6,Iw,nO,Iw,Iw];lia
def pH:W->Option (List W)
 | .tup ws=>FN ws
 | .lst ws=>FN ws
 | .kls ws=>FN ws
 | _=>FX
theorem zY {H:Hp}{w:W}{v:V}(r:Ak K H μ w v)(e:pH w=FN ws):∃ k a,v=.ref a/\∀ {H2:Hp} {μ2:Mu},GP K H μ H2 μ2->∃ xs,Sk.v k K H2 a xs/\aM K H2 μ2 ws xs:=by
 cases w with
 | tup us=>
  cases (show FN us=FN ws from e)
  have r0:=r;rw [Ak] at r;obtain ⟨p,xs,ev,hs,rs⟩:=r;subst ev;refine ⟨.t,p,rfl,fun {H2 μ2} x=>?_⟩;have r2:=x.r _ _ r0;rw [Ak] at r2;obtain ⟨q,ys,ev,hs,rs⟩:=r2;cases ev;exact ⟨ys,hs,rs⟩
 | lst us=>
  cases (show FN us=FN ws from e)
  have r0:=r;rw [Ak] at r;obtain ⟨p,xs,ev,hs,rs⟩:=r;subst ev;refine ⟨.l,p,rfl,fun {H2 μ2} x=>?_⟩;have r2:=x.r _ _ r0;rw [Ak] at r2;obtain ⟨q,ys,ev,hs,rs⟩:=r2;cases ev;exact ⟨ys,hs.sq,rs⟩
 | kls us=>
  cases (show FN us=FN ws from e)
  have r0:=r;rw [Ak] at r;obtain ⟨p,xs,ev,hs,rs⟩:=r;subst ev;refine ⟨.l,p,rfl,fun {H2 μ2} x=>?_⟩;have r2:=x.r _ _ r0;rw [Ak] at r2;obtain ⟨q,ys,ev,hs,rs⟩:=r2;cases ev;exact ⟨ys,hs.sq,rs⟩
 | _=>cases e
def Lw (h:Gh)(x y:W):Option Src:=match pH x,pH y with
 | some as,FN bs=>FN ⟨m6 as bs,FX⟩
 | none,FN bs=>(match x with
  | .loc n=>(match h.c n with
   | some (.lst as)=>FN ⟨m6 as bs,FN (n,as)⟩
   | _=>FX)
  | _=>FX)
 | _,_=>FX
theorem zcj {H:Hp}{h:Gh}{w:W}{v:V}{o:Option (Nat×List W)}(R:DA K μ H h)(r:Ak K H μ w v)(e:(pH w=FN ws/\o=FX)\/∃ n,w=.loc n/\h.c n=FN (.lst ws)/\o=FN (n,ws)):
  ∃ k a,v=.ref a/\∀ {H2:Hp} {μ2:Mu} {h2:Gh},GP K H μ H2 μ2->DA K μ2 H2 h2->Src.chk ⟨ws,o⟩ h2->∃ xs,Sk.v k K H2 a xs/\aM K H2 μ2 ws xs:=by
 rcases e with ⟨e,rfl⟩ | ⟨n,rfl,ec,rfl⟩
 ·obtain ⟨k,a,ev,f⟩:=zY r e;exact ⟨k,a,ev,fun x _ _=>f x⟩
 ·have r0:=r;rw [Ak] at r;obtain ⟨p,ev,hm⟩:=r;subst ev;refine ⟨.l,p,rfl,fun {H2 μ2 h2} x R2 ck=>?_⟩;have r2:=x.r _ _ r0;rw [Ak] at r2;obtain ⟨q,eq,hm2⟩:=r2;cases eq;obtain ⟨p',xs,hm',hx,rs⟩:=R2.lstAt (show h2.c n=FN (.lst ws) from ck);have ep:p'=p:=by rw [hm2] at hm';exact (Eu hm').symm
  subst ep;exact ⟨xs,.of hx,rs⟩
theorem adw {h:Gh}{x y:W}{s:Src}(e:Lw h x y=FN s):∃ as bs o,s=⟨m6 as bs,o⟩/\((pH x=FN as/\o=FX)\/∃ n,x=.loc n/\h.c n=FN (.lst as)/\o=FN (n,as))/\pH y=FN bs:=by
 unfold Lw at e;split at e
 ·rename_i as bs ea eb;exact ⟨as,bs,FX,(Eu e).symm,.inl ⟨ea,rfl⟩,eb⟩
 ·rename_i bs ea eb;split at e
  ·split at e
   ·rename_i n _ as ec;exact ⟨as,bs,_,(Eu e).symm,.inr ⟨n,rfl,ec,rfl⟩,eb⟩
   ·cases e
  ·cases e
 ·cases e
def NQ (ma:MA):MI:=fun Z h R=>ma Z h fun ws h1=>match ws with
 | [x,y]=>(match Lw h1 x y with
  | some s=>R s h1
  | none=>False)
 | _=>False
theorem uF {e1 e2:Expr}{p pos tpos:Pos}(hg:Gl X "zip")(hm:X.mg "zip" = FX)(ha:Jc X [e1,e2] mr)
  (hs:Dh [e1,e2] X.env=(false,eval e1 X.env)::Dh [e2] X.env:=by rfl) (hpl:(J9 pos (Dh [e2] X.env)).any (·.1)=false:=by rfl) :
  Qz X (.Tuple elts kt tpos) (.Call (.Name "zip" p) [e1,e2] [] pos) (NQ mr):=PI.of (agc hg hm ha hs hpl) fun Z H Q ⟨μ,h,Zw,Rw,R,S,m,k⟩=>by
 refine ⟨μ,h,Zw,_,R,S,m,fun vs H1 ⟨μ1,ws,h1,e1,R1,r1,m1⟩=>?_⟩;dsimp only at m1;split at m1
 ·split at m1
  ·rename_i x y _ s es;obtain ⟨as,bs,o,rfl,ea,eb⟩:=adw es;obtain ⟨v,u,ev,rv,ru⟩:=BR r1;obtain ⟨ka,a,e3,fa⟩:=zcj R1 rv ea;obtain ⟨kb,b,e4,fb⟩:=zY ru eb;have ck1:Src.chk ⟨as,o⟩ h1:=by
    rcases ea with ⟨_,rfl⟩ | ⟨n,_,ec,rfl⟩
    ·exact trivial
    ·exact ec
   obtain ⟨xs,hxs,_⟩:=fa .refl R1 ck1;obtain ⟨ys,hys,_⟩:=fb .refl;refine ⟨v,u,ka,kb,a,b,ev,⟨e3,xs,hxs⟩,⟨e4,ys,hys⟩,k _ _ ⟨μ1,⟨m6 as bs,o⟩,h1,e1,R1,?_,m1⟩⟩;intro H2 μ2 h2 i e2 R2 ck;obtain ⟨xs2,hxs2,rxs⟩:=fa e2 R2 ck;obtain ⟨ys2,hys2,rys⟩:=fb e2;refine ⟨fun w ew=>?_,fun hl=>⟨xs2,ys2,hxs2,hys2,?_⟩⟩
   ·obtain ⟨p1,p2,ep1,ep2,rfl⟩:=nJ ew;obtain ⟨q1,eq1,rq1⟩:=rxs.get ep1;obtain ⟨q2,eq2,rq2⟩:=rys.get ep2;refine ⟨⟨xs2,ys2,q1,q2,hxs2,hys2,eq1,eq2⟩,fun x' H3 ⟨pa,x1,x2,hp,ex',eH3,f1,f2⟩=>?_⟩;have g1:=f1 xs2 hxs2;have g2:=f2 ys2 hys2;rw [eq1] at g1;rw [eq2] at g2;cases g1;cases g2;subst ex' eH3;exact ⟨μ2,(Ex.laid hp).ext,R2.laid hp,.tupNew hp<|.cons rq1<|.one rq2⟩
   ·have l1:=rxs.len;have l2:=rys.len;have:min as.length bs.length<=i:=by rw [<-nO];exact hl
    lia
  ·exact m1.elim
 ·exact m1.elim
end
variable {e1 e2 : Expr}
section
variable {X:Cx}{K:Az}
theorem xu:∀ {ns:List Int} {its:List Mk} {i:Nat} {v:Mk},Aw (ns.map V.int) its->its[i]?=FN v->∃ t,v=.int (ns.getD i 0) t
 | [],_,_,_,.nil,e=>by simp at e
 | n::ns,_,0,_,.cons r _,e=>by
  simp at e;subst e;exact r
 | _::ns,_,i+1,v,.cons _ t,e=>by
  obtain ⟨t',h⟩:=xu (i:=i) (v:=v) t (by simpa using e);exact ⟨t',by simpa using h⟩
def sE:List W->Option (List Int)
 | []=>FN []
 | .int i::ws=>(sE ws).map (i::·)
 | _=>FX
theorem z8 {H:Hp}{μ : Mu}:∀ {ws:List W} {xs:List V} {ns:List Int},aM K H μ ws xs->sE ws=FN ns->xs=ns.map V.int
 | [],xs,ns,r,e=>by
  rw [aM] at r;cases (show FN []=FN ns from e)
  exact r
 | w::ws,xs,ns,r,e=>by
  rw [aM] at r;obtain ⟨v,vr,ev,ra,r⟩:=r;cases w with
  | int b=>
   rw [Ak] at ra;rw [sE] at e;cases q:sE ws with
   | none=>rw [q] at e;cases e
   | some cs=>
    rw [q] at e;cases (show FN (b::cs)=FN ns from e)
    rw [ev,ra,z8 r q];rfl
  | _=>cases e
def aax:MC:=fun ws h Q=>match ws with
 | [w]=>(match dX h w with
  | some us=>(match sE us with
   | some ns=>Q (.int ns.sum) h
   | none=>False)
  | none=>False)
 | _=>False
end
section
variable {P:DI}{w:Bw}{A:DW}{E:Mk->Ai->Prop}{s:Ai}
end
section
variable {X:Cx}{K:Az}
end
section
variable {X:Cx}
def Yk (i j k:Nat)(ta:MA):MS:=fun D Z h=>ta Z h fun ws h1=>match ws with
 | [a,b,c]=>D.nx (((Z.set i (FN a)).set j (FN b)).set k (FN c)) h1
 | _=>False
end
section
variable {X:Cx}{K:Az}
end
theorem Zr {K:Az}{H:Hp}:aM K H μ [] []:=by rw [aM]
theorem RW {K:Az}{H:Hp}{i:Int}:Ak K H μ (.int i) (.int i):=by rw [Ak]
section
variable {prog:DI}{w:Bw}{A:DW}{E:Mk->Ai->Prop}{s:Ai}
theorem uL {it t:Addr}{items:Array Mk}(hne:t≠it):∀ (n i:Nat) (s:Ai) (Q:List Mk->Ai->Prop),s.heap.IsListIter it t i->s.heap.IsList t items->i+n<=items.size ->
  (∀ h',h'.IsListIter it t (i+n)->Tj it s.heap h'->Q ((items.toList.drop i).take n) { s with heap:=h' })->Ay (Ax prog w) A (draw (.ref it) n) Q E s
 | 0,i,s,Q,hit,_,_,hQ=>by
  show Ay _ _ (pure []) Q E s;exact Ba<|by simpa using hQ s.heap hit (Heap.SameBut.refl ..)
 | n+1,i,s,Q,hit,ht,hle,hQ=>by
  have hlt:i<items.size:=by lia
  show Ay _ _ (Ni (.ref it) >>= _) Q E s;refine Ao<|wpAny_pyNext_list_item hit ht (x:=items[i]) (by simp [hlt]) fun h1 hit1 hs1=>?_
  refine Ao<|NK<|uL hne n (i+1) _ _ hit1 (ht.at fun o e=>hs1.extBut _ o hne e) (by lia) fun h2 hit2 hs2=>Ba ?_
  have hd:items.toList.drop i=items[i]::items.toList.drop (i+1):=by simp [Us,hlt]
  have:=hQ h2 (by rw [show i+(n+1)=i+1+n by lia];exact hit2) (hs1.trans hs2)
  rw [hd,List.take_succ_cons] at this;exact this
theorem m7 {t:Addr}{items:Array Mk}{Q:List Mk->Ai->Prop}(hh:A.handled=FX)(ht:s.heap.IsList t items)
  (hQ:∀ h',V4 s.heap.objs.size s.heap h'->Q items.toList { s with heap:=h' }):Ay (Ax prog w) A (unpackItems (.ref t) items.size FX) Q E s:=by
 have hlt:t≠s.heap.objs.size:=by obtain ⟨o,ho,_⟩:=ht;exact G3 (Ej ho)
 unfold unpackItems;refine Ao ?_
 ·unfold notIterableAtAll;refine Ao<|wpAny_specialOf ht.typeIs slot_list_iter.lookup ?_
  refine Ba ?_;simp only [Qp,if_false];refine Ao<|NK<|wpAny_pyIter_list ht ?_
  refine Ao<|NK<|uL hlt items.size 0 _ _ ⟨_,Ip _ rfl,rfl,rfl⟩ (ht.at fun o e=>Eo _ e) (by lia) fun h1 hit1 hs1=>?_
  have hall:List.take items.size (List.drop 0 items.toList)=items.toList:=by
   rw [List.drop_zero];exact Ur (by simp)
  rw [hall];rw [if_neg (by simp)];have ht1:h1.IsList t items:=ht.at fun o e=>hs1.extBut _ o hlt (Eo _ e)
  refine Ao<|NK<|wpAny_pyNext_list_end hh hit1 ht1 (by simp) fun h2 he2=>?_
  simp only [Option.isSome_none,Qp,if_false];refine Ba<|hQ h2 fun b o hb e=>he2 b o hb<|hs1.extBut b o hb<|Eo _ e
theorem lK {x1}{pos:Pos}{t:Addr}{items:Array Mk}{Q:Unit->Ai->Prop}(hh:A.handled=FX)(ht:s.heap.IsList t items)
  (hn:(Jy elts env).length=items.size) (hstar:(Jy elts env).findIdx? (·.1)=FX)
  (h:∀ h',V4 s.heap.objs.size s.heap h'->Ay (Ax prog w) A (assignInOrder ((Jy elts env).map (·.2)) items.toList) Q E { s with heap:=h' }) :
  Ay (Ax prog w) A (assign (.Tuple elts x1 pos) env (.ref t)) Q E s:=by
 rw [assign_Tuple];refine Ao<|wpAny_standAt ?_
 unfold unpack;rw [hn,hstar];exact Ao<|NK<|m7 hh ht h
end
section
variable {X:Cx}{pos:Pos}
def Zm (K:Az)(n:Nat)(t:QL):TG:=fun v Z H Q=>∃ a xs,v=.ref a/\(Ew K H a xs\/Ij K H a xs)/\xs.length=n/\t xs Z H Q
theorem adN {es:List Expr}{k:Nat}{t:QL}{n:Nat}(hc:X.calm=true)(h:Rm X es t)
  (hn:(Jy es X.env).length=n:=by rfl) (hst:(Jy es X.env).findIdx? (·.1)=FX:=by rfl):PG X (.Tuple es k pos) (Zm X.K n t):=by
 intro ahJ s Z H v u Q I r hw;obtain ⟨a,xs,e1,hq,hl,hw⟩:=hw;subst e1;cases r;rcases hq with hq | hq
 ·obtain ⟨its,rv,ht,hz⟩:=I.tuple hq;refine assign_Tuple_tuple (I.ok.hd hc) ht (by simp [hn,<-hl,rv.length]) hst fun h' hx=>?_;have I1:Av X ahJ Z H { s with heap:=h' }:=I.kept (t':=s.toks) fun b o e=>hx b o (G3 (Ej e)) e
  exact h ahJ _ Z H xs _ Q I1 (by simpa using rv) hw
 ·obtain ⟨its,rv,ht,hz⟩:=I.list hq;refine lK (I.ok.hd hc) ht.isList (by simp [hn,<-hl,rv.length]) hst fun h' hx=>?_;have I1:Av X ahJ Z H { s with heap:=h' }:=I.kept (t':=s.toks) fun b o e=>hx b o (G3 (Ej e)) e
  exact h ahJ _ Z H xs _ Q I1 (by simpa using rv) hw
def gR (n:Nat)(g:Oz):MG:=fun w Z h N=>match w with
 | .tup ws=>Hz (KJ ws.length n) (g ws Z h N) False
 | .lst ws=>Hz (KJ ws.length n) (g ws Z h N) False
 | .loc j=>(match h.c j with
  | some (.lst ws)=>Hz (KJ ws.length n) (g ws Z h N) False
  | _=>False)
 | _=>False
theorem dH {es:List Expr}{k:Nat}{g:Oz}{n:Nat}(hc:X.calm=true)(h:Xk X es g)(hn:(Jy es X.env).length=n:=by rfl)(hst:(Jy es X.env).findIdx? (·.1)=FX:=by rfl):DG X (.Tuple es k pos) (gR n g):=
 (adN (n:=n) hc h hn hst).of fun v Z H N ⟨μ,h,Zw,w,Nw,R,S,r,m,k⟩=>by
  cases w with
  | tup ws=>
   rw [Ak] at r;obtain ⟨p,xs,e1,hs,hr⟩:=r;have m:Hz (KJ ws.length n) (g ws Zw h Nw) False:=m;cases en:KJ ws.length n with
   | true=>rw [en] at m;exact ⟨p,xs,e1,.inl hs,by rw [<-hr.len];exact Vs en,μ,h,Zw,ws,Nw,R,S,hr,m,k⟩
   | false=>rw [en] at m;exact (show False from m).elim
  | lst ws=>
   rw [Ak] at r;obtain ⟨p,xs,e1,hs,hr⟩:=r;have m:Hz (KJ ws.length n) (g ws Zw h Nw) False:=m;cases en:KJ ws.length n with
   | true=>rw [en] at m;exact ⟨p,xs,e1,.inr hs.sq,by rw [<-hr.len];exact Vs en,μ,h,Zw,ws,Nw,R,S,hr,m,k⟩
   | false=>rw [en] at m;exact (show False from m).elim
  | loc j=>
   have m:(match h.c j with
    | some (.lst ws)=>Hz (KJ ws.length n) (g ws Zw h Nw) False
    | _=>False):=m
   split at m
   ·rename_i ws ec;obtain ⟨p,xs,e1,hs,hr⟩:=cW R r (show dX h (.loc j)=FN ws by simp only [dX,ec]);cases en:KJ ws.length n with
    | true=>rw [en] at m;exact ⟨p,xs,e1,.inr hs,by rw [<-hr.len];exact Vs en,μ,h,Zw,ws,Nw,R,S,hr,m,k⟩
    | false=>rw [en] at m;exact (show False from m).elim
   ·exact m.elim
  | _=>exact m.elim
end
section
variable {K:Az}{H:Hp}{h:Gh}{p:Addr}{xs:List V}
end
def aaO (Q:WK):WK:=fun w h=>match w with
 | .lst ws=>Q (.loc h.nx) (h.new (.lst ws))
 | _=>False
def abq (own:W->Option (List W))(ix:List Nat)(mi:MI)(tt:MT)(te:ME):ME:=fun Z h Q=>GK own ix mi tt te Z h (aaO Q)
section
variable {X:Cx}{tg iter:Expr}{pos:Pos}{scope:Scope}{xs:List Str}
end
def Dq:Expr->Bool
 | .Starred _ _=>true
 | _=>false
theorem bT {e:Expr}{es:List Expr}(h:Dq e=false):Dh (e::es) env=(false,eval e env)::Dh es env:=by
 cases e <;> first | rfl | cases h
theorem Mv {e:Expr}(h:Dq e=false):Dh [e] env=[(false,eval e env)]:=(bT h).trans rfl
def JK:List Expr->Bool
 | []=>true
 | e::r=>!Dq e&&JK r
theorem cN {pos:Pos}{env:Env}:∀ {es:List Expr},JK es=true->(J9 pos (Dh es env)).any (·.1)=false
 | [],_=>rfl
 | e::r,h=>by
  rw [JK,Nr,Bool.not_eq_true'] at h;rw [bT h.1];show (false||(J9 pos (Dh r env)).any (·.1))=false;rw [cN h.2];rfl
theorem JX {ahL:Pos}{e:Expr}(h:Dq e=false):((J9 ahL (Dh [e] env)).all (fun x=>!x.1)&&(backToKw ahL (Ug [] env)).all (fun x=>x.1.isSome)
   && decide (([e]:List Expr).length+([]:List O7).length+(if ([]:List O7).isEmpty then 0 else 1)<30))=true:=by
 rw [Mv h];rfl
section
variable {prog:DI}{w:Bw}{A:DW}{E:Mk->Ai->Prop}{s:Ai}
open HT in
theorem jF {t sl:Addr}{items:Array Mk}{vl vu:Mk}{lo hi:Option Int}{Q:Mk->Ai->Prop}(ht:IsTup s.heap t items)(hs:s.heap.IsSliceOf sl vl vu .none)(pl:IsPart vl lo)(pu:IsPart vu hi)
  (h0:sIx items.size 0 lo=0) (h1:sIx items.size items.size hi=items.size) (h:Q (.ref t) s):Ay (Ax prog w) A (getItem (.ref t) (.ref sl)) Q E s:=by
 obtain ⟨os,hos,hcs,hds⟩:=id hs;have hTs:s.TypeIs (.ref sl) "slice":=⟨os,hos,hcs⟩
 unfold getItem;try with_reducible refine NK ?_
 first | refine Ao (Ba ?_) | skip
 refine Ao<|wpAny_sequenceKey ht.typeIs (by decide) ?_
 refine Ao (TK (name:=SQ "__getitem__") ht.typeIs Vc
  (Qk Vc ht.typeIs entry_tuple_getitem ?_ (args_tuple_getitem _ _)))
 show Ay _ _ (Builtin.Tuple.tupleItemsOf (.ref t) >>= _) _ _ s;refine Ao<|tupleItemsOf_ ht ?_
 refine Ao<|Q5 hTs ?_
 rw [if_pos (by decide)];refine Ao<|iu hs pl pu ?_
 have hyes:((((sIx items.size 0 lo:Nat):Int)==0&&(1:Int)==1&&(sIx items.size items.size hi - sIx items.size 0 lo)==items.size)=true):=by
  rw [h0,h1];simp
 show Ay _ _ (if (((sIx items.size 0 lo:Nat):Int)==0&&(1:Int)==1&&(sIx items.size items.size hi - sIx items.size 0 lo)==items.size)=true then _ else _) _ _ s;rw [if_pos hyes];unfold Builtin.Tuple.tupleIsExact;refine Ao<|Ao<|Q5 ht.typeIs<|Ba ?_
 rw [if_pos (by decide)];refine Ao<|Np ?_
 first
  | exact Ba ⟨_,rfl,Ba h⟩
  | exact Ao (Ba (Ba ⟨_,rfl,Ba h⟩))
end
section
variable {X:Cx}
def aa1 (K:Az):V->Option Int->Option Int->Hp->VK->Prop:=fun x lo hi H Q=>∃ a xs,x=.ref a/\Ew K H a xs /\
 HT.sIx xs.length 0 lo=0/\HT.sIx xs.length xs.length hi=xs.length/\Q x H
theorem adY:Qx X (aa1 X.K):=by
 intro ahJ s Z H x v vl vu lo hi sl Q I rx hs pl pu h;obtain ⟨a,xs,rfl,hx,h0,h1,q⟩:=h;cases rx;obtain ⟨its,r,ht,hz⟩:=I.tuple hx;have ahK:its.toArray.size=xs.length:=by rw [Io];exact r.length.symm
 refine ⟨"tuple",_,Vc.lookup,ht.typeIs,?_⟩;refine jF ht hs pl pu (by rw [ahK];exact h0) (by rw [ahK];exact h1) ?_;exact ⟨.ref a,H,I,rfl,q⟩
def W2 (x:W)(lo hi:Option Int)(h:Gh)(Q:WK):Prop:=match x with
 | .tup ws=>Q (.tup (Ag ws lo hi)) h
 | x=>(match dX h x with
  | some ws=>Q (.lst (Ag ws lo hi)) h
  | none=>False)
theorem Tn {e:Expr}{lo hi:Option Expr}{ml mh:MO}{p2 pos:Pos}(he:DE X e ma)(hl:DO X lo ml)(hu:DO X hi mh):DE X (.Subscript e (.Slice lo hi FX p2) pos) (mSl W2 ma ml mh):=
 (adC (Qx.or (Qx.or zcm afb) adY) he hl hu).of fun Z H Q ⟨μ,h,Zw,Qw,R,S,m,k⟩=>by
  refine ⟨μ,h,Zw,_,R,S,m,fun x H1 ⟨μ1,wx,h1,e1,R1,r1,m1⟩=>?_⟩;refine ⟨μ1,h1,Zw,_,R1,S.ext e1,m1,fun lo H2 ⟨μ2,h2,e2,R2,m2⟩=>?_⟩;refine ⟨μ2,h2,Zw,_,R2,(S.ext e1).ext e2,m2,fun hi H3 ⟨μ3,h3,e3,R3,m3⟩=>?_⟩;have e13:=(e1.trans e2).trans e3;have r3:=e3.r _ _ (e2.r _ _ r1);have oth:∀ wy,Ak X.K H3 μ3 wy x->(match dX h3 wy with
    | some ws=>Qw (.lst (Ag ws lo hi)) h3
    | none=>False)->∃ p xs,x=.ref p/\Ij X.K H3 p xs/\∀ l,H3 l=FX->Q (.ref l) (Dd H3 l (.lst (J1 xs lo hi))):=by
   intro wy ry my;split at my
   ·rename_i ws ev;obtain ⟨p,xs,ex,hs,rs⟩:=cW R3 ry ev;exact ⟨p,xs,ex,hs,fun l hl=>k _ _ ⟨μ3,_,h3,e13.trans (Ex.laid hl).ext,R3.laid hl,.lstNew R3 hl<|rs.cutv lo hi,my⟩⟩
   ·exact my.elim
  cases wx with
  | tup ws=>
   have m3:Qw (.tup (Ag ws lo hi)) h3:=m3;have r30:=r3;rw [Ak] at r3;obtain ⟨p,xs,ex,hx,rs⟩:=r3;have hl:=rs.len;by_cases hw:HT.sIx xs.length 0 lo=0/\HT.sIx xs.length xs.length hi=xs.length
   ·have ec:Ag ws lo hi=ws:=by
     unfold Ag;rw [hl,hw.1,hw.2,List.drop_zero,Nat.sub_zero,<-hl,K3]
    rw [ec] at m3;exact .inr ⟨p,xs,ex,hx,hw.1,hw.2,k _ _ ⟨μ3,.tup ws,h3,e13,R3,r30,m3⟩⟩
   ·exact .inl<|.inr ⟨p,xs,ex,hx,hw,fun q hq=>k _ _ ⟨μ3,.tup<|Ag ws lo hi,h3,e13.trans (Ex.laid hq).ext,R3.laid hq,.tupNew hq<|rs.cutv lo hi,m3⟩⟩
  | _=>exact .inl (.inl (oth _ r3 m3))
def Kl:MC:=fun ws h Q=>match ws with
 | [.int i]=>Q (.int i) h
 | [.bl b]=>Q (.int (if b then 1 else 0)) h
 | _=>False
theorem Bl:fD X (.type "int") Kl:=⟨_,zaw,by
 intro H μ h vs ws Qw Q R r m k;unfold Kl at m;split at m
 ·obtain ⟨v,e,rv⟩:=jH r;rw [Ak] at rv;subst e rv;exact .inl ⟨_,rfl,k _ _<|.int R m⟩
 ·obtain ⟨v,e,rv⟩:=jH r;rw [Ak] at rv;subst e rv;exact .inr ⟨_,rfl,k _ _<|.int R m⟩
 ·exact m.elim⟩
theorem qx:fillsNumberSlot (.type "tuple") "mul" = pure false:=
 PySem.fillsNumberSlot_seq (id := "tuple.__mul__") (r:=FN (.builtin "tuple.__rmul__")) F.slot_tuple_mul.lookup (by decide +kernel) F.slot_tuple_rmul.lookup (by decide +kernel)
theorem acL:seqRepeat? (.type "tuple")=pure (FN (.builtin "tuple.__mul__")):=by
 unfold seqRepeat?;rw [PySem.seqSlot_of (T := "tuple") (name := "__mul__") (id := "tuple.__mul__") F.slot_tuple_mul.lookup (by decide +kernel),PySem.seqSlot_of (T := "tuple") (name := "__rmul__") (id := "tuple.__rmul__") F.slot_tuple_rmul.lookup (by decide +kernel)];rfl
theorem vh (a:Int)(t:Tok)(l:Addr)(items:Array Mk):
  Meets (Qt.«int.__rmul__» ⟨[.int a t,.ref l],[]⟩) (fun _ R s=>IsTup s.heap l items/\R (.ok (.ret Value.notImplemented)) s):=
 .of_wp fun prog w A R s h=>by
  obtain ⟨hp,g,d,tk,os⟩:=s;obtain ⟨⟨o,ho,hc,n,hd⟩,h⟩:=h;obtain ⟨cl,dd,da,sl⟩:=o;simp only at hc hd;subst hc hd
  wp_walk
  exact ⟨_,rfl,h⟩
theorem adR (l:Addr)(items:Array Mk)(k:Int)(t:Tok)(h0:0<=k)(h1:k<2^63)(hz:items.size*k.toNat<=Dp):
  Meets (Qt.«tuple.__mul__» ⟨[.ref l,.int k t],[]⟩) (fun _ R s=>IsTup s.heap l items/\(if items.size=0\/k=1 then R (.ok (.ret (.ref l))) s else
   R (.ok (.ret (.ref s.heap.objs.size))) { s with heap:=s.heap.push { cls:=.type "tuple",data:=.seq (Gs k.toNat items.toList).flatten.toArray } })):=
 .of_wp fun prog w A R s h=>by
  obtain ⟨hp,g,d,tk,os⟩:=s;obtain ⟨⟨o,ho,hc,n,hd⟩,h⟩:=h;obtain ⟨cl,dd,da,sl⟩:=o;simp only at hc hd;subst hc hd;have ht:IsTup hp l items:=⟨_,ho,rfl,n,rfl⟩
  wp_walk
  rw [if_neg (by simp;lia)];refine Ao<|tupleItemsOf_ (s:=⟨hp,g,d,tk,os⟩) ht ?_
  dsimp only;have hemp:items.isEmpty=decide (items.size=0):=rfl;by_cases e:items.size=0\/k=1
  ·rw [if_pos e] at h;rw [if_pos (by rcases e with e | e <;> simp [hemp,e])];unfold Builtin.Tuple.tupleIsExact;refine Ao<|Ao<|Q5 ⟨_,ho,rfl⟩<|Ba ?_
   rw [if_pos (by decide)];refine Ao<|Np ?_
   exact Ba ⟨_,rfl,h⟩
  ·rw [if_neg e] at h;rw [not_or] at e;rw [if_neg (by simp [hemp,e.1,e.2])];by_cases k0:k=0
   ·rw [if_pos (by simp [k0])];subst k0;have ee:(Gs (0:Int).toNat items.toList).flatten.toArray = #[]:=rfl;rw [ee] at h;exact Ao (m:=UJ _)<|M8 (Ba ⟨_,rfl,h⟩) (by show 0<=Dp;exact Ja _)
   ·rw [if_neg (by simp [hemp,e.1];lia)];have hp8:((2:Int)^63 - 1) / 8=1152921504606846975:=by decide
    have hsz:(Dp:Nat)<=1152921504606846975:=by decide
    have hk:((items.size*k.toNat:Nat):Int)=(items.size:Int)*k:=by rw [Int.natCast_mul,Int.toNat_of_nonneg h0]
    rw [if_neg (by rw [hp8,<-hk];lia)];rw [if_neg (by unfold Builtin.Tuple.tupleTooMany;rw [<-hk,decide_eq_true_iff];lia)];have hnew:List.foldl (fun x1 x2=>x1++x2) #[] (Gs k.toNat items)=(Gs k.toNat items.toList).flatten.toArray:=by
     have:=K9 items.toList k.toNat []
     rw [VD] at this
     simpa using this
    rw [hnew];refine Ao (m:=UJ _)<|M8 (Ba ⟨_,rfl,h⟩) ?_
    show (Gs k.toNat items.toList).flatten.toArray.size<=Dp;rw [Io,O2,Nat.mul_comm]
    simpa using hz
def YC (K:Az):R2:=fun x y H Q=>∃ a xs k,x=.ref a/\y=.int k/\Ew K H a xs/\0<=k/\k<2^63/\xs.length*k.toNat<=Dp /\
 ((xs.length=0\/k=1)->Q (.ref a) H)/\(¬ (xs.length=0\/k=1)->∀ p,H p=FX->Q (.ref p) (Dd H p (.tup (Gs k.toNat xs).flatten)))
theorem agx:J6 X (Jw .Mult) (YC X.K):=by
 intro ahJ s Z H x y v u Q I rx ry h;obtain ⟨a,xs,k,rfl,rfl,hx,h0,h1,hz,q1,q2⟩:=h;cases rx;obtain ⟨t,rfl⟩:=ry;obtain ⟨its,r,ht,hsz⟩:=I.tuple hx;have ahK:its.toArray.size=xs.length:=by rw [Io];exact r.length.symm
 refine wpAny_binaryOp_repeat_ref (T := "tuple") (U := "int") (by decide) ht.typeIs (fun s'=>typeIs_int s' k t) qx F.fills_int_mul F.slot_int_rmul acL F.slot_int_index.lookup
  (call_meets F.slot_int_rmul (typeIs_int s k t) F.entry_int_rmul (F.args_int_rmul_2 _ _) (vh k t a its.toArray)
   ⟨ht,rfl,ht.typeIs,call_meets F.slot_tuple_mul ht.typeIs F.entry_tuple_mul (F.args_tuple_mul_2 _ _) (adR a its.toArray k t h0 h1 (by rw [ahK];exact hz)) ⟨ht,?_⟩⟩)
 rw [ahK];by_cases e:xs.length=0\/k=1
 ·rw [if_pos e];exact ⟨.ref a,H,I,rfl,q1 e⟩
 ·rw [if_neg e];refine ⟨.ref s.heap.objs.size,_,I.laid (t':=s.toks) (o:=.tup (Gs k.toNat xs).flatten) (fun b ob q=>Eo _ q) (Bp _) ?_,rfl,q2 e _<|I.hok.fresh<|Bp _⟩;exact ⟨by rw [O2,Nat.mul_comm];exact hz,_,r.rep k.toNat,Fq.new _ _⟩
def vf:M2:=fun x y h Q=>match x,y with
 | .int i,.int j=>o9 i j/\Q (.int (i*j)) h
 | .tup ws,.int k=>(0<=k/\k<=1000/\ws.length*k.toNat<=1000)/\Q (.tup (Gs k.toNat ws).flatten) h
 | _,_=>False
theorem zO {K:Az}{H:Hp}{μ : Mu}{ws:List W}{xs:List V}(r:aM K H μ ws xs):∀ k:Nat,aM K H μ (Gs k ws).flatten (Gs k xs).flatten
 | 0=>Zr
 | k+1=>by
  rw [Rg,Rg,U9,U9];exact aM.append r<|zO r k
theorem yF:Js X (Jw .Mult) vf:=⟨_,Eh.or agx,by
  intro H μ h x y wx wy Qw Q R rx ry m k;cases wx with
  | int i=>cases wy with
    | int j=>
      rw [Ak] at rx ry;have m:o9 i j/\Qw (.int (i*j)) h:=m;exact .inl ⟨_,_,rx,ry,m.1,k _ _<|.int R m.2⟩
    | _=>exact (show False from m).elim
  | tup ws=>cases wy with
    | int n=>
      have m:(0<=n/\n<=1000/\ws.length*n.toNat<=1000)/\Qw (.tup (Gs n.toNat ws).flatten) h:=m;obtain ⟨⟨h0,h1,h2⟩,m⟩:=m;have rx0:=rx;rw [Ak] at rx;rw [Ak] at ry;obtain ⟨p,xs,ex,hx,rs⟩:=rx;have hl:=rs.len;have sz:(1000:Nat)<=Dp:=by decide
      have p63:(2:Int)^63=9223372036854775808:=by decide
      refine .inr ⟨p,xs,n,ex,ry,hx,h0,by lia,by rw [<-hl];lia,fun e=>?_,fun e q hq=>?_⟩
      . have ee:(Gs n.toNat ws).flatten=ws:=by
          rcases e with e | e
          . have:ws=[]:=Ql (by lia)
            subst this;have:∀ k:Nat,(Gs k ([]:List W)).flatten=[]:=fun k=>by induction k with
              | zero=>rfl
              | succ k ih=>rw [Rg,U9,ih];rfl
            exact this _
          . subst e
            show (Gs 1 ws).flatten=ws;simp
        rw [ee] at m;rw [<-ex];exact k _ _ ⟨μ,.tup ws,h,.refl,R,rx0,m⟩
      . exact k _ _ ⟨μ,.tup (Gs n.toNat ws).flatten,h,(Ex.laid hq).ext,R.laid hq,.tupNew hq (zO rs _),m⟩
    | _=>exact (show False from m).elim
  | _=>exact (show False from by cases wy <;> exact m).elim⟩
theorem q9 {K:Az}{H:Hp}{μ : Mu}:∀ {ns:List Int} {xs:List V},aM K H μ (ns.map W.int) xs->xs=ns.map V.int
 | [],xs,r=>by rw [Jo,aM] at r;exact r
 | n::ns,xs,r=>by
  rw [Bu,aM] at r;obtain ⟨v,vs,e,rv,r⟩:=r;rw [Ak] at rv;rw [e,rv,q9 r];rfl
def IW (i j:Int):Prop:=o9 i j\/Sm 64 i\/Sm 64 j
theorem IW.ok {i j:Int}(h:IW i j):IntMulOk i j:=by
 rcases h with h | h | h
 ·exact h.ok
 ·exact .of_left h.bits
 ·exact .of_right h.bits
theorem zbG:J6 X (Jw .Mult) (rI IW fun i j=>.int (i*j)):=opI fun _ _ _ _ _ _ _ hc q=>mul_int q hc.ok
def Am:M2:=fun x y h Q=>match x,y with
 | .int i,.int j=>IW i j/\Q (.int (i*j)) h
 | _,_=>False
theorem CV:Js X (Jw .Mult) Am:=⟨_,zbG,by
 intro H μ h x y wx wy Qw Q R rx ry m k;unfold Am at m;split at m
 ·rw [Ak] at rx ry;exact ⟨_,_,rx,ry,m.1,k _ _<|.int R m.2⟩
 ·exact m.elim⟩
end
def XO (h:Heap)(P:Addr->Prop)(e C:Addr)(od:Option Addr):Prop:=P e/\∃ (oe:Obj) (vs:Array Mk),h.get? e=FN oe/\oe.cls=.ref C/\oe.dict=od/\oe.data=.fields vs/\vs.size<=1000/\vs[2]?=FN .none /\
 (vs[1]?=FN .none\/∃ (T:Addr) (oT:Obj) (ts:Array Mk),vs[1]?=FN (.ref T)/\T≠e/\P T/\h.get? T=FN oT/\oT.data=.fields ts/\3<ts.size)
def XN (h:Heap)(P:Addr->Prop)(e C:Addr)(od:Option Addr):Prop:=P e/\∃ (oe:Obj) (vs:Array Mk),h.get? e=FN oe/\oe.cls=.ref C/\oe.dict=od/\oe.data=.fields vs/\vs.size<=1000/\vs[2]?=FN .none /\
 ∃ (T:Addr) (oT:Obj) (ts:Array Mk),vs[1]?=FN (.ref T)/\T≠e/\P T/\h.get? T=FN oT/\oT.data=.fields ts/\3<ts.size
structure Stp (P:Addr->Prop) (fs:List Addr) (h h':Heap):Prop where
 keep:∀ b o,¬ P b->b∉fs->h.get? b=FN o->h'.get? b=FN o
 slot:∀ b o,¬ P b->h.get? b=FN o->∃ sl,h'.get? b=FN { o with slots:=sl }
 there:∀ b o,h.get? b=FN o->∃ o',h'.get? b=FN o'
section
variable {M:Model}{A:DW}{E:Mk->Ai->Prop}{s:Ai}{P:Addr->Prop}{e C:Addr}{od:Option Addr}
end
section
variable {X:Cx}{ahJ:List (Addr×Obj)}{Z : St}{H H':Hp}{s s':Ai}{b e C:Addr}{od:Option Addr}
structure New (X:Cx) (ahJ:List (Addr×Obj)) (H:Hp) (b:Addr):Prop where
 h:H b=FX
 s:b∈X.ex\/X.s₀.heap.get? b=FX
 l:b≠X.env.locals
 c:∀ x c,X.env.cells.lookup x=FN c->c≠b
 p:∀ p∈X.pn++ahJ,p.1≠b
 f:b∉X.fs
structure zab (X:Cx) (ahJ:List (Addr×Obj)) (Z : St) (H:Hp) (s:Ai) (e C:Addr) (od:Option Addr):Prop where
 inv:Av X ahJ Z H s
 xo:XO s.heap (New X ahJ H) e C od
structure zaa (X:Cx) (ahJ:List (Addr×Obj)) (Z : St) (H:Hp) (s:Ai) (e C:Addr) (od:Option Addr):Prop where
 inv:Av X ahJ Z H s
 xn:XN s.heap (New X ahJ H) e C od
end
section
variable {X:Cx}{ahJ:List (Addr×Obj)}{Z : St}{H:Hp}{s:Ai}{C:Addr}{x:Str}{np ahL pos:Pos}{e:Expr}{es:List Expr}{t:TA}
end
section
variable {X:Cx}{Γ : St->Prop}{e c:Expr}{es:List Expr}{pos:Pos}{st:Stmt}{rest:List Stmt}
end
variable {Γ : St->Prop}
section
variable {X:Cx}{ahJ pins':List (Addr×Obj)}{Z : St}{H:Hp}{s:Ai}{xe:Mk->Ai->Prop}{a C:Addr}{o:Obj}{u:HO}
end
section
variable {prog:DI}{w:Bw}{A:DW}{E:Mk->Ai->Prop}{s:Ai}{K:Az}{x D:Addr}{ox:Obj}
end
def QT (n d:Str):Bool:=n==d||d == "EaselError"
section
variable {K:Az}{C D:Addr}{n d:Str}
def abn (K:Az)(v:V)(f:Str->Bool):Prop:=∀ (u:Mk),BX v u->∀ (C:Addr) (n:Str),Yu K C n=true->PySem.W.kitOne K (.ref C) u=FN (f n)
end
def bV.lost (D:bV):bV:={ D with nx:=fun Z h=>D.nx (Z.map fun _=>FX) h,bk:=fun Z h=>D.bk (Z.map fun _=>FX) h,ct:=fun Z h=>D.ct (Z.map fun _=>FX) h }
def Xn (x:Xw):W:=match x.fs with
 | []=>.exc x.cls
 | f::fs=>.exa x.cls ((f::fs).map (·.2))
def abw (i:Nat)(d:Str)(mb:Cd->MS)(mh:MS):MS:=fun D Z h=>mb (fun x h'=>Hz (QT x.cls d) (mh D.lost (Z.set i (FN (Xn x))) h') False) D Z h
section
variable {X:Cx}{body:List Stmt}{b₀ : Stmt}{suite:List Stmt}{d:Str}{np hpos pos:Pos}{i:Nat}{D:Addr}{mb:Cd->MS}{mh:MS}
end
section
variable {X:Cx}{a:Expr}{pos p:Pos}
def abE (f:Str->Bool)(m:ME):ME:=fun Z h Q=>m Z h fun w h1=>match w with
 | .exc n=>Q (.bl (f n)) h1
 | .exa n _=>Q (.bl (f n)) h1
 | _=>False
inductive PCs (X:Cx):List Expr->List V->(Str->Bool)->Prop
 | nil:PCs X [] [] (fun _=>false)
 | cons {e:Expr} {es:List Expr} {v:V} {vs:List V} {f g:Str->Bool}:PE X e (tC v)->abn X.K v f->PCs X es vs g->Dh (e::es) X.env=(false,eval e X.env)::Dh es X.env->PCs X (e::es) (v::vs) (fun n=>f n||g n)
end
section
variable {X:Cx}{tg:Expr}{scope:Scope}{xs:List Str}{pos p ppos:Pos}
end
section
variable {prog:DI}{w:Bw}{A:DW}{E:Mk->Ai->Prop}{s:Ai}
end
section
variable {X:Cx}
end
section
variable {X:Cx}{K:Az}{o e:Expr}{mo:ME}{ma:MA}{apos ahL:Pos}
variable {H:Hp}{ahJ:List (Addr×Obj)}{s:Ai}{Z : St}
mutual
theorem HY (I:Av X ahJ Z H s):∀ {w u:W} {v:V},Dt X.K H w v->Dt X.K H u v->w=u
 | .non,u,v,h,g=>by rw [Dt] at h;subst h;cases u <;> rw [Dt] at g <;> first | rfl | exact g.elim | (obtain ⟨_,_,g,_⟩:=g;cases g;done) | (cases g;done)
 | .bl b,u,v,h,g=>by rw [Dt] at h;subst h;cases u <;> rw [Dt] at g <;> first | (injection g with g;rw [g];done) | exact g.elim | (obtain ⟨_,_,g,_⟩:=g;cases g;done) | (cases g;done)
 | .int b,u,v,h,g=>by rw [Dt] at h;subst h;cases u <;> rw [Dt] at g <;> first | (injection g with g;rw [g];done) | exact g.elim | (obtain ⟨_,_,g,_⟩:=g;cases g;done) | (cases g;done)
 | .str b,u,v,h,g=>by rw [Dt] at h;subst h;cases u <;> rw [Dt] at g <;> first | (injection g with g;rw [g];done) | exact g.elim | (obtain ⟨_,_,g,_⟩:=g;cases g;done) | (cases g;done)
 | .tup ws,u,v,h,g=>by
  rw [Dt] at h;obtain ⟨p,xs,e,hs,ds⟩:=h;subst e;cases u with
  | tup us=>
   rw [Dt] at g;obtain ⟨p',xs',e',hs',ds'⟩:=g;cases e'
   have:=I.tuple_inj hs hs'
   subst this;rw [rQ I ds ds']
  | lst us=>
   rw [Dt] at g;obtain ⟨p',xs',e',hs',ds'⟩:=g;cases e'
   obtain ⟨_,_,t,_⟩:=I.tuple hs;obtain ⟨_,_,l,_⟩:=I.list hs';exact absurd rfl<|Wf l.isList<|show s.heap.IsTuple _ _ from t
  | ty _=>rw [Dt] at g;exact g.elim
  | loc _=>rw [Dt] at g;exact g.elim
  | kls _=>rw [Dt] at g;exact g.elim
  | exc _=>rw [Dt] at g;exact g.elim
  | exa _ _=>rw [Dt] at g;exact g.elim
  | _=>rw [Dt] at g;cases g
 | .lst ws,u,v,h,g=>by
  rw [Dt] at h;obtain ⟨p,xs,e,hs,ds⟩:=h;subst e;cases u with
  | lst us=>
   rw [Dt] at g;obtain ⟨p',xs',e',hs',ds'⟩:=g;cases e'
   have:=I.list_inj hs hs'
   subst this;rw [rQ I ds ds']
  | tup us=>
   rw [Dt] at g;obtain ⟨p',xs',e',hs',ds'⟩:=g;cases e'
   obtain ⟨_,_,t,_⟩:=I.tuple hs';obtain ⟨_,_,l,_⟩:=I.list hs;exact absurd rfl<|Wf l.isList<|show s.heap.IsTuple _ _ from t
  | ty _=>rw [Dt] at g;exact g.elim
  | loc _=>rw [Dt] at g;exact g.elim
  | kls _=>rw [Dt] at g;exact g.elim
  | exc _=>rw [Dt] at g;exact g.elim
  | exa _ _=>rw [Dt] at g;exact g.elim
  | _=>rw [Dt] at g;cases g
 | .ty _,_,_,h,_=>by rw [Dt] at h;exact h.elim
 | .kls _,_,_,h,_=>by rw [Dt] at h;exact h.elim
 | .loc _,_,_,h,_=>by rw [Dt] at h;exact h.elim
 | .exc _,_,_,h,_=>by rw [Dt] at h;exact h.elim
 | .exa _ _,_,_,h,_=>by rw [Dt] at h;exact h.elim
theorem rQ (I:Av X ahJ Z H s):∀ {ws us:List W} {vs:List V},GZ X.K H ws vs->GZ X.K H us vs->ws=us
 | [],us,vs,h,g=>by
  have e:vs=[]:=by rw [GZ] at h;exact h
  subst e;cases us with
  | nil=>rfl
  | cons u us=>rw [GZ] at g;obtain ⟨_,_,e,_⟩:=g;cases e
 | w::ws,us,vs,h,g=>by
  rw [GZ] at h;obtain ⟨v,vs',e,d,ds⟩:=h;subst e;cases us with
  | nil=>
   have e:v::vs'=[]:=by rw [GZ] at g;exact g
   cases e
  | cons u us=>
   rw [GZ] at g;obtain ⟨v2,vs2,e2,d2,ds2⟩:=g;cases e2;rw [HY I d d2,rQ I ds ds2]
end
theorem yM:∀ {us:List W} {xs:List V} {its:List Mk},GZ X.K H us xs->Aw xs its->∀ a u,(a,u)∈its.zip us->∃ v,BX v a/\Dt X.K H u v/\u∈us
 | [],_,its,_,_,a,u,m=>by rw [List.zip_nil_right] at m;exact absurd m (by simp)
 | w::us,xs,its,d,r,a,u,m=>by
  rw [GZ] at d;obtain ⟨v,vs,e,d1,ds⟩:=d;subst e;cases r with
  | cons r1 rs=>
   rw [Tg] at m;rcases G7.mp m with m | m
   ·cases m;exact ⟨v,r1,d1,JW⟩
   ·obtain ⟨v',q1,q2,q3⟩:=yM ds rs a u m;exact ⟨v',q1,q2,IK _ q3⟩
theorem qJ {α β : Type}:∀ {xs:List α} {ys:List β},xs.length=ys.length->∀ a∈xs,∃ b,(a,b)∈xs.zip ys
 | [],_,_,a,m=>absurd m (by simp)
 | _::_,[],h,_,_=>by cases h
 | x::xs,y::ys,h,a,m=>by
  rw [Tg];rcases G7.mp m with rfl | m
  ·exact ⟨y,JW⟩
  ·obtain ⟨b,q⟩:=qJ (Nat.succ.inj h) a m;exact ⟨b,IK _ q⟩
def aav:MM:=fun x ws h Q=>match ws with
 | [w]=>(match dX h x with
  | some us=>Hz (Ce 20 w&&us.all (Ce 20)) (Q (.int (us.countP fun u=>Dv u w)) h) False
  | none=>False)
 | _=>False
end
section
variable {X:Cx}{iter tg:Expr}{scope:Scope}{pos:Pos}{xs:List Str}
end
section
variable {X:Cx}{e:Expr}{es:List Expr}{pos:Pos}
variable {mr:Cd->MA}
end
section
variable {X:Cx}{K:Az}{H:Hp}{ahJ:List (Addr×Obj)}{s:Ai}{Z : St}
theorem Fb {α β : Type}{p:α->Bool}{q:β->Bool}:∀ {xs:List α} {ys:List β},xs.length=ys.length->(∀ a b,(a,b)∈xs.zip ys->p a=q b)->xs.any p=ys.any q
 | [],[],_,_=>rfl
 | [],_::_,h,_=>by cases h
 | _::_,[],h,_=>by cases h
 | a::xs,b::ys,h,e=>by
  rw [Uv,Uv,Fb (Nat.succ.inj h) fun a' b' m=>e a' b' (by rw [Tg];exact IK _ m),e a b (by rw [Tg];exact JW)]
theorem zca (I:Av X ahJ Z H s){us:List W}{xs:List V}{its:List Mk}{w:W}{y:V}{b:Mk}(hd:GZ X.K H us xs)(r:Aw xs its)(hw:Dt X.K H w y)(rb:BX y b)(pl1:us.all (Ce 20)=true)(pl2:Ce 20 w=true){A:DW}(hu:A.units+20<Gf):
  ∃ ev:Mk->Bool,(∀ a,a∈its->TF A s a b (ev a))/\its.any ev=us.any (fun u=>Dv u w):=by
 have hl:its.length=us.length:=by rw [<-r.length,hd.len]
 let ev:Mk->Bool:=fun a=>@decide (∃ u,(a,u)∈its.zip us/\Dv u w=true) (Classical.propDecidable _)
 have hev:∀ a u,(a,u)∈its.zip us->ev a=Dv u w:=by
  intro a u m;cases c:Dv u w with
  | true=>exact (@decide_eq_true_iff _ (Classical.propDecidable _)).mpr ⟨u,m,c⟩
  | false=>
   refine (@decide_eq_false_iff_not _ (Classical.propDecidable _)).mpr fun ⟨u2,m2,c2⟩=>?_;obtain ⟨v1,r1,d1,_⟩:=yM hd r a u m;obtain ⟨v2,r2,d2,_⟩:=yM hd r a u2 m2;have ev:v1=v2:=r1.inj r2;subst ev;rw [HY I d1 d2,c2] at c;cases c
 refine ⟨ev,fun a ha=>?_,Fb hl hev⟩;obtain ⟨u,m⟩:=qJ hl a ha;obtain ⟨v,r1,d1,mu⟩:=yM hd r a u m;rw [hev a u m];exact WD I 20 hu d1 hw (QB.mp pl1 u mu) pl2 r1 rb
def abr (K:Az)(neg:Bool):R2:=fun x y H Q=>∃ p xs us w,y=.ref p/\Ij K H p xs/\GZ K H us xs/\Dt K H w x/\us.all (Ce 20)=true/\Ce 20 w=true/\Q (.bl (if neg then !(us.any fun u=>Dv u w) else us.any fun u=>Dv u w)) H
theorem zbT (hu:X.A.units+30<Gf):J6 X (Jb .NotIn) (abr X.K true):=by
 intro ahJ s Z H x y v u Q I rx ry h;obtain ⟨p,xs,us,w,rfl,hq,hd,hw,p1,p2,q⟩:=h;cases ry;obtain ⟨its,r,pl,hz⟩:=I.list hq;obtain ⟨ev,he,ea⟩:=zca I hd r hw rx p1 p2 (A:=X.A.in1) (by show X.A.units+1+20<Gf;lia);refine SeqAt.notIn_listAt ev pl.isList (fun w hw=>he w<|by simpa using hw) ⟨.bl _,H,I,rfl,?_⟩;rw [show its.toArray.any ev=its.any ev by simp,ea];exact q
def Aj:M2:=fun x y h Q=>match dX h y with
 | some us=>Hz (Ce 20 x&&us.all (Ce 20)) (Q (.bl (!(us.any fun u=>Dv u x))) h) False
 | none=>False
theorem afa (hu:X.A.units+30<Gf):Js X (Jb .NotIn) Aj:=⟨_,zbT hu,by
 intro H μ h x y wx wy Qw Q R rx ry m k;unfold Aj at m;split at m
 ·rename_i us eu;obtain ⟨p,xs,ex,hs,rr⟩:=cW R ry eu;cases c:(Ce 20 wx&&us.all (Ce 20)) with
  | true=>
   rw [c] at m;rw [Nr] at c;exact ⟨p,xs,us,wx,ex,hs,vH (Jv 20) rr c.2,Jv 20 rx c.1,c.2,c.1,k _ _<|.bl R m⟩
  | false=>rw [c] at m;exact (show False from m).elim
 ·exact m.elim⟩
end
section
variable {X:Cx}{K:Az}{H:Hp}{h:Gh}
def mZ (h:Gh):List W->Option (List W)
 | []=>FN []
 | w::ws=>match Cw h w,mZ h ws with
  | some d,FN ds=>FN (d::ds)
  | _,_=>FX
def P0 (h:Gh)(w:W):Option W:=match w with
 | .tup ws=>(match mZ h ws with
  | some ds=>FN (.tup ds)
  | none=>FX)
 | w=>Cw h w
theorem rm {n:Nat}(R:DA K μ H h):∀ {ws ds:List W} {vs:List V},aM K H μ ws vs->mZ h ws=FN ds->ds.all (Ce n)=true->GZ K H ds vs
 | [],ds,vs,r,e,_=>by
  rw [mZ] at e;cases e;rw [aM] at r;subst r;rw [GZ]
 | w::ws,ds,vs,r,e,p=>by
  rw [mZ] at e;cases e1:Cw h w with
  | none=>rw [e1] at e;cases e
  | some d=>
   cases e2:mZ h ws with
   | none=>rw [e1,e2] at e;cases e
   | some ds'=>
    rw [e1,e2] at e;cases e;rw [Sq,Nr] at p;rw [aM] at r;obtain ⟨v,vs',ev,r1,r2⟩:=r;subst ev;rw [GZ];exact ⟨v,vs',rfl,lH R r1 e1 p.1,rm R r2 e2 p.2⟩
theorem acG {w d:W}{v:V}{n:Nat}(R:DA K μ H h)(r:Ak K H μ w v)(e:P0 h w=FN d)(p:Ce n d=true):Dt K H d v:=by
 cases w with
 | tup ws=>
  unfold P0 at e;dsimp only at e;cases e1:mZ h ws with
  | none=>rw [e1] at e;cases e
  | some ds=>
   rw [e1] at e;cases e;rw [Ak] at r;obtain ⟨q,xs,ev,hs,rs⟩:=r;obtain ⟨m,rfl,p⟩:=aes p;rw [Dt];exact ⟨q,xs,ev,hs,rm R rs e1 p⟩
 | _=>exact lH R r e p
end
section
variable {X:Cx}{K:Az}{o e e':Expr}{mo:ME}{ma:MA}{apos ahL:Pos}
theorem Vl {ahL:Pos}{e e':Expr}(h:Dq e=false)(h':Dq e'=false):((J9 ahL (Dh [e,e'] env)).all (fun x=>!x.1)&&(backToKw ahL (Ug [] env)).all (fun x=>x.1.isSome)
   && decide (([e,e']:List Expr).length+([]:List O7).length+(if ([]:List O7).isEmpty then 0 else 1)<30))=true:=by
 rw [bT h,bT h'];rfl
end
def Ry (m:Nat):List Nat:=(Oo 8).filter fun j=>m.testBit j
def rk (m j:Nat):Nat:=((Oo j).filter fun i=>m.testBit i).length
def pq (h:Int):Nat->Nat×Nat
 | 0=>(Um h % 8,Um h)
 | n+1=>SetTable.leap 7 (pq h n).1 (pq h n).2
def pb (h:Int)(n:Nat):SetTable.Probe:=⟨(pq h n).1,0,(pq h n).1,(pq h n).2,FX⟩
theorem ZM (h:Int):∀ n,(pq h n).1<8
 | 0=>Nat.mod_lt _ (by decide)
 | n+1=>Nat.mod_lt _ (by decide)
theorem Cz (h:Int):∀ n,(pq h n).2=Um h / 32^n
 | 0=>by simp [pq]
 | n+1=>by
  show (pq h n).2 / 32=_;rw [Cz h n,Nat.div_div_eq_div_mul,Nat.pow_succ]
theorem aeC (h:Int)(n:Nat)(hn:13<=n):(pq h n).2=0:=by
 rw [Cz];apply Nat.div_eq_of_lt;have h1:Um h<2^64:=by
  unfold Um;have a:=Tf h (show (0:Int)<2^64 by decide);have b:=U4 h (show (2^64:Int)≠0 by decide);lia
 have h2:32^13<=32^n:=Vy (by decide) hn;have h3:(2:Nat)^64<32^13:=by decide
 lia
def lcg:Nat->Nat->Nat
 | i,0=>i
 | i,k+1=>(lcg i k*5+1) % 8
theorem MP (h:Int):∀ k,(pq h (13+k)).1=lcg (pq h 13).1 k
 | 0=>rfl
 | k+1=>by
  show ((pq h (13+k)).1*5+1+(pq h (13+k)).2 / 32) % (7+1)=_;rw [aeC h _ (by lia),MP h k];rfl
theorem zbZ:∀ i:Fin 8,∀ j:Fin 8,∃ k:Fin 8,lcg i k=j.val:=by decide +kernel
theorem aga (h:Int){j:Nat}(hj:j<8):∃ n,n<21/\(pq h n).1=j:=by
 obtain ⟨k,e⟩:=zbZ ⟨(pq h 13).1,ZM h 13⟩ ⟨j,hj⟩;exact ⟨13+k.val,by lia,by rw [MP];exact e⟩
theorem S5 {P:Nat->Bool}:∀ (B:Nat),(∃ n,n<B/\P n=true)->∃ N,N<B/\P N=true/\∀ n,n<N->P n=false
 | 0,⟨n,h,_⟩=>absurd h (Nat.not_lt_zero _)
 | B+1,⟨n,h,e⟩=>by
  by_cases q:∃ n,n<B/\P n=true
  ·obtain ⟨N,a,b,c⟩:=S5 B q;exact ⟨N,by lia,b,c⟩
  ·refine ⟨n,h,e,fun i hi=>?_⟩;cases r:P i with
   | false=>rfl
   | true=>exact absurd ⟨i,by lia,r⟩ q
theorem road (h:Int)(hf:∃ j,j<8/\m.testBit j=false):∃ N,N<21/\m.testBit (pq h N).1=false/\∀ n,n<N->m.testBit (pq h n).1=true:=by
 obtain ⟨j,hj,e⟩:=hf;obtain ⟨n,hn,en⟩:=aga h hj;obtain ⟨N,a,b,c⟩:=S5 (P:=fun n=>!m.testBit (pq h n).1) 21 ⟨n,hn,by simp [en,e]⟩;exact ⟨N,a,by simpa using b,fun n hn=>by simpa using c n hn⟩
section
variable {prog:DI}{w:Bw}{A:DW}{E:Mk->Ai->Prop}{s:Ai}{ka:Nat->List Int}{ad:Nat->Addr}{t:Wm}{a b:Addr}{k:List Int}
abbrev adI (prog:DI)(w:Bw)(h:Heap)(k:List Int)(a:Addr):Prop:=IsTupleKey (RL prog w) h k a
def hT (prog:DI)(w:Bw)(k:List Int):Int:=tupleKeyHash (RL prog w) k
def elL (prog:DI)(w:Bw)(m:Nat)(ka:Nat->List Int)(ad:Nat->Addr):List (Int×Mk):=(Ry m).map fun j=>(hT prog w (ka j),Value.ref (ad j))
structure abm (prog:DI) (w:Bw) (h:Heap) (m:Nat) (ka:Nat->List Int) (ad:Nat->Addr) (t:Wm):Prop where
 mask:t.mask=7
 place:t.place=(Ry m).toArray
 dum:t.dummies = #[]
 m8:m<256
 few:(Ry m).length<=4
 key:∀ j,j∈Ry m->adI prog w h (ka j) (ad j)
 way:∀ j,j∈Ry m->∃ n,(pq (hT prog w (ka j)) n).1=j/\∀ i,i<n->m.testBit (pq (hT prog w (ka j)) i).1=true
def abz (es:Array (Int×Mk))(ep:Nat)(t:Wm):Obj:={ cls:=.type "set",dict:=FX,data:=.set es ep t }
def aeH (prog:DI)(w:Bw)(h:Heap)(a:Addr)(m:Nat)(ka:Nat->List Int)(ad:Nat->Addr):Prop:=∃ ep t,h.get? a=FN (abz (elL prog w m ka ad).toArray ep t)/\abm prog w h m ka ad t
end
variable {k : List Int}{ad : Nat->Addr}{ka : Nat->List Int}
section
variable {prog:DI}{w:Bw}{A:DW}{E:Mk->Ai->Prop}
structure abK (prog:DI) (w:Bw) (z:Nat) (h:Heap) (S:Addr) (seen:List (List Int)) (m:Nat) (ka:Nat->List Int) (ad:Nat->Addr):Prop where
 set:aeH prog w h S m ka ad
 low:∀ j,j∈Ry m->ad j<z
 mem:∀ k,k∈seen↔∃ j,j∈Ry m/\ka j=k
 len:(Ry m).length=seen.length
end
section
variable {prog:DI}{w:Bw}{A:DW}{E:Mk->Ai->Prop}{s:Ai}
end
section
variable {X:Cx}{K:Az}
theorem rR {prog:DI}{w:Bw}:∀ {k:List Int} {us:List Mk},Aw (k.map V.int) us->ItemsAre (RL prog w) k us
 | [],_,.nil=>.nil
 | i::k,_,.cons r t=>by
  obtain ⟨tk,rfl⟩:=r;exact .cons (intKind_is _ _ _ _)<|rR t
end
section
variable {κ : Type}[DecidableEq κ]
def Cu (kvs:List (κ×V))(k:κ):Option V:=(kvs.find? fun kv=>decide (kv.1=k)).map (·.2)
def JZ (kvs:List (κ×V))(k:κ)(v:V):List (κ×V):=
 if (kvs.any fun kv=>decide (kv.1=k))=true then kvs.map (fun kv=>if kv.1=k then (kv.1,v) else kv) else kvs++[(k,v)]
theorem z9 {p:κ×V}{r:List (κ×V)}{k:κ}(e:p.1=k):Cu (p::r) k=FN p.2:=by simp [Cu,Ov,e]
theorem zL {p:κ×V}{r:List (κ×V)}{k:κ}(e:¬ p.1=k):Cu (p::r) k=Cu r k:=by simp [Cu,Ov,e]
theorem pD (kvs:List (κ×V))(k:κ)(v:V):(JZ kvs k v).length<=kvs.length+1:=by
 unfold JZ;split
 ·rw [Bx];lia
 ·rw [JG,Iw,Vg];lia
theorem JM.getD {o:Option V}{u:Option Mk}{d:V}{d':Mk}(r:JM o u)(rd:BX d d'):BX (o.getD d) (u.getD d'):=by
 cases o with
 | none=>cases u with
  | none=>exact rd
  | some _=>exact (show False from r).elim
 | some _=>cases u with
  | none=>exact (show False from r).elim
  | some _=>exact r
theorem KV.val {kvs:List (κ×V)}{vs:List (κ×Mk)}(r:KV kvs vs)(k:κ):JM (Cu kvs k) (valueAt vs k):=by
 unfold KV at r;induction r with
 | nil=>exact True.intro
 | @cons p q ps qs h t ih=>
  obtain ⟨h1,h2⟩:=h;by_cases e:p.1=k
  ·have e':q.1=k:=h1.symm.trans e;have b:valueAt (q::qs) k=FN q.2:=by simp [valueAt,Ov,e']
   rw [z9 e,b];exact h2
  ·have e':¬ q.1=k:=fun z=>e (h1.trans z)
   have b:valueAt (q::qs) k=valueAt qs k:=by simp [valueAt,Ov,e']
   rw [zL e,b];exact ih
theorem KV.any {kvs:List (κ×V)}{vs:List (κ×Mk)}(r:KV kvs vs)(k:κ):(kvs.any fun kv=>decide (kv.1=k))=vs.any fun kv=>decide (kv.1=k):=by
 unfold KV at r;induction r with
 | nil=>rfl
 | cons h t ih=>rw [Uv,Uv,ih,h.1]
theorem KV.repl {kvs:List (κ×V)}{vs:List (κ×Mk)}(r:KV kvs vs)(k:κ){y:V}{u:Mk}(ry:BX y u):
  KV (kvs.map fun kv=>if kv.1=k then (kv.1,y) else kv) (vs.map fun kv=>if kv.1=k then (kv.1,u) else kv):=by
 unfold KV at r |-
 induction r with
 | nil=>exact .nil
 | @cons p q ps qs h t ih=>
  rw [Bu,Bu];refine .cons ?_ ih;obtain ⟨h1,h2⟩:=h;by_cases e:p.1=k
  ·rw [if_pos e,if_pos (h1.symm.trans e)];exact ⟨h1,ry⟩
  ·rw [if_neg e,if_neg (fun z=>e (h1.trans z))];exact ⟨h1,h2⟩
theorem KV.put {kvs:List (κ×V)}{vs:List (κ×Mk)}(r:KV kvs vs)(k:κ){y:V}{u:Mk}(ry:BX y u):KV (JZ kvs k y) (stored vs k u):=by
 unfold JZ stored;rw [r.any k];by_cases e:(vs.any fun kv=>decide (kv.1=k))=true
 ·rw [if_pos e,if_pos e];exact r.repl k ry
 ·rw [if_neg e,if_neg e];exact Paired.snoc r ⟨rfl,ry⟩
theorem KV.length {kvs:List (κ×V)}{vs:List (κ×Mk)}(r:KV kvs vs):kvs.length=vs.length:=Ux r
end
theorem G4 {P:DI}{w:Bw}{k:Key}{u:Mk}(r:BX (kV k) u):(dM P w).is k u=true:=by
 cases k with
 | inl i=>obtain ⟨t,e⟩:=(show ∃ t,u=Value.int i t from r);subst e;exact wR P w i t
 | inr x=>obtain ⟨t,e⟩:=(show ∃ t,u=Value.str x t from r);subst e;exact xY P w x t
section
variable {P:DI}{w:Bw}{H:Hp}{h:Heap}{a:Addr}
theorem Za {u:HO}(ok:JH P w H h)(e:Rd H a u):d9 P w H h a u:=e.ok ok
theorem M9 {kvs:List (Key×V)}(ok:JH P w H h)(e:Rd H a (.dK kvs)):kvs.length<=Dp/\(a==Kv)=false/\∃ vs,KV kvs vs/\h.DictOf (dM P w) a vs:=
 show d9 P w H h a (.dK kvs) from Za ok e
theorem Ef {kvs:List (Key×V)}(ok:JH P w H h)(e:H a=FN (.dK kvs)):kvs.length<=Dp/\(a==Kv)=false/\∃ vs,KV kvs vs/\h.DictOf (dM P w) a vs:=M9 ok (.inl e)
end
section
variable {X:Cx}{ahJ:List (Addr×Obj)}{Z : St}{H:Hp}{s:Ai}{a:Addr}{y v:V}{u r:Mk}{o:Option V}{A:DW}{E:Mk->Ai->Prop}
theorem Av.big (I:Av X ahJ Z H s):Kv<s.heap.objs.size:=by
 have h:IV<s.heap.objs.size:=(I.mod.glob.keeps I.bk).lt;exact Uc (by decide) h
theorem yj {h':Heap}{t':Nat}{ob:HO}(I:Av X ahJ Z H s)(mu:Mut (H a))(hs:Tj a s.heap h')(he:∃ q,h'.get? a=FN q)(new:d9 X.prog X.w (Dd H a ob) h' a ob):
  Av X ahJ Z (Dd H a ob) { s with heap:=h',toks:=t' }:=
 I.write (x:=a) (e:=a) mu (.inl rfl) (fun b q hb z=>(hs.2 b hb).trans z) he new
theorem MN {P:DI}{w:Bw}{H':Hp}{h':Heap}{kvs:List (Key×V)}{vs:List (Key×Mk)}(z:kvs.length<=Dp)(hd:(a==Kv)=false)(rel:KV kvs vs)(dd:h'.DictOf (dM P w) a vs):
  d9 P w H' h' a (.dK kvs):=⟨z,hd,vs,rel,dd⟩
end
section
variable {X:Cx}{ahJ:List (Addr×Obj)}{Z : St}{H:Hp}{s:Ai}{a:Addr}{kvs:List (Key×V)}{k:Key}{u:Mk}{A:DW}{E:Mk->Ai->Prop}
end
def Tv (i:Expr):Prop:=∀ ov iv,subscripted i false ov iv=operate [ov,iv] (getItem ov iv)
theorem Hi {prog:DI}{w:Bw}{A:DW}{E:Mk->Ai->Prop}{s:Ai}{value slice:Expr}{pos:Pos}{T id:String}{Q:Mk->Ai->Prop}
  (hl:typeLookup (.type T) "__getitem__" = pure (FN (.builtin id))) (hs:Tv slice)
  (h:Ay (Ax prog w) A (eval value env) (fun o s₁=>Ay (Ax prog w) A (eval slice env) (fun i s₂=>s₂.TypeIs o T/\Ay (Ax prog w) A (getItem o i) Q E s₂) E s₁) E s) :
  Ay (Ax prog w) A (eval (.Subscript value slice pos) env) Q E s:=by
 refine Subscript_<|KN h (fun o s₁ h₁=>KN h₁ (fun i s₂ h₂=>?_) fun _ _ x=>x) fun _ _ x=>x
 obtain ⟨hT,h₂⟩:=h₂;unfold subscriptTail;refine Ao ?_;rw [getitemInPython_of_ne hT.not_modules];refine Ao<|wpAny_specialOf hT hl ?_
 have fin:Ay (Ax prog w) A (subscripted slice false o i) (fun r s₃=>Ay (Ax prog w) A (letTemporaryGo value o r >>= fun _=>pure r) Q E s₃) E s₂:=by
  rw [hs o i];exact wpAny_operating<|KN h₂ (fun r s₃ h₃=>Ao<|wpAny_letTemporaryGo<|Ba h₃) fun _ _ x=>x
 first
  | exact Ba (Ao fin)
  | exact Ao (Ba (Ao fin))
  | exact Ao fin
section
variable {X:Cx}{o i e value:Expr}{pos pos' tpos:Pos}{td ty tv:TE}
end
theorem yX {P:DI}{w:Bw}{H:Hp}(h:Heap)(hb:Kv<h.objs.size):d9 P w H (h.push { cls:=.type "dict",data:=.dict #[] }) h.objs.size (.dK []):=
 ⟨Ja _,beq_eq_false_iff_ne.mpr (Im (G3 hb)),[],.nil,Heap.DictOf.new h⟩
theorem aee {P:DI}{w:Bw}{H:Hp}(h:Heap)(hb:Kv<h.objs.size):d9 P w H (h.push { cls:=.type "dict",data:=.dict #[] }) h.objs.size (.dT []):=
 ⟨Ja _,beq_eq_false_iff_ne.mpr (Im (G3 hb)),[],.nil,_,#[],0,Ip _ rfl,⟨rfl,rfl,rfl⟩,rfl,rfl,List.nodup_nil⟩
def afY:TE:=fun _ H Q=>∀ p,H p=FX->Q (.ref p) (Dd H p (.dK []))
section
variable {X:Cx}{pos:Pos}
theorem zbp:PE X (.Dict [] [] pos) afY:=fun ahJ s Z H Q I h=>
 wpAny_Dict_empty ⟨.ref s.heap.objs.size,_,I.laid (a:=s.heap.objs.size) (o:=.dK []) (t':=s.toks) (fun _ _ q=>Eo _ q) (Bp _) (yX s.heap I.big),rfl,h _ (I.hok.fresh (Bp _))⟩
end
def vB:List (TE×TE)->St->Hp->(List (V×V)->Hp->Prop)->Prop
 | [],_,H,Q=>Q [] H
 | (tk,tv)::r,Z,H,Q=>tk Z H fun x H1=>tv Z H1 fun y H2=>vB r Z H2 fun ps H3=>Q ((x,y)::ps) H3
abbrev VV:List (V×V)->List (Mk×Mk)->Prop:=Jm fun p q=>BX p.1 q.1/\BX p.2 q.2
def PPs (X:Cx)(pos:Pos)(keys:List (Option Expr))(values:List Expr)(trs:List (TE×TE)):Prop:=
 ∀ (ahJ:List (Addr×Obj)) (s:Ai) (Z : St) (H:Hp) (Q:List (V×V)->Hp->Prop),Av X ahJ Z H s->vB trs Z H Q ->
  Ay (Ax X.prog X.w) X.A (evalPairs (pairTrees keys values X.env pos)) (fun vs s'=>∃ ps H',Av X ahJ Z H' s'/\VV ps vs/\Q ps H') X.xe s
theorem zbL {X:Cx}{pos:Pos}:PPs X pos [] [] []:=fun ahJ s Z H Q I h=>pairTrees_nil_walk ⟨[],H,I,.nil,h⟩
variable {trs : List (TE×TE)}
theorem aeL {X:Cx}{pos:Pos}{k v:Expr}{ks:List (Option Expr)}{vs:List Expr}{tk tv:TE}(hk:PE X k tk)(hv:PE X v tv)(hr:PPs X pos ks vs trs):
  PPs X pos (FN k::ks) (v::vs) ((tk,tv)::trs):=fun ahJ s Z H Q I h=>
 pairTrees_cons_walk (Ei (hk ahJ s Z H _ I h) fun u s1 ⟨x,H1,I1,rx,q1⟩=>Ei (hv ahJ s1 Z H1 _ I1 q1) fun w2 s2 ⟨y,H2,I2,ry,q2⟩=>
  Ei (hr ahJ s2 Z H2 _ I2 q2) fun ws s3 ⟨ps,H3,I3,rel,q3⟩=>⟨(x,y)::ps,H3,I3,.cons ⟨rx,ry⟩ rel,q3⟩)
def pL (kvs more:List (Key×V)):List (Key×V):=more.foldl (fun acc kv=>JZ acc kv.1 kv.2) kvs
theorem KV.merge:∀ {more:List (Key×V)} {rs:List (Key×Mk)} {kvs:List (Key×V)} {vs:List (Key×Mk)},KV more rs->KV kvs vs->KV (pL kvs more) (merged vs rs):=by
 intro more rs kvs vs r;unfold KV at r;induction r generalizing kvs vs with
 | nil=>intro q;exact q
 | @cons p q ps qs h t ih=>
  intro r0;have e:KV (JZ kvs p.1 p.2) (stored vs q.1 q.2):=by
   have:=r0.put p.1 h.2
   rw [<-h.1];exact this
  exact ih e
theorem jX:∀ (more kvs:List (Key×V)),(pL kvs more).length<=kvs.length+more.length
 | [],kvs=>by show kvs.length<=kvs.length+0;lia
 | p::r,kvs=>by
  have h1:=jX r (JZ kvs p.1 p.2);have h2:=pD kvs p.1 p.2;show (pL (JZ kvs p.1 p.2) r).length<=_;rw [Iw];lia
theorem qP {P:DI}{w:Bw}:∀ {kvs:List (Key×V)} {ws:List (Mk×Mk)},VV (kvs.map fun kv=>(kV kv.1,kv.2)) ws->∃ rs,Carries (dM P w) ws rs/\KV kvs rs
 | [],_,r=>by rw [Jo] at r;cases r;exact ⟨[],True.intro,.nil⟩
 | p::kvs,_,r=>by
  rw [Bu] at r;cases r with
  | @cons a b as bs h t=>
   obtain ⟨rs,c,q⟩:=qP (P:=P) (w:=w) t;obtain ⟨b1,b2⟩:=b;exact ⟨(p.1,b2)::rs,⟨G4 h.1,rfl,c⟩,.cons ⟨rfl,h.2⟩ q⟩
def Zz (trs:List (TE×TE)):TE:=fun Z H Q=>∀ p,H p=FX->vB trs Z (Dd H p (.dK [])) fun ps H2=>H2 p=FN (.dK [])/\∃ kvs:List (Key×V),ps=kvs.map (fun kv=>(kV kv.1,kv.2))/\kvs.length<=15/\Q (.ref p) (Dd H2 p (.dK (pL [] kvs)))
variable {keys : List (Option Expr)}
theorem agQ {X:Cx}{pos:Pos}{values:List Expr}(h:PPs X pos keys values trs)(hall:keys.all (·.isSome)=true)(hl:keys.length=values.length)(h0:keys≠[])
  (h15:keys.length<=15):PE X (.Dict keys values pos) (Zz trs):=by
 intro ahJ s Z H Q I q;have hn:=I.hok.fresh (Bp s.heap.objs.size);have I1:=I.laid (a:=s.heap.objs.size) (o:=.dK []) (h':=s.heap.push { cls:=.type "dict",data:=.dict #[] }) (t':=s.toks) (fun _ _ q=>Eo _ q) (Bp _) (yX s.heap I.big);refine wpAny_Dict_walk (knd:=dM X.prog X.w) hall hl h0 h15<|Ei (h ahJ _ Z _ _ I1<|q _ hn) fun ws s2 ⟨ps,H2,I2,rel,e,kvs,ep,lk,q2⟩=>?_
 subst ep;obtain ⟨rs,c,rk⟩:=qP (P:=X.prog) (w:=X.w) rel;obtain ⟨z,hd,vs0,r0,dd⟩:=Ef I2.hok e;cases r0;refine ⟨rs,c,dd,fun h' dd' hs=>⟨.ref s.heap.objs.size,_,?_,rfl,q2⟩⟩;have hz:(pL [] kvs).length<=Dp:=by
  have h1:=jX kvs [];rw [Vg] at h1;rw [V3];lia
 have he:∃ q,h'.get? s.heap.objs.size=FN q:=let ⟨q,_,_,hq,_⟩:=dd';⟨q,hq⟩
 exact yj I2 (by rw [e];exact True.intro) hs he<|MN hz hd (rk.merge .nil) dd'
def Xx:W->Option Key
 | .int i=>FN (.inl i)
 | .str x=>FN (.inr x)
 | _=>FX
def qd (kvs:List (Key×W))(k:Key):Option W:=(kvs.find? fun kv=>decide (kv.1=k)).map (·.2)
def M6 (kvs:List (Key×W))(k:Key)(w:W):List (Key×W):=
 if (kvs.any fun kv=>decide (kv.1=k))=true then kvs.map (fun kv=>if kv.1=k then (kv.1,w) else kv) else kvs++[(k,w)]
section
variable {K:Az}{H:Hp}{kvs:List (Key×W)}{kvv:List (Key×V)}{k:Key}{w:W}{v:V}
theorem nH (r:Ak K H μ w v)(e:Xx w=FN k):v=kV k:=by
 cases w with
 | int i=>rw [Ak] at r;cases e;exact r
 | str x=>rw [Ak] at r;cases e;exact r
 | _=>cases e
theorem ni.val (r:ni K H μ kvs kvv)(e:qd kvs k=FN w):∃ v,Cu kvv k=FN v/\Ak K H μ w v:=by
 unfold ni at r;induction r with
 | nil=>cases e
 | @cons p q ps qs h t ih=>
  by_cases z:p.1=k
  ·have e1:qd (p::ps) k=FN p.2:=by simp [qd,Ov,z]
   rw [e1] at e;cases e;exact ⟨q.2,z9<|h.1.symm.trans z,h.2⟩
  ·have e1:qd (p::ps) k=qd ps k:=by simp [qd,Ov,z]
   rw [e1] at e;obtain ⟨v,a,b⟩:=ih e;exact ⟨v,by rw [zL<|fun y=>z<|h.1.trans y];exact a,b⟩
theorem ni.any (r:ni K H μ kvs kvv)(k:Key):(kvs.any fun kv=>decide (kv.1=k))=(kvv.any fun kv=>decide (kv.1=k)):=by
 unfold ni at r;induction r with
 | nil=>rfl
 | @cons p q ps qs h t ih=>rw [Uv,Uv,ih,h.1]
theorem ni.repl (r:ni K H μ kvs kvv)(rv:Ak K H μ w v)(k:Key):ni K H μ (kvs.map fun kv=>if kv.1=k then (kv.1,w) else kv) (kvv.map fun kv=>if kv.1=k then (kv.1,v) else kv):=by
 unfold ni at r |-
 induction r with
 | nil=>exact .nil
 | @cons p q ps qs h t ih=>
  rw [Bu,Bu];refine .cons ?_ ih;by_cases z:p.1=k
  ·rw [if_pos z,if_pos (h.1.symm.trans z)];exact ⟨h.1,rv⟩
  ·rw [if_neg z,if_neg (fun y=>z (h.1.trans y))];exact h
theorem ni.put (r:ni K H μ kvs kvv)(rv:Ak K H μ w v)(k:Key):ni K H μ (M6 kvs k w) (JZ kvv k v):=by
 unfold M6 JZ;rw [<-r.any k];by_cases e:(kvs.any fun kv=>decide (kv.1=k))=true
 ·rw [if_pos e,if_pos e];exact r.repl rv k
 ·rw [if_neg e,if_neg e];exact Paired.snoc r ⟨rfl,rv⟩
theorem DA.dctAt {h:Gh}{n:Nat}(R:DA K μ H h)(e:h.c n=FN (.dct kvs)):∃ p kvv,μ.f n=FN p/\H p=FN (.dK kvv)/\ni K H μ kvs kvv:=by
 obtain ⟨p,e1,xs,e2,r⟩:=R.cel n _ e;exact ⟨p,xs,e1,e2,r⟩
end
section
variable {X:Cx}{a b:Expr}{pos:Pos}
def RX:M2:=fun x y h Q=>match x,Xx y with
 | .loc n,FN k=>(match h.c n with
  | some (.dct kvs)=>(match qd kvs k with
   | some w=>Q w h
   | none=>False)
  | _=>False)
 | _,_=>False
theorem zbg {o i:Expr}{td ty:TE}(ho:PE X o td)(hi:PE X i ty)(hs:Tv i):PE X (.Subscript o i pos) (fun Z H Q=>td Z H fun x H1=>ty Z H1 fun y H2=>∃ a kvs k v,x=.ref a/\Rd H2 a (.dK kvs)/\y=kV k/\Cu kvs k=FN v/\Q v H2):=by
 intro ahJ s Z H Q I h;refine Hi PySem.F.slot_dict_getitem.lookup hs<|Ei (ho ahJ s Z H _ I h) fun u s1 ⟨x,H1,I1,rx,q1⟩=>Ei (hi ahJ s1 Z H1 _ I1 q1) fun iv s2 ⟨y,H2,I2,ry,a,kvs,k,v,ex,e,ey,l,q2⟩=>?_
 subst ex ey;obtain rfl:u=Value.ref a:=rx;obtain ⟨z,hd,vs,rel,dd⟩:=M9 I2.hok e;obtain ⟨w',hw,rw'⟩:=JM.some_of (v:=v) (o:=valueAt vs k) (by rw [<-l];exact rel.val k);exact ⟨dd.typeIs,wpAny_getItem_of (G4 ry) dd.mapOf hw ⟨v,H2,I2.tok _,rw',q2⟩⟩
theorem Zv (ha:DE X a ma)(hb:DE X b mb)(hs:Tv b):DE X (.Subscript a b pos) (AP RX ma mb):=(zbg ha hb hs).of fun Z H Q h=>two h fun {H2 μ2 h2 x y wx wy Qw} R r1 r2 m k=>by
 unfold RX at m;split at m
 ·rename_i n kk e;split at m
  ·rename_i kvs ec;split at m
   ·rename_i w ev;obtain ⟨p,kvv,hp,hx,rf⟩:=R.dctAt ec;rw [Ak] at r1;obtain ⟨p',e1,hp'⟩:=r1;have ep:p'=p:=by rw [hp] at hp';exact (Eu hp').symm
    subst ep;obtain ⟨v,e2,rv⟩:=rf.val ev;exact ⟨p',kvv,kk,v,e1,.inl hx,nH r2 e,e2,k _ _ ⟨μ2,w,h2,.refl,R,rv,m⟩⟩
   ·exact m.elim
  ·exact m.elim
 ·exact m.elim
def Vv:Qn:=fun o i v H N=>∃ a kvs k,o=.ref a/\H a=FN (.dK kvs)/\i=kV k/\kvs.length<Dp/\N (Dd H a (.dK (JZ kvs k v)))
theorem JB:SN X Vv:=by
 intro ahJ s Z H o i v ov iv u Q I ro ri rv ⟨a,kvs,k,eo,e,ei,l,q⟩;subst eo ei;obtain rfl:ov=Value.ref a:=ro;obtain ⟨z,hd,vs,rel,dd⟩:=Ef I.hok e;have hz:vs.length<=Dp:=by rw [<-rel.length];exact z
 have hl:(JZ kvs k v).length<=Dp:=by have:=pD kvs k v;lia
 refine wpAny_setItem_pairs (hsz:=hz) (G4 ri) dd fun h' dd' hs=>⟨_,?_,q⟩;have he:∃ q,h'.get? a=FN q:=let ⟨q,_,_,hq,_⟩:=dd';⟨q,hq⟩
 exact yj I (by rw [e];exact True.intro) hs he<|MN hl hd (rel.put k rv) dd'
def xJ:Oi:=fun o i w h N=>match o,Xx i with
 | .loc n,FN k=>(match h.c n with
  | some (.dct kvs)=>fG (kvs.length+1) (N (h.set n (.dct (M6 kvs k w))))
  | _=>False)
 | _,_=>False
theorem nG {K:Az}:yC K Vv xJ:=by
 intro H μ h o i v wo wi w Nw N R ro ri r m k;unfold xJ at m;split at m
 ·rename_i n kk e;split at m
  ·rename_i kvs ec;obtain ⟨p,kvv,hp,hx,rf⟩:=R.dctAt ec;rw [Ak] at ro;obtain ⟨p',e1,hp'⟩:=ro;have ep:p'=p:=by rw [hp] at hp';exact (Eu hp').symm
   subst ep;refine ⟨p',kvv,kk,e1,hx,nH ri e,?_,k _ ⟨μ,_,(Ex.write R hp).ext,R.write (c:=.dct (M6 kvs kk w)) hp trivial ⟨_,bA,?_⟩,m.ok.2⟩⟩
   ·have:=m.ok.1
    rw [Ux rf] at this;lia
   ·refine ni.put ?_ ((Ex.write R hp).ext.r _ _ r) kk;exact Paired.mapP rf fun _ _ z=>⟨z.1,(Ex.write R hp).ext.r _ _ z.2⟩
  ·exact m.elim
 ·exact m.elim
def mDs:List (Key×ME)->MA
 | [],_,h,Q=>Q [] h
 | p::r,Z,h,Q=>p.2 Z h fun w h1=>mDs r Z h1 fun ws h2=>Q (w::ws) h2
def mkD:List (Key×ME)->List W->List (Key×W)->List (Key×W)
 | p::r,w::ws,acc=>mkD r ws (M6 acc p.1 w)
 | _,_,acc=>acc
def U3 (r:List (Key×ME)):ME:=fun Z h Q=>mDs r Z (h.new (.dct [])) fun ws h2=>match h2.c h.nx with
 | some (.dct [])=>Q (.loc h.nx) (h2.set h.nx (.dct (mkD r ws [])))
 | _=>False
inductive PJ (X:Cx):List (Option Expr)->List Expr->List (Key×ME)->Prop
 | nil:PJ X [] [] []
 | cons {x:Str} {j pos} {v:Expr} {m:ME} {ks:List (Option Expr)} {vs:List Expr} {r:List (Key×ME)} (h:DE X v m) (t:PJ X ks vs r):PJ X (FN (.Constant (.str x) j pos)::ks) (v::vs) ((.inr x,m)::r)
def trD (K:Az)(r:List (Key×ME)):List (TE×TE):=r.map fun p=>(tC (kV p.1),tD K p.2)
theorem PJ.pps {ks:List (Option Expr)}{vs:List Expr}{r:List (Key×ME)}(h:PJ X ks vs r):PPs X pos ks vs (trD X.K r):=by
 induction h with
 | nil=>exact zbL
 | cons h t ih=>exact aeL M4 h ih
theorem PJ.all {ks:List (Option Expr)}{vs:List Expr}{r:List (Key×ME)}(h:PJ X ks vs r):ks.all (·.isSome)=true/\ks.length=vs.length/\ks.length=r.length:=by
 induction h with
 | nil=>exact ⟨rfl,rfl,rfl⟩
 | cons h t ih=>exact ⟨by rw [Sq,ih.1];rfl,by rw [Iw,Iw,ih.2.1],by rw [Iw,Iw,ih.2.2]⟩
theorem yK {K:Az}:∀ {r:List (Key×ME)} {Z : St} {H:Hp} {μ : Mu} {h:Gh} {Zw:Sw} {Qw:List W->Gh->Prop} {Q:List (V×V)->Hp->Prop},DA K μ H h->Slots K H μ Zw Z->mDs r Zw h Qw ->
  (∀ (vs:List V) (ws:List W) (H':Hp) (μ':Mu) (h':Gh),GP K H μ H' μ'->DA K μ' H' h'->aM K H' μ' ws vs->vs.length=r.length->Qw ws h'->Q ((r.zip vs).map fun p=>(kV p.1.1,p.2)) H')->vB (trD K r) Z H Q
 | [],Z,H,μ,h,Zw,Qw,Q,R,S,m,k=>k [] [] H μ h .refl R aM.nil rfl m
 | p::r,Z,H,μ,h,Zw,Qw,Q,R,S,m,k=>by
  show tC (kV p.1) Z H fun x H1=>tD K p.2 Z H1 fun y H2=>vB (trD K r) Z H2 fun ps H3=>Q ((x,y)::ps) H3
  refine ⟨μ,h,Zw,_,R,S,m,fun v H1 ⟨μ1,w,h1,e1,R1,r1,m1⟩=>?_⟩;refine yK R1 (S.ext e1) m1 fun vs ws H2 μ2 h2 e2 R2 rs hl q=>?_;exact k (v::vs) (w::ws) H2 μ2 h2 (e1.trans e2) R2 (aM.cons (e2.r _ _ r1) rs) (by rw [Iw,Iw,hl]) q
theorem LK {K:Az}{H:Hp}{μ : Mu}:∀ {r:List (Key×ME)} {ws:List W} {vs:List V} {acc:List (Key×W)} {accv:List (Key×V)},aM K H μ ws vs->vs.length=r.length->ni K H μ acc accv ->
  ni K H μ (mkD r ws acc) (pL accv ((r.zip vs).map fun p=>(p.1.1,p.2)))
 | [],ws,vs,acc,accv,rs,hl,ra=>by
  have e:vs=[]:=List.length_eq_zero_iff.mp hl;subst e;cases ws with
  | nil=>exact ra
  | cons w ws=>exact ra
 | p::r,ws,vs,acc,accv,rs,hl,ra=>by
  cases ws with
  | nil=>rw [aM] at rs;subst rs;cases hl
  | cons w ws=>
   rw [aM] at rs;obtain ⟨v,vs',e,rv,rs'⟩:=rs;subst e;exact LK (r:=r) rs' (by simpa using hl)<|ra.put rv p.1
theorem agk {ks:List (Option Expr)}{vs:List Expr}{r:List (Key×ME)}(h:PJ X ks vs r)(h0:ks≠[])(h15:ks.length<=15):DE X (.Dict ks vs pos) (U3 r):=
 (agQ h.pps h.all.1 h.all.2.1 h0 h15).of fun Z H Q ⟨μ,g,Zw,Qw,R,S,m,q⟩ p hp=>by
  have R1:DA X.K (μ.put g.nx p) (Dd H p (.dK [])) (g.new (.dct [])):=R.newCell hp trivial ⟨[],bA,.nil⟩;have e1:=(Ex.newCell (o:=.dK []) R hp).ext;refine yK R1 (S.ext e1) m fun vs' ws H2 μ2 h2 e2 R2 rs hl z=>?_;split at z
  ·rename_i ec;obtain ⟨p',kvv,hp',hx,rf⟩:=R2.dctAt ec;have r0:Ak X.K (Dd H p (.dK [])) (μ.put g.nx p) (.loc g.nx) (.ref p):=by rw [Ak];exact ⟨p,rfl,Mu.put_same⟩
   have r2:=e2.r _ _ r0;rw [Ak] at r2;obtain ⟨p'',ep,hp''⟩:=r2;cases ep;have ep:p'=p:=by rw [hp''] at hp';exact (Eu hp').symm
   subst ep;unfold ni at rf;cases rf;refine ⟨hx,(r.zip vs').map (fun p=>(p.1.1,p.2)),by rw [JV];rfl,?_,?_⟩
   ·rw [Bx,List.length_zip,hl,<-h.all.2.2,Nat.min_self];exact h15
   ·have ew:=(Ex.write (o:=.dK (pL [] ((r.zip vs').map (fun p=>(p.1.1,p.2))))) R2 hp'').ext;refine q _ _ ⟨μ2,.loc g.nx,_,(e1.trans e2).trans ew,R2.write (c:=.dct (mkD r ws [])) hp'' trivial ⟨_,bA,?_⟩,by rw [Ak];exact ⟨p',rfl,hp''⟩,z⟩;exact LK (ew.s rs) hl .nil
  ·exact z.elim
end
inductive Yc (w:Bw) (K:Az):List Py->List (Key×W)->Prop
 | nil:Yc w K [] []
 | cons {x:Str} {t} {v:V} {u:Mk} {d:W} {es:List Py} {tbl:List (Key×W)} (r:BX v u) (q:∀ H μ,Ak K H μ d v) (h:Yc w K es tbl):Yc w K (⟨PyData.keyHash w.params x,.str x t,u⟩::es) ((.inr x,d)::tbl)
section
variable {X:Cx}{b:Expr}{pos p:Pos}{x:Str}{a:Addr}{tbl:List (Key×W)}
end
variable {tbl : List (Key×W)}
section
variable {X:Cx}{pos p p':Pos}{x:Str}{a:Addr}
end
section
variable {X:Cx}
end
section
variable {X:Cx}{K:Az}{H:Hp}{h:Gh}
def sy (h:Gh)(w:W):Option W:=match w with
 | .lst ws=>(match mZ h ws with
  | some ds=>FN (.lst ds)
  | none=>FX)
 | w=>P0 h w
theorem yR {w d:W}{v:V}{n:Nat}(R:DA K μ H h)(r:Ak K H μ w v)(e:sy h w=FN d)(p:Ce n d=true):Dt K H d v:=by
 cases w with
 | lst ws=>
  unfold sy at e;dsimp only at e;cases e1:mZ h ws with
  | none=>rw [e1] at e;cases e
  | some ds=>
   rw [e1] at e;cases e;rw [Ak] at r;obtain ⟨q,xs,ev,hs,rs⟩:=r;obtain ⟨m,rfl,p⟩:=Fd p;rw [Dt];exact ⟨q,xs,ev,hs.sq,rm R rs e1 p⟩
 | _=>exact acG R r (by unfold sy at e;exact e) p
def abT:M2:=fun x y h Q=>match sy h x,sy h y with
 | some a,FN b=>Hz (Ce 30 a&&Ce 30 b) (Q (.bl (Dv a b)) h) False
 | _,_=>False
def Wg:M2:=fun x y h Q=>match sy h x,sy h y with
 | some a,FN b=>Hz (Ce 30 a&&Ce 30 b) (Q (.bl (!Dv a b)) h) False
 | _,_=>False
theorem XS (hu:X.A.units+30<Gf):Js X (Jb .NotEq) Wg:=⟨_,Mh hu,by
 intro H μ h x y wx wy Qw Q R rx ry m k;unfold Wg at m;split at m
 ·rename_i a b ea eb;cases hp:(Ce 30 a&&Ce 30 b) with
  | true=>
   rw [hp] at m;rw [Nr] at hp;exact ⟨a,b,yR R rx ea hp.1,yR R ry eb hp.2,hp.1,hp.2,k _ _<|.bl R m⟩
  | false=>rw [hp] at m;exact (show False from m).elim
 ·exact m.elim⟩
end
section
variable {X:Cx}{a b c:Expr}{mc:ME}{pos:Pos}
end
section
variable {K:Az}{H:Hp}{fs:List (Str×W)}{fvs:List (Str×V)}{f:Str}{w:W}{v:V}
end
section
variable {X:Cx}{e o value:Expr}{es:List Expr}{mo mv:ME}{f:Str}{C:Addr}{pos pos' apos:Pos}
end
section
variable {prog:DI}{w:Bw}{A:DW}{E:Mk->Ai->Prop}{s:Ai}
theorem zbE:typeLookup (.type "list_reverseiterator") "__len__" = pure FX:=by rw [typeLookup_type,builtinLookup_eq_fast];kernel_rfl
theorem zbj:typeLookup (.type "list_reverseiterator") "__length_hint__" = pure (FN (.builtin "list_reverseiterator.__length_hint__")):=by rw [typeLookup_type,builtinLookup_eq_fast];kernel_rfl
theorem zbk {r:Addr}{Q:Bool->Ai->Prop}(hT:s.TypeIs (.ref r) "list_reverseiterator")(h:Q false s):Ay (Ax prog w) A (Builtin.List.listLengthHint (.ref r)) Q E s:=by
 unfold Builtin.List.listLengthHint;refine Ao<|wpAny_specialOf hT zbE ?_
 dsimp only;refine V2 (fun hab=>absurd hab<|by decide)<|fun _=>?_
 refine V2 (fun hab=>absurd hab<|by decide)<|fun _=>?_
 refine Ao<|wpAny_specialOf hT zbj ?_
 generalize hid:("list_reverseiterator.__length_hint__" : String)=id0
 wp_delta
 rw [show splitId id0=FN ("list_reverseiterator", "__length_hint__") from by subst hid;decide +kernel];subst hid;refine Ao<|wpAny_isInstance (T := "list_reverseiterator") (b:=true) hT (by rw [isSubtype_type];kernel_rfl) ?_
 refine V2 (fun hab=>absurd hab<|by decide)<|fun _=>?_
 refine V2 (fun _=>?_)<|fun hab=>absurd (by decide +kernel) hab
 refine V2 (fun hab=>absurd hab<|by decide +kernel)<|fun _=>?_
 exact Ba h
theorem zag {r l:Addr}{items:Array Mk}(hh:A.handled=FX)(hit:s.heap.IsRevIter r l ((items.size:Int) - 1))(hl:s.heap.IsList l items)(hne:l≠r)(S:Addr)(hSr:S≠r)(hSl:S≠l)(res:Mk)(c₀ : Nat)(hS:s.heap.get? S=FN { cls:=.type "list",data:=.seq #[] c₀ })
  (hR:∀ h' tk acc' c',(∀ b o,b≠S->b≠r->s.heap.get? b=FN o->h'.get? b=FN o)->h'.get? S=FN { cls:=.type "list",dict:=FX,data:=.seq acc' c',slots:=#[] }->ItemsOf (fun i v=>items[items.size - 1 - i]?=FN v) acc' items.size->R (.ok (.ret res)) { s with heap:=h',toks:=tk }) (hn:items.size<=Dp) :
  Ay (Ax prog w) A.in1 (Wa (.ref S) (.ref r) res)
   (fun fin s'=>match fin with | .done f=>R (.ok f) s' | .again c'=>c'.quiet=true/\Pb (Ax prog w) A c' R s') (fun e s'=>R (.error e) s') s:=by
 have hSf:S∉[r,l]:=by simp only [G7,QJ,or_false,not_or];exact ⟨hSr,hSl⟩
 have W:=Walks.listRev (prog:=prog) (w:=w) (A:=A.in1) hh r l hne items;have st:(fun (i:Nat) (h:Heap)=>i<=items.size/\h.IsRevIter r l ((items.size:Int) - 1 - (i:Int))/\h.IsList l items) 0 s.heap:=⟨Ja _,by simpa using hit,hl⟩
 have key:∀ (h:Heap) (c₁ tk:Nat),(fun (i:Nat) (h:Heap)=>i<=items.size/\h.IsRevIter r l ((items.size:Int) - 1 - (i:Int))/\h.IsList l items) 0 h->(∀ b o,b≠S->s.heap.get? b=FN o->h.get? b=FN o) ->
   h.get? S=FN { cls:=.type "list",data:=.seq #[] c₁ }->Pb (Ax prog w) A (.builtin "list.extend.loop" ⟨[.ref S,.ref r,res],[]⟩) R { s with heap:=h,toks:=tk }:=by
  intro h c₁ tk hst hk hS₁;refine codeAny_extend_loopS W.toS hn S hSf res items.size 0 _ #[] c₁ rfl (Ja _) hst hS₁ (ItemsOf.nil _) fun s' acc' c' hm hS' hacc=>?_;rw [Moved.eq_with hm];refine hR s'.heap s'.toks acc' c' (fun b o hb hr e=>hm.heap b o (fun hmem=>?_)<|hk b o hb e) hS' hacc;rcases G7.mp hmem with e' | hmem
  ·exact hb e'
  ·exact hr<|Jr.mp hmem
 unfold Wa;refine Ao<|Q5 (T := "list_reverseiterator") hit.typeIs ?_
 have h1:Builtin.List.listSameRef (.ref S) (.ref r)=false:=by simp [Builtin.List.listSameRef,hSr]
 have n1:(Value.type "list_reverseiterator"==Value.type "list")=false:=by decide +kernel
 have n2:(Value.type "list_reverseiterator"==Value.type "tuple")=false:=by decide +kernel
 simp only [h1,n1,n2,Bool.or_false,Qp,if_false];refine Ao<|wpAny_pyIter_revIter hit ?_
 refine Ao<|NK<|zbk hit.typeIs ?_
 refine V2 (fun _=>?_)<|fun _=>Ba ⟨Ue PySem.F.plain_extend_loop _,key _ c₀ _ st (fun b o _ e=>e) hS⟩
 refine Ao<|Np ?_
 refine Ao ?_;show Ay _ _ (updateSeq S (·.push .none) >>= fun _=>updateSeq S (·.pop)) _ _ _;refine Ao<|wpAny_updateSeq hS rfl ?_
 have hS₂:=VR (SJ (·.push Value.none)) hS rfl;refine wpAny_updateSeq (hz:=by seq_fits) hS₂ rfl ?_;have hS₃:=VR (SJ (·.pop)) hS₂ rfl;refine Ba ⟨Ue PySem.F.plain_extend_loop _,key _ _ _ ?_ (fun b o hb e=>?_) hS₃⟩
 ·refine W.frame 0 _ _ st fun b hb o e=>?_;have hbS:b≠S:=fun h=>hSf (h ▸ hb)
  exact (TJ _ _<|Im hbS).trans ((TJ _ _<|Im hbS).trans e)
 ·exact (TJ _ _<|Im hb).trans ((TJ _ _<|Im hb).trans e)
end
theorem zbn:∀ {xs:List V} {us:List Mk},Aw xs us->Aw xs.reverse us.reverse:=by
 intro xs us r;induction r with
 | nil=>exact .nil
 | cons h t ih=>
  rw [Vw,Vw];exact Aw.append ih<|.cons h .nil
theorem Ac {K:Az}{H:Hp}{μ : Mu}:∀ {ws:List W} {vs:List V},aM K H μ ws vs->aM K H μ ws.reverse vs.reverse
 | [],vs,r=>by rw [aM] at r;subst r;exact aM.nil
 | w::ws,vs,r=>by
  rw [aM] at r;obtain ⟨v,vs',e,rv,r⟩:=r;subst e;rw [Vw,Vw];exact aM.append (Ac r)<|aM.cons rv aM.nil
section
variable {X:Cx}
end
section
variable {X:Cx}{e:Expr}{me:ME}{x:Str}{a:Addr}{p pos:Pos}
end
section
variable {X:Cx}{C:Addr}{o e:Expr}{es:List Expr}{mo:ME}{pos apos:Pos}
end
def wC (kvs:List (List Int×W))(k:List Int):Option W:=(kvs.find? fun x=>decide (x.1=k)).map (·.2)
def Sg (kvs:List (List Int×W))(k:List Int)(w:W):List (List Int×W):=if (wC kvs k).isSome then kvs.map (fun x=>if x.1=k then (x.1,w) else x) else kvs++[(k,w)]
section
variable {X:Cx}{ahJ:List (Addr×Obj)}{Z : St}{H:Hp}{s:Ai}{K:Az}
def HN (K:Az)(H:Hp)(xs:List (List Int×Addr×Mk)):Prop:=∀ x∈xs,Ew K H x.2.1 (x.1.map V.int)
theorem vY {b:Addr}(I:Av X ahJ Z H s)(hb:Ew X.K H b (k.map V.int)):(tupleKind (RL X.prog X.w)).is s.heap k b:=by
 obtain ⟨its2,r2,⟨o,ho,hcl,n,hd⟩,_⟩:=I.tuple hb;exact ⟨o,_,_,ho,hcl,hd,rR r2⟩
theorem wI {a:Addr}{xs:List (List Int×Addr×Mk)}(I:Av X ahJ Z H s)(e:H a=FN (.ext (Cr a xs)))(hk:HN X.K H xs):xs.length<=Dp/\(a==Kv)=false/\s.heap.DictOfH (tupleKind (RL X.prog X.w)) a xs:=by
 obtain ⟨⟨z,y,nd,o,es,ep,h1,h2,h3,h4⟩,_⟩:=I.hok a _ e;exact ⟨z,y,o,es,ep,h1,h2,h3,h4,fun x hx=>vY I<|hk x hx,nd⟩
theorem FP {P:DI}{w:Bw}{H':Hp}{a:Addr}{xs:List (List Int×Addr×Mk)}{h:Heap}(z:xs.length<=Dp)(y:(a==Kv)=false)(d:h.DictOfH (tupleKind (RL P w)) a xs):d9 P w H' h a (.ext (Cr a xs)):=by
 obtain ⟨o,es,ep,h1,h2,h3,h4,_,h5⟩:=d;exact ⟨⟨z,y,h5,o,es,ep,h1,h2,h3,h4⟩,⟨o,h1⟩,fun g1 g2 ⟨z,y,nd,o,es,ep,a1,a2,a3,a4⟩ k=>⟨z,y,nd,o,es,ep,k o a1,a2,a3,a4⟩⟩
theorem aeA {x:List Int×Addr×Mk}{xs:List (List Int×Addr×Mk)}:atKey (x::xs) k=if x.1=k then FN x.2 else atKey xs k:=by
 unfold atKey;rw [Ov];by_cases e:x.1=k
 ·rw [if_pos e];simp [e]
 ·rw [if_neg e];simp [e]
theorem zW {x:List Int×W}{kvs:List (List Int×W)}:wC (x::kvs) k=if x.1=k then FN x.2 else wC kvs k:=by
 unfold wC;rw [Ov];by_cases e:x.1=k
 ·rw [if_pos e];simp [e]
 ·rw [if_neg e];simp [e]
theorem rW:∀ {kvs:List (List Int×W)} {xs:List (List Int×Addr×Mk)} {vs:List V},kvs.map (·.1)=xs.map (·.1)->Aw vs (xs.map (·.2.2))->aM K H μ (kvs.map (·.2)) vs->∀ k:List Int,
  (∀ w,wC kvs k=FN w->∃ p v,atKey xs k=FN p/\BX v p.2/\Ak K H μ w v)/\(wC kvs k).isSome=(atKey xs k).isSome
 | [],[],_,_,_,_,k=>⟨fun w e=>by simp [wC] at e,rfl⟩
 | [],_::_,_,e,_,_,_=>by simp at e
 | _::_,[],_,e,_,_,_=>by simp at e
 | x::kvs,y::xs,vs,e,hv,hr,k=>by
  rw [Bu,Bu] at e;obtain ⟨e1,e2⟩:=Pz e;rw [Bu,aM] at hr;obtain ⟨v,vs',rfl,r1,r2⟩:=hr;rw [Bu] at hv;cases hv with
  | cons a b=>
   obtain ⟨i1,i2⟩:=rW e2 b r2 k;rw [zW,aeA,e1];by_cases z:y.1=k
   ·rw [if_pos z,if_pos z];exact ⟨fun w ew=>by cases ew;exact ⟨_,v,rfl,a,r1⟩,rfl⟩
   ·rw [if_neg z,if_neg z];exact ⟨i1,i2⟩
theorem DA.dttAt {h:Gh}{n:Nat}{kvs:List (List Int×W)}(R:DA K μ H h)(e:h.c n=FN (.dtt kvs)):∃ p xs vs,μ.f n=FN p/\H p=FN (.ext (Cr p xs))/\kvs.map (·.1)=xs.map (·.1)/\Aw vs (xs.map (·.2.2))/\aM K H μ (kvs.map fun x=>W.tup (x.1.map W.int)) (xs.map fun x=>V.ref x.2.1)/\aM K H μ (kvs.map (·.2)) vs:=by
 obtain ⟨p,e1,xs,vs,a,b,c,d,f⟩:=R.cel n _ e;exact ⟨p,xs,vs,e1,a,b,c,d,f⟩
theorem sY:∀ {k:List Int} {vs:List V},aM K H μ (k.map W.int) vs->vs=k.map V.int
 | [],_,h=>by rw [Jo,aM] at h;exact h
 | i::k,_,h=>by
  rw [Bu,aM] at h;obtain ⟨v,vs,rfl,r,t⟩:=h;rw [Ak] at r;rw [r,sY t];rfl
theorem agM {b:Addr}(r:Ak K H μ (.tup (k.map .int)) (.ref b)):Ew K H b (k.map V.int):=by
 rw [Ak] at r;obtain ⟨p,xs,e,hs,hr⟩:=r;cases e;rw [sY hr] at hs;exact hs
theorem jj:∀ {kvs:List (List Int×W)} {xs:List (List Int×Addr×Mk)},kvs.map (·.1)=xs.map (·.1)->aM K H μ (kvs.map fun x=>W.tup (x.1.map W.int)) (xs.map fun x=>V.ref x.2.1)->HN K H xs
 | [],[],_,_=>fun x hx=>nomatch hx
 | [],_::_,e,_=>by simp at e
 | _::_,[],e,_=>by simp at e
 | x::kvs,y::xs,e,hr=>by
  rw [Bu,Bu] at e;obtain ⟨e1,e2⟩:=Pz e;rw [Bu,Bu,aM] at hr;obtain ⟨v,vs',ev,r1,r2⟩:=hr;obtain ⟨rfl,rfl⟩:=Pz ev;intro z hz;rcases G7.mp hz with rfl | hz
  ·rw [e1] at r1;exact agM r1
  ·exact jj e2 r2 z hz
end
section
variable {X:Cx}{a b o i:Expr}{td ty:TE}{pos:Pos}
def Ie:W->Option (List Int)
 | .tup ws=>sE ws
 | _=>FX
def Ti:M2:=fun x y h Q=>match x,Ie y with
 | .loc n,FN k=>(match h.c n with
  | some (.dtt kvs)=>(match wC kvs k with
   | some w=>Q w h
   | none=>False)
  | _=>False)
 | _,_=>False
theorem ji {K:Az}{H:Hp}{y:W}{v:V}(r:Ak K H μ y v)(e:Ie y=FN k):∃ b,v=.ref b/\Ew K H b (k.map V.int):=by
 unfold Ie at e;split at e
 ·rw [Ak] at r;obtain ⟨p,xs,e1,hs,hr⟩:=r;rw [z8 hr e] at hs;exact ⟨p,e1,hs⟩
 ·cases e
theorem uw {k:List Int}{v:Mk}:∀ {xs:List (List Int×Addr×Mk)},(xs.map (putAt k v)).map (·.1)=xs.map (·.1)
 | []=>rfl
 | x::xs=>by
  rw [Bu,Bu,Bu,uw];congr 1
  unfold putAt;by_cases e:x.1=k
  ·rw [if_pos e]
  ·rw [if_neg e]
theorem uN {k:List Int}{v:Mk}:∀ {xs:List (List Int×Addr×Mk)},(xs.map (putAt k v)).map (fun x=>V.ref x.2.1)=xs.map (fun x=>V.ref x.2.1)
 | []=>rfl
 | x::xs=>by
  rw [Bu,Bu,Bu,uN];congr 1
  unfold putAt;by_cases e:x.1=k
  ·rw [if_pos e]
  ·rw [if_neg e]
def W6 (K:Az):Qn:=fun o i v H N=>∃ a xs k b,o=.ref a/\H a=FN (.ext (Cr a xs))/\HN K H xs/\i=.ref b/\Ew K H b (k.map V.int)/\xs.length<Dp/\∀ u,BX v u->N (Dd H a (.ext (Cr a (storedH xs k b u))))
theorem adk {xs:List (List Int×Addr×Mk)}{b:Addr}{u:Mk}:(storedH xs k b u).length<=xs.length+1:=by
 unfold storedH;split
 ·rw [Bx];lia
 ·rw [JG];exact Bp _
theorem acK (hu:X.A.units+30<Gf):SN X (W6 X.K):=by
 intro ahJ s Z H o i v ov iv u Q I ro ri rv ⟨a,xs,k,b,eo,e,hk,ei,hb,l,q⟩;subst eo ei;obtain rfl:ov=Value.ref a:=ro;obtain rfl:iv=Value.ref b:=ri;obtain ⟨z,hd,dd⟩:=wI I e hk;refine wpAny_setItem_heap (hsz:=z) (tupleKind_room_in1<|by lia) (vY I hb) dd fun h' dd' hs=>⟨_,?_,q u rv⟩;have he:∃ q,h'.get? a=FN q:=let ⟨q,_,_,hq,_⟩:=dd';⟨q,hq⟩
 exact yj I (by rw [e];exact True.intro) hs he<|FP (by have:=adk (xs:=xs) (k:=k) (b:=b) (u:=u);lia) hd dd'
def Gg:Oi:=fun o i w h N=>match o,Ie i with
 | .loc n,FN k=>(match h.c n with
  | some (.dtt kvs)=>fG (kvs.length+1) (N (h.set n (.dtt (Sg kvs k w))))
  | _=>False)
 | _,_=>False
theorem Hs {K:Az}{H:Hp}{μ : Mu}{k:List Int}{w:W}{v:V}{u:Mk}(rv:BX v u)(r:Ak K H μ w v):∀ {kvs:List (List Int×W)} {xs:List (List Int×Addr×Mk)} {vs:List V},kvs.map (·.1)=xs.map (·.1)->Aw vs (xs.map (·.2.2))->aM K H μ (kvs.map (·.2)) vs ->
  ∃ vs',Aw vs' ((xs.map (putAt k u)).map (·.2.2))/\aM K H μ ((kvs.map (fun x=>if x.1=k then (x.1,w) else x)).map (·.2)) vs'
 | [],[],_,_,_,_=>⟨[],.nil,by rw [Jo,Jo,aM]⟩
 | [],_::_,_,e,_,_=>by simp at e
 | _::_,[],_,e,_,_=>by simp at e
 | x::kvs,y::xs,vs,e,hv,hr=>by
  rw [Bu,Bu] at e;obtain ⟨e1,e2⟩:=Pz e;rw [Bu,aM] at hr;obtain ⟨v1,vs',rfl,r1,r2⟩:=hr;rw [Bu] at hv;cases hv with
  | cons a b=>
   obtain ⟨vs2,i1,i2⟩:=Hs rv r e2 b r2;by_cases z:y.1=k
   ·refine ⟨v::vs2,?_,?_⟩
    ·rw [Bu,Bu];refine .cons ?_ i1;unfold putAt;rw [if_pos z];exact rv
    ·rw [Bu,Bu,aM];refine ⟨v,vs2,rfl,?_,i2⟩;rw [if_pos (e1.trans z)];exact r
   ·refine ⟨v1::vs2,?_,?_⟩
    ·rw [Bu,Bu];refine .cons ?_ i1;unfold putAt;rw [if_neg z];exact a
    ·rw [Bu,Bu,aM];refine ⟨v1,vs2,rfl,?_,i2⟩;rw [if_neg (fun q=>z (e1.symm.trans q))];exact r1
theorem G5 {k:List Int}{w:W}:∀ {kvs:List (List Int×W)},(kvs.map (fun x=>if x.1=k then (x.1,w) else x)).map (·.1)=kvs.map (·.1)
 | []=>rfl
 | x::kvs=>by
  rw [Bu,Bu,Bu,G5];congr 1
  by_cases e:x.1=k
  ·rw [if_pos e]
  ·rw [if_neg e]
theorem Ho {k:List Int}{w:W}:∀ {kvs:List (List Int×W)},(kvs.map (fun x=>if x.1=k then (x.1,w) else x)).map (fun x=>W.tup (x.1.map W.int))=kvs.map (fun x=>W.tup (x.1.map W.int))
 | []=>rfl
 | x::kvs=>by
  rw [Bu,Bu,Bu,Ho];congr 1
  by_cases e:x.1=k
  ·rw [if_pos e]
  ·rw [if_neg e]
theorem aM.snoc {K:Az}{H:Hp}{μ : Mu}{w:W}{v:V}(r:Ak K H μ w v):∀ {ws:List W} {vs:List V},aM K H μ ws vs->aM K H μ (ws++[w]) (vs++[v])
 | [],_,h=>by
  rw [aM] at h;rw [h,VD,VD,aM];exact ⟨v,[],rfl,r,by rw [aM]⟩
 | a::ws,_,h=>by
  rw [aM] at h;obtain ⟨b,bs,rfl,h1,h2⟩:=h;rw [VJ,VJ,aM];exact ⟨b,bs++[v],rfl,h1,aM.snoc r h2⟩
theorem nF {K:Az}{H:Hp}{μ : Mu}:∀ k:List Int,aM K H μ (k.map W.int) (k.map V.int)
 | []=>by rw [Jo,Jo,aM]
 | i::k=>by
  rw [Bu,Bu,aM];exact ⟨_,_,rfl,by rw [Ak],nF k⟩
theorem zbt {K:Az}:yC K (W6 K) Gg:=by
 intro H μ h o i v wo wi w Nw N R ro ri r m k;unfold Gg at m;split at m
 ·rename_i n kk e;split at m
  ·rename_i kvs ec;obtain ⟨p,xs,vs,hp,hx,e1,e2,r3,r4⟩:=R.dttAt ec;rw [Ak] at ro;obtain ⟨p',ex,hp'⟩:=ro;have ep:p'=p:=by rw [hp] at hp';exact (Eu hp').symm
   subst ep;obtain ⟨b,eb,hb⟩:=ji ri e;have ahK:kvs.length=xs.length:=by have:=congrArg Pg e1;rwa [Bx,Bx] at this
   have we:=fun (o:HO)=>(Ex.write (o:=o) R hp).ext
   have rk:Ak K H μ (.tup (kk.map W.int)) (.ref b):=by rw [Ak];exact ⟨b,_,rfl,hb,nF kk⟩
   refine ⟨p',xs,kk,b,ex,hx,jj e1 r3,eb,hb,by have:=m.ok.1;lia,fun u ru=>k _ ⟨μ,_,we _,R.write (c:=.dtt (Sg kvs kk w)) hp trivial ?_,m.ok.2⟩⟩;have hs:=(rW e1 e2 r4 kk).2;cases ea:atKey xs kk with
   | some q=>
    rw [ea] at hs;obtain ⟨vs',i1,i2⟩:=Hs (k:=kk) ru r e1 e2 r4;rw [storedH_old ea];unfold Sg;rw [if_pos (show (wC kvs kk).isSome=true from hs)];exact ⟨_,vs',bA,G5.trans<|e1.trans uw.symm,i1,by rw [Ho,uN];exact (we _).s r3,(we _).s i2⟩
   | none=>
    rw [ea] at hs;rw [storedH_new ea];unfold Sg;rw [if_neg (show ¬ (wC kvs kk).isSome=true from by rw [hs];decide)];refine ⟨_,vs++[v],bA,?_,?_,?_,?_⟩
    ·rw [Gp,Gp,e1];rfl
    ·rw [Gp];exact Aw.append e2 (.cons ru .nil)
    ·rw [Gp,Gp];exact (we _).s (aM.snoc rk r3)
    ·rw [Gp];exact (we _).s (aM.snoc r r4)
  ·exact m.elim
 ·exact m.elim
end
section
variable {prog:DI}{w:Bw}{A:DW}{E:Mk->Ai->Prop}{s:Ai}
end
section
variable {X:Cx}
end
def ps (h:Int):Nat->Nat×Nat
 | 0=>(Um h % 32,Um h)
 | n+1=>SetTable.leap 31 (ps h n).1 (ps h n).2
def liv (o:Array (Option Nat)):List (Nat×Nat):=(Oo 32).filterMap fun j=>(o.getD j FX).map (j,·)
structure Lay (o:Array (Option Nat)) (k:Nat):Prop where
 sz:o.size=32
 len:(liv o).length=k
 low:∀ p,p∈liv o->p.2<k
section
variable {prog:DI}{w:Bw}{A:DW}{E:Mk->Ai->Prop}{s:Ai}{a:Addr}
end
section
variable {prog:DI}{w:Bw}{A:DW}{E:Mk->Ai->Prop}{s:Ai}{t:Wm}{a b:Addr}
end
section
variable {prog:DI}{w:Bw}{A:DW}{E:Mk->Ai->Prop}
end
section
variable {prog:DI}{w:Bw}{A:DW}{E:Mk->Ai->Prop}{s:Ai}
end
section
variable {X:Cx}{K:Az}
end
section
variable {X:Cx}{K:Az}{o e:Expr}{mo:ME}{apos ahL:Pos}
end
section
variable {prog:DI}{w:Bw}{A:DW}{s:Ai}{K:Az}{x C:Addr}
end
section
variable {prog:DI}{w:Bw}{A:DW}{E:Mk->Ai->Prop}{s:Ai}{K:Az}{x dx C f:Addr}{mA:Str->Option Mk}{name:Str}{v:Mk}
end
section
variable {prog:DI}{w:Bw}{A:DW}{E:Mk->Ai->Prop}{s:Ai}{K:Az}{x D:Addr}{ox:Obj}
end
section
variable {prog:DI}{w:Bw}{A:DW}{E:Mk->Ai->Prop}{h:Heap}{g:Array GenState}{d:Drawn}{t:Nat}{os:OsState}
variable {nm q:Str}{C N:Addr}{bs bm bmB:List Mk}{hdct:Bool}{sn:List Str}{sub:List Mk}{ab:Bool}{col:Option Bool}{dd:Option Addr}{k0 k1 k2 k3 k5:Option Mk}{B newId initId:String}{K:Az}{f:Addr}
end
variable {sn : List Str}{sub : List Mk}{dd : Option Addr}{col : Option Bool}
section
variable {prog:DI}{w:Bw}{M:Model}{A:DW}{E:Mk->Ai->Prop}{s:Ai}{K:Az}{f:Addr}
variable {nm q:Str}{C N:Addr}{bs bm bmB:List Mk}{hdct:Bool}{ab:Bool}{k0 k1 k2 k3 k5:Option Mk}{B newId initId:String}
end
section
variable {X:Cx}{o value:Expr}{f:Str}{C:Addr}{pos pos':Pos}{ta tv:TE}
end
section
variable {X:Cx}{ahJ:List (Addr×Obj)}{Z : St}{H:Hp}{s:Ai}{e:Addr}
end
section
variable {X:Cx}{ahJ:List (Addr×Obj)}{Z : St}{H:Hp}{s:Ai}{C fi:Addr}{x f:Str}{np ahL pos:Pos}{e:Expr}{t:TA}{k:Nat}{fd:Kw}{ps:List Str}
end
section
variable {X:Cx}{e:Expr}{pos:Pos}
end
section
variable {X:Cx}{e:Expr}{f:Str}{pos:Pos}
end
section
variable {X:Cx}
end
section
variable {X:Cx}{tg:Expr}
end
section
variable {X:Cx}{K:Az}
end
section
variable {X:Cx}{pos p:Pos}{e:Expr}{es:List Expr}{k:Nat}{fs:List (Addr×Ar)}
inductive VFs (X:Cx) (k:Nat):List (Addr×Ar)->Prop
 | nil:VFs X k []
 | cons {f:Addr} {fd:Kw} {ps:List Str} {ms:Ar} {fs:List (Addr×Ar)} (F:qm X.prog X.w X.K X.mg X.base NT k f fd ps (Ks X.K ms)) (hk:Rb X.K (.ref f)=true) (hb:JD X.K fd ps []) (r:VFs X k fs):VFs X k ((f,ms)::fs)
end
def Km (P:DI)(w:Bw)(A:DW)(s:Ai)(kd:SX)(rk:Mk->Nat)(good:Mk->Prop):Prop:=
 ∀ (E:Mk->Ai->Prop) (Q:Bool->Ai->Prop) (x y:Mk),good x->good y->Q (decide (rk x<rk y)) s->Ay (Ax P w) A (keyLt' kd x y) Q E s
section
variable {P:DI}{w:Bw}{A:DW}{E:Mk->Ai->Prop}{s:Ai}{kd:SX}{rk:Mk->Nat}{good:Mk->Prop}
def Rk (rk:Mk->Nat)(a:Array Bo)(i:Nat):Nat:=match a[i]? with
 | some p=>rk p.1
 | none=>0
def bB (rk:Mk->Nat)(a:Array Bo)(i j:Nat):Prop:=∀ p q,i<=p->p<q->q<j->Rk rk a p<Rk rk a q
structure PB (rk:Mk->Nat) (good:Mk->Prop) (a:Array Bo):Prop where
 good:∀ p∈a.toList,good p.1
 nd:(a.toList.map fun p=>rk p.1).Nodup
theorem xH {a b:Array Bo}{i j:Nat}(h:a[i]?=b[j]?):Rk rk a i=Rk rk b j:=by unfold Rk;rw [h]
theorem PB.perm {a b:Array Bo}(h:PB rk good a)(p:b.Perm a):PB rk good b:=by
 have pl:=Array.perm_iff_toList_perm.mp p;exact ⟨fun x hx=>h.good x<|pl.mem_iff.mp hx,(pl.map _).nodup_iff.mpr h.nd⟩
theorem PB.ne {a:Array Bo}(h:PB rk good a){i j:Nat}(hi:i<a.size)(hj:j<a.size)(e:Rk rk a i=Rk rk a j):i=j:=by
 have e1:∀ k (hk:k<a.size),Rk rk a k=rk (a.toList[k]'(by simpa using hk)).1:=fun k hk=>by
  unfold Rk;rw [UG hk];rfl
 rw [e1 i hi,e1 j hj] at e;refine (List.getElem_inj h.nd).mp (?_:(a.toList.map fun p=>rk p.1)[i]'(by simpa using hi)=(a.toList.map fun p=>rk p.1)[j]'(by simpa using hj))
 simpa using e
structure Kz (kd:SX) (rk:Mk->Nat) (good:Mk->Prop) (st:DP):Prop where
 kind:JN st=kd
 failed:failedOf st=FX
 keys:PB rk good (Bk st)
theorem Kz.arr {st:DP}(h:Kz kd rk good st){b:Array Bo}(p:b.Perm (Bk st)):Kz kd rk good (Jf st b):=⟨h.kind,h.failed,h.keys.perm p⟩
theorem cM {a:Array Bo}{i:Nat}{st:DP}{Q:Bo->DP->Prop}(hi:i<a.size)(q:Q a[i] st):wpS (Ax P w) A E s (elem' a i) Q st:=by
 rw [elem'_eq,UG hi];exact CR q
theorem Og (C:Km P w A s kd rk good){x y:Bo}{st:DP}{Q:Option Bool->DP->Prop}(hk:JN st=kd)(hx:good x.1)(hy:good y.1)(q:Q (FN (decide (rk x.1<rk y.1))) st):wpS (Ax P w) A E s (lt' x y) Q st:=by
 rw [lt'_eq];refine CK<|QX ?_
 rw [hk];exact CK<|wpS_lift<|Uu<|C _ _ _ _ hx hy ⟨rfl,CR q⟩
theorem fZ {a:Array Bo}{i:Nat}(hi:i<a.size):Rk rk a i=rk a[i].1:=by
 unfold Rk;rw [UG hi]
theorem qR (C:Km P w A s kd rk good){i j:Nat}{st:DP}{Q:Option Bool->DP->Prop}(ok:Kz kd rk good st)(hi:i<(Bk st).size)(hj:j<(Bk st).size)(q:Q (FN (decide (Rk rk (Bk st) i<Rk rk (Bk st) j))) st):wpS (Ax P w) A E s (ltAt' i j) Q st:=by
 rw [ltAt'_eq];refine CK<|QX<|CK<|cM hi<|CK<|cM hj<|Og C ok.kind ?_ ?_ ?_
 ·exact ok.keys.good _<|by simp
 ·exact ok.keys.good _<|by simp
 ·rw [<-fZ (rk:=rk) hi,<-fZ (rk:=rk) hj];exact q
structure Within (a b:Array Bo) (lo hi:Nat):Prop where
 perm:b.Perm a
 out:∀ k,k<lo\/hi<=k->b[k]?=a[k]?
theorem Within.size {a b:Array Bo}{lo hi:Nat}(h:Within a b lo hi):b.size=a.size:=h.perm.size_eq
theorem Within.refl (a:Array Bo)(lo hi:Nat):Within a a lo hi:=⟨Array.Perm.refl _,fun _ _=>rfl⟩
theorem Within.trans {a b c:Array Bo}{lo hi:Nat}(h:Within a b lo hi)(g:Within b c lo hi):Within a c lo hi:=⟨g.perm.trans h.perm,fun k hk=>(g.out k hk).trans (h.out k hk)⟩
theorem Within.wide {a b:Array Bo}{lo hi lo' hi':Nat}(h:Within a b lo hi)(h1:lo'<=lo)(h2:hi<=hi'):Within a b lo' hi':=⟨h.perm,fun k hk=>h.out k (by lia)⟩
theorem jG (st:DP):Jf st (Bk st)=st:=by cases st;rfl
theorem ou {a:Array Bo}{lo n:Nat}(h:bB rk a lo (lo+n))(h1:1<=n)(g:Rk rk a (lo+n - 1)<Rk rk a (lo+n)):bB rk a lo (lo+n+1):=fun p q h2 h3 h4=>by
 by_cases c:q<lo+n
 ·exact h p q h2 h3 c
 ·have e:q=lo+n:=by lia
  subst e;by_cases c2:p=lo+n - 1
  ·rw [c2];exact g
  ·exact Uc (h p (lo+n - 1) h2 (by lia)<|by lia) g
theorem RB (C:Km P w A s kd rk good){lo nrem:Nat}{st:DP}{Q:Option Nat->DP->Prop}(ok:Kz kd rk good st)(h1:1<=nrem)(hz:lo+nrem<=(Bk st).size)
  (q:∀ (n:Nat) (b:Array Bo),1<=n->n<=nrem->Within (Bk st) b lo (lo+nrem)->bB rk b lo (lo+n)->(bB rk (Bk st) lo (lo+nrem)->n=nrem/\b=Bk st)->Q (FN n) (Jf st b)) :
  wpS (Ax P w) A E s (countRun' lo nrem) Q st:=by
 rw [countRun'_eq];have ne:∀ {i j:Nat},i<(Bk st).size->j<(Bk st).size->i≠j->Rk rk (Bk st) i≠Rk rk (Bk st) j:=fun hi hj c e=>c (ok.keys.ne hi hj e)
 refine CK (M7 (Nk
  (I:=fun x c st'=>st'=st/\c=(FX,x)/\bB rk (Bk st) lo (lo+x)/\x<=nrem)
  (Q:=fun c st'=>st'=st/\∃ n,c=(FX,n)/\1<=n/\n<=nrem/\bB rk (Bk st) lo (lo+n)/\(n=nrem\/Rk rk (Bk st) (lo+n)<Rk rk (Bk st) (lo+n - 1))) ?_ ?_ ⟨rfl,rfl,fun p q a b c=>by lia,h1⟩) ?_)
 ·rintro x c st' hx1 hx2 ⟨rfl,rfl,hr,_⟩;dsimp only;refine CK<|qR C ok (by lia) (by lia) ?_
  by_cases c:Rk rk (Bk st') (lo+x)<Rk rk (Bk st') (lo+x - 1)
  ·rw [decide_eq_true c];exact CR ⟨rfl,x,rfl,hx1,by lia,hr,.inr c⟩
  ·rw [decide_eq_false c];have:=ne (i:=lo+x) (j:=lo+x - 1) (by lia) (by lia) (by lia)
   exact CR ⟨rfl,rfl,ou hr hx1<|by lia,by lia⟩
 ·rintro c st' ⟨rfl,rfl,hr,hx⟩;have e:max 1 nrem=nrem:=by lia
  rw [e] at hr |-
  exact ⟨rfl,nrem,rfl,h1,Bp _,hr,.inl rfl⟩
 ·rintro c st' ⟨rfl,n,rfl,n1,n2,hr,hd⟩;dsimp only;by_cases en:n=nrem
  ·subst en;simp only [beq_self_eq_true,if_true];have:=q n (Bk st') n1 (Bp _) (.refl _ _ _) hr fun _=>⟨rfl,rfl⟩
   rw [jG] at this;exact CR this
  ·have hd:=hd.resolve_left en;have not:¬ bB rk (Bk st') lo (lo+nrem):=fun r=>by
    have:=r (lo+n - 1) (lo+n) (by lia) (by lia) (by lia)
    lia
   rw [if_neg (by simpa using en)];by_cases c1:n>1
   ·rw [if_pos c1];have hrise:=hr lo (lo+n - 1) (Bp _) (by lia) (by lia);refine CK<|qR C ok (by lia) (by lia) ?_
    rw [decide_eq_true hrise];have:=q n (Bk st') n1 n2 (.refl _ _ _) hr fun r=>absurd r not
    rw [jG] at this;exact CR this
   ·rw [if_neg c1];have e1:n=1:=by lia
    subst e1;refine CK<|wpS_lift<|Np ⟨rfl,?_⟩
    refine CK (M7 (Nk
     (I:=fun x c st2=>st2=st'/\c=(FX,x,0)/\(∀ u v,lo<=u->u<v->v<lo+x->Rk rk (Bk st') v<Rk rk (Bk st') u)/\x<=nrem)
     (Q:=fun c st2=>st2=st'/\∃ m,c=(FX,m,0)/\2<=m/\m<=nrem/\∀ u v,lo<=u->u<v->v<lo+m->Rk rk (Bk st') v<Rk rk (Bk st') u) ?_ ?_ ⟨rfl,rfl,fun u v h2 h3 h4=>?_,by lia⟩) ?_)
    ·rintro x c st2 hx1 hx2 ⟨rfl,rfl,hf,_⟩;dsimp only;refine CK<|qR C ok (by lia) (by lia) ?_
     by_cases c:Rk rk (Bk st2) (lo+x)<Rk rk (Bk st2) (lo+x - 1)
     ·rw [decide_eq_true c];refine CR ⟨rfl,rfl,fun u v h2 h3 h4=>?_,by lia⟩;by_cases c2:v<lo+x
      ·exact hf u v h2 h3 c2
      ·have ev:v=lo+x:=by lia
       subst ev;by_cases c3:u=lo+x - 1
       ·rw [c3];exact c
       ·exact Uc c<|hf u (lo+x - 1) h2 (by lia)<|by lia
     ·rw [decide_eq_false c];have:=ne (i:=lo+x) (j:=lo+x - 1) (by lia) (by lia) (by lia)
      refine CK<|qR C ok (by lia) (by lia) ?_
      rw [decide_eq_true (show Rk rk (Bk st2) (lo+x - 1)<Rk rk (Bk st2) (lo+x) by lia)];exact CR ⟨rfl,x,rfl,by lia,by lia,hf⟩
    ·rintro c st2 ⟨rfl,rfl,hf,hx⟩;have e:max (1+1) nrem=nrem:=by lia
     rw [e] at hf |-
     exact ⟨rfl,nrem,rfl,by lia,Bp _,hf⟩
    ·have eu:u=lo+1 - 1:=by lia
     have ev:v=lo+1:=by lia
     rw [eu,ev];exact hd
    ·rintro c st2 ⟨rfl,m,rfl,m1,m2,hf⟩;dsimp only;rw [if_neg (O9 0)];refine CK<|wpS_reverse ?_
     have hb:∀ k,Rk rk (mirror (Bk st2) lo (lo+m) ((lo+m - lo) / 2)) k=if lo<=k/\k<lo+m then Rk rk (Bk st2) (lo+(lo+m) - 1 - k) else Rk rk (Bk st2) k:=fun k=>by
      have e:=getElem?_mirror_all (xs:=Bk st2) (i:=lo) (j:=lo+m) (by lia) k;split
      ·rename_i c;rw [if_pos c] at e;exact xH e
      ·rename_i c;rw [if_neg c] at e;exact xH e
     have hw:Within (Bk st2) (mirror (Bk st2) lo (lo+m) ((lo+m - lo) / 2)) lo (lo+nrem):=⟨mirror_perm _ _ _ _,fun k hk=>by
      rw [getElem?_mirror_all (by lia),if_neg (by lia)]⟩
     have hrb:bB rk (mirror (Bk st2) lo (lo+m) ((lo+m - lo) / 2)) lo (lo+m):=fun u v h2 h3 h4=>by
      rw [hb,hb,if_pos (by lia),if_pos (by lia)];exact hf _ _ (by lia) (by lia)<|by lia
     generalize mirror (Bk st2) lo (lo+m) ((lo+m - lo) / 2)=b at hb hw hrb;have ok2:Kz kd rk good (Jf st2 b):=ok.arr hw.perm;have hz2:(Bk (Jf st2 b)).size=(Bk st2).size:=hw.size;refine CK (M7 (Nk
      (I:=fun x c st3=>st3=Jf st2 b/\c=(FX,x)/\bB rk b lo (lo+x)/\x<=nrem)
      (Q:=fun c st3=>st3=Jf st2 b/\∃ n,c=(FX,n)/\1<=n/\n<=nrem/\bB rk b lo (lo+n)) ?_ ?_ ⟨rfl,rfl,hrb,m2⟩) ?_)
     ·rintro x c st3 hx1 hx2 ⟨rfl,rfl,hr3,_⟩;dsimp only;refine CK<|qR C ok2 (by lia) (by lia) ?_
      by_cases c:Rk rk (Bk (Jf st2 b)) (lo+x)<Rk rk (Bk (Jf st2 b)) (lo+x - 1)
      ·rw [decide_eq_true c];exact CR ⟨rfl,x,rfl,by lia,by lia,hr3⟩
      ·rw [decide_eq_false c];have:Rk rk b (lo+x)≠Rk rk b (lo+x - 1):=fun e=>absurd (ok2.keys.ne (i:=lo+x) (j:=lo+x - 1) (by lia) (by lia) e) (by lia)
       have c:¬ Rk rk b (lo+x)<Rk rk b (lo+x - 1):=c;exact CR ⟨rfl,rfl,ou hr3 (by lia)<|by lia,by lia⟩
     ·rintro c st3 ⟨rfl,rfl,hr3,hx⟩;have e:max m nrem=nrem:=by lia
      rw [e] at hr3 |-
      exact ⟨rfl,nrem,rfl,h1,Bp _,hr3⟩
     ·rintro c st3 ⟨rfl,n,rfl,n1,n2,hr3⟩;exact CR<|q n b n1 n2 hw hr3 fun r=>absurd r not
end
variable {a b : Array Bo}{hi lo : Nat}{good : Mk->Prop}{st : DP}{kd : SX}
section
variable {P:DI}{w:Bw}{A:DW}{E:Mk->Ai->Prop}{s:Ai}{rk:Mk->Nat}
theorem aeN (C:Km P w A s kd rk good){n ok':Nat}{Q:Bool->DP->Prop}(ok:Kz kd rk good st)(h1:1<=ok')(hn:ok'<=n)(hz:lo+n<=(Bk st).size)(hr:bB rk (Bk st) lo (lo+ok'))
  (q:∀ b,Within (Bk st) b lo (lo+n)->bB rk b lo (lo+n)->Q true (Jf st b)):wpS (Ax P w) A E s (binarySort' lo n ok') Q st:=by
 rw [binarySort'_eq];refine CK (M7 (Nk
  (I:=fun x c st'=>c=(FX,())/\∃ b,st'=Jf st b/\Within (Bk st) b lo (lo+n)/\bB rk b lo (lo+x)/\x<=n)
  (Q:=fun c st'=>c=(FX,())/\∃ b,st'=Jf st b/\Within (Bk st) b lo (lo+n)/\bB rk b lo (lo+n)) ?_ ?_ ⟨rfl,Bk st,(jG st).symm,.refl _ _ _,by rw [Nat.max_eq_left h1];exact hr,by lia⟩) ?_)
 ·rintro x c st' hx1 hx2 ⟨rfl,b,rfl,hw,hb,_⟩;have okb:Kz kd rk good (Jf st b):=ok.arr hw.perm;have zb:(Bk (Jf st b)).size=(Bk st).size:=hw.size;have zb':b.size=(Bk st).size:=hw.size;have ne:∀ {i j:Nat},i<b.size->j<b.size->i≠j->Rk rk b i≠Rk rk b j:=fun hi hj c e=>c (okb.keys.ne hi hj e)
  refine CK (M7 (Nk
   (I:=fun y c st2=>st2=Jf st b/\∃ l r,c=(FX,l,r)/\l<=r/\r<=x/\r - l<=x - y/\(∀ p,lo<=p->p<lo+l->Rk rk b p<Rk rk b (lo+x))/\∀ p,lo+r<=p->p<lo+x->Rk rk b (lo+x)<Rk rk b p)
   (Q:=fun c st2=>st2=Jf st b/\∃ l,c=(FX,l,l)/\l<=x/\(∀ p,lo<=p->p<lo+l->Rk rk b p<Rk rk b (lo+x))/\∀ p,lo+l<=p->p<lo+x->Rk rk b (lo+x)<Rk rk b p) ?_ ?_ ⟨rfl,0,x,rfl,Ja _,Bp _,by lia,fun p h2 h3=>by lia,fun p h2 h3=>by lia⟩) ?_)
  ·rintro y c st2 hy1 hy2 ⟨rfl,l,r,rfl,a1,a2,a3,a4,a5⟩;dsimp only;by_cases c:l>=r
   ·rw [if_pos c];have e:l=r:=by lia
    subst e;exact CR ⟨rfl,l,rfl,a2,a4,a5⟩
   ·rw [if_neg c];refine CK<|qR C okb (by lia) (by lia) ?_
    by_cases c2:Rk rk (Bk (Jf st b)) (lo+x)<Rk rk (Bk (Jf st b)) (lo+(l+r) / 2)
    ·rw [decide_eq_true c2];refine CR ⟨rfl,l,(l+r) / 2,rfl,by lia,by lia,by lia,a4,fun p h2 h3=>?_⟩;have c2:Rk rk b (lo+x)<Rk rk b (lo+(l+r) / 2):=c2;by_cases c3:p=lo+(l+r) / 2
     ·rw [c3];exact c2
     ·exact Uc c2<|hb _ p (by lia) (by lia)<|by lia
    ·rw [decide_eq_false c2];have c2:¬ Rk rk b (lo+x)<Rk rk b (lo+(l+r) / 2):=c2;have:=ne (i:=lo+x) (j:=lo+(l+r) / 2) (by lia) (by lia) (by lia)
     refine CR ⟨rfl,(l+r) / 2+1,r,rfl,by lia,by lia,by lia,fun p h2 h3=>?_,a5⟩;by_cases c3:p=lo+(l+r) / 2
     ·rw [c3];lia
     ·have:=hb p (lo+(l+r) / 2) (by lia) (by lia) (by lia)
      lia
  ·rintro c st2 ⟨rfl,l,r,rfl,a1,a2,a3,a4,a5⟩;have e:l=r:=by lia
   subst e;exact ⟨rfl,l,rfl,a2,a4,a5⟩
  ·rintro c st2 ⟨rfl,l,rfl,a2,a4,a5⟩;dsimp only;rw [moveDown'_eq];refine CK<|RP ?_
   have hbu:∀ k,(bubble b (lo+x) (lo+x - (lo+l)))[k]?=if k=lo+l then b[lo+x]? else if lo+l<k/\k<=lo+x then b[k - 1]? else b[k]?:=fun k=>by
    have:=getElem?_bubble (xs:=b) (src:=lo+x) (by lia) (lo+x - (lo+l)) (by lia) k
    rw [show lo+x - (lo+x - (lo+l))=lo+l by lia] at this;exact this
   have hR:∀ k,Rk rk (bubble b (lo+x) (lo+x - (lo+l))) k=if k=lo+l then Rk rk b (lo+x) else if lo+l<k/\k<=lo+x then Rk rk b (k - 1) else Rk rk b k:=fun k=>by
    have e:=hbu k;split
    ·rename_i c;rw [if_pos c] at e;exact xH e
    ·rename_i c;rw [if_neg c] at e;split
     ·rename_i c2;rw [if_pos c2] at e;exact xH e
     ·rename_i c2;rw [if_neg c2] at e;exact xH e
   refine CR ⟨rfl,bubble b (lo+x)<|lo+x - (lo+l),rfl,hw.trans ⟨bubble_perm _ _ _,fun k hk=>?_⟩,fun u v h2 h3 h4=>?_,by lia⟩
   ·rw [hbu,if_neg (by lia),if_neg (by lia)]
   ·rw [hR,hR];by_cases c1:u=lo+l
    ·rw [if_pos c1];by_cases c2:v=lo+l
     ·lia
     ·rw [if_neg c2,if_pos (by lia)];exact a5 _ (by lia)<|by lia
    ·rw [if_neg c1];by_cases c3:lo+l<u/\u<=lo+x
     ·rw [if_pos c3,if_neg (by lia),if_pos (by lia)];exact hb _ _ (by lia) (by lia)<|by lia
     ·rw [if_neg c3];by_cases c2:v=lo+l
      ·rw [if_pos c2];exact a4 _ (by lia)<|by lia
      ·rw [if_neg c2];by_cases c4:lo+l<v/\v<=lo+x
       ·rw [if_pos c4];by_cases c5:u=v - 1
        ·lia
        ·exact hb _ _ (by lia) (by lia)<|by lia
       ·rw [if_neg c4];exact hb _ _ (by lia) (by lia)<|by lia
 ·rintro c st' ⟨rfl,b,rfl,hw,hb,hx⟩;rw [show max (max ok' 1) n=n by lia] at hb;exact ⟨rfl,b,rfl,hw,hb⟩
 ·rintro c st' ⟨rfl,b,rfl,hw,hb⟩;exact CR<|q b hw hb
end
def Bf (h:Heap)(d:Addr)(es:Array Py)(ep:Nat):Prop:=∃ o,h.get? d=FN o/\o.ExactDict/\o.data=.dict es ep
variable {d : Addr}{ep : Nat}
theorem Bf.of {h h':Heap}{es:Array Py}(x:Bf h d es ep)(e:∀ o,h.get? d=FN o->h'.get? d=FN o):Bf h' d es ep:=by
 obtain ⟨o,g,r⟩:=x;exact ⟨o,e o g,r⟩
theorem Bf.ty {s:Ai}{es:Array Py}(x:Bf s.heap d es ep):s.TypeIs (.ref d) "dict":=by
 obtain ⟨o,g,r,_⟩:=x;exact ⟨o,g,r.1⟩
section
variable {P:DI}{w:Bw}{A:DW}{E:Mk->Ai->Prop}{s:Ai}{it:Addr}{es:Array Py}{i:Nat}
theorem zbq {Q:Mk->Ai->Prop}(nd:(d==Kv)=false)(x:Bf s.heap d es ep)
  (q:Q (.ref s.heap.objs.size) { s with heap:=s.heap.push { cls:=.type "dict_keyiterator",data:=.fields #[.ref d,.int 0 0,.int es.size 0,.int ep 0] } }):Ay (Ax P w) A (pyIter (.ref d)) Q E s:=by
 have gT:=x.ty;obtain ⟨o,g,gc,gd⟩:=x;refine wpAny_pyIter_slot gT F.slot_dict_iter<|Qk F.slot_dict_iter gT F.entry_dict_iter ?_<|F.args_dict_iter_1 _
 unfold Qt.«dict.__iter__» Builtin.Dict.dictSlotNone;refine Ao<|Ao<|wpAny_notOrdered_dict gT ?_
 show Ay _ _ (pure (Value.ref d)) _ _ s;refine Ba ?_;show Ay _ _ (Builtin.Dict.showsAll d >>= _) _ _ s;unfold Builtin.Dict.showsAll;rw [nd,if_neg KY];refine Ao<|Ba<|Ao<|wpAny_dictEntries g gd<|Ao<|wpAny_dictEpoch g gd ?_
 refine Ao<|M8<|Ba ⟨_,rfl, "dict_keyiterator",_,⟨_,Ip _ rfl,rfl⟩,W5.lookup,?_⟩
 simpa [Ol] using q
theorem zaV {Q:Option Mk->Ai->Prop}(gi:s.heap.IsKeyIter it d i es.size ep)(x:Bf s.heap d es ep)(hi:i<es.size)
  (q:∀ h',h'.IsKeyIter it d (i+1) es.size ep->Tj it s.heap h'->Q (FN es[i].key) { s with heap:=h' }):Ay (Ax P w) A (Ni (.ref it)) Q E s:=by
 obtain ⟨u,gu,gc,gd⟩:=id gi;obtain ⟨o,g,_,ge⟩:=x;unfold Ni;refine Ao<|Uu<|TK (name:=SQ "__next__") gi.typeIs W5<|Qk W5 gi.typeIs F.entry_dict_keyiterator_next ?_<|F.args_dict_keyiterator_next_1 _
 refine Ao<|Ba<|Ao<|Ao ?_
 first
  | refine Ao (WT gi.typeIs (Ba ?_))
  | refine Ao (Wh gi.typeIs (Ba ?_))
 refine Ao<|wpAny_fieldsOf gu gd ?_
 have ow:Builtin.Dict_items.ownsTuple "dict_keyiterator" = false:=by decide
 simp only [ow,Qp,if_false];show Ay _ _ (if (Value.ref d==Value.none)=true then _ else _) _ _ s;rw [if_neg (by exact KY)];refine Ao<|Ba<|Ao<|wpAny_dictEntries g ge ?_
 rw [if_neg (by simp)];refine Ao<|Ba<|Ao<|wpAny_dictEpoch g ge ?_
 rw [if_neg (by simp)];refine Ba ?_;simp only [show ¬ ((i:Int)<0) from by lia,if_false,V6,UG hi];refine Ao ?_;first
  | refine Ao (WT gi.typeIs (Ba ?_))
  | refine Ao (Wh gi.typeIs (Ba ?_))
 refine Ao<|wpAny_isOneOf_keyiter gi.typeIs ?_
 show Ay _ _ (setField (.ref it) 1 (Ol ((i:Int)+1)) >>= _) _ _ s;refine Ao<|wpAny_setField gu gd (by simp) ?_
 have g2:(s.heap.update it (Obj.mapFields (·.setIfInBounds 1 (Ol ((i:Int)+1))))).IsKeyIter it d (i+1) es.size ep:=by
  refine ⟨_,VR _ gu<|Obj.isFreed_of_fields<|Vx gd _,(Obj.cls_mapFields ..).trans gc,?_⟩;rw [Vx gd];simp [Ol]
 refine Ao<|NK<|Ao<|wpAny_isOneOf_keyiter (s:={ s with heap:=s.heap.update it (Obj.mapFields (·.setIfInBounds 1 (Ol<|(i:Int)+1))) }) g2.typeIs ?_
 show Ay _ _ (pure es[i].key) _ _ _;exact Ba<|Ba ⟨_,rfl,Ba<|q _ g2<|WR ..⟩
theorem zbm {Q:Option Mk->Ai->Prop}(hh:A.handled=FX)(gi:s.heap.IsKeyIter it d es.size es.size ep)(x:Bf s.heap d es ep)(q:∀ h',V4 it s.heap h'->Q FX { s with heap:=h' }):Ay (Ax P w) A (Ni (.ref it)) Q E s:=by
 obtain ⟨u,gu,gc,gd⟩:=id gi;obtain ⟨o,g,_,ge⟩:=x;unfold Ni;refine Ao<|Uu<|TK (name:=SQ "__next__") gi.typeIs W5<|Qk W5 gi.typeIs F.entry_dict_keyiterator_next ?_<|F.args_dict_keyiterator_next_1 _
 refine Ao<|Ba<|Ao<|Ao ?_
 first
  | refine Ao (WT gi.typeIs (Ba ?_))
  | refine Ao (Wh gi.typeIs (Ba ?_))
 refine Ao<|wpAny_fieldsOf gu gd ?_
 have ow:Builtin.Dict_items.ownsTuple "dict_keyiterator" = false:=by decide
 simp only [ow,Qp,if_false];show Ay _ _ (if (Value.ref d==Value.none)=true then _ else _) _ _ s;rw [if_neg (by exact KY)];refine Ao<|Ba<|Ao<|wpAny_dictEntries g ge ?_
 rw [if_neg (by simp)];refine Ao<|Ba<|Ao<|wpAny_dictEpoch g ge ?_
 rw [if_neg (by simp)];refine Ba ?_;simp only [show ¬ ((es.size:Int)<0) from by lia,if_false,V6,Array.getElem?_eq_none (Bp es.size)];refine Ao ?_;first
  | refine Ao (WT gi.typeIs (Ba ?_))
  | refine Ao (Wh gi.typeIs (Ba ?_))
 show Ay _ _ (setField (.ref it) 0 .none >>= _) _ _ s;refine Ao<|wpAny_setField gu gd (by simp) ?_
 show Ay _ _ (newExc (.type "StopIteration") [] >>= _) _ _ _;refine Ao ?_;simp only [newExc,newTuple];refine Ao<|M8 ?_<|by size_fits
 refine Ao (m:=Uw _ _)<|wpAny_of_eq (a:=Value.none) (by first | rfl | (simp only [Uw];rfl)) ?_
 refine M8 ?_<|by size_fits
 simp only [raiseNew];refine Ao<|wpAny_handled ?_
 rw [show A.in1.handled=FX from hh];refine Ao<|Ba<|wpAny_throw ?_
 refine Ao<|wpAny_isInstance (b:=true) (T := "StopIteration") ⟨_,Ip _ rfl,rfl⟩ isSubtype_stop ?_
 exact Ba<|q _<|((WR ..).extBut.push _).push _
theorem zaA (hh:A.handled=FX)(I d:Addr)(ne:d≠I)(es:Array Py)(ep:Nat):
  Walks P w A I [I,d] [I] es.size (fun i v=>∃ h:i<es.size,v=es[i].key) (fun i h=>h.IsKeyIter I d i es.size ep/\Bf h d es ep) where
 sub:=fun b hb=>by simp at hb;simp [hb]
 frame:=fun i h h' st k=>⟨by obtain ⟨⟨o,g,r⟩,_⟩:=st;exact ⟨o,k I (by simp) o g,r⟩,st.2.of fun o e=>k d (by simp) o e⟩
 item:=fun i s Q E hi st q=>zaV st.1 st.2 hi fun h' g sb=>q _ h' s.toks ⟨hi,rfl⟩ ⟨g,st.2.of fun o e=>sb.extBut d o ne e⟩ fun b o hb e=>sb.extBut b o (fun z=>hb (by simp [z])) e
 done:=fun s Q E st q=>zbm hh st.1 st.2 fun h' eb=>q h' s.toks fun b o hb e=>eb b o (fun z=>hb (by simp [z])) e
 self:=fun _ _ _ _ st q=>wpAny_pyIter_keyiter st.1 q
theorem zcf (nd:(d==Kv)=false):PySem.W.KdlSrc P w "dict" d d es.size (fun i v=>∃ h:i<es.size,v=es[i].key) (fun h=>Bf h d es ep) where
 type:=fun _ x=>x.ty
 there:=fun _ x=>by obtain ⟨o,g,_⟩:=x;exact ⟨Ej g,Ej g⟩
 keep:=fun _ _ x k=>x.of fun o e=>k d (.inl rfl) o e
 notList:=by decide
 notTuple:=by decide
 hint:=fun _ _ _ _ x q=>PySem.W.kdl_hint_dict x.ty q
 iter:=fun _ s hh x=>by
  have lt:d<s.heap.objs.size:=by obtain ⟨o,g,_⟩:=x;exact Ej g
  exact ⟨_,_,fun _ _ q=>zbq nd x q,zaA hh _ d (G3 lt) es ep,⟨_,Ip _ rfl,rfl,rfl⟩,x.of fun o e=>Eo _ e⟩
theorem pI {Q:List Mk->Ai->Prop}(hh:A.handled=FX)(nd:(d==Kv)=false)(x:Bf s.heap d es ep)(hz:es.size<=Dp)
  (q:∀ h' tk,(∀ b o,s.heap.get? b=FN o->h'.get? b=FN o)->s.heap.objs.size<h'.objs.size->Q (es.toList.map (·.key)) { s with heap:=h',toks:=tk }):Ay (Ax P w) A (collect (.ref d)) Q E s:=by
 have lt:d<s.heap.objs.size:=by obtain ⟨o,g,_⟩:=x;exact Ej g
 unfold collect;refine Ao<|wpAny_runValue<|Tc F.entry_proto_collect ?_
 rw [Uq F.plain_proto_collect _];show Ay _ A.in1 (newList [] >>= fun l=>again (.builtin "list.__iadd__" ⟨[l,.ref d],[]⟩)) _ _ s;refine Ao<|M8<|Ba ⟨Ue F.plain_list_iadd _,Tc F.entry_list_iadd ?_⟩
 rw [Uq F.plain_list_iadd _];have g0:(s.heap.push { cls:=.type "list",data:=.seq ([]:List Mk).toArray }).get? s.heap.objs.size=FN { cls:=.type "list",data:=.seq ([]:List Mk).toArray }:=Ip _ rfl;show Ay _ A.in1 (Wa (.ref s.heap.objs.size) (.ref d) (.ref s.heap.objs.size)) _ _ _;have fin:∀ (f:Flow) (s':Ai),(f=.ret (.ref s.heap.objs.size)/\∃ h' tk acc c,s' = { s with heap:=h',toks:=tk }/\(∀ b o,b≠s.heap.objs.size->(s.heap.push { cls:=.type "list",data:=.seq ([]:List Mk).toArray }).get? b=FN o->h'.get? b=FN o)/\h'.get? s.heap.objs.size=FN { cls:=.type "list",dict:=FX,data:=.seq acc c,slots:=#[] }/\ItemsOf (fun i v=>∃ h:i<es.size,v=es[i].key) acc es.size) ->
   ∃ v,f=.ret v/\Ay (Ax P w) A (match v with
    | Value.ref a=>do
     let u <-load a
     match u.data with
     | Data.seq xs _=>pure xs.toList
     | _=>unsupported "internal:collect"
    | _=>unsupported "internal:collect") Q E s':=by
  rintro f s' ⟨rfl,h',tk,acc,c,rfl,k,e,it⟩;refine ⟨_,rfl,?_⟩;show Ay _ A (load s.heap.objs.size >>= _) _ _ _;refine Ao<|wpAny_load e ?_
  have ea:acc.toList=es.toList.map (·.key):=by
   refine List.ext_getElem? fun j=>?_;rw [Fv,Tz,Tz];by_cases hj:j<es.size
   ·have hj':j<acc.size:=by rw [it.1];exact hj
    obtain ⟨_,ev⟩:=it.2 j acc[j] (UG hj');rw [UG hj',UG hj,ev];rfl
   ·rw [Array.getElem?_eq_none (by rw [it.1];lia),Array.getElem?_eq_none (by lia)];rfl
  refine Ba ?_;rw [ea];exact q h' tk (fun b o g=>k b o (G3<|Ej g)<|Eo _ g)<|Ej e
 refine KN (PySem.W.kdl_extend (s:={ s with heap:=s.heap.push { cls:=.type "list",data:=.seq ([]:List Mk).toArray } }) (R:=fun r s'=>match r with
  | .ok f=>f=.ret (.ref s.heap.objs.size)/\∃ h' tk acc c,s' = { s with heap:=h',toks:=tk }/\(∀ b o,b≠s.heap.objs.size->(s.heap.push { cls:=.type "list",data:=.seq ([]:List Mk).toArray }).get? b=FN o->h'.get? b=FN o)/\h'.get? s.heap.objs.size=FN { cls:=.type "list",dict:=FX,data:=.seq acc c,slots:=#[] }/\ItemsOf (fun i v=>∃ h:i<es.size,v=es[i].key) acc es.size
  | .error _=>False) (zcf (es:=es) (ep:=ep) nd) hh (x.of fun o e=>Eo _ e) s.heap.objs.size (Ky lt) (Ky lt) _ 0 g0 (fun h' tk acc c k e it=>⟨rfl,h',tk,acc,c,rfl,k,e,it⟩) hz) (fun r s' hr=>?_) fun e s' hr=>hr.elim
 cases r with
 | done f=>
  obtain ⟨v,rfl,q'⟩:=fin f s' hr;exact q'
 | again c=>
  refine ⟨hr.1,codeAny_mono hr.2 fun r s' hr=>?_⟩;cases r with
  | error e=>exact hr.elim
  | ok f=>
   obtain ⟨v,rfl,q'⟩:=fin f s' hr;exact q'
end
def gal:Bool->Bo->Array Bo->Nat->Nat->Nat->StateT DP Sem (Option Nat):=sortPriv% PySem.Builtin.gallop
section
variable {P:DI}{w:Bw}{A:DW}{E:Mk->Ai->Prop}{s:Ai}{rk:Mk->Nat}
def Hl (rk:Mk->Nat)(left:Bool)(key:Bo)(a:Array Bo)(i:Nat):Bool:=if left then decide (Rk rk a i<rk key.1) else !decide (rk key.1<Rk rk a i)
def YF (left:Bool)(key:Bo)(a:Array Bo)(base i:Nat):StateT DP Sem (Option Bool):=elem' a (base+i) >>= fun x=>if left=true then lt' x key else lt' key x >>= fun r=>pure (r.map (! ·))
theorem QG (C:Km P w A s kd rk good){left:Bool}{key:Bo}{base i:Nat}{Q:Option Bool->DP->Prop}(hk:JN st=kd)(ka:∀ p∈a.toList,good p.1)(kg:good key.1)(hi:base+i<a.size)(q:Q (FN (Hl rk left key a (base+i))) st):wpS (Ax P w) A E s (YF left key a base i) Q st:=by
 refine CK<|cM hi ?_
 have gi:good a[base+i].1:=ka _ (by simp);unfold Hl at q;rw [fZ hi] at q;cases left with
 | true=>exact Og C hk gi kg q
 | false=>exact CK (Og C hk kg gi (CR q))
theorem iH {α : Type}[Decidable c]{m1 m2:StateT DP Sem α}{Q:α->DP->Prop}(h1:wpS (Ax P w) A E s m1 Q st)(h2:wpS (Ax P w) A E s m2 Q st):wpS (Ax P w) A E s (if c then m1 else m2) Q st:=by
 split
 ·exact h1
 ·exact h2
theorem QW {α : Type}[Decidable c]{m1 m2:StateT DP Sem α}{Q:α->DP->Prop}(h2:¬ c->wpS (Ax P w) A E s m2 Q st)(h1:c->wpS (Ax P w) A E s m1 Q st):wpS (Ax P w) A E s (if c then m1 else m2) Q st:=by
 split
 ·exact h1 ‹_›
 ·exact h2 ‹_›
theorem Ku {α : Type}{x y:Nat}{m1 m2:StateT DP Sem α}{Q:α->DP->Prop}(h1:x=y->wpS (Ax P w) A E s m1 Q st)(h2:x≠y->wpS (Ax P w) A E s m2 Q st):wpS (Ax P w) A E s (if (x==y)=true then m1 else m2) Q st:=QW (fun h=>h2 fun e=>h (beq_iff_eq.mpr e)) fun h=>h1 (beq_iff_eq.mp h)
theorem ifD {α : Type}[Decidable c]{m1 m2:StateT DP Sem α}{Q:α->DP->Prop}(h1:c->wpS (Ax P w) A E s m1 Q st)(h2:¬ c->wpS (Ax P w) A E s m2 Q st):wpS (Ax P w) A E s (if decide c=true then m1 else m2) Q st:=QW (fun h=>h2 fun e=>h (decide_eq_true e)) fun h=>h1 (of_decide_eq_true h)
theorem aaP {γ : Type}{G:γ->Prop}{p:Prop}(f:(∀ z,G z)->p)(h:∀ z,G z):p:=f h
theorem LC {α : Type}[Decidable c]{m1 m2:StateT DP Sem α}{Q:α->DP->Prop}(h2:wpS (Ax P w) A E s m2 Q st)(h1:wpS (Ax P w) A E s m1 Q st):wpS (Ax P w) A E s (if c then m1 else m2) Q st:=iH h1 h2
theorem QV {α : Type}[Decidable c]{m1 m2:StateT DP Sem α}{Q:α->DP->Prop}(h:c)(x:wpS (Ax P w) A E s m1 Q st):wpS (Ax P w) A E s (if c then m1 else m2) Q st:=by rw [if_pos h];exact x
theorem O4 {α : Type}[Decidable c]{m1 m2:StateT DP Sem α}{Q:α->DP->Prop}(h:¬ c)(x:wpS (Ax P w) A E s m2 Q st):wpS (Ax P w) A E s (if c then m1 else m2) Q st:=by rw [if_neg h];exact x
structure aaD (B:Nat->Bool) (n:Nat) (st:DP) (x:Nat) (c:Option (Option Nat)×Nat×Nat) (st':DP):Prop where
 s:st'=st
 e:c.1=FX
 a:c.2.1<=c.2.2
 b:c.2.2<=n
 d:c.2.2 - c.2.1<=n - x
 lo:∀ i,i<c.2.1->B i=true
 hi:∀ i,c.2.2<=i->i<n->B i=false
theorem abR {l r n x:Nat}(h:¬ l>=r)(d:r - l<=n - x):l<=l+(r - l) / 2/\l+(r - l) / 2<r/\r - (l+(r - l) / 2+1)<=n - (x+1)/\l+(r - l) / 2 - l<=n - (x+1):=by
 have h:=Nat.lt_of_not_le h;have k:(r - l) / 2<r - l:=Nat.div_lt_self (Nat.sub_pos_of_lt h) (by decide);generalize (r - l) / 2=z at *;exact ⟨VG _ _,Nat.add_lt_of_lt_sub' k,by lia,by lia⟩
theorem V5 (C:Km P w A s kd rk good){α : Type}{left:Bool}{key:Bo}{base n:Nat}{Q:α->DP->Prop}{f:Nat->Option (Option Nat)×Nat×Nat->StateT DP Sem (ForInStep (Option (Option Nat)×Nat×Nat))}{K:Option (Option Nat)×Nat×Nat->Option Bool->StateT DP Sem (ForInStep (Option (Option Nat)×Nat×Nat))}{fin:Option (Option Nat)×Nat×Nat->StateT DP Sem α}(hk:JN st=kd)(ka:∀ p∈a.toList,good p.1)(kg:good key.1)(hz:base+n<=a.size)
  (hf:∀ x c,f x c=if c.2.1>=c.2.2 then pure (.done (FX,c.2.1,c.2.2)) else YF left key a base (c.2.1+(c.2.2 - c.2.1) / 2) >>= K c)
  (h1:∀ c,K c (FN true)=pure (.yield (FX,c.2.1+(c.2.2 - c.2.1) / 2+1,c.2.2))) (h2:∀ c,K c (FN false)=pure (.yield (FX,c.2.1,c.2.1+(c.2.2 - c.2.1) / 2)))
  (mono:∀ i j,i<=j->j<n->Hl rk left key a (base+j)=true->Hl rk left key a (base+i)=true) (anti:∀ i j,i<=j->j<n->Hl rk left key a (base+i)=false->Hl rk left key a (base+j)=false)
  (b1:lo<=hi) (b2:hi<=n) (b3:∀ i,i<lo->Hl rk left key a (base+i)=true) (b4:∀ i,hi<=i->i<n->Hl rk left key a (base+i)=false)
  (q:∀ m,m<=n->(∀ i,i<m->Hl rk left key a (base+i)=true)->(∀ i,m<=i->i<n->Hl rk left key a (base+i)=false)->wpS (Ax P w) A E s (fin (FX,m,m)) Q st):wpS (Ax P w) A E s (forIn [0:n] (FX,lo,hi) f >>= fin) Q st:=by
 refine CK<|M7 (Nk (I:=aaD (fun i=>Hl rk left key a<|base+i) n st) (Q:=aaD (fun i=>Hl rk left key a<|base+i) n st n) (fun x c st' _ _ g=>?_) (fun c st' g=>Nat.max_eq_right (Ja n) ▸ g) ⟨rfl,rfl,b1,b2,CW (S9 _ _) b2,b3,b4⟩) fun c st' g=>?_
 ·rw [hf];cases g.s
  refine QW (fun k=>?_) fun k=>CR ⟨rfl,rfl,g.a,g.b,Nat.sub_eq_zero_of_le k ▸ Ja _,g.lo,g.hi⟩;have ⟨m1,m2,m3,m4⟩:=abR k g.d;have m5:=FJ m2 g.b;refine CK<|QG C hk ka kg (FJ (Nat.add_lt_add_left m5 _) hz) ?_
  cases hm:Hl rk left key a (base+(c.2.1+(c.2.2 - c.2.1) / 2)) with
  | true=>rw [h1];exact CR ⟨rfl,rfl,m2,g.b,m3,fun i hi=>mono i _ (Nat.le_of_lt_succ hi) m5 hm,g.hi⟩
  | false=>rw [h2];exact CR ⟨rfl,rfl,m1,KQ m5,m4,g.lo,fun i u v=>anti _ i u v hm⟩
 ·obtain ⟨r,l,m⟩:=c;cases g.e
  cases g.s
  cases Nat.le_antisymm g.a (Nat.le_of_sub_eq_zero (Nat.le_zero.mp (Nat.sub_self n ▸ g.d)))
  exact q _ g.b g.lo g.hi
theorem dbl {x o:Nat}(h:x<o):o<2*o+1/\x+1<2*o+1:=by lia
structure aaz (B:Nat->Bool) (v:Bool) (mx:Nat) (st:DP) (x:Nat) (c:Option (Option Nat)×Nat×Nat) (st':DP):Prop where
 s:st'=st
 e:c.1=FX
 a:c.2.1<c.2.2
 b:x<c.2.2
 d:c.2.1<mx
 h:B c.2.1=v
theorem T4 (C:Km P w A s kd rk good){α : Type}{left v:Bool}{key:Bo}{base n mx:Nat}(g:Nat->Nat){Q:α->DP->Prop}{f:Nat->Option (Option Nat)×Nat×Nat->StateT DP Sem (ForInStep (Option (Option Nat)×Nat×Nat))}{K:Option (Option Nat)×Nat×Nat->Option Bool->StateT DP Sem (ForInStep (Option (Option Nat)×Nat×Nat))}{fin:Option (Option Nat)×Nat×Nat->StateT DP Sem α}(hk:JN st=kd)(ka:∀ p∈a.toList,good p.1)(kg:good key.1)(hz:∀ o,o<mx->base+g o<a.size)
  (hf:∀ x c,f x c=if c.2.2>=mx then pure (.done (FX,c.2.1,c.2.2)) else YF left key a base (g c.2.2) >>= K c)
  (h1:∀ c,K c (FN v)=pure (.yield (FX,c.2.2,2*c.2.2+1))) (h2:∀ c,K c (FN !v)=pure (.done (FX,c.2.1,c.2.2)))
  (h0:0<mx) (hn:mx<=n) (hB:Hl rk left key a (base+g 0)=v)
  (q:∀ l o,l<o->l<mx->Hl rk left key a (base+g l)=v->(mx<=o\/Hl rk left key a (base+g o) = !v)->wpS (Ax P w) A E s (fin (FX,l,o)) Q st):wpS (Ax P w) A E s (forIn [0:n] (FX,0,1) f >>= fin) Q st:=by
 refine CK<|M7 (Nk (I:=aaz (fun i=>Hl rk left key a<|base+g i) v mx st) (Q:=fun c s=>aaz (fun i=>Hl rk left key a<|base+g i) v mx st 0 c s/\(mx<=c.2.2\/Hl rk left key a (base+g c.2.2) = !v)) (fun x c st' _ _ G=>?_) (fun c st' g=>?_) ⟨rfl,rfl,Nat.one_pos,Nat.one_pos,h0,hB⟩) ?_
 ·rw [hf];cases G.s
  have p:=Nat.zero_lt_of_lt G.b;refine QW (fun k=>CK<|QG C hk ka kg (hz _<|Nat.lt_of_not_le k) ?_) fun k=>CR ⟨⟨rfl,rfl,G.a,p,G.d,G.h⟩,.inl k⟩;by_cases e:Hl rk left key a (base+g c.2.2)=v
  ·rw [e,h1];exact CR ⟨rfl,rfl,(dbl G.b).1,(dbl G.b).2,Nat.lt_of_not_le k,e⟩
  ·have e:=Bool.eq_not.mpr e;rw [e,h2];exact CR ⟨⟨rfl,rfl,G.a,p,G.d,G.h⟩,.inr e⟩
 ·exact ⟨⟨g.s,g.e,g.a,Nat.zero_lt_of_lt g.b,g.d,g.h⟩,.inl<|KQ<|Ot (CW hn<|Nat.le_max_right 0 n) g.b⟩
 ·rintro ⟨r,l,o⟩ st' ⟨g,h⟩;cases g.e
  cases g.s
  exact q _ _ g.a g.d g.h h
theorem Bc (C:Km P w A s kd rk good){left:Bool}{key:Bo}{base n hint:Nat}{Q:Option Nat->DP->Prop}(hk:JN st=kd)(ka:∀ p∈a.toList,good p.1)(kg:good key.1)(hz:base+n<=a.size)(hh:hint<n)
  (mono:∀ i j,i<=j->j<n->Hl rk left key a (base+j)=true->Hl rk left key a (base+i)=true)
  (q:∀ m,m<=n->(∀ i,i<m->Hl rk left key a (base+i)=true)->(∀ i,m<=i->i<n->Hl rk left key a (base+i)=false)->Q (FN m) st):wpS (Ax P w) A E s (gal left key a base n hint) Q st:=by
 have anti:∀ i j,i<=j->j<n->Hl rk left key a (base+i)=false->Hl rk left key a (base+j)=false:=fun i j h1 h2 h3=>by
  cases e:Hl rk left key a (base+j) with
  | false=>rfl
  | true=>rw [mono i j h1 h2 e] at h3;cases h3
 have hz' {i} (h:i<n):base+i<a.size:=FJ (Nat.add_lt_add_left h _) hz;refine CK<|QG C hk ka kg (hz' hh) ?_
 cases hB:Hl rk left key a (base+hint) with
 | true=>
  refine QV rfl<|T4 C (v:=true) (mx:=n - hint) (fun o=>hint+o) hk ka kg (fun o h=>hz'<|Nat.add_lt_of_lt_sub' h) (fun _ _=>rfl) (fun _=>rfl) (fun _=>rfl) (Nat.sub_pos_of_lt hh) (S9 _ _) hB fun l o a1 a3 a4 a5=>?_
  refine V5 C hk ka kg hz (fun _ _=>rfl) (fun _=>rfl) (fun _=>rfl) mono anti (lo:=hint+l+1) (hi:=hint+min o (n - hint)) (by lia) (by lia) (fun i hi=>mono i (hint+l) (Nat.le_of_lt_succ hi) (Nat.add_lt_of_lt_sub' a3) a4) (fun i h1 h2=>?_) fun m u1 u2 u3=>CR<|q m u1 u2 u3
  rcases a5 with c | c
  ·lia
  ·exact anti (hint+o) i (by lia) h2 c
 | false=>
  refine O4 KY<|T4 C (v:=false) (mx:=hint+1) (fun o=>hint - o) hk ka kg (fun o h=>hz'<|Ot (S9 _ _) hh) (fun _ _=>rfl) (fun _=>rfl) (fun _=>rfl) (Nat.succ_pos _) hh hB fun l o a1 a3 a4 a5=>?_
  refine V5 C hk ka kg hz (fun _ _=>rfl) (fun _=>rfl) (fun _=>rfl) mono anti (lo:=hint+1 - min o (hint+1)) (hi:=hint - l) (by lia) (CW (S9 _ _)<|KQ hh) (fun i hi=>?_) (fun i h1 h2=>anti (hint - l) i h1 h2 a4) fun m u1 u2 u3=>CR<|q m u1 u2 u3
  rcases a5 with c | c
  ·lia
  ·exact mono i (hint - o) (by lia) (by lia) c
end
def mLo:Array Bo->Array Bo->StateT DP Sem (Array Bo):=sortPriv% PySem.Builtin.mergeLo
def mHi:Array Bo->Array Bo->StateT DP Sem (Array Bo):=sortPriv% PySem.Builtin.mergeHi
def RM:Nat->StateT DP Sem Unit:=sortPriv% PySem.Builtin.setMinGallop
section
variable {rk:Mk->Nat}
def SL (rk:Mk->Nat)(l:List Bo):Prop:=l.Pairwise fun x y=>rk x.1<rk y.1
def Be (rk:Mk->Nat)(xs ys:List Bo):Prop:=∀ x∈xs,∀ y∈ys,rk x.1<rk y.1
def ML (rk:Mk->Nat)(A B out al bl:List Bo):Prop:=∃ a1 b1,A=a1++al/\B=b1++bl/\out.Perm (a1++b1)/\SL rk out/\Be rk out al/\Be rk out bl
def Kf (rk:Mk->Nat)(A B r:List Bo):Prop:=r.Perm (A++B)/\SL rk r
theorem ML.swap {A B out al bl:List Bo}(h:ML rk A B out al bl):ML rk B A out bl al:=by
 obtain ⟨a1,b1,e1,e2,p,s,q1,q2⟩:=h;exact ⟨b1,a1,e2,e1,p.trans List.perm_append_comm,s,q2,q1⟩
theorem ML.pA {A B out xs al bl:List Bo}(sa:SL rk A)(h:ML rk A B out (xs++al) bl)(hx:Be rk xs bl):ML rk A B (out++xs) al bl:=by
 obtain ⟨a1,b1,e1,e2,p,s,q1,q2⟩:=h;have sx:SL rk (xs++al):=by
  unfold SL at sa;rw [e1,Tw] at sa;exact sa.2.1
 unfold SL at sx;rw [Tw] at sx;refine ⟨a1++xs,b1,by rw [e1,Ph],e2,?_,?_,?_,?_⟩
 ·refine (p.append_right xs).trans ?_;rw [Ph,Ph];exact List.Perm.append_left _ List.perm_append_comm
 ·unfold SL;rw [Tw];exact ⟨s,sx.1,fun x hx y hy=>q1 x hx y<|Rj _ hy⟩
 ·intro x hx y hy;rcases Jx.mp hx with hx | hx
  ·exact q1 x hx y<|Q7 _ hy
  ·exact sx.2.2 x hx y hy
 ·intro x hx' y hy;rcases Jx.mp hx' with hx' | hx'
  ·exact q2 x hx' y hy
  ·exact hx x hx' y hy
theorem ML.pB {A B out xs al bl:List Bo}(sb:SL rk B)(h:ML rk A B out al (xs++bl))(hx:Be rk xs al):ML rk A B (out++xs) al bl:=(h.swap.pA sb hx).swap
theorem ML.fin {A B out al:List Bo}(sa:SL rk A)(h:ML rk A B out al []):Kf rk A B (out++al):=by
 have h:ML rk A B out (al++[]) []:=by rw [T9];exact h
 obtain ⟨a1,b1,e1,e2,p,s,_⟩:=h.pA sa fun _ _ _ h=>(nomatch h)
 rw [T9] at e1 e2;rw [e1,e2];exact ⟨p,s⟩
theorem ML.fin2 {A B out al bl:List Bo}(sa:SL rk A)(sb:SL rk B)(h:ML rk A B out al bl)(hx:Be rk bl al):Kf rk A B (out++bl++al):=by
 have h:ML rk A B out al (bl++[]):=by rw [T9];exact h
 exact (h.pB sb hx).fin sa
end
variable {B : List Bo}
section
variable {P:DI}{w:Bw}{A:DW}{E:Mk->Ai->Prop}{s:Ai}{rk:Mk->Nat}
def iC (st st':DP):Prop:=Bk st'=Bk st/\JN st'=JN st/\failedOf st'=failedOf st/\Iu st'=Iu st
theorem iC.refl (st:DP):iC st st:=⟨rfl,rfl,rfl,rfl⟩
theorem iC.trans {a b c:DP}(h:iC a b)(g:iC b c):iC a c:=⟨g.1.trans h.1,g.2.1.trans h.2.1,g.2.2.1.trans h.2.2.1,g.2.2.2.trans h.2.2.2⟩
theorem rA {g:Nat}{Q:Unit->DP->Prop}(q:∀ st',iC st st'->Q () st'):wpS (Ax P w) A E s (RM g) Q st:=RP (q _ (by cases st;exact ⟨rfl,rfl,rfl,rfl⟩))
structure K6 (rk:Mk->Nat) (good:Mk->Prop) (a b:Array Bo):Prop where
 sa:SL rk a.toList
 sb:SL rk b.toList
 ga:∀ p∈a.toList,good p.1
 gb:∀ p∈b.toList,good p.1
 ne:∀ x∈a.toList,∀ y∈b.toList,rk x.1≠rk y.1
theorem N8 {i:Nat}(h:i<a.size):a.toList.drop i=a[i]::a.toList.drop (i+1):=by
 rw [Us (by simpa using h)];simp
theorem XJ (a:Array Bo)(i k:Nat)(h:i+k<=a.size):a.toList.drop i=(a.extract i (i+k)).toList++a.toList.drop (i+k):=by
 rw [W9];have e:i+k - i=k:=by lia
 simp only [Wn,e];rw [<-List.drop_drop,WM]
theorem sS (a:Array Bo)(i:Nat):(a.extract i a.size).toList=a.toList.drop i:=by
 rw [W9,Wn,Ur (by simp)]
theorem O5 {i k:Nat}{x:Bo}(h:i+k<=a.size)(hx:x∈(a.extract i (i+k)).toList):∃ j,j<k/\∃ hj:i+j<a.size,x=a[i+j]:=by
 obtain ⟨j,hj,e⟩:=Array.mem_iff_getElem.mp (Array.mem_def.mpr hx);have hj':j<k:=by simp at hj;lia
 exact ⟨j,hj',by lia,by rw [<-e];simp⟩
theorem gU {i:Nat}{x:Bo}(hx:x∈a.toList.drop i):∃ j,i<=j/\∃ hj:j<a.size,x=a[j]:=by
 obtain ⟨k,hk,e⟩:=Vr.mp hx;rw [List.length_drop] at hk;refine ⟨i+k,by lia,by simp at hk;lia,?_⟩;rw [<-e,List.getElem_drop];simp
theorem SL.lt (h:SL rk a.toList){i j:Nat}(hij:i<j)(hj:j<a.size):rk (a[i]'(by lia)).1<rk a[j].1:=by
 have:=Vz.mp h i j (by simp;lia) (by simpa using hj) hij
 simpa using this
theorem SL.le (h:SL rk a.toList){i j:Nat}(hij:i<=j)(hj:j<a.size):rk (a[i]'(by lia)).1<=rk a[j].1:=by
 rcases Nat.lt_or_ge i j with c | c
 ·exact KQ<|h.lt c hj
 ·have:i=j:=by lia
  subst this;exact Bp _
structure LI (rk:Mk->Nat) (a b out:Array Bo) (ia ib:Nat):Prop where
 ml:ML rk a.toList b.toList out.toList (a.toList.drop ia) (b.toList.drop ib)
 ia:ia+1<a.size
 ib:ib<b.size
def Ci (rk:Mk->Nat)(a b:Array Bo):Prop:=∀ (h:0<a.size),∀ y∈b.toList,rk y.1<rk (a[a.size - 1]).1
theorem jT (out:Array Bo)(x:Bo):(out.push x).toList=out.toList++[x]:=by simp
theorem Vn {out:Array Bo}{ia ib:Nat}(T:K6 rk good a b)(h:ML rk a.toList b.toList out.toList (a.toList.drop ia) (b.toList.drop ib))(hi:ia<a.size)(hx:∀ y∈b.toList.drop ib,rk a[ia].1<rk y.1):ML rk a.toList b.toList (out.push a[ia]).toList (a.toList.drop (ia+1)) (b.toList.drop ib):=by
 rw [jT];refine ML.pA T.sa (xs:=[a[ia]]) ?_ fun x h y hy=>?_
 ·rw [List.singleton_append,<-N8 hi];exact h
 ·rw [Jr.mp h];exact hx y hy
theorem PN {out:Array Bo}{ia ib:Nat}(T:K6 rk good a b)(h:ML rk a.toList b.toList out.toList (a.toList.drop ia) (b.toList.drop ib))(hi:ib<b.size)(hx:∀ y∈a.toList.drop ia,rk b[ib].1<rk y.1):ML rk a.toList b.toList (out.push b[ib]).toList (a.toList.drop ia) (b.toList.drop (ib+1)):=by
 rw [jT];refine ML.pB T.sb (xs:=[b[ib]]) ?_ fun x h y hy=>?_
 ·rw [List.singleton_append,<-N8 hi];exact h
 ·rw [Jr.mp h];exact hx y hy
theorem Zg {out:Array Bo}{ia ib k:Nat}(T:K6 rk good a b)(h:ML rk a.toList b.toList out.toList (a.toList.drop ia) (b.toList.drop ib))(hi:ia+k<=a.size)(hx:Be rk (a.extract ia (ia+k)).toList (b.toList.drop ib)):ML rk a.toList b.toList (out++a.extract ia (ia+k)).toList (a.toList.drop (ia+k)) (b.toList.drop ib):=by
 rw [Rh];refine ML.pA T.sa ?_ hx;rw [<-XJ a ia k hi];exact h
theorem ZQ {out:Array Bo}{ia ib k:Nat}(T:K6 rk good a b)(h:ML rk a.toList b.toList out.toList (a.toList.drop ia) (b.toList.drop ib))(hi:ib+k<=b.size)(hx:Be rk (b.extract ib (ib+k)).toList (a.toList.drop ia)):ML rk a.toList b.toList (out++b.extract ib (ib+k)).toList (a.toList.drop ia) (b.toList.drop (ib+k)):=by
 rw [Rh];refine ML.pB T.sb ?_ hx;rw [<-XJ b ib k hi];exact h
theorem oM {out:Array Bo}{ia ib:Nat}(T:K6 rk good a b)(h:ML rk a.toList b.toList out.toList (a.toList.drop ia) (b.toList.drop ib))(e:ib=b.size):Kf rk a.toList b.toList (out++a.extract ia a.size++b.extract ib b.size).toList:=by
 have eb:b.toList.drop ib=[]:=by rw [e];simp
 rw [Rh,Rh,sS,sS,eb,T9];rw [eb] at h;exact h.fin T.sa
theorem rB {out:Array Bo}{ia ib:Nat}(T:K6 rk good a b)(hL:Ci rk a b)(h:ML rk a.toList b.toList out.toList (a.toList.drop ia) (b.toList.drop ib))(e:ia+1=a.size):Kf rk a.toList b.toList (out++b.extract ib b.size++a.extract ia a.size).toList:=by
 rw [Rh,Rh,sS,sS];refine h.fin2 T.sa T.sb fun x hx y hy=>?_;rw [N8 (by lia)] at hy;have hn:a.toList.drop (ia+1)=[]:=by rw [e];simp
 rw [hn,Jr] at hy;rw [hy];have:=hL (by lia) x (List.mem_of_mem_drop hx)
 have ei:a.size - 1=ia:=by lia
 simpa only [ei] using this
theorem wX {key:Bo}{i:Nat}(hi:i<a.size):Hl rk true key a i=decide (rk a[i].1<rk key.1):=by unfold Hl;rw [if_pos rfl,fZ hi]
theorem wF {key:Bo}{i:Nat}(hi:i<a.size):Hl rk false key a i = !decide (rk key.1<rk a[i].1):=by unfold Hl;rw [if_neg KY,fZ hi]
theorem cg {i:Nat}(h:i<a.size):a[i]∈a.toList:=by simp
theorem Jg {α : Type}{out:Array Bo}{ia ib:Nat}[Decidable c]{E1 E2 E3:Bo->StateT DP Sem α}{Q:α->DP->Prop}(T:K6 rk good a b)(hL:Ci rk a b)(h:ML rk a.toList b.toList out.toList (a.toList.drop ia) (b.toList.drop ib))(h1:ia+1<a.size)(h2:ib<b.size)
  (hx:∀ y∈b.toList.drop ib,rk (a[ia]'(by lia)).1<rk y.1)
  (q1:∀ x,Kf rk a.toList b.toList (out.push x++b.extract ib b.size++a.extract (ia+1) a.size).toList->wpS (Ax P w) A E s (E1 x) Q st)
  (q2:∀ x,LI rk a b (out.push x) (ia+1) ib->wpS (Ax P w) A E s (E2 x) Q st) (q3:∀ x,LI rk a b (out.push x) (ia+1) ib->wpS (Ax P w) A E s (E3 x) Q st) :
  wpS (Ax P w) A E s (elem' a ia >>= fun x=>if (ia+1+1==a.size)=true then E1 x else if c then E2 x else E3 x) Q st:=by
 refine CK<|cM (by lia) ?_
 have m:=Vn T h (by lia) hx;by_cases e:ia+1+1=a.size
 ·exact QV (by simpa using e)<|q1 _<|rB T hL m e
 ·refine O4 (by simpa using e) ?_;have li:LI rk a b (out.push (a[ia]'(by lia))) (ia+1) ib:=⟨m,by lia,h2⟩
  exact iH (q2 _ li)<|q3 _ li
theorem Vo (C:Km P w A s kd rk good){α : Type}{out:Array Bo}{ia ib:Nat}{D1:Bo->StateT DP Sem α}{K:Bo->Bo->Option Nat->StateT DP Sem α}{Q:α->DP->Prop}(T:K6 rk good a b)(h:ML rk a.toList b.toList out.toList (a.toList.drop ia) (b.toList.drop ib))(h1:ia+1<a.size)(h2:ib<b.size)(hk:JN st=kd)
  (hx:∀ y∈a.toList.drop ia,rk b[ib].1<rk y.1)
  (q1:∀ y,Kf rk a.toList b.toList (out.push y++a.extract ia a.size++b.extract (ib+1) b.size).toList->wpS (Ax P w) A E s (D1 y) Q st)
  (q2:∀ x y k,ib+1<b.size->ib+1+k<=b.size->ML rk a.toList b.toList (out.push y++b.extract (ib+1) (ib+1+k)).toList (a.toList.drop ia) (b.toList.drop (ib+1+k))->(∀ z∈b.toList.drop (ib+1+k),rk (a[ia]'(by lia)).1<rk z.1)->wpS (Ax P w) A E s (K y x (FN k)) Q st) :
  wpS (Ax P w) A E s (elem' b ib >>= fun y=>if (ib+1==b.size)=true then D1 y else elem' a ia >>= fun x=>gal true x b (ib+1) (b.size - (ib+1)) 0 >>= K y x) Q st:=by
 refine CK<|cM h2 ?_
 have m:=PN T h h2 hx;by_cases c:ib+1=b.size
 ·exact QV (by simpa using c)<|q1 _<|oM T m c
 ·refine O4 (by simpa using c) ?_;have ha:ia<a.size:=by lia
  refine CK<|cM ha ?_
  refine CK<|Bc C hk T.gb (T.ga _<|cg ha) (by lia) (by lia) (fun i j h3 h4 h5=>?_) fun k hk1 hk2 hk3=>?_
  ·rw [wX (by lia)] at h5 |-
   have:=T.sb.le (i:=ib+1+i) (j:=ib+1+j) (by lia) (by lia)
   simp at h5 |-
   lia
  ·refine q2 _ _ k (by lia) (by lia) (ZQ (k:=k) T m (by lia) fun x hx y hy=>?_) fun y hy=>?_
   ·obtain ⟨j,h3,h4,rfl⟩:=O5 (by lia) hx;obtain ⟨i,h5,h6,rfl⟩:=gU hy;have:=hk2 j h3
    rw [wX (by lia)] at this;have:=T.sa.le h5 h6
    simp at *;lia
   ·obtain ⟨j,h3,h4,rfl⟩:=gU hy;have:=hk3 (j - (ib+1)) (by lia) (by lia)
    rw [wX (by lia)] at this;have ej:ib+1+(j - (ib+1))=j:=by lia
    simp only [ej] at this;have ne:=T.ne _ (cg ha) _ (cg h4);simp at this;lia
theorem Yh (C:Km P w A s kd rk good){α : Type}{out:Array Bo}{ia ib g:Nat}{K:Bo->Option Nat->StateT DP Sem α}{Q:α->DP->Prop}(T:K6 rk good a b)(hL:Ci rk a b)(li:LI rk a b out ia ib)(hk:JN st=kd)
  (q:∀ y k st',iC st st'->ia+k<a.size->ML rk a.toList b.toList (out++a.extract ia (ia+k)).toList (a.toList.drop (ia+k)) (b.toList.drop ib)->(∀ z∈a.toList.drop (ia+k),rk (b[ib]'li.ib).1<rk z.1)->wpS (Ax P w) A E s (K y (FN k)) Q st') :
  wpS (Ax P w) A E s (RM g >>= fun _=>elem' b ib >>= fun y=>gal false y a ia (a.size - ia) 0 >>= K y) Q st:=by
 obtain ⟨h,h1,h2⟩:=li;refine CK<|rA fun st1 s1=>?_
 refine CK<|cM h2 ?_
 refine CK<|Bc C (s1.2.1.trans hk) T.ga (T.gb _<|cg h2) (by lia) (by lia) (fun i j h3 h4 h5=>?_) fun k q1 q2 q3=>?_
 ·rw [wF (by lia)] at h5 |-
  have:=T.sa.le (i:=ia+i) (j:=ia+j) (by lia) (by lia)
  simp at h5 |-
  lia
 ·have lk:ia+k<a.size:=by
   refine W3 fun z=>?_;have:=q2 (a.size - 1 - ia) (by lia)
   rw [wF (by lia)] at this;have ej:ia+(a.size - 1 - ia)=a.size - 1:=by lia
   simp only [ej] at this;have:=hL (by lia) _ (cg h2)
   simp at *;lia
  refine q _ k st1 s1 lk (Zg (k:=k) T h (by lia) fun x hx y hy=>?_) fun y hy=>?_
  ·obtain ⟨j,h3,h4,rfl⟩:=O5 (by lia) hx;obtain ⟨i,h5,h6,rfl⟩:=gU hy;have:=q2 j h3
   rw [wF (by lia)] at this;have:=T.sb.le h5 h6
   have:=T.ne _ (cg h4) _ (cg h2)
   simp at *;lia
  ·obtain ⟨j,h3,h4,rfl⟩:=gU hy;have:=q3 (j - ia) (by lia) (by lia)
   rw [wF (by lia)] at this;have ej:ia+(j - ia)=j:=by lia
   simp only [ej] at this
   simpa using this
theorem KH (out a:Array Bo)(i:Nat):out++a.extract i (i+0)=out:=by simp [Nat.min_le_left]
structure Go (rk:Mk->Nat) (a b:Array Bo) (st:DP) (n:Nat) {β : Type} (c:Option (Array Bo)×Array Bo×Nat×Nat×β) (st':DP):Prop where
 sm:iC st st'
 e:c.1=FX
 li:LI rk a b c.2.1 c.2.2.1 c.2.2.2.1
 le:n<=c.2.2.1+c.2.2.2.1
structure Dn (rk:Mk->Nat) (a b:Array Bo) (st:DP) {β : Type} (c:Option (Array Bo)×β) (st':DP):Prop where
 sm:iC st st'
 r:∃ l,c.1=FN l/\Kf rk a.toList b.toList l.toList
theorem Go.mk' {out:Array Bo}{st':DP}{n ia ib:Nat}{β : Type}{c:β}(sm:iC st st')(li:LI rk a b out ia ib)(h:n<=ia+ib):Go rk a b st n (FX,out,ia,ib,c) st':=⟨sm,rfl,li,h⟩
theorem Dn.mk' {l:Array Bo}{st':DP}{β : Type}{c:β}(sm:iC st st')(h:Kf rk a.toList b.toList l.toList):Dn rk a b st (FN l,c) st':=⟨sm,_,rfl,h⟩
theorem Yo (C:Km P w A s kd rk good){Q:Array Bo->DP->Prop}(T:K6 rk good a b)(hL:Ci rk a b)(ha:0<a.size)(hb:0<b.size)(hf:rk b[0].1<rk a[0].1)(hk:JN st=kd)
  (q:∀ r st',Kf rk a.toList b.toList r.toList->iC st st'->Q r st'):wpS (Ax P w) A E s (mLo a b) Q st:=by
 have m0:ML rk a.toList b.toList (#[b[0]]:Array Bo).toList (a.toList.drop 0) (b.toList.drop 1):=by
  refine PN (out:=#[]) T ⟨[],[],rfl,rfl,.nil,.nil,fun _ h=>(nomatch h),fun _ h=>(nomatch h)⟩ hb fun y hy=>?_;obtain ⟨j,_,h4,rfl⟩:=gU hy;exact FJ hf<|T.sa.le (Ja _) h4
 refine CK<|wpS_lift<|Np ⟨rfl,CK<|cM hb<|Ku (fun c1=>CR<|q _ _ (oM T m0 c1)<|.refl _) fun c1=>Ku (fun c2=>CR<|q _ _ (rB T hL m0 c2)<|.refl _) fun c2=>CK<|QX<|CK<|M7 (Nk (I:=fun x=>Go rk a b st<|1+x) (Q:=Dn rk a b st) (fun x c st' _ _ g=>?_) (fun c st' g=>?_)<|.mk' (.refl _) ⟨m0,Pj ha c2,Pj hb c1⟩ (Bp _)) ?_⟩
 ·refine CK<|M7 (Nk (I:=fun y=>Go rk a b st<|1+x+y) (Q:=fun c s=>Dn rk a b st c s\/Go rk a b st (2+x) c s) (fun y c st2 _ _ g2=>?_) (fun c st2 g2=>.inr ⟨g2.sm,g2.e,g2.li,CW ?_ g2.le⟩)<|.mk' g.sm g.li g.le) ?_
  ·have h1:=g2.li.ia;have h2:=g2.li.ib;have hia:=Nat.lt_of_succ_lt h1;have hp (o) (h:o<=c.2.2.1+c.2.2.2.1+1):o<=c.2.2.1+1+c.2.2.2.1:=by lia
   have hq:2+x<=c.2.2.1+c.2.2.2.1+1:=by have:=g2.le;lia
   refine CK<|cM h2<|CK<|cM hia<|CK<|Og C (g2.sm.2.1.trans hk) (T.gb _<|cg h2) (T.ga _<|cg hia)<|ifD (fun cb=>CK<|cM h2 ?_) fun cb=>CK<|cM hia ?_
   ·have m2:=PN T g2.li.ml h2 fun y hy=>by
     obtain ⟨j,h3,h4,rfl⟩:=gU hy;exact FJ cb<|T.sa.le h3 h4
    refine Ku (fun e=>CR<|.inl<|.mk' g2.sm (oM T m2 e)) fun e=>?_;have li2:LI rk a b _ _ _:=⟨m2,h1,Pj h2 e⟩
    exact iH (CR<|.inr<|.mk' g2.sm li2 hq)<|CR<|.mk' g2.sm li2 (Nat.succ_le_succ g2.le)
   ·have m2:=Vn T g2.li.ml hia fun y hy=>by
     obtain ⟨j,h3,h4,rfl⟩:=gU hy;exact Pj (CW (Nat.le_of_not_lt cb)<|T.sb.le h3 h4)<|T.ne _ (cg hia) _<|cg h4
    refine Ku (fun e=>CR<|.inl<|.mk' g2.sm (rB T hL m2 e)) fun e=>?_;have li2:LI rk a b _ _ _:=⟨m2,Pj h1 e,h2⟩
    exact iH (CR<|.inr<|.mk' g2.sm li2 (hp _ hq))<|CR<|.mk' g2.sm li2 (hp _<|Nat.succ_le_succ g2.le)
  ·lia
  ·rintro ⟨r,c⟩ st2 (⟨sm2,l,rfl,hr⟩ | g2)
   ·exact CR<|.mk' sm2 hr
   ·cases g2.e
    refine CK<|wpS_lift<|Np ⟨rfl,?_⟩
    refine CK<|M7 (Nk (I:=fun _=>Go rk a b st<|2+x) (Q:=fun c s=>Dn rk a b st c s\/Go rk a b st (2+x) c s) ?_ (fun _ _=>.inr)<|.mk' g2.sm g2.li g2.le) ?_
    ·rintro y ⟨_,out,ia,ib,mg,ac,bc⟩ st3 _ _ g3;have sm3:=g3.sm;have li3:LI rk a b out ia ib:=g3.li;have hp3:2+x<=ia+ib:=g3.le;clear g3;revert mg
     refine aaP (fun g mg=>LC (g mg)<|g<|mg - 1) ?_;intro g;refine Yh (out:=out) (ia:=ia) (ib:=ib) C T hL li3 (sm3.2.1.trans hk) fun y k st4 s4 lk m4 lo=>?_;have sm4:=sm3.trans s4;have hi (i j) (h:ia<=i):2+x<=i+1+(ib+1+j):=by lia
     refine QW (fun k0=>?_) fun k0=>Ku (fun e1=>CR<|.inl<|.mk' sm4 (rB T hL m4 e1)) fun e1=>Ku (fun e=>absurd e<|G3 lk) fun _=>?_
     ·obtain rfl:=Va k0;rw [KH] at m4;have i1:=li3.ia;have hi:=fun j=>hi ia j (Bp _)
      refine Vo C T m4 i1 li3.ib (sm4.2.1.trans hk) lo (fun y h=>CR<|.inl<|.mk' sm4 h) fun x' y' j j1 j2 m5 lo2=>QW (fun j0=>?_) fun j0=>Ku (fun e2=>CR<|.inl<|.mk' sm4 (oM T m5 e2)) fun e2=>Jg T hL m5 i1 (Pj j2 e2) lo2 (fun x' h=>CR<|.inl<|.mk' sm4 h) (fun x' h=>CR<|.inr<|.mk' sm4 h (hi j)) fun x' h=>CR<|.mk' sm4 h (hi j)
      obtain rfl:=Va j0;rw [KH] at m5;exact Jg T hL m5 i1 j1 lo2 (fun x' h=>CR<|.inl<|.mk' sm4 h) (fun x' h=>CR<|.inr<|.mk' sm4 h (hi 0)) fun x' h=>CR<|.mk' sm4 h (hi 0)
     ·have i1:=Pj lk e1;have hi:=fun j=>hi (ia+k) j (VG _ _)
      refine Vo C T m4 i1 li3.ib (sm4.2.1.trans hk) lo (fun y h=>CR<|.inl<|.mk' sm4 h) fun x' y' j j1 j2 m5 lo2=>QW (fun j0=>?_) fun j0=>Ku (fun e2=>CR<|.inl<|.mk' sm4 (oM T m5 e2)) fun e2=>Jg T hL m5 i1 (Pj j2 e2) lo2 (fun x' h=>CR<|.inl<|.mk' sm4 h) (fun x' h=>CR<|.inr<|.mk' sm4 h (hi j)) fun x' h=>CR<|.mk' sm4 h (hi j)
      obtain rfl:=Va j0;rw [KH] at m5;exact Jg T hL m5 i1 j1 lo2 (fun x' h=>CR<|.inl<|.mk' sm4 h) (fun x' h=>CR<|.inr<|.mk' sm4 h (hi 0)) fun x' h=>CR<|.mk' sm4 h (hi 0)
    ·rintro ⟨r,c⟩ st3 (⟨sm3,l,rfl,hr⟩ | g3)
     ·exact CR<|.mk' sm3 hr
     ·cases g3.e
      exact CK<|rA fun st4 s4=>CR<|.mk' (g3.sm.trans s4) g3.li (CW (by lia) g3.le)
 ·have h1:=g.li.ia;have h2:=g.li.ib;have:=g.le
  lia
 ·rintro ⟨_,_⟩ st' ⟨sm,r,rfl,hr⟩;exact CR<|q r st' hr sm
end
variable {out : Array Bo}
section
variable {rk:Mk->Nat}
def MH (rk:Mk->Nat)(A B o ah bh:List Bo):Prop:=∃ a2 b2,A=ah++a2/\B=bh++b2/\o.Perm (a2++b2)/\SL rk o/\Be rk ah o/\Be rk bh o
theorem MH.swap {A o ah bh:List Bo}(h:MH rk A B o ah bh):MH rk B A o bh ah:=by
 obtain ⟨a1,b1,e1,e2,p,s,q1,q2⟩:=h;exact ⟨b1,a1,e2,e1,p.trans List.perm_append_comm,s,q2,q1⟩
theorem MH.pA {A o xs ah bh:List Bo}(sa:SL rk A)(h:MH rk A B o (ah++xs) bh)(hx:Be rk bh xs):MH rk A B (xs++o) ah bh:=by
 obtain ⟨a2,b2,e1,e2,p,s,q1,q2⟩:=h;have sx:SL rk (ah++xs):=by
  unfold SL at sa;rw [e1,Tw] at sa;exact sa.1
 unfold SL at sx;rw [Tw] at sx;refine ⟨xs++a2,b2,by rw [e1,Ph],e2,?_,?_,?_,?_⟩
 ·rw [Ph];exact p.append_left xs
 ·unfold SL;rw [Tw];exact ⟨sx.2.1,s,fun x hx y hy=>q1 x (Q7 _ hx) y hy⟩
 ·intro x hx y hy;rcases Jx.mp hy with hy | hy
  ·exact sx.2.2 x hx y hy
  ·exact q1 x (Rj _ hx) y hy
 ·intro x hx' y hy;rcases Jx.mp hy with hy | hy
  ·exact hx x hx' y hy
  ·exact q2 x hx' y hy
theorem MH.pB {A o xs ah bh:List Bo}(sb:SL rk B)(h:MH rk A B o ah (bh++xs))(hx:Be rk ah xs):MH rk A B (xs++o) ah bh:=(h.swap.pA sb hx).swap
theorem MH.fin {A o bh:List Bo}(sb:SL rk B)(h:MH rk A B o [] bh):Kf rk A B (bh++o):=by
 have h:MH rk A B o [] ([]++bh):=h;obtain ⟨a2,b2,e1,e2,p,s,_⟩:=h.pB sb fun _ h=>(nomatch h)
 rw [VD] at e1 e2;rw [e1,e2];exact ⟨p,s⟩
theorem MH.fin2 {A o ah bh:List Bo}(sa:SL rk A)(sb:SL rk B)(h:MH rk A B o ah bh)(hx:Be rk bh ah):Kf rk A B (bh++ah++o):=by
 have h:MH rk A B o ([]++ah) bh:=h;rw [Ph];exact (h.pA sa hx).fin sb
end
section
variable {P:DI}{w:Bw}{A:DW}{E:Mk->Ai->Prop}{s:Ai}{rk:Mk->Nat}
theorem Xd {i:Nat}(h:i<a.size):a.toList.take (i+1)=a.toList.take i++[a[i]]:=by
 rw [Ji,Gz (by simpa using h)];simp
theorem YB (a:Array Bo){i n:Nat}(h:i<=n):a.toList.take n=a.toList.take i++(a.extract i n).toList:=by
 rw [W9,Wn];have e:n=i+(n - i):=by lia
 conv=>lhs;rw [e,List.take_add]
theorem ug (a:Array Bo)(n:Nat):(a.extract 0 n).toList=a.toList.take n:=by
 rw [W9,Wn];simp
theorem gJ {n:Nat}{x:Bo}(hx:x∈a.toList.take n):∃ j,j<n/\∃ hj:j<a.size,x=a[j]:=by
 obtain ⟨k,hk,e⟩:=Vr.mp hx;rw [QC] at hk;simp at hk;refine ⟨k,by lia,by lia,?_⟩;rw [<-e,List.getElem_take];simp
theorem cX {i n:Nat}{x:Bo}(h:n<=a.size)(hx:x∈(a.extract i n).toList):∃ j,i<=j/\j<n/\∃ hj:j<a.size,x=a[j]:=by
 obtain ⟨j,hj,e⟩:=Array.mem_iff_getElem.mp (Array.mem_def.mpr hx);have hj':i+j<n:=by simp at hj;lia
 exact ⟨i+j,by lia,hj',by lia,by rw [<-e];simp⟩
def yQ (rk:Mk->Nat)(a b:Array Bo):Prop:=∀ (h:0<b.size),∀ x∈a.toList,rk b[0].1<rk x.1
structure HI (rk:Mk->Nat) (a b out:Array Bo) (na nb:Nat):Prop where
 mh:MH rk a.toList b.toList out.toList.reverse (a.toList.take na) (b.toList.take nb)
 pa:0<na
 pb:1<nb
 la:na<=a.size
 lb:nb<=b.size
theorem Q9 {na nb:Nat}(T:K6 rk good a b)(h:MH rk a.toList b.toList out.toList.reverse (a.toList.take na) (b.toList.take nb))(h0:0<na)(hi:na<=a.size)(hx:∀ y∈b.toList.take nb,rk y.1<rk (a[na - 1]'(by lia)).1):MH rk a.toList b.toList (out.push (a[na - 1]'(by lia))).toList.reverse (a.toList.take (na - 1)) (b.toList.take nb):=by
 rw [jT,List.reverse_append];refine MH.pA T.sa (xs:=[a[na - 1]'(by lia)]) ?_ fun x hx' y hy=>?_
 ·have e:=Xd (a:=a) (i:=na - 1) (by lia);have e1:na - 1+1=na:=by lia
  rw [e1] at e;rw [<-e];exact h
 ·rw [Jr.mp hy];exact hx x hx'
theorem Ui {na nb:Nat}(T:K6 rk good a b)(h:MH rk a.toList b.toList out.toList.reverse (a.toList.take na) (b.toList.take nb))(h0:0<nb)(hi:nb<=b.size)(hx:∀ y∈a.toList.take na,rk y.1<rk (b[nb - 1]'(by lia)).1):MH rk a.toList b.toList (out.push (b[nb - 1]'(by lia))).toList.reverse (a.toList.take na) (b.toList.take (nb - 1)):=by
 rw [jT,List.reverse_append];refine MH.pB T.sb (xs:=[b[nb - 1]'(by lia)]) ?_ fun x hx' y hy=>?_
 ·have e:=Xd (a:=b) (i:=nb - 1) (by lia);have e1:nb - 1+1=nb:=by lia
  rw [e1] at e;rw [<-e];exact h
 ·rw [Jr.mp hy];exact hx x hx'
theorem CT (out xs:Array Bo):(out++xs.reverse).toList.reverse=xs.toList++out.toList.reverse:=by simp
theorem Y0 {na nb:Nat}(T:K6 rk good a b)(h:MH rk a.toList b.toList out.toList.reverse (a.toList.take na) (b.toList.take nb))(hi:m<=na)(hx:Be rk (b.toList.take nb) (a.extract m na).toList):MH rk a.toList b.toList (out++(a.extract m na).reverse).toList.reverse (a.toList.take m) (b.toList.take nb):=by
 rw [CT];refine MH.pA T.sa ?_ hx;rw [<-YB a hi];exact h
theorem Zc {na nb:Nat}(T:K6 rk good a b)(h:MH rk a.toList b.toList out.toList.reverse (a.toList.take na) (b.toList.take nb))(hi:m<=nb)(hx:Be rk (a.toList.take na) (b.extract m nb).toList):MH rk a.toList b.toList (out++(b.extract m nb).reverse).toList.reverse (a.toList.take na) (b.toList.take m):=by
 rw [CT];refine MH.pB T.sb ?_ hx;rw [<-YB b hi];exact h
theorem rC {na nb:Nat}(T:K6 rk good a b)(h:MH rk a.toList b.toList out.toList.reverse (a.toList.take na) (b.toList.take nb))(e:na=0):Kf rk a.toList b.toList (a.extract 0 na++b.extract 0 nb++out.reverse).toList:=by
 subst e;rw [Rh,Rh,ug,ug,List.take_zero,VD,Array.toList_reverse];rw [List.take_zero] at h;exact h.fin T.sb
theorem jQ {na nb:Nat}(T:K6 rk good a b)(hF:yQ rk a b)(hb:0<b.size)(h:MH rk a.toList b.toList out.toList.reverse (a.toList.take na) (b.toList.take nb))(e:nb=1):Kf rk a.toList b.toList (b.extract 0 nb++a.extract 0 na++out.reverse).toList:=by
 rw [Rh,Rh,ug,ug,Array.toList_reverse];refine h.fin2 T.sa T.sb fun x hx y hy=>?_;obtain ⟨j,h1,h2,rfl⟩:=gJ hx;have z:j=0:=by lia
 subst z;exact hF hb y<|VP hy
theorem K1 {α : Type}{na nb:Nat}[Decidable c]{E1 E2 E3:Bo->StateT DP Sem α}{Q:α->DP->Prop}(T:K6 rk good a b)(h:MH rk a.toList b.toList out.toList.reverse (a.toList.take na) (b.toList.take nb))(h1:0<na)(h2:1<nb)(h3:na<=a.size)(h4:nb<=b.size)
  (hx:∀ y∈b.toList.take nb,rk y.1<rk (a[na - 1]'(by lia)).1)
  (q1:∀ x,Kf rk a.toList b.toList (a.extract 0 (na - 1)++b.extract 0 nb++(out.push x).reverse).toList->wpS (Ax P w) A E s (E1 x) Q st)
  (q2:∀ x,HI rk a b (out.push x) (na - 1) nb->wpS (Ax P w) A E s (E2 x) Q st) (q3:∀ x,HI rk a b (out.push x) (na - 1) nb->wpS (Ax P w) A E s (E3 x) Q st) :
  wpS (Ax P w) A E s (elem' a (na - 1) >>= fun x=>if (na - 1==0)=true then E1 x else if c then E2 x else E3 x) Q st:=by
 refine CK<|cM (by lia) ?_
 have m:=Q9 T h h1 h3 hx;by_cases e:na - 1=0
 ·exact QV (by simpa using e)<|q1 _<|rC T m e
 ·refine O4 (by simpa using e) ?_;have li:HI rk a b (out.push (a[na - 1]'(by lia))) (na - 1) nb:=⟨m,by lia,h2,by lia,h4⟩
  exact iH (q2 _ li)<|q3 _ li
theorem WY (C:Km P w A s kd rk good){α : Type}{na nb:Nat}{D1:Bo->StateT DP Sem α}{K:Bo->Bo->Option Nat->StateT DP Sem α}{Q:α->DP->Prop}(T:K6 rk good a b)(hF:yQ rk a b)(h:MH rk a.toList b.toList out.toList.reverse (a.toList.take na) (b.toList.take nb))(h1:0<na)(h2:1<nb)(h3:na<=a.size)(h4:nb<=b.size)(hk:JN st=kd)
  (hx:∀ y∈a.toList.take na,rk y.1<rk (b[nb - 1]'(by lia)).1)
  (q1:∀ y,Kf rk a.toList b.toList (b.extract 0 (nb - 1)++a.extract 0 na++(out.push y).reverse).toList->wpS (Ax P w) A E s (D1 y) Q st)
  (q2:∀ x y m,1<nb - 1->0<m->m<=nb - 1->MH rk a.toList b.toList (out.push y++(b.extract m (nb - 1)).reverse).toList.reverse (a.toList.take na) (b.toList.take m)->(∀ z∈b.toList.take m,rk z.1<rk (a[na - 1]'(by lia)).1)->wpS (Ax P w) A E s (K y x (FN m)) Q st) :
  wpS (Ax P w) A E s (elem' b (nb - 1) >>= fun y=>if (nb - 1==1)=true then D1 y else elem' a (na - 1) >>= fun x=>gal true x b 0 (nb - 1) (nb - 1 - 1) >>= K y x) Q st:=by
 refine CK<|cM (by lia) ?_
 have m:=Ui T h (by lia) h4 hx;by_cases c:nb - 1=1
 ·exact QV (by simpa using c)<|q1 _<|jQ T hF (by lia) m c
 ·refine O4 (by simpa using c) ?_;have ha:na - 1<a.size:=by lia
  refine CK<|cM ha ?_
  refine CK<|Bc C hk T.gb (T.ga _<|cg ha) (by lia) (by lia) (fun i j h5 h6 h7=>?_) fun k k1 k2 k3=>?_
  ·rw [wX (by lia)] at h7 |-
   have:=T.sb.le (i:=0+i) (j:=0+j) (by lia) (by lia)
   simp at h7 this |-
   lia
  ·have kp:0<k:=by
    refine W3 fun z=>?_;have:=k3 0 (by lia) (by lia)
    rw [wX (by lia)] at this;have:=hF (by lia) _ (cg ha)
    simp at *;lia
   refine q2 _ _ k (by lia) kp k1 (Zc T m k1 fun x hx y hy=>?_) fun y hy=>?_
   ·obtain ⟨j,j1,j2,rfl⟩:=gJ hx;obtain ⟨i,i1,i2,i3,rfl⟩:=cX (by lia) hy;have:=k3 i i1 (by lia)
    rw [wX (by lia)] at this;have:=T.sa.le (i:=j) (j:=na - 1) (by lia) ha
    have:=T.ne _ (cg ha) _ (cg i3)
    simp at *;lia
   ·obtain ⟨j,j1,j2,rfl⟩:=gJ hy;have:=k2 j j1
    rw [wX (by lia)] at this
    simpa using this
theorem Yd (C:Km P w A s kd rk good){α : Type}{na nb g:Nat}{K:Bo->Option Nat->StateT DP Sem α}{Q:α->DP->Prop}(T:K6 rk good a b)(li:HI rk a b out na nb)(hk:JN st=kd)
  (q:∀ y m st',iC st st'->m<=na->MH rk a.toList b.toList (out++(a.extract m na).reverse).toList.reverse (a.toList.take m) (b.toList.take nb)->(∀ z∈a.toList.take m,rk z.1<rk (b[nb - 1]'(by have:=li.lb;have:=li.pb;lia)).1)->wpS (Ax P w) A E s (K y (FN m)) Q st') :
  wpS (Ax P w) A E s (RM g >>= fun _=>elem' b (nb - 1) >>= fun y=>gal false y a 0 na (na - 1) >>= K y) Q st:=by
 obtain ⟨h,h1,h2,h3,h4⟩:=li;have hb:nb - 1<b.size:=by lia
 refine CK<|rA fun st1 s1=>?_
 refine CK<|cM hb ?_
 refine CK<|Bc C (s1.2.1.trans hk) T.ga (T.gb _<|cg hb) (by lia) (by lia) (fun i j h5 h6 h7=>?_) fun k k1 k2 k3=>?_
 ·rw [wF (by lia)] at h7 |-
  have:=T.sa.le (i:=0+i) (j:=0+j) (by lia) (by lia)
  simp at h7 this |-
  lia
 ·refine q _ k st1 s1 k1 (Y0 T h k1 fun x hx y hy=>?_) fun y hy=>?_
  ·obtain ⟨j,j1,j2,rfl⟩:=gJ hx;obtain ⟨i,i1,i2,i3,rfl⟩:=cX h3 hy;have:=k3 i i1 i2
   rw [wF (by lia)] at this;have:=T.sb.le (i:=j) (j:=nb - 1) (by lia) hb
   simp at *;lia
  ·obtain ⟨j,j1,j2,rfl⟩:=gJ hy;have:=k2 j j1
   rw [wF (by lia)] at this;have:=T.ne _ (cg j2) _ (cg hb)
   simp at *;lia
theorem uf (out a:Array Bo)(n:Nat):out++(a.extract n n).reverse=out:=by simp [Nat.min_le_left]
structure GoH (rk:Mk->Nat) (a b:Array Bo) (st:DP) (n:Nat) {β : Type} (c:Option (Array Bo)×Nat×Nat×Array Bo×β) (st':DP):Prop where
 sm:iC st st'
 e:c.1=FX
 li:HI rk a b c.2.2.2.1 c.2.1 c.2.2.1
 le:c.2.1+c.2.2.1+n<=a.size+b.size
theorem GoH.mk' {st':DP}{n na nb:Nat}{β : Type}{c:β}(sm:iC st st')(li:HI rk a b out na nb)(h:na+nb+n<=a.size+b.size):GoH rk a b st n (FX,na,nb,out,c) st':=⟨sm,rfl,li,h⟩
theorem nH1 {u v n y N:Nat}(p:0<u)(h:u+v+(1+n+y)<=N):u - 1+v+(1+n+(y+1))<=N:=by lia
theorem nH2 {u n y N:Nat}(h:u+(1+n+(y+1))<=N):u+(2+n)<=N:=by lia
theorem nH3 {u v N:Nat}(h:v<=N)(p:0<u)(g:u<=v):u - 1<N:=by lia
theorem YJ (C:Km P w A s kd rk good){Q:Array Bo->DP->Prop}(T:K6 rk good a b)(hL:Ci rk a b)(hF:yQ rk a b)(ha:0<a.size)(hb:0<b.size)(hk:JN st=kd)
  (q:∀ r st',Kf rk a.toList b.toList r.toList->iC st st'->Q r st'):wpS (Ax P w) A E s (mHi a b) Q st:=by
 have hl:a.size - 1<a.size:=Nat.sub_one_lt_of_lt ha;have m0:MH rk a.toList b.toList (#[a[a.size - 1]]:Array Bo).toList.reverse (a.toList.take (a.size - 1)) (b.toList.take b.size):=
  Q9 (out:=#[]) T ⟨[],[],by rw [T9,Ur (by simp)],by rw [T9,Ur (by simp)],.nil,.nil,fun _ _ _ h=>(nomatch h),fun _ _ _ h=>(nomatch h)⟩ ha (Bp _) fun y hy=>hL ha y (VP hy)
 refine CK<|wpS_lift<|Np ⟨rfl,CK<|cM hl<|Ku (fun c1=>CR<|q _ _ (rC T m0 c1)<|.refl _) fun c1=>Ku (fun c2=>CR<|q _ _ (jQ T hF hb m0 c2)<|.refl _) fun c2=>CK<|QX<|CK<|M7 (Nk (I:=fun x=>GoH rk a b st<|1+x) (Q:=Dn rk a b st) (fun x c st' _ _ g=>?_) (fun c st' g=>?_)<|.mk' (.refl _) ⟨m0,Nat.pos_of_ne_zero c1,Pj hb<|Im c2,S9 _ _,Bp _⟩ (by lia)) ?_⟩
 ·refine CK<|M7 (Nk (I:=fun y=>GoH rk a b st<|1+x+y) (Q:=fun c s=>Dn rk a b st c s\/GoH rk a b st (2+x) c s) (fun y c st2 _ _ g2=>?_) (fun c st2 g2=>.inr ⟨g2.sm,g2.e,g2.li,CW (Nat.add_le_add_left ?_ _) g2.le⟩)<|.mk' g.sm g.li g.le) ?_
  ·have h1:=g2.li.pa;have h2:=g2.li.pb;have h3:=g2.li.la;have h4:=g2.li.lb;have h5:=g2.le;have hia:=nH3 h3 h1 (Bp _);have hib:=nH3 h4 (Nat.lt_of_succ_lt h2) (Bp _);refine CK<|cM hib<|CK<|cM hia<|CK<|Og C (g2.sm.2.1.trans hk) (T.gb _<|cg hib) (T.ga _<|cg hia)<|ifD (fun cb=>CK<|cM hia ?_) fun cb=>CK<|cM hib ?_
   ·have m2:=Q9 T g2.li.mh h1 h3 fun y hy=>by
     obtain ⟨j,j1,j2,rfl⟩:=gJ hy;exact Ot (T.sb.le (Nat.le_sub_one_of_lt j1) hib) cb
    refine Ku (fun e=>CR<|.inl<|.mk' g2.sm (rC T m2 e)) fun e=>?_;have li2:HI rk a b _ _ _:=⟨m2,Nat.pos_of_ne_zero e,h2,KQ hia,h4⟩
    have le:=nH1 h1 h5;exact iH (CR<|.inr<|.mk' g2.sm li2 (nH2 le))<|CR<|.mk' g2.sm li2 le
   ·have m2:=Ui T g2.li.mh (Nat.lt_of_succ_lt h2) h4 fun y hy=>by
     obtain ⟨j,j1,j2,rfl⟩:=gJ hy;exact Pj (CW (T.sa.le (Nat.le_sub_one_of_lt j1) hia)<|Nat.le_of_not_lt cb)<|T.ne _ (cg j2) _<|cg hib
    refine Ku (fun e=>CR<|.inl<|.mk' g2.sm (jQ T hF hb m2 e)) fun e=>?_;have li2:HI rk a b _ _ _:=⟨m2,h1,Pj (Nat.le_sub_one_of_lt h2) (Im e),h3,KQ hib⟩
    have le:=nH1 (Nat.lt_of_succ_lt h2) (Ua c.2.1 _ ▸ h5);rw [Ua (_ - 1)] at le;exact iH (CR<|.inr<|.mk' g2.sm li2 (nH2 le))<|CR<|.mk' g2.sm li2 le
  ·lia
  ·rintro ⟨r,c⟩ st2 (⟨sm2,l,rfl,hr⟩ | g2)
   ·exact CR<|.mk' sm2 hr
   ·cases g2.e
    refine CK<|wpS_lift<|Np ⟨rfl,?_⟩
    refine CK<|M7 (Nk (I:=fun _=>GoH rk a b st<|2+x) (Q:=fun c s=>Dn rk a b st c s\/GoH rk a b st (2+x) c s) ?_ (fun _ _=>.inr)<|.mk' g2.sm g2.li g2.le) ?_
    ·rintro y ⟨_,na,nb,out,mg,ac,bc⟩ st3 _ _ g3;have sm3:=g3.sm;have li3:HI rk a b out na nb:=g3.li;have hp3:na+nb+(2+x)<=a.size+b.size:=g3.le;clear g3;revert mg
     refine aaP (fun g mg=>LC (g mg)<|g<|mg - 1) ?_;intro g;refine Yd (out:=out) (na:=na) (nb:=nb) C T li3 (sm3.2.1.trans hk) fun y m st4 s4 lk m4 lo=>?_;have sm4:=sm3.trans s4;have hi (i j) (h:i<=na) (g:j<=nb - 1):i - 1+j+(2+x)<=a.size+b.size:=CW (Nat.add_le_add_right (Vk (CW (S9 _ _) h) (CW g (S9 _ _))) _) hp3;refine QW (fun k0=>?_) fun k0=>Ku (fun e1=>CR<|.inl<|.mk' sm4 (rC T m4 e1)) fun e1=>?_
     ·obtain rfl:=Nat.le_antisymm lk (Nat.sub_eq_zero_iff_le.mp (Va k0));rw [uf] at m4;have i1:=li3.pa;have i2:=CW lk li3.la;refine WY C T hF m4 i1 li3.pb i2 li3.lb (sm4.2.1.trans hk) lo (fun y h=>CR<|.inl<|.mk' sm4 h) fun x' y' j j1 jp j2 m5 lo2=>?_;have j3:=CW j2 (CW (S9 _ _) li3.lb);refine QW (fun j0=>?_) fun j0=>Ku (fun e2=>CR<|.inl<|.mk' sm4 (jQ T hF hb m5 e2)) fun e2=>Ku (fun e=>absurd e<|Ky jp) fun _=>K1 T m5 i1 (Pj jp<|Im e2) i2 j3 lo2 (fun x' h=>CR<|.inl<|.mk' sm4 h) (fun x' h=>CR<|.inr<|.mk' sm4 h (hi _ _ lk j2)) fun x' h=>CR<|.mk' sm4 h (hi _ _ lk j2)
      obtain rfl:=Nat.le_antisymm j2 (Nat.sub_eq_zero_iff_le.mp (Va j0));rw [uf] at m5;exact K1 T m5 i1 j1 i2 j3 lo2 (fun x' h=>CR<|.inl<|.mk' sm4 h) (fun x' h=>CR<|.inr<|.mk' sm4 h (hi _ _ lk j2)) fun x' h=>CR<|.mk' sm4 h (hi _ _ lk j2)
     ·have i1:=Nat.pos_of_ne_zero e1;have i2:=CW lk li3.la;refine WY C T hF m4 i1 li3.pb i2 li3.lb (sm4.2.1.trans hk) lo (fun y h=>CR<|.inl<|.mk' sm4 h) fun x' y' j j1 jp j2 m5 lo2=>?_;have j3:=CW j2 (CW (S9 _ _) li3.lb);refine QW (fun j0=>?_) fun j0=>Ku (fun e2=>CR<|.inl<|.mk' sm4 (jQ T hF hb m5 e2)) fun e2=>Ku (fun e=>absurd e<|Ky jp) fun _=>K1 T m5 i1 (Pj jp<|Im e2) i2 j3 lo2 (fun x' h=>CR<|.inl<|.mk' sm4 h) (fun x' h=>CR<|.inr<|.mk' sm4 h (hi _ _ lk j2)) fun x' h=>CR<|.mk' sm4 h (hi _ _ lk j2)
      obtain rfl:=Nat.le_antisymm j2 (Nat.sub_eq_zero_iff_le.mp (Va j0));rw [uf] at m5;exact K1 T m5 i1 j1 i2 j3 lo2 (fun x' h=>CR<|.inl<|.mk' sm4 h) (fun x' h=>CR<|.inr<|.mk' sm4 h (hi _ _ lk j2)) fun x' h=>CR<|.mk' sm4 h (hi _ _ lk j2)
    ·rintro ⟨r,c⟩ st3 (⟨sm3,l,rfl,hr⟩ | g3)
     ·exact CR<|.mk' sm3 hr
     ·cases g3.e
      exact CK<|rA fun st4 s4=>CR<|.mk' (g3.sm.trans s4) g3.li (CW (Nat.add_le_add_left (by lia) _) g3.le)
 ·have h1:=g.li.pa;have h2:=g.li.pb;have:=g.le
  lia
 ·rintro ⟨_,_⟩ st' ⟨sm,r,rfl,hr⟩;exact CR<|q r st' hr sm
end
variable {na nb : Nat}
def mAt:Nat->StateT DP Sem Bool:=sortPriv% PySem.Builtin.mergeAt
section
variable {P:DI}{w:Bw}{A:DW}{E:Mk->Ai->Prop}{s:Ai}{rk:Mk->Nat}
theorem zaU {st2:DP}{Q:PUnit->DP->Prop}(h:Q ⟨⟩ st2):wpS (Ax P w) A E s (set st2:StateT DP Sem PUnit) Q st:=RP (f:=fun _=>st2) h
theorem zu (s0:Nat):∀ (m:List Bo) (j0:Nat) (arr:Array Bo),s0+j0+m.length<=arr.size->((m.zipIdx j0).foldl (fun a (p:Bo×Nat)=>a.setIfInBounds (s0+p.2) p.1) arr).toList=arr.toList.take (s0+j0)++m++arr.toList.drop (s0+j0+m.length)
 | [],j0,arr,h=>by simp
 | p::m,j0,arr,h=>by
  rw [Iw] at h;rw [List.zipIdx_cons,List.foldl_cons,zu s0 m (j0+1) _ (by rw [Array.size_setIfInBounds];lia)];dsimp only;have e1:(arr.setIfInBounds (s0+j0) p).toList=arr.toList.set (s0+j0) p:=by simp
  have e2:s0+(j0+1)=s0+j0+1:=by lia
  rw [e1,e2,Ji,List.getElem?_set_self (by simp;lia),List.take_set_of_le (Bp _),List.drop_set_of_lt (by lia)];have e3:s0+j0+1+m.length=s0+j0+(p::m).length:=by rw [Iw];lia
  rw [e3];simp
theorem j9 {i j:Nat}(hj:j<=a.size)(h:bB rk a i j):SL rk (a.extract i j).toList:=by
 unfold SL;rw [Vz];intro p q hp hq hpq;have lp:(a.extract i j).toList.length=j - i:=by simp;lia
 have hq':q<j - i:=by rw [<-lp];exact hq
 have:=h (i+p) (i+q) (by lia) (by lia) (by lia)
 rw [fZ (by lia),fZ (by lia)] at this
 simpa using this
theorem zau {i j:Nat}{l1 l2 l:List Bo}(e:a.toList=l1++l++l2)(e1:l1.length=i)(e2:l.length=j - i)(h:SL rk l):bB rk a i j:=by
 intro p q h1 h2 h3;have hl:∀ k (hk:k<l.length),Rk rk a (i+k)=rk (l[k]).1:=fun k hk=>by
  unfold Rk;have:a[i+k]?=FN l[k]:=by
   rw [<-Tz,e,Ph,OJ (by lia),Ow (by lia)];have ek:i+k - l1.length=k:=by lia
   rw [ek,Gz hk]
  rw [this]
 have hp:=hl (p - i) (by lia);have hq:=hl (q - i) (by lia);have ep:i+(p - i)=p:=by lia
 have eq:i+(q - i)=q:=by lia
 rw [ep] at hp;rw [eq] at hq;rw [hp,hq];exact Vz.mp h _ _ (by lia) (by lia)<|by lia
theorem tM (a:Array Bo){i j:Nat}(h:i<=j)(hj:j<=a.size):a.toList.drop i=(a.extract i j).toList++a.toList.drop j:=by
 have:=XJ a i (j - i) (by lia)
 have e:i+(j - i)=j:=by lia
 rw [e] at this;exact this
theorem lN (a:Array Bo){i j:Nat}(hj:j<=a.size):(a.extract i j).toList.length=j - i:=by simp;lia
structure Runs (rk:Mk->Nat) (a:Array Bo) (sa k sb n' e:Nat):Prop where
 h1:sa+k<=sb
 h2:sb+n'<=e
 h3:e<=a.size
 r1:bB rk a sa sb
 r2:bB rk a sb e
 lo:∀ p,sa<=p->p<sa+k->Rk rk a p<Rk rk a sb
 hi:∀ p,sb+n'<=p->p<e->Rk rk a (sb - 1)<Rk rk a p
theorem bB.le {i j p q:Nat}(h:bB rk a i j)(h1:i<=p)(h2:p<=q)(h3:q<j):Rk rk a p<=Rk rk a q:=by
 rcases Nat.lt_or_ge p q with c | c
 ·exact KQ<|h p q h1 c h3
 ·have:p=q:=by lia
  subst this;exact Bp _
theorem zbv {α : Type}{t m1 m2 d:List α}(hl:m1.length=m2.length){q:Nat}(hq:q<t.length\/t.length+m1.length<=q):(t++m1++d)[q]?=(t++m2++d)[q]?:=by
 rcases hq with hq | hq
 ·rw [Ph,Ph,Ow hq,Ow hq]
 ·rw [OJ (by rw [JG];exact hq),OJ (by rw [JG,<-hl];exact hq),JG,JG,hl]
theorem acJ {W:Array Bo}{sa k sb n' e:Nat}{m:List Bo}(R:Runs rk a sa k sb n' e)(hx:sa+k<sb)(M:Kf rk (a.extract (sa+k) sb).toList (a.extract sb (sb+n')).toList m)(eW:W.toList=a.toList.take (sa+k)++m++a.toList.drop (sb+n')):Within a W sa e/\bB rk W sa e:=by
 obtain ⟨h1,h2,h3,r1,r2,lo,hi⟩:=R;have ea:a.toList=a.toList.take (sa+k)++((a.extract (sa+k) sb).toList++(a.extract sb (sb+n')).toList)++a.toList.drop (sb+n'):=by
  rw [Ph,Ph,<-tM a (by lia) (by lia),<-tM a h1 (by lia),WM]
 have lm:m.length=((a.extract (sa+k) sb).toList++(a.extract sb (sb+n')).toList).length:=M.1.length_eq;have lt:(a.toList.take (sa+k)).length=sa+k:=by rw [QC];simp;lia
 have lx:((a.extract (sa+k) sb).toList++(a.extract sb (sb+n')).toList).length=sb+n' - (sa+k):=by rw [JG,lN a (by lia),lN a (by lia)];lia
 refine ⟨⟨?_,fun q hq=>?_⟩,?_⟩
 ·rw [Array.perm_iff_toList_perm,eW];conv=>rhs;rw [ea]
  exact ((M.1.append_left _).append_right _)
 ·rw [<-Tz,<-Tz,eW];conv=>rhs;rw [ea]
  exact zbv lm (by rw [lt,lm,lx];lia)
 ·have et:a.toList.take (sa+k)=a.toList.take sa++(a.extract sa (sa+k)).toList:=YB a (by lia);have ed:a.toList.drop (sb+n')=(a.extract (sb+n') e).toList++a.toList.drop e:=tM a h2 h3;have em:∀ z∈m,(∃ p,sa+k<=p/\p<sb/\rk z.1=Rk rk a p)\/∃ p,sb<=p/\p<sb+n'/\rk z.1=Rk rk a p:=fun z hz=>by
   rcases Jx.mp (M.1.mem_iff.mp hz) with hz | hz
   ·obtain ⟨p,p1,p2,p3,rfl⟩:=cX (by lia) hz;exact .inl ⟨p,p1,p2,(fZ p3).symm⟩
   ·obtain ⟨p,p1,p2,p3,rfl⟩:=cX (by lia) hz;exact .inr ⟨p,p1,p2,(fZ p3).symm⟩
  have ep:∀ z∈(a.extract sa (sa+k)).toList,∃ p,sa<=p/\p<sa+k/\rk z.1=Rk rk a p:=fun z hz=>by
   obtain ⟨p,p1,p2,p3,rfl⟩:=cX (by lia) hz;exact ⟨p,p1,p2,(fZ p3).symm⟩
  have eq:∀ z∈(a.extract (sb+n') e).toList,∃ p,sb+n'<=p/\p<e/\rk z.1=Rk rk a p:=fun z hz=>by
   obtain ⟨p,p1,p2,p3,rfl⟩:=cX h3 hz;exact ⟨p,p1,p2,(fZ p3).symm⟩
  have sp:SL rk (a.extract sa (sa+k)).toList:=j9 (by lia) fun p q q1 q2 q3=>r1 p q q1 q2 (by lia)
  have sq:SL rk (a.extract (sb+n') e).toList:=j9 h3 fun p q q1 q2 q3=>r2 p q (by lia) q2 q3
  refine zau (l1:=a.toList.take sa) (l:=(a.extract sa<|sa+k).toList++m++(a.extract (sb+n') e).toList) (l2:=a.toList.drop e) (by rw [eW,et,ed];simp only [Ph]) (by rw [QC];simp;lia) ?_ ?_
  ·rw [JG,JG,lm,lx,lN a (by lia),lN a h3];lia
  ·unfold SL at *;rw [Tw,Tw];refine ⟨⟨sp,M.2,fun u hu v hv=>?_⟩,sq,fun u hu v hv=>?_⟩
   ·obtain ⟨p,p1,p2,e1⟩:=ep u hu;rw [e1];have l1:=lo p p1 p2;rcases em v hv with ⟨q,q1,q2,e2⟩ | ⟨q,q1,q2,e2⟩ <;> rw [e2]
    ·exact r1 p q p1 (by lia) q2
    ·exact FJ l1<|r2.le (Bp _) q1<|by lia
   ·obtain ⟨q,q1,q2,e2⟩:=eq v hv;rw [e2];rcases Jx.mp hu with hu | hu
    ·obtain ⟨p,p1,p2,e1⟩:=ep u hu;rw [e1];exact FJ (lo p p1 p2)<|r2.le (Bp _) (by lia) q2
    ·rcases em u hu with ⟨p,p1,p2,e1⟩ | ⟨p,p1,p2,e1⟩ <;> rw [e1]
     ·exact Ot (r1.le (by lia) (by lia)<|by lia)<|hi q q1 q2
     ·exact r2 p q p1 (by lia) q2
theorem ZK (C:Km P w A s kd rk good){i:Nat}{Q:Bool->DP->Prop}{sa p sb p2:Nat}(ok:Kz kd rk good st)(e1:(Iu st)[i]?=FN (sa,na,p))(e2:(Iu st)[i+1]?=FN (sb,nb,p2))(hb:sb=sa+na)(h1:0<na)(h2:0<nb)(hz:sb+nb<=(Bk st).size)(r1:bB rk (Bk st) sa sb)(r2:bB rk (Bk st) sb (sb+nb))
  (q:∀ st',Kz kd rk good st'->Within (Bk st) (Bk st') sa (sb+nb)->bB rk (Bk st') sa (sb+nb)->Iu st'=((Iu st).setIfInBounds i (sa,na+nb,p)).eraseIdxIfInBounds (i+1)->Q true st'):wpS (Ax P w) A E s (mAt i) Q st:=by
 refine CK<|QX ?_
 simp only [e1,e2];refine CK<|zaU ?_
 have hsb:sb<(Bk st).size:=by lia
 have gd:∀ x∈(Bk st).toList,good x.1:=ok.keys.good
 refine CK<|cM (a:=Bk st) hsb ?_
 refine CK<|Bc (a:=Bk st) C ok.kind gd (gd _<|cg hsb) (by lia) (by lia) (fun x y h5 h6 h7=>?_) fun k k1 k2 k3=>?_
 ·unfold Hl at h7 |-
  have:=r1.le (p:=sa+x) (q:=sa+y) (by lia) (by lia) (by lia)
  simp at h7 |-
  lia
 have key:rk (Bk st)[sb].1=Rk rk (Bk st) sb:=(fZ hsb).symm;have lo:∀ p,sa<=p->p<sa+k->Rk rk (Bk st) p<Rk rk (Bk st) sb:=fun p p1 p3=>by
  have:=k2 (p - sa) (by lia)
  have ep:sa+(p - sa)=p:=by lia
  unfold Hl at this;rw [ep,key] at this;have ne:Rk rk (Bk st) p≠Rk rk (Bk st) sb:=fun z=>by have:=ok.keys.ne (by lia) hsb z;lia
  simp at this;lia
 have up:∀ p,sa+k<=p->p<sb->Rk rk (Bk st) sb<Rk rk (Bk st) p:=fun p p1 p3=>by
  have:=k3 (p - sa) (by lia) (by lia)
  have ep:sa+(p - sa)=p:=by lia
  unfold Hl at this;rw [ep,key] at this
  simpa using this
 by_cases c:na - k=0
 ·refine QV (by simpa using c)<|CR<|q _ ⟨ok.kind,ok.failed,ok.keys⟩ (Within.refl _ _ _) (fun p q p1 p3 p4=>?_) rfl
  show Rk rk (Bk st) p<Rk rk (Bk st) q;by_cases c1:q<sb
  ·exact r1 p q p1 p3 c1
  ·by_cases c2:sb<=p
   ·exact r2 p q c2 p3 p4
   ·exact FJ (lo p p1<|by lia)<|r2.le (Bp _) (by lia) p4
 refine O4 (by simpa using c) ?_;have hl:sa+k+(na - k) - 1<(Bk st).size:=by lia
 have el:sa+k+(na - k) - 1=sb - 1:=by lia
 refine CK<|cM (a:=Bk st) hl ?_
 have key2:rk ((Bk st)[sa+k+(na - k) - 1]'hl).1=Rk rk (Bk st) (sb - 1):=by rw [<-fZ (rk:=rk) hl,el]
 refine CK<|Bc (a:=Bk st) C ok.kind gd (gd _<|cg hl) (by lia) (by lia) (fun x y h5 h6 h7=>?_) fun n' n1 n2 n3=>?_
 ·unfold Hl at h7 |-
  have:=r2.le (p:=sb+x) (q:=sb+y) (by lia) (by lia) (by lia)
  simp at h7 |-
  lia
 have be:∀ p,sb<=p->p<sb+n'->Rk rk (Bk st) p<Rk rk (Bk st) (sb - 1):=fun p p1 p3=>by
  have:=n2 (p - sb) (by lia)
  have ep:sb+(p - sb)=p:=by lia
  unfold Hl at this;rw [ep,key2] at this
  simpa using this
 have hi:∀ p,sb+n'<=p->p<sb+nb->Rk rk (Bk st) (sb - 1)<Rk rk (Bk st) p:=fun p p1 p3=>by
  have:=n3 (p - sb) (by lia) (by lia)
  have ep:sb+(p - sb)=p:=by lia
  unfold Hl at this;rw [ep,key2] at this;have ne:Rk rk (Bk st) p≠Rk rk (Bk st) (sb - 1):=fun z=>by have:=ok.keys.ne (by lia) (by lia) z;lia
  simp at this;lia
 have np:0<n':=by
  refine W3 fun z=>?_;have:=hi sb (by lia) (by lia)
  have:=up (sb - 1) (by lia) (by lia)
  lia
 refine O4 (by simp;lia) ?_;have zx:((Bk st).extract (sa+k) sb).size=sb - (sa+k):=by simp;lia
 have zy:((Bk st).extract sb (sb+n')).size=n':=by simp;lia
 have T:K6 rk good ((Bk st).extract (sa+k) sb) ((Bk st).extract sb (sb+n')):=⟨j9 (by lia) fun p q p1 p3 p4=>r1 p q (by lia) p3 p4,j9 (by lia) fun p q p1 p3 p4=>r2 p q p1 p3 (by lia),fun x hx=>by
   obtain ⟨p,_,_,p3,rfl⟩:=cX (by lia) hx;exact gd _<|cg p3,fun x hx=>by
   obtain ⟨p,_,_,p3,rfl⟩:=cX (by lia) hx;exact gd _<|cg p3,fun x hx y hy e=>by
   obtain ⟨p,p1,p3,p4,rfl⟩:=cX (by lia) hx;obtain ⟨q,q1,q3,q4,rfl⟩:=cX (by lia) hy;rw [<-fZ (rk:=rk) p4,<-fZ (rk:=rk) q4] at e;have:=ok.keys.ne p4 q4 e
   lia⟩
 have hL:Ci rk ((Bk st).extract (sa+k) sb) ((Bk st).extract sb (sb+n')):=fun h z hz=>by
  obtain ⟨p,p1,p3,p4,rfl⟩:=cX (by lia) hz;have:=be p p1 p3
  rw [fZ p4,fZ (by lia)] at this;have ex:sa+k+(((Bk st).extract (sa+k) sb).size - 1)=sb - 1:=by lia
  simpa only [Array.getElem_extract,ex] using this
 have hF:yQ rk ((Bk st).extract (sa+k) sb) ((Bk st).extract sb (sb+n')):=fun h z hz=>by
  obtain ⟨p,p1,p3,p4,rfl⟩:=cX (by lia) hz;have:=up p p1 p3
  rw [fZ p4,fZ hsb] at this
  simpa only [Array.getElem_extract,Nat.add_zero] using this
 have fin:∀ (m:Array Bo) (st2:DP),Kf rk ((Bk st).extract (sa+k) sb).toList ((Bk st).extract sb (sb+n')).toList m.toList->Bk st2=Bk st->Within (Bk st) (m.toList.zipIdx.foldl (fun a (p:Bo×Nat)=>a.setIfInBounds (sa+k+p.2) p.1) (Bk st2)) sa (sb+nb)/\bB rk (m.toList.zipIdx.foldl (fun a (p:Bo×Nat)=>a.setIfInBounds (sa+k+p.2) p.1) (Bk st2)) sa (sb+nb):=fun m st2 M ea=>by
  have lm:m.toList.length=sb+n' - (sa+k):=by rw [M.1.length_eq,JG,lN _ (by lia),lN _ (by lia)];lia
  rw [ea];refine acJ ⟨by lia,by lia,hz,r1,r2,lo,hi⟩ (by lia) M ?_;rw [zu (sa+k) m.toList 0 (Bk st) (by lia),Nat.add_zero];have e:sa+k+m.toList.length=sb+n':=by lia
  rw [e]
 have hx0:0<((Bk st).extract (sa+k) sb).size:=by lia
 have hy0:0<((Bk st).extract sb (sb+n')).size:=by lia
 refine iH (CK<|Yo C T hL hx0 hy0 (hF hy0 _<|cg hx0) ok.kind fun m st2 M sm=>?_)<|CK<|YJ C T hL hF hx0 hy0 ok.kind fun m st2 M sm=>?_
 all_goals
  obtain ⟨f1,f2⟩:=fin m st2 M sm.1;have fl:failedOf st2=FX:=sm.2.2.1.trans ok.failed;refine CK<|RP<|CK<|QX<|CR ?_
  show Q (failedOf st2).isNone _;rw [fl];exact q _ ⟨sm.2.1.trans ok.kind,fl,ok.keys.perm f1.perm⟩ f1 f2 sm.2.2.2
def J7 (rk:Mk->Nat)(a:Array Bo):List (Nat×Nat×Nat)->Nat->Nat->Prop
 | [],i,j=>i=j
 | (s,n,_)::r,i,j=>s=i/\0<n/\bB rk a i (i+n)/\J7 rk a r (i+n) j
theorem tO {a:Array Bo}:∀ {ps:List (Nat×Nat×Nat)} {i j:Nat},J7 rk a ps i j->i+ps.length<=j
 | [],i,j,h=>by have h:i=j:=h;simp;lia
 | (s,n,p)::r,i,j,h=>by
  obtain ⟨_,h1,_,h2⟩:=h;have:=tO h2
  simp;lia
theorem j8 {a:Array Bo}:∀ {ps qs:List (Nat×Nat×Nat)} {i j:Nat},J7 rk a (ps++qs) i j↔∃ k,J7 rk a ps i k/\J7 rk a qs k j
 | [],qs,i,j=>⟨fun h=>⟨i,rfl,h⟩,fun ⟨k,e,h⟩=>by have e:i=k:=e;rw [e];exact h⟩
 | (s,n,p)::r,qs,i,j=>by
  constructor
  ·rintro ⟨h1,h2,h3,h4⟩;obtain ⟨k,a1,a2⟩:=j8.mp h4;exact ⟨k,⟨h1,h2,h3,a1⟩,a2⟩
  ·rintro ⟨k,⟨h1,h2,h3,h4⟩,h5⟩;exact ⟨h1,h2,h3,j8.mpr ⟨k,h4,h5⟩⟩
theorem oA {i j:Nat}(W:Within a b lo hi)(h:bB rk a i j)(o:j<=lo\/hi<=i):bB rk b i j:=fun p q h1 h2 h3=>by
 rw [xH (W.out p (by lia)),xH (W.out q (by lia))];exact h p q h1 h2 h3
theorem fB {a b:Array Bo}{lo hi:Nat}(W:Within a b lo hi):∀ {ps:List (Nat×Nat×Nat)} {i j:Nat},J7 rk a ps i j->(j<=lo\/hi<=i)->J7 rk b ps i j
 | [],i,j,h,_=>h
 | (s,n,p)::r,i,j,⟨h1,h2,h3,h4⟩,o=>⟨h1,h2,oA W h3 (by have:=tO h4;lia),fB W h4 (by lia)⟩
theorem tY {a:Array Bo}{f:Nat×Nat×Nat->Nat×Nat×Nat}(hf:∀ x,(f x).1=x.1/\(f x).2.1=x.2.1):∀ {ps:List (Nat×Nat×Nat)} {k i j:Nat},J7 rk a ps i j->J7 rk a (ps.modify k f) i j
 | [],k,i,j,h=>by simpa using h
 | (s,n,p)::r,0,i,j,⟨h1,h2,h3,h4⟩=>by
  obtain ⟨e1,e2⟩:=hf (s,n,p);have e:f (s,n,p)=(s,n,(f (s,n,p)).2.2):=by
   rw [Prod.ext_iff,Prod.ext_iff];exact ⟨e1,e2,rfl⟩
  show J7 rk a (f (s,n,p)::r) i j;rw [e];exact ⟨h1,h2,h3,h4⟩
 | (s,n,p)::r,k+1,i,j,⟨h1,h2,h3,h4⟩=>⟨h1,h2,h3,tY hf h4⟩
theorem Xe {α : Type}{l:List α}{i:Nat}(h:i+1<l.length):l=l.take i++l[i]::l[i+1]::l.drop (i+2):=by
 rw [<-Us h,<-Us (by lia),WM]
structure JI (kd:SX) (rk:Mk->Nat) (good:Mk->Prop) (a0:Array Bo) (lo:Nat) (st:DP):Prop where
 ok:Kz kd rk good st
 perm:(Bk st).Perm a0
 cont:J7 rk (Bk st) (Iu st).toList 0 lo
theorem yS (C:Km P w A s kd rk good){i:Nat}{a0:Array Bo}{Q:Bool->DP->Prop}(J:JI kd rk good a0 lo st)(hl:lo<=a0.size)(hi:i+1<(Iu st).size)
  (q:∀ st',JI kd rk good a0 lo st'->Within (Bk st) (Bk st') 0 lo->(Iu st').size+1=(Iu st).size->Q true st'):wpS (Ax P w) A E s (mAt i) Q st:=by
 obtain ⟨ok,pm,ct⟩:=J;have hi':i+1<(Iu st).toList.length:=by simpa using hi
 have es:=Xe hi';obtain ⟨sa,na,p,hx⟩:∃ sa na p,(Iu st).toList[i]=(sa,na,p):=⟨_,_,_,rfl⟩
 obtain ⟨sb,nb,p2,hy⟩:∃ sb nb p2,(Iu st).toList[i+1]=(sb,nb,p2):=⟨_,_,_,rfl⟩
 rw [hx,hy] at es;have ct2:=ct;rw [es] at ct2;obtain ⟨k,c1,e1,n1,r1,e2,n2,r2,c2⟩:=j8.mp ct2;subst e1 e2;have hz:=tO c2;have hs:=pm.size_eq;refine ZK C ok (sa:=sa) (na:=na) (p:=p) (sb:=sa+na) (nb:=nb) (p2:=p2) ?_ ?_ rfl n1 n2 (by lia) r1 r2 fun st' ok' W R e=>?_
 ·rw [<-Tz,Gz (by lia),hx]
 ·rw [<-Tz,Gz hi',hy]
 have lt:((Iu st).toList.take i).length=i:=by rw [QC];lia
 have el:(Iu st').toList=(Iu st).toList.take i++(sa,na+nb,p)::(Iu st).toList.drop (i+2):=by
  rw [e,Array.toList_eraseIdxIfInBounds,Array.toList_setIfInBounds];conv=>lhs;rw [es]
  rw [List.set_append_right _ _ (by lia),lt,Nat.sub_self,List.set_cons_zero,List.eraseIdx_append_of_length_le (by lia),lt];have:i+1 - i=1:=by lia
  rw [this];rfl
 refine q st' ⟨ok',W.perm.trans pm,?_⟩ (W.wide (Ja _)<|by lia) ?_
 ·rw [el];refine j8.mpr ⟨sa,fB W c1<|.inl<|Bp _,rfl,by lia,?_,?_⟩
  ·rw [<-Nat.add_assoc];exact R
  ·rw [<-Nat.add_assoc];exact fB W c2 (.inr (Bp _))
 ·have l1:=congrArg Pg el;have l2:=congrArg Pg es;simp only [JG,Iw,Tp] at l1 l2;lia
theorem aed [Decidable c](i:Nat):(if c then i - 1 else i)<=i:=by split <;> lia
theorem lE {pd:Array (Nat×Nat×Nat)}(ok:Kz kd rk good st):Kz kd rk good (setPending st pd):=⟨ok.kind,ok.failed,ok.keys⟩
theorem agy (C:Km P w A s kd rk good){Q:Unit->DP->Prop}(ok:Kz kd rk good st)(hp:Iu st = #[])(h2:2<=(Bk st).size)
  (q:∀ st',(Bk st').Perm (Bk st)->failedOf st'=FX->bB rk (Bk st') 0 (Bk st).size->Q () st'):wpS (Ax P w) A E s sortRuns' Q st:=by
 rw [sortRuns'_eq];refine CK<|QX ?_
 dsimp only;obtain ⟨a0,ea0⟩:∃ a0,Bk st=a0:=⟨_,rfl⟩
 have J0:JI kd rk good a0 0 st:=⟨ok,by rw [ea0],by rw [hp];rfl⟩
 rw [ea0] at h2 q |-
 generalize hn:a0.size=N at *;generalize hmr:minRun' N N 0=mr at *;refine CK (M7 (Nk
  (I:=fun x c st'=>∃ lo,c=(FX,lo)/\JI kd rk good a0 lo st'/\lo<=N/\x<=lo)
  (Q:=fun c st'=>c=(FX,N)/\JI kd rk good a0 N st') ?_ ?_ ⟨0,rfl,J0,Ja _,Bp _⟩) ?_)
 ·rintro x c st' _ hx ⟨lo,rfl,J,hlo,hxl⟩;dsimp only;by_cases c0:lo>=N
  ·have e:lo=N:=by lia
   subst e;exact QV c0<|CR ⟨rfl,J⟩
  refine O4 c0 ?_;have hsz:(Bk st').size=N:=by rw [J.perm.size_eq,hn]
  refine CK<|RB C J.ok (by lia) (by lia) fun n b n1 n2 hw hr _=>?_
  dsimp only;have ok2:Kz kd rk good (Jf st' b):=J.ok.arr hw.perm;have fin:∀ (m:Nat) (st2:DP),Kz kd rk good st2->(Bk st2).Perm a0->J7 rk (Bk st2) (Iu st2).toList 0 lo->bB rk (Bk st2) lo (lo+m)->0<m->lo+m<=N->JI kd rk good a0 (lo+m) (setPending st2 ((Iu st2).push (lo,m,0))):=fun m st2 o2 p2 c2 r2 m0 m1=>by
   refine ⟨lE o2,p2,?_⟩;show J7 rk (Bk st2) ((Iu st2).push (lo,m,0)).toList 0 (lo+m);rw [Array.toList_push];exact j8.mpr ⟨lo,c2,rfl,m0,r2,rfl⟩
  have back:∀ (m pw:Nat) (st2:DP),JI kd rk good a0 lo st2->bB rk (Bk st2) lo (lo+m)->0<m->lo+m<=N->wpS (Ax P w) A E s (forIn [0:N] ((FX:Option Unit),()) fun _ _=>do
     let p:=Iu (<-get)
     match (if p.size>1 then p[p.size - 2]? else FX) with
     | some (_,_,older)=>if older<=pw then pure (ForInStep.done ((FX:Option Unit),())) else do
       let r <-mAt (p.size - 2)
       if (!r)=true then pure (ForInStep.done (FN (),())) else pure (ForInStep.yield ((FX:Option Unit),()))
     | x=>pure (ForInStep.done ((FX:Option Unit),())))
    (fun c st3=>c=(FX,())/\JI kd rk good a0 lo st3/\bB rk (Bk st3) lo (lo+m)) st2:=fun m pw st2 J2 R2 m0 m1=>by
   refine Nk (I:=fun _ c st3=>c=(FX,())/\JI kd rk good a0 lo st3/\bB rk (Bk st3) lo (lo+m)) ?_ (fun c st3 h=>h) ⟨rfl,J2,R2⟩;rintro y c st3 _ hy ⟨rfl,J3,R3⟩;refine CK<|QX ?_
   dsimp only;by_cases hs:(Iu st3).size>1
   ·rw [if_pos hs];obtain ⟨a1,a2,a3,ex⟩:∃ a1 a2 a3,(Iu st3)[(Iu st3).size - 2]?=FN (a1,a2,a3):=⟨_,_,_,UG (by lia)⟩
    rw [ex];dsimp only;by_cases c3:a3<=pw
    ·exact QV c3<|CR ⟨rfl,J3,R3⟩
    ·refine O4 c3<|CK<|yS C J3 (by lia) (by lia) fun st4 J4 W4 _=>?_
     exact O4 (by simp)<|CR ⟨rfl,J4,oA W4 R3<|.inr<|Bp _⟩
   ·rw [if_neg hs];exact CR ⟨rfl,J3,R3⟩
  by_cases c:n<mr
  ·refine QV c<|CK<|wpS_lift<|Np ⟨rfl,?_⟩
   refine CK<|aeN C ok2 n1 (show n<=min (N - lo) mr by lia) (by show lo+min (N - lo) mr<=b.size;rw [hw.size];lia) hr fun b2 hw2 hr2=>?_
   refine O4 (by simp) ?_;have W:Within (Bk st') b2 lo (lo+(N - lo)):=hw.trans (hw2.wide (Bp _) (by lia));have J2:JI kd rk good a0 lo (Jf (Jf st' b) b2):=⟨ok2.arr hw2.perm,W.perm.trans J.perm,fB W J.cont (.inl (Bp _))⟩
   refine CK<|QX ?_
   cases hbk:(Iu (Jf (Jf st' b) b2)).back? with
   | none=>exact CK (RP (CR ⟨_,rfl,fin (min (N - lo) mr) _ J2.ok J2.perm J2.cont hr2 (by lia) (by lia),by lia,by lia⟩))
   | some t=>
    obtain ⟨s1,l1,p1⟩:=t;dsimp only;refine CK<|M7 (back (min (N - lo) mr) _ _ J2 hr2 (by lia)<|by lia) ?_
    rintro c st3 ⟨rfl,J3,R3⟩;dsimp only;refine CK<|RP<|CK<|RP<|CR ⟨_,rfl,fin (min (N - lo) mr) (setPending st3 _) (lE J3.ok) J3.perm ?_ R3 (by lia)<|by lia,by lia,by lia⟩
    show J7 rk (Bk st3) ((Iu st3).modify _ _).toList 0 lo;rw [Array.toList_modify];refine @tY rk (Bk st3) _ ?_ _ _ _ _ J3.cont;exact fun _=>⟨rfl,rfl⟩
  ·refine O4 c ?_;have J2:JI kd rk good a0 lo (Jf st' b):=⟨ok2,hw.perm.trans J.perm,fB hw J.cont (.inl (Bp _))⟩
   refine CK<|QX ?_
   cases hbk:(Iu (Jf st' b)).back? with
   | none=>exact CK (RP (CR ⟨_,rfl,fin n _ J2.ok J2.perm J2.cont hr (by lia) (by lia),by lia,by lia⟩))
   | some t=>
    obtain ⟨s1,l1,p1⟩:=t;dsimp only;refine CK<|M7 (back n _ _ J2 hr (by lia)<|by lia) ?_
    rintro c st3 ⟨rfl,J3,R3⟩;dsimp only;refine CK<|RP<|CK<|RP<|CR ⟨_,rfl,fin n (setPending st3 _) (lE J3.ok) J3.perm ?_ R3 (by lia)<|by lia,by lia,by lia⟩
    show J7 rk (Bk st3) ((Iu st3).modify _ _).toList 0 lo;rw [Array.toList_modify];refine @tY rk (Bk st3) _ ?_ _ _ _ _ J3.cont;exact fun _=>⟨rfl,rfl⟩
 ·rintro c st' ⟨lo,rfl,J,hlo,hxl⟩;have e:lo=N:=by lia
  subst e;exact ⟨rfl,J⟩
 ·rintro c st' ⟨rfl,J⟩;dsimp only;refine CK (M7 (Nk
   (I:=fun x c st2=>c=(FX,())/\JI kd rk good a0 N st2/\(Iu st2).size+x<=N) (Q:=fun c st2=>c=(FX,())/\JI kd rk good a0 N st2/\(Iu st2).size<=1) ?_ ?_ ⟨rfl,J,?_⟩) ?_)
  ·rintro x c st2 _ hx ⟨rfl,J2,hl⟩;refine CK<|QX ?_
   by_cases c1:(Iu st2).size<=1
   ·exact QV c1<|CR ⟨rfl,J2,c1⟩
   ·refine O4 c1<|CK<|yS C J2 (by lia) ?_ fun st4 J4 _ e4=>O4 (by simp)<|CR ⟨rfl,J4,by lia⟩
    exact Ot (Nat.add_le_add_right (aed _) 1)<|by lia
  ·rintro c st2 ⟨rfl,J2,hl⟩;exact ⟨rfl,J2,by lia⟩
  ·have:=tO J.cont
   simp at this;lia
  ·rintro c st2 ⟨rfl,J2,hl⟩;refine CR<|q _ J2.perm J2.ok.failed ?_
   have ct:=J2.cont;match hl2:(Iu st2).toList,ct with
   | [],ct=>
    have ct:0=N:=ct;lia
   | [(s1,l1,p1)],⟨_,_,r,e⟩=>
    have e:0+l1=N:=e;rw [e] at r;exact r
   | _::_::_,_=>
    have:=congrArg Pg hl2
    simp at this;lia
end
def KC:List Int->List Int->Option Bool
 | a::k,b::l=>if a=b then KC k l else FN (decide (a<b))
 | _,_=>FX
theorem Dy:∀ k l:List Int,(match KC k l with | some r=>r | none=>decide (k.length<l.length))=decide (k<l)
 | [],[]=>by simp [KC]
 | [],b::l=>by simp [KC]
 | a::k,[]=>by simp [KC]
 | a::k,b::l=>by
  unfold KC;by_cases e:a=b
  ·subst e;rw [if_pos rfl];have:=Dy k l
   simp only [Iw,Nat.add_lt_add_iff_right];rw [this];exact decide_eq_decide.mpr (by rw [Qs];simp [Int.lt_irrefl])
  ·rw [if_neg e];exact decide_eq_decide.mpr (by rw [Qs];simp [e])
section
variable {P:DI}{w:Bw}{A:DW}{E:Mk->Ai->Prop}{s:Ai}
def m9 (h:Heap)(v:Mk)(k:List Int):Prop:=∃ a o its n,v=.ref a/\h.get? a=FN o/\o.cls=.type "tuple"/\o.data=.seq its n/\Aw (k.map V.int) its.toList
theorem zaW {a b:Int}{t u:Tok}{Q:Bool->Ai->Prop}(h:Q (decide (a<b)) s):Ay (Ax P w) A (oneLt' false (.int a t) (.int b u)) Q E s:=by
 rw [oneLt'_eq];simp only [Qp,if_false];exact Ao<|wpAny_richCompare_same (typeIs_int s a t) (typeIs_int s b u) slot_int_lt<|call_int_lt ⟨by simp,wpAny_truthy_bool h⟩
theorem Gq {f:(Mk×Mk)×Nat->Option Bool×Unit->Sem (ForInStep (Option Bool×Unit))}
  (hf:∀ (a b:Int) (t u:Tok) (i:Nat) (R:ForInStep (Option Bool×Unit)->Ai->Prop),R (if a=b then .yield (FX,()) else .done (FN (decide (a<b)),())) s->Ay (Ax P w) A (f ((.int a t,.int b u),i) (FX,())) R E s) :
  ∀ {k l:List Int} {ps qs:List Mk} {j:Nat},Aw (k.map V.int) ps->Aw (l.map V.int) qs->∀ {R:Option Bool×Unit->Ai->Prop},R (KC k l,()) s->Ay (Ax P w) A (forIn ((ps.zip qs).zipIdx j) (FX,()) f) R E s
 | [],l,ps,qs,j,hp,hq,R,q=>by
  cases hp;rw [List.zip_nil_left,List.zipIdx_nil,Vq];exact Ba q
 | a::k,[],ps,qs,j,hp,hq,R,q=>by
  cases hq;rw [List.zip_nil_right,List.zipIdx_nil,Vq];exact Ba q
 | a::k,b::l,ps,qs,j,hp,hq,R,q=>by
  cases hp with
  | cons r1 hp=>
   cases hq with
   | cons r2 hq=>
    obtain ⟨t,rfl⟩:=r1;obtain ⟨u,rfl⟩:=r2;rw [Tg,List.zipIdx_cons,Vf];refine Ao<|hf a b t u j _ ?_
    unfold KC at q;by_cases e:a=b
    ·rw [if_pos e] at q |-
     exact Gq hf hp hq q
    ·rw [if_neg e] at q |-
     exact Ba q
theorem aeb {fo:Bool}{x y:Mk}{l:List Int}{Q:Bool->Ai->Prop}(hx:m9 s.heap x k)(hy:m9 s.heap y l)(q:Q (decide (k<l)) s):Ay (Ax P w) A (keyLt' (tuples' fo) x y) Q E s:=by
 obtain ⟨a,o,its,n,rfl,ga,_,da,va⟩:=hx;obtain ⟨b,u,jts,m,rfl,gb,_,db,vb⟩:=hy;refine Ao<|listItems_at ga da<|Ao<|listItems_at gb db<|Ao<|Gq (fun c d t u i R hR=>?_) va vb ?_
 ·dsimp only;refine Ao<|wpAny_eqBool_int ?_
  by_cases e:c=d
  ·rw [if_pos e] at hR;rw [show (c==d)=true by simpa using e];exact Ba hR
  ·rw [if_neg e] at hR;rw [show (c==d)=false by simpa using e];refine Ao ?_;cases hb:(fo&&i==0) with
   | true=>exact oneLt_int (Ba hR)
   | false=>exact zaW (Ba hR)
 ·have e:=Dy k l;have la:its.size=k.length:=by have:=va.length;simpa using this.symm
  have lb:jts.size=l.length:=by have:=vb.length;simpa using this.symm
  rw [<-e] at q;dsimp only;cases c:KC k l with
  | some r=>rw [c] at q;exact Ba q
  | none=>rw [c] at q;rw [la,lb];exact Ba q
theorem zaO {x:Mk}{i:Int}{Q:Option Mk->Ai->Prop}(hx:m9 s.heap x (i::k))(q:∀ t,Q (FN (.int i t)) s):Ay (Ax P w) A (firstOfTuple' x) Q E s:=by
 obtain ⟨a,o,its,n,rfl,ga,ca,da,va⟩:=hx;refine Ao<|Q5 (T := "tuple") ⟨o,ga,ca⟩ ?_
 rw [if_neg (by decide)];refine Ao<|listItems_at ga da ?_
 obtain ⟨xs⟩:=its;cases va with
 | cons r _=>
  obtain ⟨t,rfl⟩:=r;exact Ba<|q t
theorem qL:∀ {vs:List Mk} {ks:List (List Int)} {Q:List (Option Mk)->Ai->Prop},Jm (fun k v=>m9 s.heap v k) ks vs->(∀ k∈ks,k≠[])->(∀ us:List Mk,us.length=vs.length->(∀ u∈us,∃ i t,u=.int i t)->Q (us.map FN) s)->Ay (Ax P w) A (vs.mapM firstOfTuple') Q E s
 | [],_,Q,h,_,q=>by
  cases h;exact Ba<|q [] rfl fun _ h=>nomatch h
 | v::vs,ks,Q,h,hn,q=>by
  cases h with
  | @cons k _ ks' _ r h=>
   rw [List.mapM_cons];obtain ⟨i,k',rfl⟩:∃ i k',k=i::k':=List.exists_cons_of_ne_nil (hn k JW)
   refine Ao<|zaO r fun t=>Ao ?_
   refine qL h (fun k hk=>hn k<|IK _ hk) fun us hl hu=>Ba ?_;refine q (.int i t::us) (by simp [hl]) fun u hm=>?_;rcases G7.mp hm with rfl | hm
   ·exact ⟨i,t,rfl⟩
   ·exact hu u hm
theorem uM:∀ {us:List Mk} {Q:List Mk->Ai->Prop},(∀ u∈us,∃ i t,u=Value.int i t)->Q (us.map fun _=>.type "int") s->Ay (Ax P w) A (us.mapM typeOf) Q E s
 | [],Q,_,q=>Ba q
 | u::us,Q,h,q=>by
  rw [List.mapM_cons];obtain ⟨i,t,rfl⟩:=h u JW;exact Ao<|Q5 (typeIs_int s i t)<|Ao<|uM (fun v hv=>h v<|IK _ hv)<|Ba q
theorem ady {vs:List Mk}{ks:List (List Int)}{Q:SX->Ai->Prop}(h:Jm (fun k v=>m9 s.heap v k) ks vs)(hn:∀ k∈ks,k≠[])(h1:1<=vs.length)(q:Q (tuples' true) s):Ay (Ax P w) A (keyKind' vs.toArray) Q E s:=by
 rw [keyKind'_eq,List.mapM_toArray];refine Ao<|wpAny_map ?_
 refine qL h hn fun us hl hu=>?_;rw [if_pos (by simp)];refine Ao<|Np<|Ao ?_
 have ef:(us.map FN).toArray.filterMap id=us.toArray:=by
  rw [List.filterMap_toArray];simp
 rw [ef,oneTypeOnly'_eq,List.mapM_toArray];refine Ao<|wpAny_map<|uM hu ?_
 obtain ⟨u,us',rfl⟩:∃ u us',us=u::us':=List.exists_cons_of_ne_nil fun e=>by rw [e] at hl;simp at hl;lia
 show Ay _ _ (pure (if _ then FN (Value.type "int") else FX)) _ _ s;rw [if_pos (by simp)];exact Ba<|Ba q
end
variable {ks : List (List Int)}{l : List Int}
section
variable {P:DI}{w:Bw}{A:DW}{E:Mk->Ai->Prop}{s:Ai}
def Fx (ks:List (List Int))(k:List Int):Nat:=ks.countP fun l=>decide (l<k)
theorem xQ {k l:List Int}(h:k<l):∀ ks:List (List Int),Fx ks k<=Fx ks l/\(k∈ks->Fx ks k<Fx ks l)
 | []=>⟨Bp _,fun h=>nomatch h⟩
 | a::as=>by
  obtain ⟨i1,i2⟩:=xQ h as;unfold Fx at *;rw [List.countP_cons,List.countP_cons];by_cases c:a<k
  ·have c2:a<l:=List.lt_trans c h;rw [if_pos (decide_eq_true c),if_pos (decide_eq_true c2)];refine ⟨by lia,fun hm=>?_⟩;rcases G7.mp hm with e | hm
   ·exact absurd c (by rw [e];exact Uo a)
   ·have:=i2 hm
    lia
  ·rw [if_neg (by simpa using c)];refine ⟨by split <;> lia,fun hm=>?_⟩;rcases G7.mp hm with e | hm
   ·subst e;rw [if_pos (decide_eq_true h)];lia
   ·have:=i2 hm
    split <;> lia
theorem lZ (hk:k∈ks):Fx ks k<Fx ks l↔k<l:=by
 refine ⟨fun h=>?_,fun h=>(xQ h ks).2 hk⟩;refine W3 fun c=>?_;have c:l<=k:=List.not_lt.mp c;by_cases e:l=k
 ·subst e;exact absurd h (O9 _)
 ·have c2:l<k:=W3 fun c3=>e (List.le_antisymm c (List.not_lt.mp c3))
  exact absurd h<|Nat.not_lt.mpr (xQ c2 ks).1
theorem m9.fn {h:Heap}{v:Mk}(x:m9 h v k)(y:m9 h v l):k=l:=by
 obtain ⟨a,o,its,n,rfl,ga,_,da,va⟩:=x;obtain ⟨b,u,jts,m,e,gb,_,db,vb⟩:=y;cases e;rw [ga] at gb;cases gb;rw [da] at db;cases db;have go:∀ {k l:List Int} {xs:List Mk},Aw (k.map V.int) xs->Aw (l.map V.int) xs->k=l:=by
  intro k;induction k with
  | nil=>
   intro l xs h1 h2;cases h1;cases l with
   | nil=>rfl
   | cons b l=>cases h2
  | cons a k ih=>
   intro l xs h1 h2;cases h1 with
   | cons r1 h1=>
    cases l with
    | nil=>cases h2
    | cons b l=>
     cases h2 with
     | cons r2 h2=>
      obtain ⟨t,e1⟩:=r1;obtain ⟨u,e2⟩:=r2;rw [e1] at e2;cases e2;rw [ih h1 h2]
 exact go va vb
theorem m9.of {h h':Heap}{v:Mk}(x:m9 h v k)(e:∀ b o,v=.ref b->o.cls=.type "tuple"->h.get? b=FN o->h'.get? b=FN o):m9 h' v k:=by
 obtain ⟨a,o,its,n,rfl,ga,ca,r⟩:=x;exact ⟨a,o,its,n,rfl,e a o rfl ca ga,ca,r⟩
structure Ro (T:Heap->Mk->List Int->Prop):Prop where
 fn:∀ {h:Heap} {v:Mk} {k l:List Int},T h v k->T h v l->k=l
 of:∀ {h h':Heap} {v:Mk} {k:List Int},T h v k->(∀ b o,o.cls=.type "tuple"->h.get? b=FN o->h'.get? b=FN o)->T h' v k
abbrev Oe (T:Heap->Mk->List Int->Prop)(h:Heap):List (List Int)->List Mk->Prop:=Jm fun k v=>T h v k
theorem gB {α β : Type}{F G:α->β->Prop}:∀ {as:List α} {bs:List β},Jm F as bs->(∀ a b,b∈bs->F a b->G a b)->Jm G as bs
 | [],_,h,_=>by cases h;exact .nil
 | a::as,_,h,g=>by
  cases h with
  | cons r h=>exact .cons (g _ _ JW r) (gB h fun a b hb=>g a b (IK _ hb))
section
variable {T:Heap->Mk->List Int->Prop}(F:Ro T)
include F
open Classical in
noncomputable def Oh (_:Ro T)(h:Heap)(v:Mk):List Int:=if e:∃ k,T h v k then e.choose else []
theorem fU {h:Heap}{v:Mk}(x:T h v k):Oh F h v=k:=by
 unfold Oh;have e:∃ k,T h v k:=⟨k,x⟩
 rw [dif_pos e,F.fn e.choose_spec x]
theorem keys_map {h:Heap}:∀ {ks:List (List Int)} {vs:List Mk},Oe T h ks vs->ks=vs.map (Oh F h)/\∀ v∈vs,∃ k∈ks,T h v k
 | [],_,p=>by cases p;exact ⟨rfl,fun _ h=>nomatch h⟩
 | k::ks,_,p=>by
  cases p with
  | cons r p=>
   obtain ⟨e,g⟩:=keys_map p;refine ⟨by rw [Bu,fU F r,<-e],fun v hv=>?_⟩;rcases G7.mp hv with rfl | hv
   ·exact ⟨k,JW,r⟩
   ·obtain ⟨l,hl,x⟩:=g v hv;exact ⟨l,IK _ hl,x⟩
theorem qK {h:Heap}:∀ {vs:List Mk},(∀ v∈vs,∃ k,T h v k)->Oe T h (vs.map (Oh F h)) vs
 | [],_=>.nil
 | v::vs,g=>by
  obtain ⟨k,x⟩:=g v JW;exact .cons (by rw [fU F x];exact x)<|qK fun u hu=>g u<|IK _ hu
noncomputable def RD (F:Ro T)(h:Heap)(ks:List (List Int))(v:Mk):Nat:=Fx ks (Oh F h v)
theorem aeI {h:Heap}{vs:List Mk}(p:Oe T h ks vs)(hp:b.Perm (Oj vs))(hr:bB (RD F h ks) b 0 vs.length):
  ∃ ks',Oe T h ks' (b.map (·.2)).toList/\ks'.Perm ks/\ks'.Pairwise (· < ·)/\(b.map (·.2)).toList.Perm vs:=by
 obtain ⟨ek,g⟩:=keys_map F p;have hl:=Array.perm_iff_toList_perm.mp hp;have ep:(Oj vs).toList=vs.map fun v=>(v,v):=by
  have z:∀ l:List Mk,l.zip l=l.map fun v=>(v,v):=fun l=>by
   induction l with
   | nil=>rfl
   | cons a l ih=>rw [Tg,ih];rfl
  unfold Oj;rw [Array.toList_zip];exact z vs
 rw [ep] at hl;have same:∀ x∈b.toList,x.1=x.2/\x.2∈vs:=fun x hx=>by
  obtain ⟨v,hv,rfl⟩:=GX.mp (hl.mem_iff.mp hx);exact ⟨rfl,hv⟩
 have po:(b.toList.map (·.2)).Perm vs:=by
  have:=hl.map (·.2)
  rw [JV] at this
  simpa [Function.comp_def] using this
 rw [Array.toList_map];refine ⟨(b.toList.map (·.2)).map (Oh F h),qK F fun v hv=>?_,?_,?_,po⟩
 ·obtain ⟨k,_,x⟩:=g v (po.mem_iff.mp hv);exact ⟨k,x⟩
 ·rw [ek];exact po.map _
 ·rw [JV,T3,Vz];intro i j hi hj hij;have hb:b.toList.length=vs.length:=by have:=po.length_eq;simpa using this
  have:=hr i j (Ja _) hij (by rw [<-hb];exact hj)
  rw [fZ (by simpa using hi),fZ (by simpa using hj)] at this;have e1:=same b[i] (by simp);have e2:=same b[j] (by simp);rw [e1.1,e2.1] at this;exact (lZ (by rw [ek];exact GX.mpr ⟨_,e1.2,rfl⟩)).mp this
theorem zba {h:Heap}{KS:List (List Int)}{vs:List Mk}(p:Oe T h ks vs):((Oj vs).toList.map fun x=>RD F h KS x.1)=ks.map (Fx KS):=by
 have ep:(Oj vs).toList.map (·.1)=vs:=by
  unfold Oj;rw [Array.toList_zip,List.map_fst_zip (Bp _)]
 rw [(keys_map F p).1,JV];conv=>rhs;rw [<-ep]
 rw [JV];rfl
end
theorem adn (nd:ks.Nodup):(ks.map (Fx ks)).Nodup:=by
 unfold List.Nodup;rw [T3];refine List.Pairwise.imp_of_mem (fun {k l} hk hl ne e=>ne ?_) nd;have n1:¬ k<l:=fun c=>by have:=(lZ hk).mpr c;lia
 have n2:¬ l<k:=fun c=>by have:=(lZ hl).mpr c;lia
 exact List.le_antisymm (List.not_lt.mp n2)<|List.not_lt.mp n1
abbrev S7 (h:Heap)(a:Addr)(vs:List Mk):Heap:=((h.update a (SJ fun _=>#[])).push (La "tuple" vs.toArray 0)).push (La "list" #[] 0)
structure SkT (P:DI) (w:Bw) (A:DW) {T:Heap->Mk->List Int->Prop} (F:Ro T) (kd:SX) (ks:List (List Int)) (vs:List Mk):Prop where
 kind:∀ {E:Mk->Ai->Prop} {s:Ai} {Q:SX->Ai->Prop},2<=vs.length->Oe T s.heap ks vs->Q kd s->Ay (Ax P w) A (keyKind' vs.toArray) Q E s
 cmp:∀ {s:Ai},Oe T s.heap ks vs->Km P w A s kd (RD F s.heap ks) (·∈vs)
theorem zbs {T:Heap->Mk->List Int->Prop}{F:Ro T}{a:Addr}{vs:List Mk}{n:Nat}{R:Fin->Ai->Prop}(S:SkT P w A F kd ks vs)(ho:s.heap.get? a=FN (La "list" vs.toArray n))(p:Oe T s.heap ks vs)(nd:ks.Nodup)(hz:vs.length<=Dp)
  (q:∀ (out:Array Mk) (ks':List (List Int)),Oe T s.heap ks' out.toList->ks'.Perm ks->ks'.Pairwise (· < ·)->out.toList.Perm vs->R (.done (.ret .none)) { s with heap:=sortedHeap s.heap a vs out }) :
  Ay (Ax P w) A (Qt.«list.sort» ⟨[.ref a],[]⟩) R E s:=by
 have la:a<s.heap.objs.size:=Ej ho;rw [list_sort_plain];refine Ao<|listItems_at ho rfl<|Ao<|listUpdate_at ho rfl ?_ (by simpa using hz)<|Ja _
 obtain ⟨e1,h1⟩:∃ e1,(s.heap.update a (SJ fun _=>#[])).get? a=FN (La "list" #[] e1):=⟨_,get?_update_seq ho (fun _=>#[])⟩
 refine Ao<|seqEpoch_at h1 rfl<|Ao<|wpAny_newTuple<|Ao<|wpAny_newList<|NK ?_
 have h6:(S7 s.heap a vs).get? a=FN (La "list" #[] e1):=Eo _ (Eo _ h1);have keep:∀ b o,o.cls=.type "tuple"->s.heap.get? b=FN o->(S7 s.heap a vs).get? b=FN o:=fun b o hc hb=>by
  have ne:b≠a:=fun e=>by rw [e,ho] at hb;cases hb;simp at hc
  exact Eo _<|Eo _<|(TJ _ _<|Im ne).trans hb
 have p6:Oe T (S7 s.heap a vs) ks vs:=gB p fun k v _ x=>F.of x keep
 show Ay (Ax P w) A _ R E { s with heap:=S7 s.heap a vs };dsimp only;have size:vs.toArray.size=vs.length:=by simp
 have fin:∀ b:Array Bo,b.Perm (Oj vs)->bB (RD F (S7 s.heap a vs) ks) b 0 vs.length->R (.done (.ret .none)) { s with heap:=sortedHeap s.heap a vs (b.map (·.2)) }:=fun b hp hr=>by
  obtain ⟨ks',g1,g2,g3,g4⟩:=aeI F p6 hp hr;refine q _ ks' (gB g1 fun k v hv x=>?_) g2 g3 g4;obtain ⟨l,_,y⟩:=(keys_map F p).2 v (g4.mem_iff.mp hv);exact F.fn (F.of y keep) x ▸ y
 by_cases h2:vs.toArray.size<2
 ·rw [if_pos h2,if_pos h2];refine Ao<|Ba ?_
  rw [StateT.run_pure];refine Ao<|Ba ?_
  dsimp only;refine Ao<|seqEpoch_at h6 rfl<|Ao<|listUpdate_at h6 rfl ?_ (hsz2:=?_)
  ·simp only [bne_self_eq_false,Qp,if_false];refine Ba<|fin (vs.toArray.zip vs.toArray) (Array.Perm.refl _) fun u v _ h3 h4=>?_
   lia
  ·rw [Array.size_map];show (Oj vs).size<=_;rw [pairsOf_size];lia
 ·rw [if_neg h2,if_neg h2];refine Ao<|S.kind (by lia) p6<|Ao ?_
  have ep:(Oj vs).toList.map (·.1)=vs:=by
   unfold Oj;rw [Array.toList_zip,List.map_fst_zip (Bp _)]
  have ok:Kz kd (RD F (S7 s.heap a vs) ks) (·∈vs) (SortSt.mk' kd (Oj vs) #[] 7 FX):=⟨rfl,rfl,⟨fun x hx=>by show x.1∈vs;rw [<-ep];exact GX.mpr ⟨x,hx,rfl⟩,by
   rw [zba F p6];exact adn nd⟩⟩
  have zp:(Oj vs).size=vs.length:=pairsOf_size _;refine KN (agy (s:={ s with heap:=S7 s.heap a vs }) (Q:=fun _ st'=>(Bk st').Perm (Oj vs)/\failedOf st'=FX/\bB (RD F (S7 s.heap a vs) ks) (Bk st') 0 vs.length) (S.cmp p6) ok rfl (by show 2<=(Oj vs).size;lia) fun st' g1 g2 g3=>⟨g1,g2,by rw [<-zp];exact g3⟩) (fun r s' hr=>?_) fun _ _ e=>e
  ·obtain ⟨r1,st'⟩:=r;obtain ⟨rfl,g1,g2,g3⟩:=hr;dsimp only;refine Ao<|seqEpoch_at h6 rfl<|Ao<|listUpdate_at h6 rfl ?_ (hsz2:=?_)
   ·rw [g2];simp only [bne_self_eq_false,Qp,if_false];exact Ba<|fin _ g1 g3
   ·rw [Array.size_map,g1.size_eq,zp];lia
theorem lX {T:Heap->Mk->List Int->Prop}{F:Ro T}{v:Mk}{vs:List Mk}{Q:Mk->Ai->Prop}(S:SkT P w A.in1.in1 F kd ks vs)
  (col:∀ {E:Mk->Ai->Prop} {Q:List Mk->Ai->Prop},(∀ h' tk,(∀ b o,s.heap.get? b=FN o->h'.get? b=FN o)->s.heap.objs.size<h'.objs.size->Q vs { s with heap:=h',toks:=tk })->Ay (Ax P w) A.in1 (collect v) Q E s)
  (p:Oe T s.heap ks vs) (nd:ks.Nodup) (hz:vs.length<=Dp)
  (q:∀ (h':Heap) (tk:Nat) (l:Addr) (out:Array Mk) (ks':List (List Int)) (c:Nat),(∀ b o,s.heap.get? b=FN o->h'.get? b=FN o)->s.heap.objs.size<=l->h'.get? l=FN (La "list" out c)->Oe T s.heap ks' out.toList->ks'.Perm ks->ks'.Pairwise (· < ·)->out.toList.Perm vs->Q (.ref l) { s with heap:=h',toks:=tk }) :
  Ay (Ax P w) A (call (.builtin "sorted") [v]) Q E s:=by
 refine Calls.call_function_entry kind_sorted plain_sorted entry_sorted (args_sorted1 _) ?_;unfold Qt.«sorted»;refine Ao (m:=checkCount "sorted" 1 1 _)<|Ba ?_
 refine Ao<|col fun h1 tk k1 lt1=>Ao<|wpAny_newList ?_
 have ho:(h1.push (La "list" vs.toArray 0)).get? h1.objs.size=FN (La "list" vs.toArray 0):=Ip _ rfl;have k2:∀ b o,s.heap.get? b=FN o->(h1.push (La "list" vs.toArray 0)).get? b=FN o:=fun b o hb=>Eo _ (k1 b o hb)
 have p2:Oe T (h1.push (La "list" vs.toArray 0)) ks vs:=gB p fun k v _ y=>F.of y fun b o _ hb=>k2 b o hb
 show Ay _ _ _ _ _ { s with heap:=h1.push (La "list" vs.toArray 0),toks:=tk };refine Ao<|NK<|Qk slot_list_sort ⟨_,ho,rfl⟩ entry_list_sort (zbs (s:={ s with heap:=h1.push (La "list" vs.toArray 0),toks:=tk }) S ho p2 nd hz fun out ks' g1 g2 g3 g4=>⟨_,rfl,Ba ⟨_,rfl,?_⟩⟩)<|args_list_sort _
 obtain ⟨c,e⟩:=sortedHeap_at (a:=h1.objs.size) (vs:=vs) (out:=out) ho;refine q _ tk _ out ks' c (fun b o hb=>?_) (KQ lt1) e ?_ g2 g3 g4
 ·have lt:=Ej (k1 b o hb);rw [sortedHeap_old (G3 lt) (FJ lt (by rw [size_push'];exact Qe _))];exact k2 b o hb
 ·refine gB g1 fun k v hv y=>?_;obtain ⟨l,_,z⟩:=(keys_map F p).2 v (g4.mem_iff.mp hv);exact F.fn (F.of z fun b o _ hb=>k2 b o hb) y ▸ z
theorem pX:Ro m9:=⟨m9.fn,fun x k=>x.of fun b o _ hc hb=>k b o hc hb⟩
theorem Wz {vs:List Mk}(hn:2<=ks.length->∀ k∈ks,k≠[]):SkT P w A pX (tuples' true) ks vs:=by
 refine ⟨fun h2 p q=>ady p (hn (by rw [p.length];exact h2)) (KQ h2) q,fun p E Q x y mx my q=>?_⟩;obtain ⟨k,hk,hx⟩:=(keys_map pX p).2 x mx;obtain ⟨l,_,hy⟩:=(keys_map pX p).2 y my;refine aeb hx hy ?_;unfold RD at q;rw [fU pX hx,fU pX hy] at q;rw [<-decide_eq_decide.mpr (lZ (ks:=ks) (l:=l) hk)];exact q
theorem acf {es:Array Py}{Q:Mk->Ai->Prop}(hh:A.handled=FX)(nd0:(d==Kv)=false)(x:Bf s.heap d es ep)(hz:es.size<=Dp)
  (p:Jm (fun k v=>m9 s.heap v k) ks (es.toList.map (·.key))) (hne:2<=ks.length->∀ k∈ks,k≠[]) (nd:ks.Nodup)
  (q:∀ (h':Heap) (tk:Nat) (l:Addr) (out:Array Mk) (ks':List (List Int)) (c:Nat),(∀ b o,s.heap.get? b=FN o->h'.get? b=FN o)->s.heap.objs.size<=l->h'.get? l=FN (La "list" out c)->Jm (fun k v=>m9 s.heap v k) ks' out.toList->ks'.Perm ks->ks'.Pairwise (· < ·)->out.toList.Perm (es.toList.map (·.key))->Q (.ref l) { s with heap:=h',toks:=tk }) :
  Ay (Ax P w) A (call (.builtin "sorted") [.ref d]) Q E s:=lX (Wz hne) (pI (A:=A.in1) hh nd0 x hz) p nd (by simpa using hz) q
end
theorem rJ {α β : Type}{f:α->β}{l l':List β}(h:l'.Perm l):∀ {xs:List α},l=xs.map f->∃ ys:List α,ys.Perm xs/\l'=ys.map f:=by
 induction h with
 | nil=>
  intro xs e;cases xs with
  | nil=>exact ⟨[],.refl _,rfl⟩
  | cons x xs=>simp at e
 | cons a h ih=>
  intro xs e;cases xs with
  | nil=>simp at e
  | cons x xs=>
   rw [Bu] at e;obtain ⟨e1,e2⟩:=Pz e;obtain ⟨ys,p,e3⟩:=ih e2;exact ⟨x::ys,p.cons x,by rw [Bu,<-e1,<-e3]⟩
 | swap a b l=>
  intro xs e;match xs with
  | []=>simp at e
  | [x]=>simp at e
  | x::y::xs=>
   rw [Bu,Bu] at e;obtain ⟨e1,e2⟩:=Pz e;obtain ⟨e2,e3⟩:=Pz e2;exact ⟨y::x::xs,.swap x y xs,by rw [Bu,Bu,<-e1,<-e2,<-e3]⟩
 | trans h1 h2 i1 i2=>
  intro xs e;obtain ⟨ys,p,e1⟩:=i2 e;obtain ⟨zs,p2,e2⟩:=i1 e1;exact ⟨zs,p2.trans p,e2⟩
section
variable {X:Cx}{K:Az}
theorem GQ {ahJ:List (Addr×Obj)}{Z : St}{H:Hp}{s:Ai}{b:Addr}(I:Av X ahJ Z H s)(h:Ew X.K H b (k.map V.int)):m9 s.heap (.ref b) k:=by
 obtain ⟨its,r,⟨o,ho,hc,n,hd⟩,_⟩:=I.tuple h;exact ⟨b,o,its.toArray,n,rfl,ho,hc,hd,by simpa using r⟩
def BP (ks:List (List Int)):Prop:=2<=ks.length->∀ k∈ks,k≠[]
theorem abX (hc:X.calm=true):fL X (.builtin "sorted") (fun vs H Q=>∃ a xs,vs=[.ref a]/\H a=FN (.ext (Cr a xs))/\HN X.K H xs/\BP (xs.map (·.1)) /\
  ∀ ys:List (List Int×Addr×Mk),ys.Perm xs->(ys.map (·.1)).Pairwise (· < ·)->∀ l,H l=FX->Q (.ref l) (Dd H l (.lst (ys.map fun y=>V.ref y.2.1)))):=by
 intro ahJ s Z H vs us Q I r ⟨a,xs,ev,hx,hk,c1,q⟩;subst ev;obtain ⟨u,rfl,ru⟩:=Gv r;cases ru;obtain ⟨⟨z,y,nd,o,es,ep,g1,g2,g3,g4⟩,_⟩:=I.hok a _ hx;have ek:es.toList.map (·.key)=xs.map fun x=>Value.ref x.2.1:=by
  rw [g4,JV];rfl
 have p:∀ zs:List (List Int×Addr×Mk),(∀ x∈zs,x∈xs)->Jm (fun k v=>m9 s.heap v k) (zs.map (·.1)) (zs.map fun x=>Value.ref x.2.1):=fun zs hz=>by
  induction zs with
  | nil=>exact .nil
  | cons x zs ih=>exact .cons (GQ I (hk x (hz x JW))) (ih fun y hy=>hz y (IK _ hy))
 have le:es.size=xs.length:=by rw [<-Tp,g4,Bx]
 refine acf (I.ok.hd hc) y ⟨o,g1,g2,g3⟩ (by rw [le];exact z) (ks:=xs.map (·.1)) (by rw [ek];exact p xs fun _ h=>h) (show 2<=(xs.map (·.1)).length->∀ k∈xs.map (·.1),k≠[] from c1) nd fun h' tk l out ks' c keep hl e pr pm pw po=>?_;rw [ek] at po;obtain ⟨ys,py,eo⟩:=rJ po rfl;have hy:=p ys fun x hx=>py.mem_iff.mp hx
 have eks:ks'=ys.map (·.1):=by
  rw [eo] at pr;exact (keys_map pX pr).1.trans (keys_map pX hy).1.symm
 rw [eks] at pw;refine ⟨.ref l,_,I.laid (t':=tk) keep hl<|show d9 X.prog X.w _ h' _ (.lst<|ys.map fun y=>V.ref y.2.1) from ⟨by rw [Bx,py.length_eq];exact z,out.toList,c,?_,by simpa using e⟩,rfl,q ys py pw l<|I.hok.fresh hl⟩;rw [eo];clear eo pr eks pw hy py po;induction ys with
 | nil=>exact .nil
 | cons y ys ih=>exact .cons rfl ih
def Fy:MC:=fun ws h Q=>match ws with
 | [.loc n]=>(match h.c n with
  | some (.dtt kvs)=>BP (kvs.map (·.1))/\∀ ks:List (List Int),ks.Perm (kvs.map (·.1))->ks.Pairwise (· < ·)->Q (.lst (ks.map fun k=>.tup (k.map .int))) h
  | _=>False)
 | _=>False
theorem aej (hc:X.calm=true):fD X (.builtin "sorted") Fy:=⟨_,abX hc,by
 intro H μ h vs ws Qw Q R r m k;unfold Fy at m;split at m
 ·rename_i n;split at m
  ·rename_i kvs ec;obtain ⟨p,xs,vs',hp,hx,e1,e2,r3,r4⟩:=R.dttAt ec;obtain ⟨v,rfl,r1⟩:=jH r;rw [Ak] at r1;obtain ⟨p',rfl,hp'⟩:=r1;have ep:p'=p:=by rw [hp] at hp';exact (Eu hp').symm
   subst ep;obtain ⟨m1,m2⟩:=m;rw [e1] at m1 m2;refine ⟨p',xs,rfl,hx,jj e1 r3,m1,fun ys py pw l hl=>?_⟩;refine k _ _ ⟨μ,_,h,(Ex.laid hl).ext,R.laid hl,?_,m2 (ys.map (·.1)) (py.map _) pw⟩;refine .lstNew R hl ?_;have kk:=jj e1 r3;have go:∀ zs:List (List Int×Addr×Mk),(∀ z∈zs,z∈xs)->aM X.K H μ ((zs.map (·.1)).map fun k=>W.tup (k.map .int)) (zs.map fun y=>V.ref y.2.1):=fun zs hz=>by
    induction zs with
    | nil=>exact .nil
    | cons z zs ih=>
     refine aM.cons ?_<|ih fun y hy=>hz y<|IK _ hy
     rw [Ak];exact ⟨z.2.1,z.1.map V.int,rfl,kk z<|hz z JW,j4 _⟩
   exact go ys fun z hz=>py.mem_iff.mp hz
  ·exact m.elim
 ·exact m.elim⟩
end
section
variable {X:Cx}{o:Expr}{mo:ME}{ma:MA}{apos ahL:Pos}
def Fo:MM:=fun x ws h Q=>match x,ws with
 | .loc n,[y,z]=>(match h.c n,Ie y with
  | some (.dtt kvs),FN k=>Q ((wC kvs k).getD z) h
  | _,_=>False)
 | _,_=>False
def Hg (h:Gh)(x:W)(P:Prop):Prop:=match x with
 | .loc n=>(match h.c n with
  | some (.dtt _)=>P
  | _=>False)
 | _=>False
def YH (r:MM)(mo:ME)(ma:MA):ME:=fun Z h Q=>mo Z h fun x h1=>Hg h1 x (ma Z h1 fun xs h2=>r x xs h2 Q)
theorem Wu (hu:X.A.units+30<Gf)(ho:DE X o mo)(ha:Jc X [e1,e2] ma)
  (hbase:attributeBase o "get" X.env (eval o X.env)=eval o X.env:=by rfl)
  (hfew:((J9 ahL (Dh [e1,e2] X.env)).all (fun x=>!x.1)&&(backToKw ahL (Ug [] X.env)).all (fun x=>x.1.isSome)
   && decide (([e1,e2]:List Expr).length+([]:List O7).length+(if ([]:List O7).isEmpty then 0 else 1)<30))=true:=by rfl)
  (hline:(apos.endLine==ahL.line)=true:=by rfl) (hst:Dh [e1,e2] X.env=(false,eval e1 X.env)::Dh [e2] X.env:=by rfl) (hplain:(J9 ahL (Dh [e2] X.env)).any (·.1)=false:=by rfl) :
  DE X (.Call (.Attribute o "get" apos) [e1,e2] [] ahL) (YH Fo mo ma):=by
 intro ahJ s Z H Q I ⟨μ,h,Zw,Qw,R,S,m,k⟩;refine wpAny_Call_method_late hbase hfew hline rfl<|Ei (ho ahJ s Z H _ I ⟨μ,h,Zw,_,R,S,m,fun _ _ z=>z⟩) fun u s1 ⟨x,H1,I1,rx,μ1,wx,h1,e1',R1,r1,il⟩=>?_
 unfold Hg at il;dsimp only at il;split at il
 ·rename_i n;split at il
  ·rename_i kv0 ec0;have r0:=r1;rw [Ak] at r1;obtain ⟨a,rfl,ha'⟩:=r1;obtain rfl:u=Value.ref a:=rx;obtain ⟨p,xs,vs,hp,hx,_⟩:=R1.dttAt ec0;have ep:p=a:=by rw [ha'] at hp;exact (Eu hp).symm
   subst ep;obtain ⟨⟨z,y,nd,ob,es,epo,g1,g2,g3,g4⟩,_⟩:=I1.hok p _ hx;refine ⟨"dict", "dict.get",PySem.F.plainAttrs_dict,Wc,PySem.F.type_dict_get,⟨ob,g1,g2.1⟩,fun b e=>by cases e;exact ⟨ob,g1,g2.2.1⟩,?_⟩;have hA:=ha ahL ahJ s1 Z H1 _ I1 ⟨μ1,h1,Zw,_,R1,S.ext e1',il,fun _ _ z=>z⟩;rw [hst] at hA |-
   refine Calls.callWith_builtin (by show (false||(J9 ahL<|Dh [e2] X.env).any (·.1))=false;rw [hplain] <;> rfl)<|Calls.evalArgs_plain ?_
   refine Ei hA fun us s2 ⟨ys,H2,I2,r2,μ2,ws,h2,e2',R2,rs,m2⟩=>?_;unfold Fo at m2;dsimp only at m2;split at m2
   ·rename_i n' y' z' e3;cases e3;split at m2
    ·rename_i kvs kk ec ek;obtain ⟨v1,v2,rfl,ry,rz⟩:=BR rs;obtain ⟨b,rfl,hb⟩:=ji ry ek;obtain ⟨u1,u2,rfl,ru1,ru2⟩:=Kp r2;cases ru1;obtain ⟨p2,xs2,vs2,hp2,hx2,q1,q2,q3,q4⟩:=R2.dttAt ec;have r0':=e2'.r _ _ r0;rw [Ak] at r0';obtain ⟨a2,ea,ha2⟩:=r0';cases ea;have ep2:p2=p:=by rw [ha2] at hp2;exact (Eu hp2).symm
     subst ep2;obtain ⟨_,hd2,dd⟩:=wI I2 hx2 (jj q1 q3);obtain ⟨t1,t2⟩:=rW q1 q2 q4 kk;refine call_meetsIn Wc dd.typeIs PySem.F.entry_dict_get (PySem.F.args_dict_get_3 _ _ _) (meetsH_dict_get_default (tupleKind<|RL X.prog X.w) p2 b hd2 u2) ⟨tupleKind_room_in1<|by lia,kk,xs2,vY I2 hb,dd,?_⟩;cases ev:wC kvs kk with
     | some wv=>
      rw [ev] at m2;obtain ⟨pp,v,a1,a2,a3⟩:=t1 wv ev;rw [a1];exact ⟨v,H2,I2.tok _,a2,k _ _ ⟨μ2,wv,h2,e1'.trans e2',R2,a3,m2⟩⟩
     | none=>
      rw [ev] at m2 t2;have a1:atKey xs2 kk=FX:=by
       cases e:atKey xs2 kk with
       | none=>rfl
       | some _=>rw [e] at t2;cases t2
      rw [a1];exact ⟨v2,H2,I2.tok _,ru2,k _ _ ⟨μ2,z',h2,e1'.trans e2',R2,rz,m2⟩⟩
    ·exact m2.elim
   ·exact m2.elim
  ·exact il.elim
 ·exact il.elim
end
section
variable {X:Cx}{K:Az}
theorem zaK (hc:X.calm=true):fL X (.builtin "min") (fun xs H Q=>∃ (p:Addr) (ns:List Int),xs=[.ref p]/\Ij X.K H p (ns.map V.int)/\0<ns.length/\∀ M,M∈ns->(∀ a,a∈ns->M<=a)->Q (.int M) H):=by
 intro ahJ s Z H xs us Q I r ⟨p,ns,e,hS,hne,q⟩;subst e;obtain ⟨u,rfl,ru⟩:=Gv r;cases ru;obtain ⟨its,rv,pl,hz⟩:=I.list hS;have ahK:its.length=ns.length:=by rw [<-rv.length,Bx]
 have all:AllInts its.toArray:=fun v hv=>by
  obtain ⟨i,hi,e⟩:=Array.mem_iff_getElem.mp hv;obtain ⟨t,e2⟩:=xu (i:=i) (v:=v) rv (by rw [<-e];simp at hi |-);exact ⟨_,t,e2⟩
 obtain ⟨ys,ey⟩:=all.items;have hl:=pl.isList;rw [ey] at hl;have hys:ys.size=ns.length:=by
  have:=congrArg Array.size ey
  simp [intItems] at this;lia
 have num:∀ i,i<ns.length->numAt ys i=ns.getD i 0:=fun i hi=>by
  obtain ⟨t,e2⟩:=xu (i:=i) (v:=its[i]'(by lia)) rv (Gz (by lia));have e3:(intItems ys)[i]?=FN (its[i]'(by lia)):=by rw [<-ey];simp
  obtain ⟨t',e4⟩:=intItems_at e3;rw [e2] at e4;injection e4 with e5 _
  exact e5.symm
 refine min_intList (I.ok.hd hc) hl (by lia) fun v h' tk hv hk=>?_;obtain ⟨t,rfl⟩:=intItems_at hv;obtain ⟨h1,h2⟩:=argBest_lt (numAt ys) (ys.size - 1);refine ⟨.int _,H,I.kept (h':=h') (t':=tk) hk,⟨t,rfl⟩,q _ ?_ fun a ha=>?_⟩
 ·rw [num _ (by lia),Nt,Gz (by lia)];exact U7 _
 ·obtain ⟨j,hj,e⟩:=Vr.mp ha;have:=h2 j (by lia)
  rw [num j hj,Nt,Gz hj] at this;rw [<-e];exact this
def Nj:MC:=fun ws h Q=>match ws with
 | [w]=>(match dX h w with
  | some us=>∃ ns:List Int,us=ns.map W.int/\0<ns.length/\∀ M,M∈ns->(∀ a,a∈ns->M<=a)->Q (.int M) h
  | none=>False)
 | _=>False
theorem zcx (hc:X.calm=true):fD X (.builtin "min") Nj:=⟨_,zaK hc,by
 intro H μ h vs ws Qw Q R r m k;unfold Nj at m;split at m
 ·split at m
  ·rename_i w us ev;obtain ⟨v,e,rv⟩:=jH r;obtain ⟨p,ys,ex,hs,rs⟩:=cW R rv ev;obtain ⟨ns,eu,hne,m⟩:=m;subst e ex;rw [eu] at rs;have:=q9 rs
   subst this;exact ⟨p,ns,rfl,hs,hne,fun M hM ha=>k _ _<|.int R<|m M hM ha⟩
  ·exact m.elim
 ·exact m.elim⟩
variable {o e:Expr}{mo:ME}{ma:MA}{apos ahL:Pos}
end
section
variable {prog:DI}{w:Bw}{A:DW}{E:Mk->Ai->Prop}{L I:Addr}{ns:List Int}{its:List Mk}
def Gr (ns:List Int)(j:Nat)(b:Int):Prop:=b∈ns/\∀ k,k<j->ns.getD k 0<=b
end
section
variable {X:Cx}
end
section
open AutoSeq1 (wpAny_loadPart')
end
section
variable {prog:DI}{w:Bw}{A:DW}{E:Mk->Ai->Prop}{s:Ai}
end
section
variable {X:Cx}{K:Az}
end
section
variable {prog:DI}{w:Bw}{A:DW}{L I:Addr}{its:List Mk}
end
section
variable {X:Cx}{K:Az}
def YQ (h:Gh)(x y:W):Option Src:=match pH x,y with
 | some as,.loc n=>(match h.c n with
  | some (.lst bs)=>FN ⟨m6 as bs,FN (n,bs)⟩
  | _=>FX)
 | _,_=>FX
end
theorem Ng:∀ k l:List Int,HT.lexLt k l=decide (k<l)
 | [],[]=>by simp [HT.lexLt]
 | [],b::l=>by simp [HT.lexLt]
 | a::k,[]=>by simp [HT.lexLt]
 | a::k,b::l=>by
  unfold HT.lexLt;by_cases e:a=b
  ·subst e;rw [if_pos (by first | rfl | simp),Ng k l];exact decide_eq_decide.mpr (by rw [Qs];simp [Int.lt_irrefl])
  ·rw [if_neg (by simpa using e)];exact decide_eq_decide.mpr (by rw [Qs];simp [e])
section
variable {X:Cx}
def Vb:M2:=fun x y h Q=>match Ie x,Ie y with
 | some k,FN l=>Q (.bl (decide (k<l))) h
 | _,_=>False
theorem ZR (hu:X.A.units+30<Gf):Js X (Jb .Lt) Vb:=⟨_,aep (by lia),by
 intro H μ h x y wx wy Qw Q R rx ry m k;unfold Vb at m;split at m
 ·rename_i kk ll e1 e2;obtain ⟨a,ea,ha⟩:=ji rx e1;obtain ⟨b,eb,hb⟩:=ji ry e2;rw [<-Ng] at m;exact ⟨a,b,kk,ll,ea,eb,ha,hb,k _ _<|.bl R m⟩
 ·exact m.elim⟩
end
section
variable {prog:DI}{w:Bw}{A:DW}{E:Mk->Ai->Prop}{s:Ai}
theorem oh:typeLookup (.type "tuple") "keys" = pure FX:=by rw [typeLookup_type,builtinLookup_eq_fast];kernel_rfl
theorem ach {a:Addr}{o:Obj}{xs:Array Mk}{k:Nat}{Q:Option Mk->Ai->Prop}(hx:s.heap.get? a=FN o)(hc:o.cls=.type "tuple")(hdat:o.data=.seq xs k)(hd:o.dict=FX)(hA:A.handled=FX)
  (h:∀ h' tk,(∀ b ob,s.heap.get? b=FN ob->h'.get? b=FN ob)->Q FX { s with heap:=h',toks:=tk }):Ay (Ax prog w) A (getAttr? (.ref a) "keys") Q E s:=by
 obtain ⟨c,dct,dat,sl⟩:=o;simp only at hc hdat hd;subst hc hdat hd;obtain ⟨hp,g,d,tk,os⟩:=s;have hT:∀ tk',(⟨hp,g,d,tk',os⟩:Ai).TypeIs (.ref a) "tuple":=fun _=>⟨_,hx,rfl⟩
 have f1:=sub_AttributeError;have f3:=F.slot_tuple_getattribute.lookup;have f4:=F.slot_tuple_getattribute.bind (.ref a);have f5:=am_tuple_getattr_none;unfold getAttr? getAttrBy? getAttrBy;repeat (any_goals (first | assumption | exact hT _ | ((with_reducible show Ay _ _ (call (Value.builtin "tuple.__getattribute__") _ _) _ _ _);refine call_meets F.slot_tuple_getattribute (hT _) am_entry_tuple_getattribute (F.args_tuple_getattribute_2 _ _) (meets_getattribute_miss_tuple a xs k sl "keys" _ oh (by decide) (by size_fits)) ⟨hx,hA,fun h' tk' e hx'=>?_⟩) | wp_step))
 obtain ⟨t',u',he⟩:=hx'.there;show Ay _ _ (getattributeRaised _ _ _ _ _ _ _) _ _ _;unfold getattributeRaised;repeat (any_goals (first | assumption | wp_step))
 exact h _ _ hx'.keeps
theorem uJ:entryFor table "dict.update.loop" = FN Qt.«dict.update.loop»:=entryFor_of_tree (by kernel_rfl)
theorem jR:plainId "dict.update.loop" = true:=by decide +kernel
abbrev Nz (prog:DI)(w:Bw):=tupleKind (RL prog w)
theorem Df {h h':Heap}{a:Addr}(x:(Nz prog w).is h k a)(m:∀ b o,h.get? b=FN o->h'.get? b=FN o):(Nz prog w).is h' k a:=by
 obtain ⟨o,its,n,ho,r⟩:=x;exact ⟨o,its,n,m _ _ ho,r⟩
theorem qO {h0 h h':Heap}{xs:List (List Int×Addr×Mk)}(x:Ud (Nz prog w) h d xs)(hd:∀ o,h.get? d=FN o->h'.get? d=FN o)(hk:∀ y∈xs,(Nz prog w).is h' y.1 y.2.1):Ud (Nz prog w) h' d xs:=by
 obtain ⟨o,es,ep,e1,e2,e3,e4,_,e6⟩:=x;exact ⟨o,es,ep,hd o e1,e2,e3,e4,hk,e6⟩
theorem zaL {I:Addr}{items:Array Mk}{fp:List Addr}{St:Nat->Heap->Prop}(W:Walks prog w A.in1 I fp [I] items.size (fun i v=>items[i]?=FN v) St)(hdf:d∉fp)(hu:A.in1.units<Gf)(h0:Heap)(hd0:h0.get? d=FX)(hI0:h0.get? I=FX)
  {ps:List (List Int×Addr×Mk)} (hp:items.size=ps.length) (hk:∀ (j:Nat) (p:List Int×Addr×Mk),ps[j]?=FN p->∃ q,items[j]?=FN (.ref q)/\IsTup h0 q #[.ref p.2.1,p.2.2]/\(Nz prog w).is h0 p.1 p.2.1) (nd:(ps.map (·.1)).Nodup) (hz:ps.length<=Dp) :
  ∀ (k j:Nat) (s:Ai) (t:Tok),ps.length - j=k->j<=ps.length->St j s.heap->Ud (Nz prog w) s.heap d (ps.take j)->(∀ b o,h0.get? b=FN o->s.heap.get? b=FN o) ->
  (∀ h' tk,Ud (Nz prog w) h' d ps->(∀ b o,h0.get? b=FN o->h'.get? b=FN o)->R (.ok (.ret .none)) { s with heap:=h',toks:=tk }) ->
  Pb (Ax prog w) A (.builtin "dict.update.loop" ⟨[.ref d,.ref I,.int (j:Int) t,.none],[]⟩) R s:=by
 have dI:d≠I:=fun e=>hdf (W.sub d (by rw [e];simp))
 have keys:∀ (j:Nat) (h':Heap),(∀ b o,h0.get? b=FN o->h'.get? b=FN o)->∀ y∈ps.take j,(Nz prog w).is h' y.1 y.2.1:=fun j h' m y hy=>by
  obtain ⟨i,hi,e⟩:=Vr.mp (VP hy);obtain ⟨q,_,_,hq⟩:=hk i y (by rw [<-e];exact Gz hi);exact Df hq m
 intro k;induction k with
 | zero=>
  intro j s t hkj hj st hm h00 hR;have ej:j=ps.length:=by lia
  refine Tc uJ ?_;rw [Uq jR _];show Ay _ A.in1 (Ni (.ref I) >>= _) _ _ s;refine Ao<|W.done s _ _ (by rw [hp,<-ej];exact st) fun h' tk hk'=>?_
  have m:∀ b o,h0.get? b=FN o->h'.get? b=FN o:=fun b o e=>hk' b o (by intro z;rw [Jr.mp z,hI0] at e;cases e) (h00 b o e)
  have hm':Ud (Nz prog w) h' d ps:=by
   rw [ej,K3] at hm;refine qO (h0:=h0) hm (fun o e=>hk' d o (by simpa using dI) e) fun y hy=>keys ps.length h' m y (by rw [K3];exact hy)
  exact Ao<|Ba<|Ba<|hR h' tk hm' m
 | succ k ih=>
  intro j s t hkj hj st hm h00 hR;have hlt:j<ps.length:=by lia
  have ep:ps[j]?=FN ps[j]:=Gz hlt;generalize ps[j]=p at ep;obtain ⟨q,eq,hq,hkey⟩:=hk j p ep;refine Tc uJ ?_;rw [Uq jR _];show Ay _ A.in1 (Ni (.ref I) >>= _) _ _ s;refine Ao<|W.item j s _ _ (by rw [hp];exact hlt) st fun v h' tk hP st' hk'=>?_
  have ev:v=.ref q:=by rw [eq] at hP;exact (Eu hP).symm
  subst ev;have m:∀ b o,h0.get? b=FN o->h'.get? b=FN o:=fun b o e=>hk' b o (by intro z;rw [Jr.mp z,hI0] at e;cases e) (h00 b o e)
  have hm':Ud (Nz prog w) h' d (ps.take j):=qO (h0:=h0) hm (fun o e=>hk' d o (by simpa using dI) e) (keys j h' m);obtain ⟨oq,goq,cq,nq,dq⟩:=hq;have goq':=m _ _ goq;refine Ao<|NK<|Ao<|wpAny_tryCatch ?_
  unfold Builtin.Dict.pairItems;refine Ao<|Q5 (T := "tuple") ⟨oq,goq',cq⟩ ?_
  rw [if_pos (by decide)];refine Ao<|T7 goq' dq<|Ba ?_
  show Ay _ _ (holding [_,_] (dictSet d _ _)) _ _ _;have hno:atKey (ps.take j) p.1=FX:=by
   unfold atKey;rw [Option.map_eq_none_iff,List.find?_eq_none];intro y hy;have hn:p.1∉(ps.take j).map (·.1):=by
    have e1:ps=ps.take j++p::ps.drop (j+1):=by
     conv=>lhs;rw [<-WM j ps]
     congr 1
     rw [Us hlt];congr 1
     rw [Gz hlt] at ep;exact Eu ep
    rw [e1,Gp,List.nodup_append] at nd;intro z;exact nd.2.2 _ z p.1 (by simp) rfl
   intro z;exact hn<|GX.mpr ⟨y,hy,by simpa using z⟩
  refine NK<|wpAny_dictSet_heap (hsz:=by rw [QC];lia) hu (Df hkey m) hm' fun h2 hd2 hs2=>?_
  rw [storedH_new hno] at hd2;have et:ps.take j++[(p.1,p.2.1,p.2.2)]=ps.take (j+1):=by rw [Ji,ep];rfl
  rw [et] at hd2;have keep2:∀ b o,b≠d->h'.get? b=FN o->h2.get? b=FN o:=fun b o hb e=>hs2.extBut b o hb e
  refine Ba ⟨Ue jR _,?_⟩;have ej:((j:Int)+1)=((j+1:Nat):Int):=by lia
  show Pb _ _ (.builtin "dict.update.loop" ⟨[.ref d,.ref I,.int ((j:Int)+1) 0,.none],[]⟩) _ _;rw [ej];refine ih (j+1) _ 0 (by lia) hlt (W.frame _ _ _ st' fun b hb o e=>keep2 b o (fun z=>hdf<|z ▸ hb) e) hd2 (fun b o e=>keep2 b o (fun z=>by rw [z,hd0] at e;cases e)<|m b o e) fun h3 tk3 d3 m3=>hR h3 tk3 d3 m3
theorem tX {T:Addr}{items:Array Mk}{Q:Mk->Ai->Prop}(hh:A.handled=FX)(hu:A.units+30<Gf)
  (src:∃ o n,s.heap.get? T=FN o/\o.cls=.type "tuple"/\o.data=.seq items n/\o.dict=FX)
  {ps:List (List Int×Addr×Mk)} (hp:items.size=ps.length) (hk:∀ (j:Nat) (p:List Int×Addr×Mk),ps[j]?=FN p->∃ q,items[j]?=FN (.ref q)/\IsTup s.heap q #[.ref p.2.1,p.2.2]/\(Nz prog w).is s.heap p.1 p.2.1) (nd:(ps.map (·.1)).Nodup) (hz:ps.length<=Dp)
  (h:∀ h' tk,Ud (Nz prog w) h' s.heap.objs.size ps->(∀ b o,s.heap.get? b=FN o->h'.get? b=FN o)->Q (.ref s.heap.objs.size) { s with heap:=h',toks:=tk }) :
  Ay (Ax prog w) A (call (.type "dict") [.ref T]) Q E s:=by
 have hhA:A.in1.in1.handled=FX:=hh;have hu2:A.in1.in1.units<Gf:=by
  have:A.in1.in1.units=A.units+1+1:=rfl
  lia
 have hT0:T<s.heap.objs.size:=by
  obtain ⟨o,_,e,_⟩:=src;exact Ej e
 refine callType_codes (Q₁:=fun obj s₁=>obj=.ref s.heap.objs.size/\s₁ = { s with heap:=s.heap.push { cls:=.type "dict",data:=.dict #[] } }) F.kt_called_dict (F.kt_typeCall_dict_1 _) F.entry_dict_init (kt_code_dict_new _ ⟨rfl,rfl⟩) ?_;rintro obj s₁ ⟨rfl,rfl⟩;have hTd:({ s with heap:=s.heap.push { cls:=.type "dict",data:=.dict #[] } }:Ai).TypeIs (.ref s.heap.objs.size) "dict":=⟨_,Ip _ rfl,rfl⟩
 refine ⟨hTd,F.args_dict_init_2 _ _,?_⟩;unfold Qt.«dict.__init__»;refine Ao ?_;unfold Builtin.Dict.selfAndRest;refine Ao<|wpAny_notOrdered_dict hTd ?_
 show Ay _ _ (pure (s.heap.objs.size,[Value.ref T])) _ _ _;refine Ba ?_;show Ay _ _ (Builtin.Dict.updateFrom "dict.__init__" s.heap.objs.size (.ref T) [] .none) _ _ _;unfold Builtin.Dict.updateFrom;have loop:∀ (h1:Heap) (tk1:Nat),(∀ b ob,(s.heap.push { cls:=.type "dict",data:=.dict #[] }).get? b=FN ob->h1.get? b=FN ob)->∀ (h2:Heap) (fp:List Addr) (St:Nat->Heap->Prop),h1.objs.size∉([s.heap.objs.size]:List Addr)->(∀ b ob,h1.get? b=FN ob->h2.get? b=FN ob)->s.heap.objs.size∉fp->Walks prog w A.in1.in1 h1.objs.size fp [h1.objs.size] items.size (fun i v=>items[i]?=FN v) St->St 0 h2 ->
   Pb (Ax prog w) A.in1 (.builtin "dict.update.loop" ⟨[.ref s.heap.objs.size,.ref h1.objs.size,Ol 0,.none],[]⟩) (wants (fun r s₂=>r=.none/\Q (.ref s.heap.objs.size) s₂) E) { s with heap:=h2,toks:=tk1 }:=by
  intro h1 tk1 m1 h2 fp St hne m2 hfp W st;have hd1:=m1 _ _ (Ip s.heap (o:={ cls:=.type "dict",data:=.dict #[] }) rfl);refine zaL (A:=A.in1) W hfp hu2 s.heap (W8<|Bp _) (W8<|KQ<|Ej hd1) hp hk nd hz ps.length 0 _ _ rfl (Ja _) st ?_ (fun b o e=>m2 b o<|m1 b o<|Eo _ e) fun h' tk d m=>⟨rfl,h h' tk d m⟩;exact ⟨_,#[],0,m2 _ _ hd1,⟨rfl,rfl,rfl⟩,rfl,rfl,(fun x hx=>absurd hx QJ),List.nodup_nil⟩
 obtain ⟨o,n,g1,g2,g3,g4⟩:=src;have g1':(s.heap.push { cls:=.type "dict",data:=.dict #[] }).get? T=FN o:=Eo _ g1;refine Ao<|Q5 (T := "tuple") ⟨o,g1',g2⟩ ?_
 rw [if_pos (by decide)];refine Ao<|ach g1' g2 g3 g4 hhA fun h1 tk1 m1=>?_
 rw [if_pos (show (FX:Option Mk).isNone=true from rfl)];refine Ao<|Np ?_
 have hT:h1.IsTuple T items:=⟨o,m1 _ _ g1',g2,n,g3⟩
 refine Ao<|wpAny_pyIter_tuple hT ?_
 have hlt:T<h1.objs.size:=Ej (m1 _ _ g1');have hd1:=Ej (m1 _ _ (Ip s.heap (o:={ cls:=.type "dict",data:=.dict #[] }) rfl));refine Ba ⟨Ue jR _,?_⟩;exact loop h1 tk1 m1 _ _ _ (by simpa using Ky hd1) (fun b ob e=>Eo _ e) (by simp only [G7,QJ,or_false,not_or];exact ⟨G3 hd1,Ky hT0⟩) (Walks.tuple hhA _ T (G3 hlt) items) ⟨⟨_,Ip _ rfl,rfl,rfl⟩,hT.push _⟩
end
section
variable {X:Cx}{K:Az}
abbrev Ny (K:Az)(H:Hp)(y:V)(p:List Int×Addr×V):Prop:=∃ q,y=V.ref q/\Ew K H q [.ref p.2.1,p.2.2]/\Ew K H p.2.1 (p.1.map V.int)
theorem vM {ahJ:List (Addr×Obj)}{Z : St}{H:Hp}{s:Ai}(I:Av X ahJ Z H s):∀ {ys:List V} {ps:List (List Int×Addr×V)} {its:List Mk},Aw ys its->Jm (Ny X.K H) ys ps ->
  ∃ xs:List (List Int×Addr×Mk),xs.map (·.1)=ps.map (·.1)/\xs.map (·.2.1)=ps.map (·.2.1)/\Aw (ps.map (·.2.2)) (xs.map (·.2.2))/\∀ (j:Nat) (p:List Int×Addr×Mk),xs[j]?=FN p->∃ q,its[j]?=FN (.ref q)/\IsTup s.heap q #[.ref p.2.1,p.2.2]/\(Nz X.prog X.w).is s.heap p.1 p.2.1
 | _,_,_,.nil,.nil=>⟨[],rfl,rfl,.nil,fun j p e=>by simp at e⟩
 | _,_,_,.cons r rv,.cons (b:=p) hp pp=>by
  obtain ⟨xs,a1,a2,a3,a4⟩:=vM I rv pp;obtain ⟨q,rfl,h1,h2⟩:=hp;cases r;obtain ⟨js,r2,ht,_⟩:=I.tuple h1;cases r2 with
  | cons r3 r4=>
   cases r4 with
   | cons r5 r6=>
    cases r6;cases r3;rename_i v;refine ⟨(p.1,p.2.1,v)::xs,by simp [a1],by simp [a2],.cons r5 a3,fun j z e=>?_⟩;cases j with
    | zero=>
     simp at e;subst e;exact ⟨q,rfl,ht,vY I h2⟩
    | succ j=>
     obtain ⟨q',b1,b2⟩:=a4 j z (by simpa using e);exact ⟨q',by simpa using b1,b2⟩
theorem abZ (hc:X.calm=true)(hu:X.A.units+30<Gf):fL X (.type "dict") (fun vs H Q=>∃ (T:Addr) (ys:List V) (ps:List (List Int×Addr×V)),vs=[.ref T]/\Ew X.K H T ys/\Jm (Ny X.K H) ys ps/\(ps.map (·.1)).Nodup /\
  ∀ d,H d=FX->∀ xs:List (List Int×Addr×Mk),xs.map (·.1)=ps.map (·.1)->xs.map (·.2.1)=ps.map (·.2.1)->Aw (ps.map (·.2.2)) (xs.map (·.2.2))->Q (.ref d) (Dd H d (.ext (Cr d xs)))):=by
 intro ahJ s Z H vs us Q I r ⟨T,ys,ps,ev,hS,pp,nd,q⟩;subst ev;obtain ⟨u,rfl,ru⟩:=Gv r;cases ru;obtain ⟨its,rv,⟨o,g1,g2,⟨n,g3⟩,g4⟩,hz⟩:=I.tupO hS;obtain ⟨xs,a1,a2,a3,a4⟩:=vM I rv pp;have e1:ys.length=its.length:=rv.length;have e2:ys.length=ps.length:=Ux pp;have e3:xs.length=ps.length:=by have:=congrArg Pg a1;simpa using this
 refine tX (I.ok.hd hc) hu ⟨o,n,g1,g2,g3,g4⟩ (ps:=xs) (by rw [Io];lia) (fun j p e=>by
  obtain ⟨q,b1,b2⟩:=a4 j p e;exact ⟨q,by rw [List.getElem?_toArray];exact b1,b2⟩) (by rw [a1];exact nd) (by lia) fun h' tk d m=>?_
 have y:(s.heap.objs.size==Kv)=false:=(aee (P:=X.prog) (w:=X.w) (H:=H) s.heap I.big).2.1;exact ⟨.ref s.heap.objs.size,_,I.laid (a:=s.heap.objs.size) (o:=.ext (Cr s.heap.objs.size xs)) (t':=tk) m (Bp _)<|FP (P:=X.prog) (w:=X.w) (by lia) y d,rfl,q _ (I.hok.fresh<|Bp _) xs a1 a2 a3⟩
def mU:List W->Option (List (List Int×W))
 | []=>FN []
 | .tup [k,v]::r=>(match Ie k with
  | some ks=>(mU r).map ((ks,v)::·)
  | none=>FX)
 | _=>FX
theorem vq {H:Hp}{μ : Mu}:∀ {us:List W} {ys:List V} {ps:List (List Int×W)},aM K H μ us ys->mU us=FN ps->∃ qs:List (List Int×Addr×V),Jm (Ny K H) ys qs/\qs.map (·.1)=ps.map (·.1)/\aM K H μ (ps.map fun x=>W.tup (x.1.map W.int)) (qs.map fun x=>V.ref x.2.1)/\aM K H μ (ps.map (·.2)) (qs.map (·.2.2))
 | [],ys,ps,r,e=>by
  rw [aM] at r;cases e;subst r;exact ⟨[],.nil,rfl,by rw [Jo,Jo,aM],by rw [Jo,Jo,aM]⟩
 | w::us,ys,ps,r,e=>by
  rw [aM] at r;obtain ⟨y,yr,rfl,ra,r⟩:=r;unfold mU at e;split at e
  ·rename_i h;cases h
  ·rename_i k v us' h;cases h;split at e
   ·rename_i ks ek;cases q:mU us with
    | none=>rw [q] at e;cases e
    | some cs=>
     rw [q] at e;cases (show FN ((ks,v)::cs)=FN ps from e)
     obtain ⟨qs,p1,p2,p3,p4⟩:=vq r q;rw [Ak] at ra;obtain ⟨b,zs,rfl,hb,rz⟩:=ra;obtain ⟨z1,z2,rfl,rk,rw'⟩:=BR rz;obtain ⟨kb,rfl,hkb⟩:=ji rk ek;refine ⟨(ks,kb,z2)::qs,.cons ⟨b,rfl,hb,hkb⟩ p1,by simp [p2],?_,?_⟩
     ·rw [Bu,Bu,aM];exact ⟨_,_,rfl,by rw [Ak];exact ⟨kb,_,rfl,hkb,nF ks⟩,p3⟩
     ·rw [Bu,Bu,aM];exact ⟨_,_,rfl,rw',p4⟩
   ·cases e
  ·cases e
def zM:MC:=fun ws h Q=>match ws with
 | [.tup us]=>(match mU us with
  | some ps=>(ps.map (·.1)).Nodup/\Q (.loc h.nx) (h.new (.dtt ps))
  | none=>False)
 | _=>False
theorem acW (hc:X.calm=true)(hu:X.A.units+30<Gf):fD X (.type "dict") zM:=⟨_,abZ hc hu,by
 intro H μ h vs ws Qw Q R r m k;unfold zM at m;split at m
 ·split at m
  ·rename_i us _ ps ek;obtain ⟨v,e,rv⟩:=jH r;rw [Ak] at rv;obtain ⟨p,ys,ex,hs,rs⟩:=rv;obtain ⟨qs,p1,p2,p3,p4⟩:=vq rs ek;subst e ex;refine ⟨p,ys,qs,rfl,hs,p1,by rw [p2];exact m.1,fun d hd xs a1 a2 a3=>?_⟩;have xt:=(Ex.newCell (o:=.ext (Cr d xs)) R hd).ext;have e3:(xs.map fun x=>V.ref x.2.1)=qs.map fun x=>V.ref x.2.1:=by
    have:(xs.map (·.2.1)).map V.ref=(qs.map (·.2.1)).map V.ref:=by rw [a2]
    rw [JV,JV] at this;exact this
   have R1:DA X.K (μ.put h.nx d) (Dd H d (.ext (Cr d xs))) (h.new (.dtt ps)):=R.newCell hd trivial ⟨xs,qs.map (·.2.2),bA,(by rw [a1,p2]),a3,by rw [e3];exact xt.s p3,xt.s p4⟩;exact k _ _ ⟨_,.loc h.nx,_,xt,R1,by rw [Ak];exact ⟨d,rfl,Mu.put_same⟩,m.2⟩
  ·exact m.elim
 ·exact m.elim⟩
end
section
variable {prog:DI}{w:Bw}{A:DW}{E:Mk->Ai->Prop}{s:Ai}{r l:Addr}{items:Array Mk}
theorem xX {Q:List Mk->Ai->Prop}(hh:A.handled=FX)(hit:s.heap.IsRevIter r l ((items.size:Int) - 1))(hl:s.heap.IsList l items)(hne:l≠r)(hn:items.size<=Dp)
  (hQ:∀ (h':Heap) (tk:Nat) (acc':Array Mk),s.heap.objs.size<h'.objs.size->(∀ b o,b≠r->s.heap.get? b=FN o->h'.get? b=FN o)->ItemsOf (fun i v=>items[items.size - 1 - i]?=FN v) acc' items.size->Q acc'.toList { s with heap:=h',toks:=tk }):Ay (Ax prog w) A (collect (.ref r)) Q E s:=by
 have lr:r<s.heap.objs.size:=by obtain ⟨_,e,_⟩:=hit;exact Ej e
 have ll:l<s.heap.objs.size:=by obtain ⟨_,e,_⟩:=hl;exact Ej e
 unfold collect;refine Ao<|wpAny_runValue<|Tc F.entry_proto_collect ?_
 rw [Uq F.plain_proto_collect _];show Ay _ A.in1 (newList [] >>= fun l=>again (.builtin "list.__iadd__" ⟨[l,.ref r],[]⟩)) _ _ s;refine Ao<|M8 ?_
 refine Ba ⟨Ue F.plain_list_iadd _,Tc F.entry_list_iadd ?_⟩;rw [Uq F.plain_list_iadd _];show Ay _ A.in1 (Wa (.ref s.heap.objs.size) (.ref r) (.ref s.heap.objs.size)) _ _ _;have hS₁ : (s.heap.push { cls:=.type "list",data:=.seq ([]:List Mk).toArray }).get? s.heap.objs.size=FN { cls:=.type "list",data:=.seq #[] 0 }:=Ip _ rfl;refine zag (A:=A) (R:=fun (r:Result) s'=>match r with
  | .ok (.ret v)=>Ay (Ax prog w) A (match v with
   | .ref a=>do
    match (<-load a).data with
    | .seq xs _=>pure xs.toList
    | _=>unsupported "internal:collect"
   | _=>unsupported "internal:collect") Q E s'
  | .ok _=>False
  | .error e=>E e s') (s:={ s with heap:=s.heap.push { cls:=.type "list",data:=.seq ([]:List Mk).toArray } }) hh (hit.at fun o e=>Eo _ e) (hl.at fun o e=>Eo _ e) hne _ (Ky lr) (Ky ll) _ _ hS₁ (fun h' tk acc' c' hk hS' hacc=>?_) hn
 show Ay _ A (load s.heap.objs.size >>= _) _ _ _;refine Ao<|wpAny_load hS' ?_
 exact Ba<|hQ h' tk acc' (Ej hS') (fun b o hb e=>hk b o (G3<|Ej e) hb<|Eo _ e) hacc
theorem w6 {Q₁ : Mk->Ai->Prop}(hh:A.handled=FX)(hit:s.heap.IsRevIter r l ((items.size:Int) - 1))(hl:s.heap.IsList l items)(hne:l≠r)(hn:items.size<=Dp)
  (h:∀ (h':Heap) (tk:Nat) (acc':Array Mk),s.heap.objs.size<h'.objs.size->(∀ b o,b≠r->s.heap.get? b=FN o->h'.get? b=FN o)->ItemsOf (fun i v=>items[items.size - 1 - i]?=FN v) acc' items.size->Q₁ (.ref h'.objs.size) { s with heap:=h'.push { cls:=.type "tuple",data:=.seq acc' },toks:=tk }) :
  Pb (Ax prog w) A (.call (.builtin "tuple.__new__") ⟨[.type "tuple",.ref r],[]⟩) (wants Q₁ E) s:=by
 refine codeAny_of_tree ?_;show Ay _ A.in1 (do checkBuiltinCall "tuple.__new__" ⟨[.type "tuple",.ref r],[]⟩;again (.builtin "tuple.__new__" ⟨[.type "tuple",.ref r],[]⟩)) _ _ s;refine Ao<|wpAny_of_eq (F.newCall_tuple_1 _)<|Ba ⟨Ue F.plain_tuple_new _,Tc F.entry_tuple_new ?_⟩
 rw [Uq F.plain_tuple_new _];have hsub:=sub_tuple_self;have hinit:=init_tuple_lookup;have hmh:=madeHere_tuple;have hTI:=hit.typeIs;have hhA:A.in1.handled=FX:=hh
 wp_walk using Q5 hTI,xX hhA hit hl hne hn
 intro h' tk acc hs hm hacc;show Ay _ _ (UJ acc.toList.toArray >>= fun v=>ret v) _ _ _;unfold UJ;refine Ao<|M8 ?_ (by show acc.toList.toArray.size<=Dp;simp only [Array.toArray_toList];rw [hacc.1];exact hn)
 refine Ba ?_;have e:acc.toList.toArray=acc:=by simp
 rw [e];exact h h' tk acc hs hm hacc
theorem yc {Q:Mk->Ai->Prop}(hh:A.handled=FX)(hit:s.heap.IsRevIter r l ((items.size:Int) - 1))(hl:s.heap.IsList l items)(hne:l≠r)(hn:items.size<=Dp)
  (h:∀ (h':Heap) (tk:Nat) (acc':Array Mk),s.heap.objs.size<h'.objs.size->(∀ b o,b≠r->s.heap.get? b=FN o->h'.get? b=FN o)->ItemsOf (fun i v=>items[items.size - 1 - i]?=FN v) acc' items.size->Q (.ref h'.objs.size) { s with heap:=h'.push { cls:=.type "tuple",data:=.seq acc' },toks:=tk }) :
  Ay (Ax prog w) A (call (.type "tuple") [.ref r]) Q E s:=by
 refine callType_codes (Q₁:=fun obj s₁=>s₁.TypeIs obj "tuple"/\Q obj s₁) F.called_tuple (F.typeCall_tuple_1 _) F.entry_object_init
  (w6 (A:=A.in1) hh hit hl hne hn fun h' tk acc hs hm hacc=>⟨⟨_,Ip _ rfl,rfl⟩,h h' tk acc hs hm hacc⟩) fun obj s₁ h₁=>?_
 exact ⟨h₁.1,F.args_object_init_2 obj _,object_init_meets F.called_tuple.init.lookup F.called_tuple.made (by decide) prog w A.in1 _ s₁ ⟨h₁.1,rfl,h₁.2⟩⟩
end
section
variable {X:Cx}
def wD (me:ME):ME:=fun Z h Q=>me Z h fun x h1=>match dX h1 x with
 | some us=>Q (.tup us.reverse) h1
 | none=>False
theorem acz {me:ME}{p p' pos pos':Pos}(hc:X.calm=true)(hl:Gl X "tuple")(hlm:X.mg "tuple" = FX)(hr:Gl X "reversed")(hrm:X.mg "reversed" = FX)(he:DE X e1 me)
  (h1:Dh [.Call (.Name "reversed" p') [e1] [] pos'] X.env=(false,eval (.Call (.Name "reversed" p') [e1] [] pos') X.env)::Dh [] X.env:=by rfl) (hp1:(J9 pos (Dh [] X.env)).any (·.1)=false:=by rfl)
  (h2:Dh [e1] X.env=(false,eval e1 X.env)::Dh [] X.env:=by rfl) (hp2:(J9 pos' (Dh [] X.env)).any (·.1)=false:=by rfl) :
  DE X (.Call (.Name "tuple" p) [.Call (.Name "reversed" p') [e1] [] pos'] [] pos) (wD me):=by
 intro ahJ s Z H Q I ⟨μ,g,Zw,Qw,R,S,m,q⟩;refine V7<|mV I hl hlm Jz ?_ (by decide)<|by decide
 refine VL ?_ h1 hp1;rw [h1];show Ay _ _ (spliced ((false,eval _ X.env)::J9 pos (Dh [] X.env))) _ _ s;refine Calls.spliced_cons ?_;refine V7<|mV I hr hrm boot_reversed ?_ (by decide)<|by decide
 refine VL ?_ h2 hp2;rw [h2];show Ay _ _ (spliced ((false,eval e1 X.env)::J9 pos' (Dh [] X.env))) _ _ s;refine Calls.spliced_cons<|Ei (he ahJ s Z H _ I ⟨μ,g,Zw,_,R,S,m,fun v H1 z=>z⟩) fun u s1 ⟨x,H1,I1,rx,μ1,wx,g1,x1,R1,r1,m1⟩=>?_
 refine Calls.spliced_nil ?_;dsimp only at m1;split at m1
 ·rename_i us ev;obtain ⟨a,xs,ex,hs,rs⟩:=cW R1 r1 ev;subst ex;obtain rfl:u=Value.ref a:=rx;obtain ⟨its,r,pl,hz⟩:=I1.list hs;have ahK:=r.length;refine call_reversed_list pl.isList ?_;refine Calls.spliced_nil ?_;have la:a<s1.heap.objs.size:=by obtain ⟨_,e,_⟩:=pl.isList;exact Ej e
  have gi:(s1.heap.push (revObj a ((its.toArray.size:Int) - 1))).IsRevIter s1.heap.objs.size a ((its.toArray.size:Int) - 1):=⟨_,Ip _ rfl,rfl,rfl⟩
  refine yc (I1.ok.hd hc) gi (pl.isList.at fun o e=>Eo _ e) (G3 la) (by rw [Io,<-ahK];exact hz) fun h' tk acc' hsz kp it=>?_;have ea:acc'.toList=its.reverse:=by
   refine List.ext_getElem? fun j=>?_;by_cases hj:j<its.length
   ·have hj':j<acc'.toList.length:=by rw [Tp,it.1,Io];exact hj
    have h3:=it.2 j (acc'.toList[j]) (by rw [<-Tz];exact Gz hj');rw [Gz hj',List.getElem?_reverse hj,<-h3,Io];simp
   ·rw [List.getElem?_eq_none (by rw [Tp,it.1,Io];lia),List.getElem?_eq_none (by rw [List.length_reverse];lia)]
  have kp':∀ b o,s1.heap.get? b=FN o->h'.get? b=FN o:=fun b o eb=>kp b o (G3 (Ej eb)) (Eo _ eb)
  have hge:s1.heap.objs.size<=h'.objs.size:=by
   have:(s1.heap.push (revObj a ((its.toArray.size:Int) - 1))).objs.size=s1.heap.objs.size+1:=Qh _ _
   rw [this] at hsz;lia
  have hf:H1 h'.objs.size=FX:=I1.hok.fresh hge;refine ⟨.ref h'.objs.size,_,I1.laid (a:=h'.objs.size) (o:=.tup xs.reverse) (t':=tk) (fun b o eb=>Eo _<|kp' b o eb) hge<|show d9 X.prog X.w _ _ _ (.tup xs.reverse) from ⟨by rw [List.length_reverse];exact hz,acc'.toList,by rw [ea];exact zbn r,by simpa using Fq.new h' acc'⟩,rfl,?_⟩;exact q _ _ ⟨μ1,.tup us.reverse,g1,x1.trans (Ex.laid hf).ext,R1.laid hf,.tupNew hf<|Ac rs,m1⟩
 ·exact m1.elim
end
section
variable {P:DI}{w:Bw}{A:DW}{E:Mk->Ai->Prop}{s:Ai}
def aaI (_:Heap)(v:Mk)(k:List Int):Prop:=∃ i t,v=.int i t/\k=[i]
theorem uW:Ro aaI:=⟨fun ⟨_,_,e,k⟩ ⟨_,_,e',k'⟩=>by subst e k k';cases e';rfl,fun x _=>x⟩
theorem tU {h:Heap}:∀ {ks:List Int} {vs:List Mk},Aw (ks.map V.int) vs↔Oe aaI h (ks.map ([·])) vs
 | [],_=>⟨fun h=>by cases h;exact .nil,fun h=>by cases h;exact .nil⟩
 | k::ks,_=>⟨fun h=>by
   cases h with
   | cons r h=>
    obtain ⟨t,e⟩:=r;exact .cons ⟨k,t,e,rfl⟩<|tU.mp h,fun h=>by
   cases h with
   | cons r h=>
    obtain ⟨_,t,e,k'⟩:=r;cases k'
    exact .cons ⟨t,e⟩ (tU.mpr h)⟩
theorem MJ {i j:Int}:[i] < [j]↔i<j:=by rw [Qs];simp
theorem aer {ks:List Int}{vs:List Mk}(v:Aw (ks.map V.int) vs):SkT P w A uW oneType' (ks.map ([·])) vs:=by
 refine ⟨fun h2 _ q=>?_,fun p E Q x y mx my q=>?_⟩
 ·have kd:keyKind' vs.toArray=pure oneType':=by
   match vs,v,h2 with
   | v1::v2::vs,v,_=>exact keyKind_ints (Ge v)
  exact wpAny_of_eq kd q
 ·obtain ⟨k,hk,hx⟩:=(keys_map uW p).2 x mx;obtain ⟨l,_,hy⟩:=(keys_map uW p).2 y my;unfold RD at q;rw [fU uW hx,fU uW hy] at q;obtain ⟨i,t,rfl,rfl⟩:=hx;obtain ⟨j,u,rfl,rfl⟩:=hy;rw [keyLt'_oneType];refine oneLt_int ?_;have e:decide ([i] < [j])=decide (i<j):=decide_eq_decide.mpr MJ;rw [<-e,<-decide_eq_decide.mpr (lZ (l:=[j]) hk)];exact q
theorem xU {es:Array Py}{ks:List Int}{Q:Mk->Ai->Prop}(hh:A.handled=FX)(nd0:(d==Kv)=false)(x:Bf s.heap d es ep)(hz:es.size<=Dp)
  (p:Aw (ks.map V.int) (es.toList.map (·.key))) (nd:ks.Nodup)
  (q:∀ (h':Heap) (tk:Nat) (l:Addr) (out:Array Mk) (ks':List Int) (c:Nat),(∀ b o,s.heap.get? b=FN o->h'.get? b=FN o)->s.heap.objs.size<=l->h'.get? l=FN (La "list" out c)->Aw (ks'.map V.int) out.toList->ks'.Perm ks->ks'.Pairwise (· < ·)->Q (.ref l) { s with heap:=h',toks:=tk }) :
  Ay (Ax P w) A (call (.builtin "sorted") [.ref d]) Q E s:=by
 refine lX (aer p) (pI (A:=A.in1) hh nd0 x hz) (tU.mp p) (T3.mpr<|nd.imp fun h e=>h (Pz e).1) (by simpa using hz) fun h' tk l out ks' c k1 k2 k3 g1 g2 g3 _=>?_;obtain ⟨js,pj,rfl⟩:=rJ g2 rfl;exact q h' tk l out js c k1 k2 k3 (tU.mpr g1) pj<|(T3.mp g3).imp MJ.mp
end
section
variable {X:Cx}{K:Az}
def Bj {β : Type}(kvs:List (Key×β))(ks:List Int):Prop:=kvs.map (·.1)=ks.map Sum.inl
theorem z7 {ks:List Int}:∀ {kvs:List (Key×V)} {vs:List (Key×Mk)} {ks:List Int},KV kvs vs->Bj kvs ks->vs.map (·.1)=ks.map Sum.inl
 | [],_,ks,.nil,e=>by
  have:ks=[]:=by cases ks with
   | nil=>rfl
   | cons a l=>simp [Bj] at e
  subst this;rfl
 | x::kvs,_,ks,.cons r t,e=>by
  cases ks with
  | nil=>simp [Bj] at e
  | cons k ks=>
   unfold Bj at e;rw [Bu,Bu] at e;obtain ⟨e1,e2⟩:=Pz e;rw [Bu,Bu,z7 (ks:=ks) t e2,<-r.1,e1]
theorem vN:∀ {es:List Py} {vs:List (Key×Mk)} {ks:List Int},PySem.Pairs (dM X.prog X.w) es vs->vs.map (·.1)=ks.map Sum.inl->Aw (ks.map V.int) (es.map (·.key))/\es.length=vs.length
 | _,_,ks,.nil,e=>by
  have:ks=[]:=by cases ks with
   | nil=>rfl
   | cons a l=>simp at e
  subst this;exact ⟨.nil,rfl⟩
 | _,_,ks,.cons h1 h2 t,e=>by
  cases ks with
  | nil=>simp at e
  | cons k ks=>
   rw [Bu,Bu] at e;obtain ⟨e1,e2⟩:=Pz e;obtain ⟨i1,i2⟩:=vN (ks:=ks) t e2;refine ⟨.cons ?_ i1,by rw [Iw,Iw,i2]⟩;rcases bU h1 with ⟨i,u,q1,q2⟩ | ⟨x,u,q1,q2⟩
   ·rw [e1] at q1;injection q1 with q1
    exact ⟨u,by rw [q1];exact q2⟩
   ·rw [e1] at q1;exact nomatch q1
theorem ade (hc:X.calm=true):fL X (.builtin "sorted") (fun vs H Q=>∃ a kvs ks,vs=[.ref a]/\H a=FN (.dK kvs)/\Bj kvs ks /\
  ∀ js:List Int,js.Perm ks->js.Pairwise (· < ·)->∀ l,H l=FX->Q (.ref l) (Dd H l (.lst (js.map V.int)))):=by
 intro ahJ s Z H vs us Q I r ⟨a,kvs,ks,ev,hx,hi,q⟩;subst ev;obtain ⟨u,rfl,ru⟩:=Gv r;cases ru;obtain ⟨z,y,vs,rel,dd⟩:=Ef I.hok hx;have hl:kvs.length=vs.length:=Ux rel;have kk:=z7 (ks:=ks) rel hi;obtain ⟨o,es,ep,g1,g2,g3,_,g4,g5⟩:=dd;obtain ⟨p1,p2⟩:=vN (X:=X) g4 kk;have pk:Aw (ks.map V.int) (es.toList.map (·.key))/\ks.Nodup/\es.size=vs.length:=by
  refine ⟨p1,?_,by rw [<-p2,Tp]⟩;rw [kk] at g5;exact (T3.mp g5).imp fun h e=>h<|by rw [e]
 refine xU (I.ok.hd hc) y ⟨o,g1,g2,g3⟩ (by rw [pk.2.2];lia) pk.1 pk.2.1 fun h' tk l out ks' c keep hl' e pr pm pw=>?_;have l1:ks'.length=out.toList.length:=by have:=pr.length;simpa using this
 have l2:=pm.length_eq;have l3:ks.length=vs.length:=by have:=congrArg Pg kk;simpa using this.symm
 exact ⟨.ref l,_,I.laid (t':=tk) keep hl'<|show d9 X.prog X.w _ h' _ (.lst<|ks'.map V.int) from ⟨by rw [Bx];lia,out.toList,c,pr,by simpa using e⟩,rfl,q ks' pm pw l<|I.hok.fresh hl'⟩
def Hu:MC:=fun ws h Q=>match ws with
 | [.loc n]=>(match h.c n with
  | some (.dct kvs)=>∃ ks:List Int,Bj kvs ks/\∀ js:List Int,js.Perm ks->js.Pairwise (· < ·)->Q (.lst (js.map .int)) h
  | _=>False)
 | _=>False
theorem zE {H:Hp}{μ : Mu}:∀ {kvs:List (Key×W)} {kvv:List (Key×V)} {ks:List Int},ni K H μ kvs kvv->Bj kvs ks->Bj kvv ks
 | [],_,ks,.nil,e=>e
 | x::kvs,_,ks,.cons r t,e=>by
  cases ks with
  | nil=>simp [Bj] at e
  | cons k ks=>
   unfold Bj at e |-
   rw [Bu,Bu] at e;obtain ⟨e1,e2⟩:=Pz e;have:=zE (ks:=ks) t e2
   unfold Bj at this;rw [Bu,Bu,this,<-r.1,e1]
theorem zbV (hc:X.calm=true):fD X (.builtin "sorted") Hu:=⟨_,ade hc,by
 intro H μ h vs ws Qw Q R r m k;unfold Hu at m;split at m
 ·rename_i n;split at m
  ·rename_i kvs ec;obtain ⟨p,kvv,hp,hx,rf⟩:=R.dctAt ec;obtain ⟨v,rfl,r1⟩:=jH r;rw [Ak] at r1;obtain ⟨p',rfl,hp'⟩:=r1;have ep:p'=p:=by rw [hp] at hp';exact (Eu hp').symm
   subst ep;obtain ⟨ks,m1,m2⟩:=m;refine ⟨p',kvv,ks,rfl,hx,zE rf m1,fun js pj sj l hl=>?_⟩;exact k _ _ ⟨μ,_,h,(Ex.laid hl).ext,R.laid hl,.lstNew R hl<|nF js,m2 js pj sj⟩
  ·exact m.elim
 ·exact m.elim⟩
def Nf:ME:=fun _ h Q=>Q (.loc h.nx) (h.new (.dct []))
theorem afZ {pos:Pos}:DE X (.Dict [] [] pos) Nf:=zbp.of fun Z H Q ⟨μ,g,Zw,Qw,R,S,m,q⟩ p hp=>by
 have R1:DA X.K (μ.put g.nx p) (Dd H p (.dK [])) (g.new (.dct [])):=R.newCell hp trivial ⟨[],bA,.nil⟩;exact q _ _ ⟨_,.loc g.nx,_,(Ex.newCell R hp).ext,R1,by rw [Ak];exact ⟨p,rfl,Mu.put_same⟩,m⟩
end
section
variable {X:Cx}{o:Expr}{mo:ME}{ma:MA}{apos ahL:Pos}
def Kg:MM:=fun x ws h Q=>match x,ws with
 | .loc n,[y,z]=>(match h.c n,Xx y with
  | some (.dct kvs),FN k=>Q ((qd kvs k).getD z) h
  | _,_=>False)
 | _,_=>False
def Ft (h:Gh)(x:W)(P:Prop):Prop:=match x with
 | .loc n=>(match h.c n with
  | some (.dct _)=>P
  | _=>False)
 | _=>False
def ZW (r:MM)(mo:ME)(ma:MA):ME:=fun Z h Q=>mo Z h fun x h1=>Ft h1 x (ma Z h1 fun xs h2=>r x xs h2 Q)
theorem zR {K:Az}{H:Hp}{μ : Mu}{k:Key}:∀ {kvs:List (Key×W)} {kvv:List (Key×V)},ni K H μ kvs kvv->(∀ w,qd kvs k=FN w->∃ v,Cu kvv k=FN v/\Ak K H μ w v)/\(qd kvs k=FX->Cu kvv k=FX)
 | [],_,.nil=>⟨fun w e=>by simp [qd] at e,fun _=>rfl⟩
 | x::kvs,y::_,.cons r t=>by
  obtain ⟨i1,i2⟩:=zR (k:=k) t;unfold qd Cu at *;rw [Ov,Ov];by_cases c:x.1=k
  ·have c2:y.1=k:=r.1.symm.trans c;rw [decide_eq_true c];simp only [c2,decide_true];exact ⟨fun w e=>by cases e;exact ⟨_,rfl,r.2⟩,fun e=>by cases e⟩
  ·have c2:¬ y.1=k:=fun e=>c (r.1.trans e)
   rw [decide_eq_false c];simp only [c2,decide_false];exact ⟨i1,i2⟩
theorem agt (hu:X.A.units+30<Gf)(ho:DE X o mo)(ha:Jc X [e1,e2] ma)
  (hbase:attributeBase o "get" X.env (eval o X.env)=eval o X.env:=by rfl)
  (hfew:((J9 ahL (Dh [e1,e2] X.env)).all (fun x=>!x.1)&&(backToKw ahL (Ug [] X.env)).all (fun x=>x.1.isSome)
   && decide (([e1,e2]:List Expr).length+([]:List O7).length+(if ([]:List O7).isEmpty then 0 else 1)<30))=true:=by rfl)
  (hline:(apos.endLine==ahL.line)=true:=by rfl) (hst:Dh [e1,e2] X.env=(false,eval e1 X.env)::Dh [e2] X.env:=by rfl) (hplain:(J9 ahL (Dh [e2] X.env)).any (·.1)=false:=by rfl) :
  DE X (.Call (.Attribute o "get" apos) [e1,e2] [] ahL) (ZW Kg mo ma):=by
 intro ahJ s Z H Q I ⟨μ,h,Zw,Qw,R,S,m,k⟩;refine wpAny_Call_method_late hbase hfew hline rfl<|Ei (ho ahJ s Z H _ I ⟨μ,h,Zw,_,R,S,m,fun _ _ z=>z⟩) fun u s1 ⟨x,H1,I1,rx,μ1,wx,h1,e1',R1,r1,il⟩=>?_
 unfold Ft at il;dsimp only at il;split at il
 ·rename_i n;split at il
  ·rename_i kv0 ec0;have r0:=r1;rw [Ak] at r1;obtain ⟨a,rfl,ha'⟩:=r1;obtain rfl:u=Value.ref a:=rx;obtain ⟨p,kvv,hp,hx,_⟩:=R1.dctAt ec0;have ep:p=a:=by rw [ha'] at hp;exact (Eu hp).symm
   subst ep;obtain ⟨z,y,vs0,aaq,dd0⟩:=Ef I1.hok hx;obtain ⟨ob,es,epo,g1,g2,_⟩:=id dd0;refine ⟨"dict", "dict.get",PySem.F.plainAttrs_dict,Wc,PySem.F.type_dict_get,⟨ob,g1,g2.1⟩,fun b e=>by cases e;exact ⟨ob,g1,g2.2.1⟩,?_⟩;have hA:=ha ahL ahJ s1 Z H1 _ I1 ⟨μ1,h1,Zw,_,R1,S.ext e1',il,fun _ _ z=>z⟩;rw [hst] at hA |-
   refine Calls.callWith_builtin (by show (false||(J9 ahL<|Dh [e2] X.env).any (·.1))=false;rw [hplain] <;> rfl)<|Calls.evalArgs_plain ?_
   refine Ei hA fun us s2 ⟨ys,H2,I2,r2,μ2,ws,h2,e2',R2,rs,m2⟩=>?_;unfold Kg at m2;dsimp only at m2;split at m2
   ·rename_i n' y' z' e3;cases e3;split at m2
    ·rename_i kvs kk ec ek;obtain ⟨v1,v2,rfl,ry,rz⟩:=BR rs;have ev1:=nH ry ek;subst ev1;obtain ⟨u1,u2,rfl,ru1,ru2⟩:=Kp r2;obtain ⟨p2,kvv2,hp2,hx2,rf2⟩:=R2.dctAt ec;have r0':=e2'.r _ _ r0;rw [Ak] at r0';obtain ⟨a2,ea,ha2⟩:=r0';cases ea;have ep2:p2=p:=by rw [ha2] at hp2;exact (Eu hp2).symm
     subst ep2;obtain ⟨z2,hd2,vs2,rel2,dd⟩:=Ef I2.hok hx2;obtain ⟨t1,t2⟩:=zR (k:=kk) rf2;refine call_meetsIn Wc dd.typeIs PySem.F.entry_dict_get (PySem.F.args_dict_get_3 _ _ _) (meets_dict_get_default (dM X.prog X.w) p2 (G4 ru1) hd2 u2) ⟨_,dd.mapOf,?_⟩;have hv:=(rel2.val kk).getD ru2;cases ev:qd kvs kk with
     | some wv=>
      rw [ev] at m2;obtain ⟨v,a1,a3⟩:=t1 wv ev;rw [a1] at hv;exact ⟨v,H2,I2.tok _,hv,k _ _ ⟨μ2,wv,h2,e1'.trans e2',R2,a3,m2⟩⟩
     | none=>
      rw [ev] at m2;rw [t2 ev] at hv;exact ⟨v2,H2,I2.tok _,hv,k _ _ ⟨μ2,z',h2,e1'.trans e2',R2,rz,m2⟩⟩
    ·exact m2.elim
   ·exact m2.elim
  ·exact il.elim
 ·exact il.elim
end
section
variable {prog:DI}{w:Bw}{A:DW}{E:Mk->Ai->Prop}{L I:Addr}{ns:List Int}{its:List Mk}
end
section
variable {X:Cx}
end
section
variable {X:Cx}{a b o i:Expr}{td ty:TE}{pos:Pos}
theorem fD.or {f:Mk}{m1 m2:MC}(h1:fD X f m1)(h2:fD X f m2):fD X f (fun ws h Q=>m1 ws h Q\/m2 ws h Q):=by
 obtain ⟨r1,c1,s1⟩:=h1;obtain ⟨r2,c2,s2⟩:=h2;refine ⟨_,fL.or c1 c2,?_⟩;intro H μ h vs ws Qw Q R r m k;rcases m with m | m
 ·exact .inl<|s1 R r m k
 ·exact .inr<|s2 R r m k
def z6:MC:=fun ws h Q=>Fy ws h Q\/Hu ws h Q
theorem agP (hc:X.calm=true):fD X (.builtin "sorted") z6:=(aej hc).or (zbV hc)
def PL:M2:=fun x y h Q=>Ti x y h Q\/RX x y h Q
theorem agD (hu:X.A.units+30<Gf)(ho:PE X o td)(hi:PE X i ty)(hs:Tv i):PE X (.Subscript o i pos) (fun Z H Q=>td Z H fun x H1=>ty Z H1 fun y H2=>(∃ a xs k b p v,x=.ref a/\H2 a=FN (.ext (Cr a xs))/\HN X.K H2 xs/\y=.ref b/\Ew X.K H2 b (k.map V.int)/\atKey xs k=FN p/\BX v p.2/\Q v H2)\/∃ a kvs k v,x=.ref a/\Rd H2 a (.dK kvs)/\y=kV k/\Cu kvs k=FN v/\Q v H2):=by
 intro ahJ s Z H Q I h;refine Hi PySem.F.slot_dict_getitem.lookup hs<|Ei (ho ahJ s Z H _ I h) fun u s1 ⟨x,H1,I1,rx,q1⟩=>Ei (hi ahJ s1 Z H1 _ I1 q1) fun iv s2 ⟨y,H2,I2,ry,q2⟩=>?_
 rcases q2 with ⟨a,xs,k,b,p,v,ex,e,hk,ey,hb,l,rv,q2⟩ | ⟨a,kvs,k,v,ex,e,ey,l,q2⟩
 ·subst ex ey;obtain rfl:u=Value.ref a:=rx;obtain rfl:iv=Value.ref b:=ry;obtain ⟨z,hd,dd⟩:=wI I2 e hk;exact ⟨dd.typeIs,wpAny_getItem_heap (tupleKind_room_in1<|by lia) (vY I2 hb) dd l ⟨v,H2,I2.tok _,rv,q2⟩⟩
 ·subst ex ey;obtain rfl:u=Value.ref a:=rx;obtain ⟨z,hd,vs,rel,dd⟩:=M9 I2.hok e;obtain ⟨w',hw,rw'⟩:=JM.some_of (v:=v) (o:=valueAt vs k) (by rw [<-l];exact rel.val k);exact ⟨dd.typeIs,wpAny_getItem_of (G4 ry) dd.mapOf hw ⟨v,H2,I2.tok _,rw',q2⟩⟩
theorem V1 (hu:X.A.units+30<Gf)(ha:DE X a ma)(hb:DE X b mb)(hs:Tv b):DE X (.Subscript a b pos) (AP PL ma mb):=(agD hu ha hb hs).of fun Z H Q h=>two h fun {H2 μ2 h2 x y wx wy Qw} R r1 r2 m k=>by
 rcases m with m | m
 ·unfold Ti at m;split at m
  ·rename_i n kk e;split at m
   ·rename_i kvs ec;split at m
    ·rename_i w ev;obtain ⟨p,xs,vs,hp,hx,e1,e2,r3,r4⟩:=R.dttAt ec;rw [Ak] at r1;obtain ⟨p',ex,hp'⟩:=r1;have ep:p'=p:=by rw [hp] at hp';exact (Eu hp').symm
     subst ep;obtain ⟨b',eb,hb'⟩:=ji r2 e;obtain ⟨q,v,h3,h4,h5⟩:=(rW e1 e2 r4 kk).1 w ev;exact .inl ⟨p',xs,kk,b',q,v,ex,hx,jj e1 r3,eb,hb',h3,h4,k _ _ ⟨μ2,w,h2,.refl,R,h5,m⟩⟩
    ·exact m.elim
   ·exact m.elim
  ·exact m.elim
 ·unfold RX at m;split at m
  ·rename_i n kk e;split at m
   ·rename_i kvs ec;split at m
    ·rename_i w ev;obtain ⟨p,kvv,hp,hx,rf⟩:=R.dctAt ec;rw [Ak] at r1;obtain ⟨p',e1,hp'⟩:=r1;have ep:p'=p:=by rw [hp] at hp';exact (Eu hp').symm
     subst ep;obtain ⟨v,e2,rv⟩:=rf.val ev;exact .inr ⟨p',kvv,kk,v,e1,.inl hx,nH r2 e,e2,k _ _ ⟨μ2,w,h2,.refl,R,rv,m⟩⟩
    ·exact m.elim
   ·exact m.elim
  ·exact m.elim
end
section
variable {P:DI}{w:Bw}{A:DW}{E:Mk->Ai->Prop}{s:Ai}
def uq (h:Heap)(v:Mk)(k:List Int):Prop:=∃ a b o n c t,v=.ref a/\h.get? a=FN o/\o.cls=.type "tuple"/\o.data=.seq #[.ref b,.int c t] n/\m9 h (.ref b) k
theorem uq.fn {h:Heap}{v:Mk}{k l:List Int}(x:uq h v k)(y:uq h v l):k=l:=by
 obtain ⟨a,b,o,n,c,t,rfl,ga,_,da,va⟩:=x;obtain ⟨a',b',o',n',c',t',e,gb,_,db,vb⟩:=y;cases e;rw [ga] at gb;cases gb;rw [da] at db;cases db;exact va.fn vb
theorem uq.of {h h':Heap}{v:Mk}{k:List Int}(x:uq h v k)(e:∀ b o,o.cls=.type "tuple"->h.get? b=FN o->h'.get? b=FN o):uq h' v k:=by
 obtain ⟨a,b,o,n,c,t,rfl,ga,ca,da,r⟩:=x;exact ⟨a,b,o,n,c,t,rfl,e a o ca ga,ca,da,r.of fun b o _ hc hb=>e b o hc hb⟩
theorem m9.key {h:Heap}{b:Addr}(x:m9 h (.ref b) k):IsTupleKey (RL P w) h k b:=by
 obtain ⟨a,o,its,n,e,ga,ca,da,va⟩:=x;cases e;exact ⟨o,its,n,ga,ca,da,rR va⟩
theorem m9.isTup {h:Heap}{b:Addr}(x:m9 h (.ref b) k):∃ its,IsTup h b its/\O6 its.toList k:=by
 obtain ⟨a,o,its,n,e,ga,ca,da,va⟩:=x;cases e;exact ⟨its,⟨o,ga,ca,n,da⟩,Ge va⟩
theorem zcn {x y:Mk}{Q:Bool->Ai->Prop}(hu:A.units<Gf)(hx:uq s.heap x k)(hy:uq s.heap y l)(hxy:k=l->x=y)(q:Q (decide (k<l)) s):Ay (Ax P w) A (keyLt' (tuples' false) x y) Q E s:=by
 obtain ⟨a,b,o,n,c,t,rfl,ga,_,da,va⟩:=hx;obtain ⟨a',b',o',n',c',t',rfl,gb,_,db,vb⟩:=hy;refine PySem.W.kat_lt ga da gb db ?_;refine PySem.W.kat_cons<|wpAny_eqBool_tuple hu (va.key (P:=P) (w:=w)) vb.key<|PySem.W.kat_go (fun e=>?_) fun e=>?_
 ·have ek:k=l:=of_decide_eq_true e;have ea:=hxy ek;cases ea;rw [ga] at gb;cases gb;rw [da] at db;cases db;refine PySem.W.kat_yes<|PySem.W.kat_cons<|wpAny_eqBool_int<|PySem.W.kat_go (fun _=>PySem.W.kat_yes<|PySem.W.kat_nil ?_) fun e=>?_
  ·have:decide (k<l)=false:=by rw [ek];exact decide_eq_false (Uo _)
   rw [this] at q;exact q
  ·simp at e
 ·refine PySem.W.kat_no<|PySem.W.kat_one _ _ ?_
  obtain ⟨i1,t1,n1⟩:=va.isTup;obtain ⟨i2,t2,n2⟩:=vb.isTup;refine HT.qz t1 t2 n1 n2 hu ?_;rw [Ng];exact q
theorem abW {x:Mk}{Q:Option Mk->Ai->Prop}(hx:uq s.heap x k)(q:∀ b,m9 s.heap (.ref b) k->Q (FN (.ref b)) s):Ay (Ax P w) A (firstOfTuple' x) Q E s:=by
 obtain ⟨a,b,o,n,c,t,rfl,ga,ca,da,va⟩:=hx;refine Ao<|Q5 (T := "tuple") ⟨o,ga,ca⟩ ?_
 rw [if_neg (by decide)];refine Ao<|listItems_at ga da ?_
 exact Ba<|q b va
theorem pP:∀ {vs:List Mk} {ks:List (List Int)} {Q:List (Option Mk)->Ai->Prop},Jm (fun k v=>uq s.heap v k) ks vs->(∀ us:List Mk,us.length=vs.length->(∀ u∈us,∃ b k,u=.ref b/\m9 s.heap (.ref b) k)->Q (us.map FN) s)->Ay (Ax P w) A (vs.mapM firstOfTuple') Q E s
 | [],_,Q,h,q=>by
  cases h;exact Ba<|q [] rfl fun _ h=>nomatch h
 | v::vs,ks,Q,h,q=>by
  cases h with
  | @cons k _ ks' _ r h=>
   rw [List.mapM_cons];refine Ao<|abW r fun b hb=>Ao ?_
   refine pP h fun us hl hu=>Ba ?_;refine q (.ref b::us) (by simp [hl]) fun u hm=>?_;rcases G7.mp hm with rfl | hm
   ·exact ⟨b,_,rfl,hb⟩
   ·exact hu u hm
theorem ur:∀ {us:List Mk} {Q:List Mk->Ai->Prop},(∀ u∈us,∃ b k,u=Value.ref b/\m9 s.heap (.ref b) k)->Q (us.map fun _=>.type "tuple") s->Ay (Ax P w) A (us.mapM typeOf) Q E s
 | [],Q,_,q=>Ba q
 | u::us,Q,h,q=>by
  rw [List.mapM_cons];obtain ⟨b,k,rfl,x⟩:=h u JW;obtain ⟨a,o,its,n,e,ga,ca,_⟩:=x;cases e;exact Ao<|Q5 (T := "tuple") ⟨o,ga,ca⟩<|Ao<|ur (fun v hv=>h v<|IK _ hv)<|Ba q
theorem acw {vs:List Mk}{Q:SX->Ai->Prop}(h:Jm (fun k v=>uq s.heap v k) ks vs)(h1:1<=vs.length)(q:Q (tuples' false) s):Ay (Ax P w) A (keyKind' vs.toArray) Q E s:=by
 rw [keyKind'_eq,List.mapM_toArray];refine Ao<|wpAny_map ?_
 refine pP h fun us hl hu=>?_;rw [if_pos (by simp)];refine Ao<|Np<|Ao ?_
 have ef:(us.map FN).toArray.filterMap id=us.toArray:=by
  rw [List.filterMap_toArray];simp
 rw [ef,oneTypeOnly'_eq,List.mapM_toArray];refine Ao<|wpAny_map<|ur hu ?_
 obtain ⟨u,us',rfl⟩:∃ u us',us=u::us':=List.exists_cons_of_ne_nil fun e=>by rw [e] at hl;simp at hl;lia
 show Ay _ _ (pure (if _ then FN (Value.type "tuple") else FX)) _ _ s;rw [if_pos (by simp)];exact Ba<|Ba q
theorem Ds {f:Mk->List Int}:∀ {vs:List Mk},(vs.map f).Nodup->∀ x∈vs,∀ y∈vs,f x=f y->x=y
 | [],_,_,h,_,_,_=>nomatch h
 | v::vs,nd,x,hx,y,hy,e=>by
  rw [Bu,Qj] at nd;rcases G7.mp hx with h1 | h1
  ·rcases G7.mp hy with h2 | h2
   ·rw [h1,h2]
   ·exact absurd (by rw [<-h1,e];exact GX.mpr ⟨y,h2,rfl⟩) nd.1
  ·rcases G7.mp hy with h2 | h2
   ·exact absurd (by rw [<-h2,<-e];exact GX.mpr ⟨x,h1,rfl⟩) nd.1
   ·exact Ds nd.2 x h1 y h2 e
theorem jd:Ro uq:=⟨uq.fn,uq.of⟩
theorem zbK {vs:List Mk}(hu:A.units<Gf)(nd:ks.Nodup):SkT P w A jd (tuples' false) ks vs:=by
 refine ⟨fun h2 p q=>acw p (KQ h2) q,fun p E Q x y mx my q=>?_⟩;obtain ⟨ek,g⟩:=keys_map jd p;obtain ⟨k,hk,hx⟩:=g x mx;obtain ⟨l,_,hy⟩:=g y my;refine zcn hu hx hy (fun e=>?_) ?_
 ·refine Ds (by rw [<-ek];exact nd) x mx y my ?_;rw [fU jd hx,fU jd hy,e]
 ·unfold RD at q;rw [fU jd hx,fU jd hy] at q;rw [<-decide_eq_decide.mpr (lZ (ks:=ks) (l:=l) hk)];exact q
theorem wJ {vs:List Mk}{Q:Mk->Ai->Prop}(hu:A.units+30<Gf)(x:s.heap.IsList d vs.toArray)(hz:vs.length<=Dp)
  (p:Jm (fun k v=>uq s.heap v k) ks vs) (nd:ks.Nodup)
  (q:∀ (h':Heap) (tk:Nat) (l:Addr) (out:Array Mk) (ks':List (List Int)) (c:Nat),(∀ b o,s.heap.get? b=FN o->h'.get? b=FN o)->s.heap.objs.size<=l->h'.get? l=FN (La "list" out c)->Jm (fun k v=>uq s.heap v k) ks' out.toList->ks'.Perm ks->ks'.Pairwise (· < ·)->out.toList.Perm vs->Q (.ref l) { s with heap:=h',toks:=tk }) :
  Ay (Ax P w) A (call (.builtin "sorted") [.ref d]) Q E s:=by
 refine lX (zbK (by rw [Ib,Ib];lia) nd) (fun q=>collect_list x (q _ s.toks (fun b o hb=>(TJ _ _<|Im<|G3<|Ej hb).trans (Eo _ hb)) ?_) hz) p nd hz q;have g0:(s.heap.push (La "list" #[] 0)).get? s.heap.objs.size=FN (La "list" #[] 0):=Ip _ rfl;exact Ej<|get?_update_seq g0 (·++vs.toArray)
end
section
variable {X:Cx}
abbrev Pr:=Addr×Addr×List Int×Int
def Hh (K:Az)(H:Hp)(t:Pr):Prop:=Ew K H t.1 [.ref t.2.1,.int t.2.2.2]/\Ew K H t.2.1 (t.2.2.1.map V.int)
theorem zci {ahJ:List (Addr×Obj)}{Z : St}{H:Hp}{s:Ai}{t:Pr}(I:Av X ahJ Z H s)(h:Hh X.K H t):uq s.heap (.ref t.1) t.2.2.1:=by
 obtain ⟨its,r,⟨o,ho,hc,n,hd⟩,_⟩:=I.tuple h.1;cases r with
 | cons r1 r=>
  cases r with
  | cons r2 r=>
   cases r;cases r1;obtain ⟨tk,rfl⟩:=r2;exact ⟨t.1,t.2.1,o,n,t.2.2.2,tk,rfl,ho,hc,hd,GQ I h.2⟩
def aeF (X:Cx):List V->Hp->VK->Prop:=fun vs H Q=>∃ a ts,vs=[.ref a]/\Ij X.K H a (ts.map fun t:Pr=>V.ref t.1)/\(∀ t∈ts,Hh X.K H t)/\(ts.map (·.2.2.1)).Nodup /\
  ∀ us:List Pr,us.Perm ts->(us.map (·.2.2.1)).Pairwise (· < ·)->∀ l,H l=FX->Q (.ref l) (Dd H l (.lst (us.map fun t=>V.ref t.1)))
theorem zah (hu:X.A.units+30<Gf):fL X (.builtin "sorted") (aeF X):=by
 intro ahJ s Z H vs us Q I r ⟨a,ts,ev,hx,hk,nd,q⟩;subst ev;obtain ⟨u,rfl,ru⟩:=Gv r;cases ru;obtain ⟨its,rv,pl,z⟩:=I.list hx;have ei:its=ts.map fun t=>Value.ref t.1:=by
  have go:∀ (ts:List Pr) (its:List Mk),Aw (ts.map fun t=>V.ref t.1) its->its=ts.map fun t=>Value.ref t.1:=fun ts=>by
   induction ts with
   | nil=>intro its h;cases h;rfl
   | cons t ts ih=>
    intro its h;cases h with
    | cons r h=>
     cases r;rw [ih _ h];rfl
  exact go ts its rv
 have p:∀ zs:List Pr,(∀ x∈zs,x∈ts)->Jm (fun k v=>uq s.heap v k) (zs.map (·.2.2.1)) (zs.map fun x=>Value.ref x.1):=fun zs hz=>by
  induction zs with
  | nil=>exact .nil
  | cons x zs ih=>exact .cons (zci I (hk x (hz x JW))) (ih fun y hy=>hz y (IK _ hy))
 have zl:its.length<=Dp:=by rw [ei,Bx];rw [Bx] at z;exact z
 refine wJ hu pl.isList zl (ks:=ts.map (·.2.2.1)) (by rw [ei];exact p ts fun _ h=>h) nd fun h' tk l out ks' c keep hl e pr pm pw po=>?_;rw [ei] at po;obtain ⟨ys,py,eo⟩:=rJ po rfl;have hy:=p ys fun x hx=>py.mem_iff.mp hx
 have eks:ks'=ys.map (·.2.2.1):=by
  rw [eo] at pr;exact (keys_map jd pr).1.trans (keys_map jd hy).1.symm
 rw [eks] at pw;refine ⟨.ref l,_,I.laid (t':=tk) keep hl<|show d9 X.prog X.w _ h' _ (.lst<|ys.map fun y=>V.ref y.1) from ⟨by rw [Bx,py.length_eq];rw [Bx] at z;exact z,out.toList,c,?_,by simpa using e⟩,rfl,q ys py pw l<|I.hok.fresh hl⟩;rw [eo];clear eo pr eks pw hy py po;induction ys with
 | nil=>exact .nil
 | cons y ys ih=>exact .cons rfl ih
def QM (t:List Int×Int):W:=.tup [.tup (t.1.map .int),.int t.2]
def FZ:MC:=fun ws h Q=>match ws with
 | [w]=>(match dX h w with
  | some us=>∃ ts:List (List Int×Int),us=ts.map QM/\(ts.map (·.1)).Nodup/\∀ rs:List (List Int×Int),rs.Perm ts->(rs.map (·.1)).Pairwise (· < ·)->Q (.lst (rs.map QM)) h
  | none=>False)
 | _=>False
theorem Ld {H:Hp}{μ : Mu}:∀ {ts:List (List Int×Int)} {xs:List V},aM X.K H μ (ts.map QM) xs->∃ zs:List Pr,xs=zs.map (fun t=>V.ref t.1)/\zs.map (·.2.2)=ts/\∀ t∈zs,Hh X.K H t
 | [],xs,r=>by
  rw [Jo,aM] at r;exact ⟨[],r,rfl,fun _ h=>nomatch h⟩
 | t::ts,xs,r=>by
  rw [Bu,aM] at r;obtain ⟨v,vs',rfl,r1,r2⟩:=r;obtain ⟨zs,e1,e2,e3⟩:=Ld r2;unfold QM at r1;rw [Ak] at r1;obtain ⟨p,ys,rfl,hs,hr⟩:=r1;rw [aM] at hr;obtain ⟨v1,vs1,rfl,a1,a2⟩:=hr;rw [aM] at a2;obtain ⟨v2,vs2,rfl,b1,b2⟩:=a2;rw [aM] at b2;subst b2;rw [Ak] at a1;obtain ⟨b,ys,rfl,hb,hr⟩:=a1;rw [sY hr] at hb;rw [Ak] at b1;subst b1;refine ⟨(p,b,t.1,t.2)::zs,by rw [Bu,<-e1],by rw [Bu,e2],fun u hu=>?_⟩;rcases G7.mp hu with rfl | hu
  ·exact ⟨hs,hb⟩
  ·exact e3 u hu
theorem zbJ (hu:X.A.units+30<Gf):fD X (.builtin "sorted") FZ:=⟨_,zah hu,by
 intro H μ h vs ws Qw Q R r m k;unfold FZ at m;split at m
 ·split at m
  ·rename_i w us ev;obtain ⟨v,e,rv⟩:=jH r;obtain ⟨p,ys,ex,hs,rs⟩:=cW R rv ev;obtain ⟨ts,eu,nd,m⟩:=m;subst e ex;rw [eu] at rs;obtain ⟨zs,e1,e2,e3⟩:=Ld rs;have ek:zs.map (·.2.2.1)=ts.map (·.1):=by rw [<-e2,JV];rfl
   refine ⟨p,zs,rfl,by rw [<-e1];exact hs,e3,by rw [ek];exact nd,fun us pu pw l hl=>?_⟩;have pw2:((us.map (·.2.2)).map (·.1)).Pairwise (· < ·):=by rw [JV];exact pw
   have q:=m (us.map (·.2.2)) (by rw [<-e2];exact pu.map _) pw2;refine k _ _ ⟨μ,_,h,(Ex.laid hl).ext,R.laid hl,?_,q⟩;refine .lstNew R hl ?_;have go:∀ zz:List Pr,(∀ z∈zz,z∈zs)->aM X.K H μ ((zz.map (·.2.2)).map QM) (zz.map fun y=>V.ref y.1):=fun zz hz=>by
    induction zz with
    | nil=>exact .nil
    | cons z zz ih=>
     refine aM.cons ?_<|ih fun y hy=>hz y<|IK _ hy
     obtain ⟨g1,g2⟩:=e3 z (hz z JW);unfold QM;rw [Ak];refine ⟨z.1,_,rfl,g1,aM.cons ?_<|aM.one<|by rw [Ak]⟩;rw [Ak];exact ⟨z.2.1,_,rfl,g2,j4 _⟩
   exact go us fun z hz=>pu.mem_iff.mp hz
  ·exact m.elim
 ·exact m.elim⟩
end
def Fk (P:DI)(w:Bw)(K:Az)(mg:Str->Option Mk)(base:Heap)(k:Nat)(x:Str)(ms:Ar):Prop:=∃ f fd ps,qm P w K mg base NT k f fd ps (Ks K ms)/\mg x=FN (.ref f)/\Rb K (.ref f)=true/\JD K fd ps []
def At (K:Az)(mg:Str->Option Mk)(x:Str)(st:Stmt)(ps:List Str):Prop:=∃ f fd,TY K x x st f fd/\mg x=FN (.ref f)/\JD K fd ps []
section
variable {X:Cx}{e e3 e4:Expr}{es:List Expr}{mc md:ME}{pos:Pos}{k:Nat}{zl:List Str}{x:Str}{p:Pos}
theorem vV (i:Nat)(hN:X.N[i]?=FN x:=by with_unfolding_all rfl)(hv:Vis X.env.scope x:=by with_unfolding_all first | exact Or.inl rfl | exact Or.inr (Or.inl rfl) | exact Or.inr (Or.inr rfl))(hd:(x==("__debug__" : Str))=false:=by decide)(hcd:(x==("__classdict__" : Str))=false:=by decide):DE X (.Name x pos) (aA i):=dv i (pv i hN hv hd hcd)
theorem aC (h1:DE X e ma)(h2:Jc X es mr)(s:Dq e=false:=by with_unfolding_all rfl):Jc X (e::es) (ao ma mr):=adS h1 h2 (bT s)
theorem a1 (h1:DE X e ma)(s:Dq e=false:=by with_unfolding_all rfl):Jc X [e] (ao ma aL):=aC h1 oY s
theorem a2 (h1:DE X e ma)(h2:DE X e2 mb)(s1:Dq e=false:=by with_unfolding_all rfl)(s2:Dq e2=false:=by with_unfolding_all rfl):Jc X [e,e2] (ao ma (ao mb aL)):=aC h1 (a1 h2 s2) s1
theorem a3 (h1:DE X e ma)(h2:DE X e2 mb)(h3:DE X e3 mc)(s1:Dq e=false:=by with_unfolding_all rfl)(s2:Dq e2=false:=by with_unfolding_all rfl)(s3:Dq e3=false:=by with_unfolding_all rfl):Jc X [e,e2,e3] (ao ma (ao mb (ao mc aL))):=aC h1 (a2 h2 h3 s2 s3) s1
theorem Bh {j:Nat}(F:Fk X.prog X.w X.K X.mg X.base j x ms)(ha:Jc X (e::es) mr)(hr:mY k X.A:=by with_unfolding_all assumption)(hk:j<=k:=by decide)(hg:Gl X x:=by with_unfolding_all rfl)(hdb:(x==("__debug__" : Str))=false:=by decide)(h1:Dq e=false:=by with_unfolding_all rfl)(h2:JK es=true:=by with_unfolding_all rfl):
  DE X (.Call (.Name x p) (e::es) [] pos) (aJ ms EF mr):=by
 obtain ⟨f,fd,ps,a,b,c,d⟩:=F;exact agu (a.mono hk) hr hg b c d ha hdb (bT h1)<|cN h2
theorem JC {id:String}{mc:MC}(hc:fD X (.builtin id) mc)(hv:RN x=FN (.builtin id))(ha:Jc X (e::es) mr)(z:∀ n∈zl,X.mg n=FX:=by with_unfolding_all assumption)(hz:x∈zl:=by decide)(hg:Gl X x:=by with_unfolding_all rfl)(hn:x ≠ "__name__":=by decide)(hdb:(x==("__debug__" : Str))=false:=by decide)
  (h1:Dq e=false:=by with_unfolding_all rfl) (h2:JK es=true:=by with_unfolding_all rfl):DE X (.Call (.Name x p) (e::es) [] pos) (Dz mc mr):=aeD hc hg (z _ hz) hv ha hn hdb (bT h1) (cN h2)
theorem dct {T:String}{mc:MC}(hc:fD X (.type T) mc)(hv:RN x=FN (.type T))(ha:Jc X (e::es) mr)(z:∀ n∈zl,X.mg n=FX:=by with_unfolding_all assumption)(hz:x∈zl:=by decide)(hg:Gl X x:=by with_unfolding_all rfl)(hn:x ≠ "__name__":=by decide)(hdb:(x==("__debug__" : Str))=false:=by decide)
  (h1:Dq e=false:=by with_unfolding_all rfl) (h2:JK es=true:=by with_unfolding_all rfl):DE X (.Call (.Name x p) (e::es) [] pos) (Dz mc mr):=zaR hc hg (z _ hz) hv ha hn hdb (bT h1) (cN h2)
theorem Ek (i:Nat){pos':Pos}(he:DE X e ma)(hN:X.N.Nodup:=by with_unfolding_all assumption)(hi:X.N[i]?=FN x:=by with_unfolding_all rfl)(hx:Qy X.env.scope x:=by with_unfolding_all first | exact Or.inl rfl | exact Or.inr rfl)(hs:swapsWith e (FN (.Name x pos')) pos.line X.env=pure false:=by with_unfolding_all rfl)
  (hf:X.fn x=true\/X.env.scope.names.lookup x=FN .local:=by with_unfolding_all first | exact .inl rfl | exact .inr rfl):DS X (.Assign [.Name x pos'] e pos) (bK ma (kI i)):=Wy hN hi hx he hs hf
theorem Fe (i:Nat)(hN:X.N.Nodup:=by with_unfolding_all assumption)(hi:X.N[i]?=FN x:=by with_unfolding_all rfl)(hx:Qy X.env.scope x:=by with_unfolding_all first | exact Or.inl rfl | exact Or.inr rfl)(hf:X.fn x=true\/X.env.scope.names.lookup x=FN .local:=by with_unfolding_all first | exact .inl rfl | exact .inr rfl):DG X (.Name x pos) (kI i):=zbN (sO hN hi hx hf)
theorem Bm {a b:Expr}(ha:DE X a ma)(hb:DE X b mb)(hs:wK b:=by with_unfolding_all (intro _ _;rfl)):DE X (.Subscript a b pos) (AP BJ ma mb):=abh ha hb hs
theorem Hy {a b:Expr}{op:CmpOp}{m2:M2}(ho:Js X (Jb op) m2)(ha:DE X a ma)(hb:DE X b mb)(hm:Td op b=false:=by with_unfolding_all first | exact Lk _ | rfl):DT X (.Compare a [op] [b] pos) (bM (AP m2 ma mb)):=afd ho ha hb hm
theorem cce {a b:Expr}{op:CmpOp}{m2:M2}(ho:Js X (Jb op) m2)(ha:DE X a ma)(hb:DE X b mb)(hm:Td op b=false:=by with_unfolding_all first | exact Lk _ | rfl):DE X (.Compare a [op] [b] pos) (AP m2 ma mb):=Yt ho ha hb hm
theorem dl1 {scope:Scope}{iter:Expr}(ix:List Nat)(hi:Qz X (.Name x p) iter mi)(ht:∀ C s H fp,U0 (blk X scope (iw X [x] ix) C s H fp) ifs tt)(he:∀ C s H fp,DE (blk X scope (iw X [x] ix) C s H fp) elt te)(B:iD X scope [x] ix:=by with_unfolding_all exact cP rfl)(hc:X.calm=true:=by with_unfolding_all assumption)
  (hs:∀ v,U8 iter X.env v=pure v:=by with_unfolding_all (intro _;rfl)):DE X (.ListComp elt [⟨.Name x p,iter,ifs,0⟩] scope pos) (GK Ik ix mi tt te):=Sd ix hc B BL (Ck B) hi ht he hs
theorem Pq {scope:Scope}{iter:Expr}(ix:List Nat)(hi:Qz X (.Name x p) iter mi)(he:∀ C s H fp,DE (blk X scope (iw X [x] ix) C s H fp) elt te)(B:iD X scope [x] ix:=by with_unfolding_all exact cP rfl)(hc:X.calm=true:=by with_unfolding_all assumption)
  (hs:∀ v,U8 iter X.env v=pure v:=by with_unfolding_all (intro _;rfl)):DE X (.ListComp elt [⟨.Name x p,iter,[],0⟩] scope pos) (GK Ik ix mi jO te):=dl1 ix hi (fun _ _ _ _=>gM) he B hc hs
theorem qq (hr:mY k X.A:=by with_unfolding_all assumption):X.A.units+30<Gf:=abH hr
theorem hh (hc:X.calm=true:=by with_unfolding_all assumption):X.calm=true:=hc
theorem S8 {a:Expr}{tg:Expr}(ha:Jc X [a] mr)(z:∀ n∈zl,X.mg n=FX:=by with_unfolding_all assumption)(hz:("range" : Str)∈zl:=by decide)(hg:Gl X "range":=by with_unfolding_all rfl)(hs:Dq a=false:=by with_unfolding_all rfl):Qz X tg (.Call (.Name "range" p) [a] [] pos) (iQ mr):=afq hg (z _ hz) ha (Mv hs)
end
theorem fk {P:DI}{w:Bw}{K:Az}{mg:Str->Option Mk}{base:Heap}{x:Str}{st:Stmt}{ps zl:List Str}(N:List Str){k:Nat}{pure:Bool}{body:Cd->MS}(T:At K mg x st ps)(z:∀ n∈zl,mg n=FX)
  (hb:∀ (f:Addr) (cdv:Mk) (A:DW) (outer:List Env) (s:Ai) (H:Hp) (E:XK),mY k (A.deeper (envOfC x (bR st) s.heap.objs.size f cdv))->N.Nodup->(Iz NT P w K mg base N x (bR st) f cdv A outer s H E).nox.calm=true->(∀ n∈zl,mg n=FX)->Rv (Iz NT P w K mg base N x (bR st) f cdv A outer s H E).nox (gK st) (body EF))
  (S:mD N ps (bR st):=by exact ⟨rfl,rfl,rfl,by decide +kernel,rfl,by decide +kernel,by decide +kernel⟩) (hk:9<=k:=by decide):Fk P w K mg base (k+1) x (Es ps.length N.length pure body):=by
 obtain ⟨f,fd,F,m,b⟩:=T;exact ⟨f,fd,ps,aat F S fun cdv A outer s H E hr=>hb f cdv A outer s H E hr S.nd (hr.calm hk) z,m,F.kp,b⟩
end L2
namespace My
open PySem L2 PyProof.Rows
def top (i:Nat):Stmt:=PySem.Challenge.pw_easelroom_k71_raws_at_numbers.main.body.getD i (.Pass ⟨0,0,0,0⟩)
abbrev Qc:Stmt:=top 54
def dG (E:Cd):MS:=
  (cF (aA 1))
def cG:Ar:=Es 1 2 false fun E=>
  (bw (bK (Dz cD (ao (GK Ik [0] (Hx (Dz z6 (ao (aA 0) aL))) (bM (AP KZ (AP PL (aA 1) (aA 0)) (mC (.int 0)))) (je (ao (aA 0) (ao (AP PL (aA 1) (aA 0)) aL)))) aL)) (kI 1))
  (bw (lq (bM (AP QS (Dz Gd (ao (aA 1) aL)) (mC (.int 600)))) (uR "TooMuch" E) dB)
  (dG E)))
def eZ:Ar:=cG
def jx (ahf:Ar)(E:Cd):MS:=
  (cF (aJ ahf E (ao (aA 3) aL)))
def iV (ahf:Ar):Ar:=Es 3 6 true fun E=>
  (bw (bK (Dz zM (ao (aA 0) aL)) (kI 3))
  (bw (oN (Hx (aA 1)) (gR 2 (bY (kI 4) (bY (kI 5) v7))) (bK (AP dN (YH Fo (aA 3) (ao (aA 4) (ao (mC (.int 0)) aL))) (AP gC (aA 2) (aA 5))) (J5 (aA 3) (aA 4) Gg)))
  (jx ahf E)))
def fH:Ar:=iV eZ
def Hj (ahz:Ar):Ar:=Es 2 2 false fun E=>
  (cF (aJ ahz E (ao (aA 0) (ao (aA 1) (ao (mC (.int 1)) aL)))))
def qN:Ar:=Hj fH
def wz (ahz:Ar):Ar:=Es 2 2 false fun E=>
  (cF (aJ ahz E (ao (aA 0) (ao (aA 1) (ao (mUn Yg (mC (.int 1))) aL)))))
def rZ:Ar:=wz fH
def qW (E:Cd):MS:=
  (cF (aA 1))
def tG:Ar:=Es 1 3 false fun E=>
  (bw (bK (mC (.int 0)) (kI 1))
  (bw (oN (Hx (aA 0)) (kI 2) (bK (AP dN (AP gC (aA 1) (mC (.int 65536))) (aA 2)) (kI 1)))
  (qW E)))
def zJ:Ar:=tG
def mK (E:Cd):MS:=
  (cF (wD (aA 2)))
def lM:Ar:=Es 2 4 true fun E=>
  (bw (bK (vQ aL) (kI 2))
  (bw (oN (iQ (ao (aA 1) aL)) (kI 3) (bw (xT (Qv gY (aA 2) (ao (AP Bv (aA 0) (mC (.int 65536))) aL)))
  (bK (AP Mr (aA 0) (mC (.int 65536))) (kI 0))))
  (mK E)))
def qC:Ar:=lM
def fP (ahl:Ar):Ar:=Es 1 1 false fun E=>
  (cF (GK (Rz 2) [] (Hx (aA 0)) jO (je (ao (aJ ahl E (ao (aA 0) aL)) (ao (aA 1) aL)))))
def jy:Ar:=fP zJ
def fM:Ar:=Es 1 3 false fun E=>
  (oN (Hx (aA 0)) (gR 2 (bY (kI 1) (bY (kI 2) v7))) (lq (Cg (Dz VN (ao (GK Ik [] (Hx (aA 1)) jO (AP QS (aA 0) (mC (.int 60)))) aL))) (uR "TooMuch" E) dB))
def ju:Ar:=fM
def uZ (ahf ahw ahp aht:Ar)(E:Cd):MS:=
  (bw (bK (mIf (Cg (aA 0)) (Dz Gd (ao (AP BJ (AP BJ (aA 0) (mC (.int 0))) (mC (.int 0))) aL)) (mC (.int 0))) (kI 9))
  (bw (bK (aJ ahf E (ao (aA 2) aL)) (kI 10))
  (bw (bK (Dz cD (ao (GK (Rz 2) [9] (Hx (aA 10)) jO (je (ao (aJ ahw E (ao (aA 0) (ao (aA 2) aL))) (ao (aA 1) aL)))) aL)) (kI 11))
  (bw (xT (aJ aht E (ao (aA 11) aL)))
  (cF (aA 11))))))
def uI (ahf ahw ahp aht:Ar)(E:Cd):MS:=
  (bw (bK Nf (kI 2))
  (bw (bK (aJ ahp E (ao (aA 1) aL)) (kI 3))
  (bw (oN (Hx (aJ ahp E (ao (aA 0) aL))) (gR 2 (bY (kI 4) (bY (kI 5) v7))) (oN (Hx (aA 3)) (gR 2 (bY (kI 6) (bY (kI 7) v7))) (bw (bK (AP dN (aA 4) (aA 6)) (kI 8))
  (bK (AP dN (ZW Kg (aA 2) (ao (aA 8) (ao (mC (.int 0)) aL))) (AP gC (aA 5) (aA 7))) (J5 (aA 2) (aA 8) xJ)))))
  (uZ ahf ahw ahp aht E))))
def xW (ahf ahw ahp aht:Ar):Ar:=Es 2 12 true fun E=>
  (bw (lq (bM (AP QS (AP gC (Dz Gd (ao (aA 0) aL)) (Dz Gd (ao (aA 1) aL))) (mC (.int 20000)))) (uR "TooMuch" E) dB)
  (uI ahf ahw ahp aht E))
def jK:Ar:=xW eZ qC jy ju
def gk (ahA agS:Ar):Ar:=Es 4 4 false fun E=>
  (cF (aJ ahA E (ao (aJ agS E (ao (AP BJ (aA 0) (aA 2)) (ao (AP BJ (aA 1) (aA 3)) aL))) (ao (aJ agS E (ao (AP BJ (aA 0) (aA 3)) (ao (AP BJ (aA 1) (aA 2)) aL))) aL))))
def jr:Ar:=gk rZ jK
def jL (ahy:Ar):Ar:=Es 2 2 false fun E=>
  (cF (je (ao (aJ ahy E (ao (aA 0) (ao (aA 1) (ao (mC (.int 1)) (ao (mC (.int 2)) aL))))) (ao (aJ ahy E (ao (aA 0) (ao (aA 1) (ao (mC (.int 2)) (ao (mC (.int 0)) aL))))) (ao (aJ ahy E (ao (aA 0) (ao (aA 1) (ao (mC (.int 0)) (ao (mC (.int 1)) aL))))) aL)))))
def dR:Ar:=jL jr
def pQ (ahg agS:Ar)(E:Cd):MS:=
  (cF (aA 2))
def o8 (ahg agS:Ar):Ar:=Es 2 5 false fun E=>
  (bw (bK (je aL) (kI 2))
  (bw (oN (NQ (ao (aA 0) (ao (aA 1) aL))) (gR 2 (bY (kI 3) (bY (kI 4) v7))) (bK (aJ ahg E (ao (aA 2) (ao (aJ agS E (ao (aA 3) (ao (aA 4) aL))) aL))) (kI 2)))
  (pQ ahg agS E)))
def gD:Ar:=o8 qN jK
def lQ (agT ahd:Ar):Ar:=Es 3 3 false fun E=>
  (cF (aJ ahd E (ao (aJ agT E (ao (aA 0) (ao (aA 1) aL))) (ao (aA 2) aL))))
def qH:Ar:=lQ dR gD
def iI (agS:Ar):Ar:=Es 2 2 false fun E=>
  (cF (Dz cD (ao (GK Ik [1] (Hx (aA 0)) jO (aJ agS E (ao (aA 0) (ao (aA 1) aL)))) aL)))
def dZ:Ar:=iI jK
def jf (ahA:Ar):Ar:=Es 2 2 false fun E=>
  (cF (Dz cD (ao (GK (Rz 2) [] (NQ (ao (aA 0) (ao (aA 1) aL))) jO (aJ ahA E (ao (aA 0) (ao (aA 1) aL)))) aL)))
def fK:Ar:=jf rZ
def fV (ahg agS:Ar):Ar:=Es 2 2 false fun E=>
  (cF (je (ao (aJ agS E (ao (AP BJ (aA 0) (mC (.int 0))) (ao (AP BJ (aA 1) (mC (.int 0))) aL))) (ao (aJ ahg E (ao (aJ agS E (ao (AP BJ (aA 0) (mC (.int 0))) (ao (AP BJ (aA 1) (mC (.int 1))) aL))) (ao (aJ agS E (ao (AP BJ (aA 0) (mC (.int 1))) (ao (AP BJ (aA 1) (mC (.int 0))) aL))) aL))) (ao (aJ agS E (ao (AP BJ (aA 0) (mC (.int 1))) (ao (AP BJ (aA 1) (mC (.int 1))) aL))) (ao (aJ ahg E (ao (aJ agS E (ao (AP BJ (aA 0) (mC (.int 0))) (ao (AP BJ (aA 1) (mC (.int 2))) aL))) (ao (aJ agS E (ao (AP BJ (aA 0) (mC (.int 2))) (ao (AP BJ (aA 1) (mC (.int 0))) aL))) aL))) (ao (aJ ahg E (ao (aJ agS E (ao (AP BJ (aA 0) (mC (.int 1))) (ao (AP BJ (aA 1) (mC (.int 2))) aL))) (ao (aJ agS E (ao (AP BJ (aA 0) (mC (.int 2))) (ao (AP BJ (aA 1) (mC (.int 1))) aL))) aL))) (ao (aJ agS E (ao (AP BJ (aA 0) (mC (.int 2))) (ao (AP BJ (aA 1) (mC (.int 2))) aL))) aL))))))))
def jq:Ar:=fV qN jK
def pZ (ahg:Ar):Ar:=Es 1 1 false fun E=>
  (cF (aJ ahg E (ao (aA 0) (ao (aA 0) aL))))
def jU:Ar:=pZ qN
def jB (ahq:Ar):Ar:=Es 1 1 false fun E=>
  (cF (je (ao (je (ao (aJ ahq E (ao (AP BJ (aA 0) (mC (.int 0))) aL)) (ao (AP BJ (aA 0) (mC (.int 1))) (ao (AP BJ (aA 0) (mC (.int 3))) aL)))) (ao (je (ao (AP BJ (aA 0) (mC (.int 1))) (ao (aJ ahq E (ao (AP BJ (aA 0) (mC (.int 2))) aL)) (ao (AP BJ (aA 0) (mC (.int 4))) aL)))) (ao (je (ao (AP BJ (aA 0) (mC (.int 3))) (ao (AP BJ (aA 0) (mC (.int 4))) (ao (aJ ahq E (ao (AP BJ (aA 0) (mC (.int 5))) aL)) aL)))) aL)))))
def eY:Ar:=jB jU
def gQ (agT:Ar):Ar:=Es 1 1 false fun E=>
  (cF (je (ao (aJ agT E (ao (AP BJ (aA 0) (mC (.int 1))) (ao (AP BJ (aA 0) (mC (.int 2))) aL))) (ao (aJ agT E (ao (AP BJ (aA 0) (mC (.int 2))) (ao (AP BJ (aA 0) (mC (.int 0))) aL))) (ao (aJ agT E (ao (AP BJ (aA 0) (mC (.int 0))) (ao (AP BJ (aA 0) (mC (.int 1))) aL))) aL)))))
def jP:Ar:=gQ dR
def iT (ahd:Ar):Ar:=Es 2 2 false fun E=>
  (cF (Dz cD (ao (GK Ik [1] (Hx (aA 0)) jO (aJ ahd E (ao (aA 0) (ao (aA 1) aL)))) aL)))
def d7:Ar:=iT gD
def cR (ahd agX:Ar):Ar:=Es 3 3 false fun E=>
  (cF (aJ ahd E (ao (aA 1) (ao (aJ agX E (ao (aA 0) (ao (aA 2) aL))) aL))))
def eG:Ar:=cR gD d7
def jD (ahI:Ar):Ar:=Es 1 1 false fun E=>
  (cF (aJ ahI E (ao (AP BJ (aA 0) (mC (.int 0))) (ao (AP BJ (aA 0) (mC (.int 1))) (ao (AP BJ (aA 0) (mC (.int 2))) aL)))))
def pB:Ar:=jD qH
def gP (agS agT ahd ahm ahD ahF:Ar):Ar:=Es 1 7 false fun E=>
  (bw (bK (aJ agT E (ao (AP BJ (aA 0) (mC (.int 0))) (ao (AP BJ (aA 0) (mC (.int 1))) aL))) (kI 1))
  (bw (bK (aJ agT E (ao (AP BJ (aA 0) (mC (.int 2))) (ao (AP BJ (aA 0) (mC (.int 3))) aL))) (kI 2))
  (bw (bK (aJ agT E (ao (AP BJ (aA 0) (mC (.int 0))) (ao (AP BJ (aA 0) (mC (.int 2))) aL))) (kI 3))
  (bw (bK (aJ agT E (ao (AP BJ (aA 0) (mC (.int 1))) (ao (AP BJ (aA 0) (mC (.int 3))) aL))) (kI 4))
  (bw (bK (aJ agS E (ao (aJ ahd E (ao (aA 1) (ao (AP BJ (aA 0) (mC (.int 4))) aL))) (ao (aJ ahd E (ao (aA 2) (ao (AP BJ (aA 0) (mC (.int 4))) aL))) aL))) (kI 5))
  (bw (bK (aJ agS E (ao (aJ ahd E (ao (aA 3) (ao (AP BJ (aA 0) (mC (.int 4))) aL))) (ao (aJ ahd E (ao (aA 4) (ao (AP BJ (aA 0) (mC (.int 4))) aL))) aL))) (kI 6))
  (cF (aJ ahD E (ao (aJ ahm E (ao (aJ ahF E (ao (aA 3) (ao (aA 4) aL))) (ao (aA 5) aL))) (ao (aJ ahm E (ao (aJ ahF E (ao (aA 1) (ao (aA 2) aL))) (ao (aA 6) aL))) aL))))))))))
def pF:Ar:=gP jK dR gD dZ fK jq
def jk (ahm agY ahH agX ahG:Ar):Ar:=Es 2 3 false fun E=>
  (bw (bK (aJ agY E (ao (aA 0) aL)) (kI 2))
  (cF (aJ ahm E (ao (aJ agX E (ao (aJ ahH E (ao (aA 2) aL)) (ao (aA 1) aL))) (ao (aJ ahG E (ao (aA 2) aL)) aL)))))
def qQ:Ar:=jk dZ eY jP d7 pB
def gG (ahm ahD ahq agY ahE:Ar):Ar:=Es 3 6 false fun E=>
  (bw (bK (aJ agY E (ao (aA 0) aL)) (kI 3))
  (bw (bK (aJ ahE E (ao (aA 3) (ao (aA 2) (ao (aA 2) aL)))) (kI 4))
  (bw (bK (aJ ahq E (ao (aJ ahE E (ao (aA 3) (ao (aA 1) (ao (aA 2) aL)))) aL)) (kI 5))
  (cF (aJ ahD E (ao (aJ ahm E (ao (aA 1) (ao (aA 4) aL))) (ao (aJ ahm E (ao (aA 2) (ao (aA 5) aL))) aL)))))))
def p8:Ar:=gG dZ fK jU eY eG
def GC (agT agY agX ahk ahi ahj:Ar)(E:Cd):MS:=
  (cF (aJ agT E (ao (AP BJ (aA 4) (mC (.int 0))) (ao (AP BJ (aA 4) (mC (.int 1))) aL))))
def wZ (agT agY agX ahk ahi ahj:Ar)(E:Cd):MS:=
  (bw (lq (bM (AP J8 (aA 3) (mC (.str "other")))) (cF (aJ ahj E (ao (AP BJ (aA 4) (mC (.int 0))) (ao (AP BJ (aA 4) (mC (.int 1))) (ao (AP BJ (aA 4) (mC (.int 2))) aL))))) dB)
  (GC agT agY agX ahk ahi ahj E))
def sG (agT agY agX ahk ahi ahj:Ar)(E:Cd):MS:=
  (bw (lq (bM (AP J8 (aA 3) (mC (.str "pole")))) (cF (aJ ahi E (ao (AP BJ (aA 4) (mC (.int 0))) (ao (AP BJ (aA 4) (mC (.int 1))) aL)))) dB)
  (wZ agT agY agX ahk ahi ahj E))
def pG (agT agY agX ahk ahi ahj:Ar)(E:Cd):MS:=
  (bw (lq (bM (AP J8 (aA 3) (mC (.str "about")))) (cF (aJ agX E (ao (aJ agY E (ao (AP BJ (aA 4) (mC (.int 0))) aL)) (ao (AP BJ (aA 4) (mC (.int 1))) aL)))) dB)
  (sG agT agY agX ahk ahi ahj E))
def QD (agT agY agX ahk ahi ahj:Ar):Ar:=Es 3 5 false fun E=>
  (bw (bK (AP BJ (AP BJ (aA 0) (aA 2)) (mC (.int 0))) (kI 3))
  (bw (bK (GK Ik [1] (Hx (mSl W2 (AP BJ (aA 0) (aA 2)) (Fp (mC (.int 1))) oH)) jO (AP BJ (aA 1) (aA 0))) (kI 4))
  (bw (lq (bM (AP J8 (aA 3) (mC (.str "curve")))) (cF (aJ ahk E (ao (aA 4) aL))) dB)
  (pG agT agY agX ahk ahi ahj E))))
def QF:Ar:=QD dR eY d7 pF qQ p8
def zak (E:Cd):MS:=
  (cF (mC (.int 0)))
def yG:Ar:=Es 2 2 false fun E=>
  (bw (lq (bM (AP kLt (aA 1) (Dz Gd (ao (aA 0) aL)))) (cF (AP BJ (aA 0) (aA 1))) dB)
  (zak E))
def zN:Ar:=yG
def Ed:Ar:=Es 1 1 false fun E=>
  (cF (vQ (ao (AP Am (Dz R7 (ao (aA 0) aL)) (Dz Kl (ao (AP kGe (Dz R7 (ao (aA 0) aL)) (AP RT (mC (.int 10)) (mC (.int 18)))) aL))) (ao (AP Bv (Dz R7 (ao (aA 0) aL)) (mC (.int 2147483647))) aL))))
def Gw:Ar:=Ed
def zai (E:Cd):MS:=
  (bw (bK (AP Bv (AP dN (AP gC (AP BJ (aA 0) (mC (.int 1))) (mC (.int 48271))) (mC (.int 11))) (mC (.int 2147483647))) (J5 (aA 0) (mC (.int 1)) Je))
  (cF (AP Bv (AP Mr (AP Bv (AP gC (AP BJ (aA 0) (mC (.int 1))) (AP dN (AP Mr (AP BJ (aA 0) (mC (.int 1))) (mC (.int 65536))) (mC (.int 7)))) (mC (.int 2147483629))) (mC (.int 32))) (aA 1))))
def zV:Ar:=Es 2 3 false fun E=>
  (bw (lq (bM (AP QS (AP BJ (aA 0) (mC (.int 0))) (mC (.int 0)))) (bw (bK (AP Bv (AP BJ (aA 0) (mC (.int 0))) (aA 1)) (kI 2))
  (bw (bK (AP Mr (AP BJ (aA 0) (mC (.int 0))) (aA 1)) (J5 (aA 0) (mC (.int 0)) Je))
  (cF (aA 2)))) dB)
  (zai E))
def j5:Ar:=zV
def yZ:Ar:=Es 1 2 false fun E=>
  (bw (bK (U3 [(.inr "free",(lA aL)),(.inr "join",(lA (ao (mC (.str "spot")) (ao (mC (.str "spot")) aL)))),(.inr "meet",(lA (ao (mC (.str "line")) (ao (mC (.str "line")) aL)))),(.inr "about",(lA (ao (mC (.str "curve")) (ao (mC (.str "spot")) aL))))]) (kI 1))
  (bw (bK (lA (ao (mC (.str "spot")) (ao (mC (.str "spot")) (ao (mC (.str "spot")) (ao (mC (.str "spot")) (ao (mC (.str "spot")) aL)))))) (J5 (aA 1) (mC (.str "curve")) xJ))
  (bw (bK (lA (ao (mC (.str "curve")) (ao (mC (.str "line")) aL))) (J5 (aA 1) (mC (.str "pole")) xJ))
  (bw (bK (lA (ao (mC (.str "curve")) (ao (mC (.str "spot")) (ao (mC (.str "spot")) aL)))) (J5 (aA 1) (mC (.str "other")) xJ))
  (cF (AP RX (aA 1) (aA 0)))))))
def zU:Ar:=yZ
def qM (E:Cd):MS:=
  (cF (AP BJ (lA (ao (mC (.str "spot")) (ao (mC (.str "curve")) aL))) (Dz Kl (ao (AP J8 (AP BJ (aA 0) (mC (.int 0))) (mC (.str "curve"))) aL))))
def rY:Ar:=Es 1 1 false fun E=>
  (bw (lq (Nb (bM (AP J8 (AP BJ (aA 0) (mC (.int 0))) (mC (.str "join")))) (bM (AP J8 (AP BJ (aA 0) (mC (.int 0))) (mC (.str "about"))))) (cF (mC (.str "line"))) dB)
  (qM E))
def nP:Ar:=rY
def tL (agR aha:Ar):Ar:=Es 3 4 false fun E=>
  (bw (bK (GK Ik [1,2] (iQ (ao (Dz Gd (ao (aA 1) aL)) aL)) (bM (AP J8 (aJ aha E (ao (AP BJ (aA 1) (aA 0)) aL)) (aA 2))) (aA 0)) (kI 3))
  (cF (AP BJ (aA 3) (aJ agR E (ao (aA 0) (ao (Dz Gd (ao (aA 3) aL)) aL))))))
def zj:Ar:=tL j5 nP
def oX (agR ahx aha ahC:Ar)(E:Cd):MS:=
  (cF (Dz cD (ao (AP dN (lA (ao (aA 5) aL)) (GK Ik [0,1] (Hx (aJ ahx E (ao (aA 5) aL))) jO (aJ ahC E (ao (aA 1) (ao (aA 2) (ao (aA 0) aL)))))) aL)))
def xr (agR ahx aha ahC:Ar):Ar:=Es 3 7 false fun E=>
  (bw (bK (GK Ik [] (Hx (aA 1)) jO (aJ aha E (ao (aA 0) aL))) (kI 3))
  (bw (bK (lA (ao (mC (.str "join")) (ao (mC (.str "meet")) (ao (mC (.str "curve")) (ao (mC (.str "about")) (ao (mC (.str "pole")) (ao (mC (.str "other")) (ao (mC (.str "join")) (ao (mC (.str "meet")) (ao (mC (.str "join")) (ao (mC (.str "meet")) aL))))))))))) (kI 4))
  (bw (bK (AP BJ (aA 4) (aJ agR E (ao (aA 0) (ao (mC (.int 10)) aL)))) (kI 5))
  (bw (bK (GK Ik [3] (Hx (aJ ahx E (ao (aA 5) aL))) (bM (AP Aj (aA 0) (aA 1))) (aA 0)) (kI 6))
  (bw (lq (Nb (bM (AP kLt (Dz Gd (ao (aA 1) aL)) (aA 2))) (bM (AP QS (Dz Gd (ao (aA 6) aL)) (mC (.int 0))))) (bK (AP BJ (lA (ao (mC (.str "join")) (ao (mC (.str "free")) aL))) (Dz Kl (ao (AP kLt (Dz Gd (ao (aA 1) aL)) (aA 2)) aL))) (kI 5)) dB)
  (oX agR ahx aha ahC E))))))
def GJ:Ar:=xr j5 zU nP zj
def pR:Ar:=Es 2 8 false fun E=>
  (bw (bK (aA 0) (gR 3 (bY (kI 2) (bY (kI 3) (bY (kI 4) v7)))))
  (bw (bK (aA 1) (gR 3 (bY (kI 5) (bY (kI 6) (bY (kI 7) v7)))))
  (cF (je (ao (AP yg (AP gC (aA 3) (aA 7)) (AP gC (aA 4) (aA 6))) (ao (AP yg (AP gC (aA 4) (aA 5)) (AP gC (aA 2) (aA 7))) (ao (AP yg (AP gC (aA 2) (aA 6)) (AP gC (aA 3) (aA 5))) aL)))))))
def oV:Ar:=pR
def wH:Ar:=Es 2 2 false fun E=>
  (cF (AP dN (AP dN (AP gC (AP BJ (aA 0) (mC (.int 0))) (AP BJ (aA 1) (mC (.int 0)))) (AP gC (AP BJ (aA 0) (mC (.int 1))) (AP BJ (aA 1) (mC (.int 1))))) (AP gC (AP BJ (aA 0) (mC (.int 2))) (AP BJ (aA 1) (mC (.int 2))))))
def rN:Ar:=wH
def rM (agV agU:Ar):Ar:=Es 3 3 false fun E=>
  (cF (aJ agU E (ao (aJ agV E (ao (aA 0) (ao (aA 1) aL))) (ao (aA 2) aL))))
def zZ:Ar:=rM oV rN
def jM:Ar:=Es 1 7 false fun E=>
  (bw (bK (aA 0) (gR 6 (bY (kI 1) (bY (kI 2) (bY (kI 3) (bY (kI 4) (bY (kI 5) (bY (kI 6) v7))))))))
  (cF (lA (ao (je (ao (AP gC (mC (.int 2)) (aA 1)) (ao (aA 2) (ao (aA 4) aL)))) (ao (je (ao (aA 2) (ao (AP gC (mC (.int 2)) (aA 3)) (ao (aA 5) aL)))) (ao (je (ao (aA 4) (ao (aA 5) (ao (AP gC (mC (.int 2)) (aA 6)) aL)))) aL))))))
def jC:Ar:=jM
def pY (agU agZ:Ar):Ar:=Es 2 2 false fun E=>
  (cF (Dz cD (ao (GK Ik [1] (Hx (aJ agZ E (ao (aA 0) aL))) jO (aJ agU E (ao (aA 0) (ao (aA 1) aL)))) aL)))
def vP:Ar:=pY rN jC
def zB (E:Cd):MS:=
  (cF (aA 2))
def Cy:Ar:=Es 2 8 false fun E=>
  (bw (bK (mC (.int 0)) (kI 2))
  (bw (oN (Hx (aA 0)) (gR 2 (bY (kI 3) (bY (kI 4) v7))) (bw (oN (NQ (ao (aA 3) (ao (aA 1) aL))) (gR 2 (bY (kI 5) (bY (kI 6) v7))) (oN (iQ (ao (aA 5) aL)) (kI 7) (bK (AP gC (aA 4) (aA 6)) (kI 4))))
  (bK (AP dN (aA 2) (aA 4)) (kI 2))))
  (zB E)))
def Lf:Ar:=Cy
def fW (E:Cd):MS:=
  (cF (mC (.bl true)))
def jw (E:Cd):MS:=
  (bw (bK (mC .non) (kI 2))
  (bw (oN (Hx (aA 0)) (kI 3) (bw (lq (Nb (Ii (Cg (Dz HF (ao (aA 3) (ao (mC (.ty "tuple")) aL))))) (Nb (bM (AP KZ (Dz Gd (ao (aA 3) aL)) (mC (.int 2)))) (Nb (Ii (Cg (Dz HF (ao (AP BJ (aA 3) (mC (.int 0))) (ao (mC (.ty "tuple")) aL))))) (bM (AP KZ (Dz Gd (ao (AP BJ (aA 3) (mC (.int 0))) aL)) (aA 1)))))) (cF (mC (.bl false))) dB)
  (bw (oN (Hx (AP dN (Dz uY (ao (AP BJ (aA 3) (mC (.int 0))) aL)) (lA (ao (AP BJ (aA 3) (mC (.int 1))) aL)))) (kI 4) (lq (Nb (Ii (Cg (Dz HF (ao (aA 4) (ao (mC (.ty "int")) aL))))) (Cg (Dz HF (ao (aA 4) (ao (mC (.ty "bool")) aL))))) (cF (mC (.bl false))) dB))
  (bw (lq (Nb (bM (AP kLt (Dz Nj (ao (AP dN (lA (ao (mC (.int 0)) aL)) (Dz uY (ao (AP BJ (aA 3) (mC (.int 0))) aL))) aL)) (mC (.int 0)))) (Nb (bM (AP J8 (AP BJ (aA 3) (mC (.int 1))) (mC (.int 0)))) (Yp (bM (AP FQ (aA 2) (mC .non))) (Ii (bM (AP Vb (aA 2) (AP BJ (aA 3) (mC (.int 0))))))))) (cF (mC (.bl false))) dB)
  (bK (AP BJ (aA 3) (mC (.int 0))) (kI 2))))))
  (fW E)))
def jg:Ar:=Es 2 5 false fun E=>
  (bw (lq (Ii (Cg (Dz HF (ao (aA 0) (ao (mC (.ty "tuple")) aL))))) (cF (mC (.bl false))) dB)
  (jw E))
def mQ:Ar:=jg
def lO (agR:Ar)(E:Cd):MS:=
  (cF (lA (ao (je (ao (AP vf (je (ao (mC (.int 0)) aL)) (aA 1)) (ao (AP yg (aJ agR E (ao (aA 0) (ao (mC (.int 5)) aL))) (mC (.int 2))) aL))) (ao (je (ao (aA 6) (ao (aA 4) aL))) (ao (je (ao (aA 7) (ao (AP yg (aJ agR E (ao (aA 0) (ao (mC (.int 3)) aL))) (mC (.int 1))) aL))) aL)))))
def mz (agR:Ar)(E:Cd):MS:=
  (bw (bK (AP vf (je (ao (mC (.int 1)) aL)) (aA 1)) (kI 7))
  (bw (lq (bM (AP J8 (aA 3) (mC (.int 2)))) (cF (lA (ao (je (ao (AP vf (je (ao (mC (.int 0)) aL)) (aA 1)) (ao (aA 4) aL))) (ao (je (ao (aA 6) (ao (AP yg (aJ agR E (ao (aA 0) (ao (mC (.int 5)) aL))) (mC (.int 2))) aL))) aL)))) dB)
  (lO agR E)))
def lU (agR:Ar)(E:Cd):MS:=
  (bw (bK (aJ agR E (ao (aA 0) (ao (aA 1) aL))) (kI 5))
  (bw (bK (Dz cD (ao (GK Ik [5] (iQ (ao (aA 1) aL)) jO (Dz Kl (ao (AP J8 (aA 0) (aA 1)) aL))) aL)) (kI 6))
  (bw (lq (Nb (bM (AP QS (aA 1) (mC (.int 2)))) (bM (AP J8 (aA 3) (mC (.int 1))))) (cF (lA (ao (je (ao (aA 6) (ao (aA 4) aL))) aL))) dB)
  (mz agR E))))
def tR (agR:Ar):Ar:=Es 3 8 false fun E=>
  (bw (bK (aJ agR E (ao (aA 0) (ao (mC (.int 4)) aL))) (kI 3))
  (bw (bK (AP yg (aJ agR E (ao (aA 0) (ao (AP dN (AP gC (mC (.int 2)) (aA 2)) (mC (.int 1))) aL))) (aA 2)) (kI 4))
  (bw (lq (Nb (bM (AP J8 (aA 3) (mC (.int 0)))) (bM (AP J8 (aA 1) (mC (.int 0))))) (cF (lA (ao (je (ao (AP vf (je (ao (mC (.int 0)) aL)) (aA 1)) (ao (aA 4) aL))) aL))) dB)
  (lU agR E))))
def yH:Ar:=tR j5
def pU (ahB:Ar)(E:Cd):MS:=
  (cF (Dz cD (ao (aA 4) aL)))
def oG (ahB:Ar):Ar:=Es 4 6 false fun E=>
  (bw (bK (vQ aL) (kI 4))
  (bw (oN (iQ (ao (AP dN (mC (.int 3)) (AP Am (mC (.int 3)) (Dz Kl (ao (AP J8 (aA 2) (mC (.str "curve"))) aL)))) aL)) (kI 5) (xT (Qv gY (aA 4) (ao (Dz cD (ao (Dz FZ (ao (GK Ik [] (Hx (aJ ahB E (ao (aA 0) (ao (aA 1) (ao (aA 3) aL))))) (bM (AP KZ (AP BJ (aA 0) (mC (.int 1))) (mC (.int 0)))) (aA 0)) aL)) aL)) aL))))
  (pU ahB E)))
def uV:Ar:=oG yH
def sH:Ar:=Es 2 8 false fun E=>
  (bw (bK (aA 0) (gR 3 (bY (kI 2) (bY (kI 3) (bY (kI 4) v7)))))
  (bw (bK (aA 1) (gR 3 (bY (kI 5) (bY (kI 6) (bY (kI 7) v7)))))
  (cF (lA (ao (AP gC (aA 2) (aA 5)) (ao (AP dN (AP gC (aA 2) (aA 6)) (AP gC (aA 3) (aA 5))) (ao (AP gC (aA 3) (aA 6)) (ao (AP dN (AP gC (aA 2) (aA 7)) (AP gC (aA 4) (aA 5))) (ao (AP dN (AP gC (aA 3) (aA 7)) (AP gC (aA 4) (aA 6))) (ao (AP gC (aA 4) (aA 7)) aL))))))))))
def yq:Ar:=sH
def vX (agV agU ahh agZ ahc ahb:Ar)(E:Cd):MS:=
  (bw (bK (aJ ahc E (ao (AP BJ (aA 1) (mC (.int 0))) (ao (AP BJ (aA 1) (mC (.int 2))) aL))) (kI 16))
  (bw (bK (aJ agU E (ao (AP BJ (aA 1) (mC (.int 2))) (ao (aA 16) aL))) (kI 17))
  (bw (bK (AP gC (mC (.int 2)) (aJ agU E (ao (AP BJ (aA 1) (mC (.int 1))) (ao (aA 16) aL)))) (kI 18))
  (cF (Dz cD (ao (GK (Rz 2) [17,18] (NQ (ao (AP BJ (aA 1) (mC (.int 1))) (ao (AP BJ (aA 1) (mC (.int 2))) aL))) jO (AP yg (AP gC (aA 2) (aA 0)) (AP gC (aA 3) (aA 1)))) aL))))))
def oW (agV agU ahh agZ ahc ahb:Ar)(E:Cd):MS:=
  (bw (lq (bM (AP J8 (aA 0) (mC (.str "pole")))) (bw (bK (aJ agZ E (ao (AP BJ (aA 1) (mC (.int 0))) aL)) (kI 13))
  (bw (bK (lA (ao (aJ agV E (ao (AP BJ (aA 13) (mC (.int 1))) (ao (AP BJ (aA 13) (mC (.int 2))) aL))) (ao (aJ agV E (ao (AP BJ (aA 13) (mC (.int 2))) (ao (AP BJ (aA 13) (mC (.int 0))) aL))) (ao (aJ agV E (ao (AP BJ (aA 13) (mC (.int 0))) (ao (AP BJ (aA 13) (mC (.int 1))) aL))) aL)))) (kI 14))
  (bw (bK (aJ ahh E (ao (AP BJ (aA 13) (mC (.int 0))) (ao (AP BJ (aA 13) (mC (.int 1))) (ao (AP BJ (aA 13) (mC (.int 2))) aL)))) (kI 15))
  (cF (Dz cD (ao (GK Ik [1,15] (Hx (aA 14)) jO (AP gC (aJ agU E (ao (aA 0) (ao (AP BJ (aA 1) (mC (.int 1))) aL))) (aA 2))) aL)))))) dB)
  (vX agV agU ahh agZ ahc ahb E))
def jZ (agV agU ahh agZ ahc ahb:Ar)(E:Cd):MS:=
  (bw (lq (bM (AP J8 (aA 0) (mC (.str "about")))) (cF (aJ ahc E (ao (AP BJ (aA 1) (mC (.int 0))) (ao (AP BJ (aA 1) (mC (.int 1))) aL)))) dB)
  (oW agV agU ahh agZ ahc ahb E))
def gA (agV agU ahh agZ ahc ahb:Ar)(E:Cd):MS:=
  (bw (lq (bM (AP J8 (aA 0) (mC (.str "curve")))) (bw (bK (aA 1) (gR 5 (bY (kI 2) (bY (kI 3) (bY (kI 4) (bY (kI 5) (bY (kI 6) v7)))))))
  (bw (bK (aJ agV E (ao (aA 2) (ao (aA 3) aL))) (kI 7))
  (bw (bK (aJ agV E (ao (aA 4) (ao (aA 5) aL))) (kI 8))
  (bw (bK (aJ agV E (ao (aA 2) (ao (aA 4) aL))) (kI 9))
  (bw (bK (aJ agV E (ao (aA 3) (ao (aA 5) aL))) (kI 10))
  (bw (bK (AP gC (aJ agU E (ao (aA 7) (ao (aA 6) aL))) (aJ agU E (ao (aA 8) (ao (aA 6) aL)))) (kI 11))
  (bw (bK (AP gC (aJ agU E (ao (aA 9) (ao (aA 6) aL))) (aJ agU E (ao (aA 10) (ao (aA 6) aL)))) (kI 12))
  (cF (Dz cD (ao (GK (Rz 2) [11,12] (NQ (ao (aJ ahb E (ao (aA 9) (ao (aA 10) aL))) (ao (aJ ahb E (ao (aA 7) (ao (aA 8) aL))) aL))) jO (AP yg (AP gC (aA 2) (aA 0)) (AP gC (aA 3) (aA 1)))) aL)))))))))) dB)
  (jZ agV agU ahh agZ ahc ahb E))
def fQ (agV agU ahh agZ ahc ahb:Ar):Ar:=Es 2 19 false fun E=>
  (bw (lq (Nb (bM (AP J8 (aA 0) (mC (.str "join")))) (bM (AP J8 (aA 0) (mC (.str "meet"))))) (cF (aJ agV E (ao (AP BJ (aA 1) (mC (.int 0))) (ao (AP BJ (aA 1) (mC (.int 1))) aL)))) dB)
  (gA agV agU ahh agZ ahc ahb E))
def Ga:Ar:=fQ oV rN zZ jC vP yq
def yD (ahu ahe aho agR aha agW ahn ahv ahs ahr:Ar)(E:Cd):MS:=
  (cF (mC (.bl true)))
def xq (ahu ahe aho agR aha agW ahn ahv ahs ahr:Ar)(E:Cd):MS:=
  (bw (bK (aJ aho E (ao (aJ ahe E (ao (aA 0) (ao (mC (.int 2)) aL))) aL)) (kI 8))
  (bw (bK (GK Ik [3,8] (iQ (ao (mC (.int 3)) aL)) jO (Dz cD (ao (GK Ik [2] (iQ (ao (aA 1) aL)) jO (AP yg (aJ agR E (ao (aA 1) (ao (mC (.int 7)) aL))) (mC (.int 3)))) aL))) (kI 9))
  (bw (oN (Qm (ao (aA 1) (ao (aA 2) aL))) (kI 7) (bw (bK (lA (ao (Dz uY (ao (aA 5) aL)) (ao (Dz uY (ao (aA 6) aL)) aL))) (kI 10))
  (bw (bK (aJ ahu E (ao (AP BJ (aA 10) (mC (.int 0))) (ao (AP BJ (aA 10) (mC (.int 1))) (ao (aA 7) aL)))) (kI 11))
  (bw (bK (AP dN (mC (.int 3)) (AP Am (mC (.int 3)) (Dz Kl (ao (AP J8 (AP BJ (AP BJ (aA 5) (aA 7)) (mC (.int 0))) (mC (.str "curve"))) aL)))) (kI 12))
  (bw (lq (Nb (Ii (Cg (Dz HF (ao (aA 11) (ao (mC (.ty "tuple")) aL))))) (Nb (bM (AP KZ (Dz Gd (ao (aA 11) aL)) (aA 12))) (bM (AP Wg (aA 10) (lA (ao (aA 5) (ao (aA 6) aL))))))) (cF (mC (.bl false))) dB)
  (bw (lq (bM (AP QS (Dz Gd (ao (GK Ik [3] (Hx (aA 11)) (Ii (Cg (aJ ahv E (ao (aA 0) (ao (aA 1) aL))))) (aA 0)) aL)) (mC (.int 0)))) (cF (mC (.bl false))) dB)
  (oN (Hx (aA 9)) (kI 13) (bw (bK (GK Ik [6,13] (Hx (mSl W2 (AP BJ (aA 5) (aA 7)) (Fp (mC (.int 1))) oH)) jO (Dz cD (ao (GK Ik [2] (Hx (AP BJ (aA 1) (aA 0))) jO (aJ ahn E (ao (aA 0) (ao (aA 1) aL)))) aL))) (kI 14))
  (lq (bM (AP KZ (Dz cD (ao (GK Ik [13] (Hx (aA 11)) jO (aJ ahn E (ao (aA 0) (ao (aA 1) aL)))) aL)) (Dz cD (ao (aJ ahr E (ao (AP BJ (AP BJ (aA 5) (aA 7)) (mC (.int 0))) (ao (aA 14) aL))) aL)))) (cF (mC (.bl false))) dB)))))))))
  (yD ahu ahe aho agR aha agW ahn ahv ahs ahr E))))
def N6 (ahu ahe aho agR aha agW ahn ahv ahs ahr:Ar):Ar:=Es 1 15 false fun E=>
  (bw (bK (AP dN (mC (.int 1)) (AP Bv (aJ ahe E (ao (aA 0) (ao (mC (.int 0)) aL))) (mC (.int 7)))) (kI 1))
  (bw (bK (Dz UL (ao (aA 1) (ao (AP dN (mC (.int 1)) (AP Bv (AP Mr (aJ ahe E (ao (aA 0) (ao (mC (.int 0)) aL))) (mC (.int 7))) (mC (.int 12)))) aL))) (kI 2))
  (bw (bK (AP gC (mC (.int 2)) (Dz UL (ao (mC (.int 0)) (ao (AP yg (aA 1) (mC (.int 4))) aL)))) (kI 3))
  (bw (bK (mIf (bM (AP J8 (aA 3) (mC (.int 0)))) (AP BJ (lA (ao (mC (.int 4)) (ao (mC (.int 4)) (ao (mC (.int 4)) (ao (AP RT (mC (.int 10)) (mC (.int 9))) aL))))) (AP Bv (aJ ahe E (ao (aA 0) (ao (mC (.int 1)) aL))) (mC (.int 4)))) (mC (.int 4))) (kI 4))
  (bw (bK (vQ aL) (kI 5))
  (bw (bK (vQ aL) (kI 6))
  (bw (oN (iQ (ao (aA 2) aL)) (kI 7) (bw (bK (aJ aho E (ao (aJ ahe E (ao (aA 0) (ao (AP dN (mC (.int 3)) (aA 7)) aL))) aL)) (kI 8))
  (bw (xT (Qv gY (aA 5) (ao (aJ agW E (ao (aA 8) (ao (aA 5) (ao (aA 1) aL)))) aL)))
  (xT (Qv gY (aA 6) (ao (aJ ahs E (ao (aA 8) (ao (aA 3) (ao (aJ aha E (ao (AP BJ (aA 5) (aA 7)) aL)) (ao (aA 4) aL))))) aL))))))
  (xq ahu ahe aho agR aha agW ahn ahv ahs ahr E))))))))
def PX:Ar:=N6 QF zN Gw j5 nP GJ Lf mQ uV Ga
def zl:List Str:=["abs", "any", "bool", "dict", "int", "isinstance", "len", "list", "max", "min", "range", "reversed", "sorted", "tuple", "zip"]
structure Txt (P:DI) (w:Bw) (K:Az) (mg:Str->Option Mk) (base:Heap):Prop where
 f0:At K mg "sum_of_totals" (top 8) ["totals"]
 f1:At K mg "with_times" (top 9) ["one", "other", "factor"]
 f2:At K mg "plus" (top 10) ["one", "other"]
 f3:At K mg "minus" (top 11) ["one", "other"]
 f4:At K mg "packed" (top 12) ["powers"]
 f5:At K mg "unpacked" (top 13) ["key", "letters"]
 f6:At K mg "packed_terms" (top 14) ["one"]
 f7:At K mg "check_powers" (top 15) ["one"]
 f8:At K mg "times" (top 16) ["one", "other"]
 f9:At K mg "less_swapped" (top 18) ["one", "other", "i", "j"]
 f10:At K mg "sum_cross" (top 19) ["one", "other"]
 f11:At K mg "sum_dot" (top 20) ["one", "other"]
 f12:At K mg "sum_turn" (top 21) ["one", "other", "third"]
 f13:At K mg "sums_times" (top 22) ["some", "factor"]
 f14:At K mg "sums_minus" (top 23) ["some", "others"]
 f15:At K mg "sum_together" (top 24) ["line", "other"]
 f16:At K mg "doubled" (top 25) ["one"]
 f17:At K mg "sum_table" (top 26) ["curve"]
 f18:At K mg "turned_rows" (top 27) ["rows"]
 f19:At K mg "rows_times" (top 28) ["rows", "thing"]
 f20:At K mg "rows_on_both_sides" (top 29) ["rows", "one", "other"]
 f21:At K mg "rows_size" (top 30) ["rows"]
 f22:At K mg "curve_raw" (top 31) ["five"]
 f23:At K mg "pole_raw" (top 32) ["curve", "line"]
 f24:At K mg "other_raw" (top 33) ["curve", "one", "other"]
 f25:At K mg "raw" (top 34) ["rows", "things", "k"]
 f26:At K mg "_law_cell" (top 36) ["_law_script", "_law_k"]
 f27:At K mg "_law_bag" (top 37) ["_law_cell_here"]
 f28:At K mg "_law_draw" (top 38) ["_law_bag_here", "_law_many"]
 f29:At K mg "_law_asks" (top 39) ["_law_word"]
 f30:At K mg "_law_sort" (top 40) ["_law_row_here"]
 f31:At K mg "_law_pick" (top 41) ["_law_bag_here", "_law_rows", "_law_sort_here"]
 f32:At K mg "_law_row" (top 42) ["_law_bag_here", "_law_rows", "_law_frees"]
 f33:At K mg "_law_cross" (top 43) ["_law_one", "_law_other"]
 f34:At K mg "_law_dot" (top 44) ["_law_one", "_law_other"]
 f35:At K mg "_law_turn" (top 45) ["_law_one", "_law_other", "_law_third"]
 f36:At K mg "_law_rows_of" (top 46) ["_law_curve"]
 f37:At K mg "_law_times" (top 47) ["_law_curve", "_law_row_here"]
 f38:At K mg "_law_at" (top 48) ["_law_one", "_law_numbers"]
 f39:At K mg "_law_sum_good" (top 49) ["_law_thing_here", "_law_letters"]
 f40:At K mg "_law_part" (top 50) ["_law_bag_here", "_law_letters", "_law_top"]
 f41:At K mg "_law_thing" (top 51) ["_law_bag_here", "_law_letters", "_law_sort_here", "_law_top"]
 f42:At K mg "_law_pair" (top 52) ["_law_one", "_law_other"]
 f43:At K mg "_law_due" (top 53) ["_law_word", "_law_some"]
 z:∀ n∈zl,mg n=FX
 g_MOST_TERMS:∃ n,mg "MOST_TERMS" = FN (.int 600 n)
 g_MOST_POWER:∃ n,mg "MOST_POWER" = FN (.int 60 n)
 g_MOST_PAIRS:∃ n,mg "MOST_PAIRS" = FN (.int 20000 n)
 g_FIELD:∃ n,mg "FIELD" = FN (.int 65536 n)
section
variable {P:DI}{w:Bw}{K:Az}{mg:Str->Option Mk}{base:Heap}(T:Txt P w K mg base)
include T
theorem iy:Fk P w K mg base 10 "sum_of_totals" eZ:=by
 refine fk (k:=9) ["totals", "terms"] T.f0 T.z ?_
 intros
 obtain ⟨_,g_MOST_TERMS⟩:=T.g_MOST_TERMS;refine au (Ek 1<|dct cH Jz<|a1<|dl1 [0] (cj<|JC (agP hh) PyProof.Rows.boot_sorted<|a1<|vV 0) (fun _ _ _ _=>(oJ<|Hy (RV qq) (V1 qq (vV 1) (vV 0) (by intro _ _;rfl)) aF))<|fun _ _ _ _=>(dW<|a2 (vV 0)<|V1 qq (vV 1) (vV 0) (by intro _ _;rfl))) ?_;refine au (d8 (Hy Qi (JC kZ Ou<|a1<|vV 1)<|dc (v:=.int 600) (lY (by rfl) g_MOST_TERMS ⟨_,rfl⟩)<|fun _ _=>RW) (aG tZ) bF) ?_;exact aG<|aO<|vV 1
theorem jY:Fk P w K mg base 11 "with_times" fH:=by
 refine fk (k:=10) ["one", "other", "factor", "totals", "powers", "number"] T.f1 T.z ?_
 intros
 refine au (Ek 3<|dct (acW hh qq) boot_dict<|a1<|vV 0) ?_;refine au (eE Nq hh (cj<|vV 1) (dH hh<|aQ (Fe 4)<|aQ (Fe 5) dO)<|aG<|gw (bN cV (Wu qq (vV 3) (a2 (vV 4) aF) (by rfl) (Vl (by rfl)<|by rfl) (by rfl) (bT<|by rfl)<|cN<|by rfl)<|bN cC (vV 2)<|vV 5)<|p7 (vV 3) (vV 4) (acK qq) zbt) ?_;exact aG<|aO<|Bh (iy T)<|a1<|vV 3
theorem oO:Fk P w K mg base 12 "plus" qN:=by
 refine fk (k:=11) ["one", "other"] T.f2 T.z ?_
 intros
 exact aG<|aO<|Bh (jY T)<|a3 (vV 0) (vV 1) aF
theorem yx:Fk P w K mg base 12 "minus" rZ:=by
 refine fk (k:=11) ["one", "other"] T.f3 T.z ?_
 intros
 exact aG<|aO<|Bh (jY T)<|a3 (vV 0) (vV 1)<|Y9 aF
theorem zaE:Fk P w K mg base 10 "packed" zJ:=by
 refine fk (k:=9) ["powers", "key", "power"] T.f4 T.z ?_
 intros
 obtain ⟨_,g_FIELD⟩:=T.g_FIELD;refine au (Ek 1 aF) ?_;refine au (eE Nq hh (cj<|vV 0) (Fe 2)<|aG<|Ek 1<|bN cV (bN cC (vV 1)<|dc (v:=.int 65536) (lY (by rfl) g_FIELD ⟨_,rfl⟩)<|fun _ _=>RW)<|vV 2) ?_;exact aG<|aO<|vV 1
theorem yh:Fk P w K mg base 10 "unpacked" qC:=by
 refine fk (k:=9) ["key", "letters", "powers", "taken"] T.f5 T.z ?_
 intros
 obtain ⟨_,g_FIELD⟩:=T.g_FIELD;refine au (Ek 2<|uE oY) ?_;refine au (eE Nq hh (S8<|a1<|vV 1) (Fe 3)<|au (nZ<|nM (vV 2) (a1<|bN rK (vV 0)<|dc (v:=.int 65536) (lY (by rfl) g_FIELD ⟨_,rfl⟩)<|fun _ _=>RW) (by rfl) (JX<|by rfl) (by rfl) (bT<|by rfl)<|by rfl)<|aG<|Ek 0<|bN Dc (vV 0)<|dc (v:=.int 65536) (lY (by rfl) g_FIELD ⟨_,rfl⟩)<|fun _ _=>RW) ?_;exact aG<|aO<|acz hh (by rfl) (by exact T.z _ (by decide)) (by rfl) (by exact T.z _ (by decide)) (vV 2) (bT<|by rfl) (cN<|by rfl) (bT<|by rfl)<|cN<|by rfl
theorem iJ:Fk P w K mg base 11 "packed_terms" jy:=by
 refine fk (k:=10) ["one"] T.f6 T.z ?_
 intros
 exact aG<|aO<|Sd [] hh (cP<|by rfl) Du (Gi hh<|cP<|by rfl) (cj<|vV 0) (fun _ _ _ _=>gM)<|fun _ _ _ _=>(dW<|a2 (Bh (zaE T)<|a1<|vV 0)<|vV 1)
theorem pJ:Fk P w K mg base 10 "check_powers" ju:=by
 refine fk (k:=9) ["one", "powers", "number"] T.f7 T.z ?_
 intros
 obtain ⟨_,g_MOST_POWER⟩:=T.g_MOST_POWER;exact aG<|eE Nq hh (cj<|vV 0) (dH hh<|aQ (Fe 1)<|aQ (Fe 2) dO)<|aG<|d8 (kE<|JC (Y7 hh) boot_any<|a1<|Pq [] (cj<|vV 1)<|fun _ _ _ _=>(cce Qi (vV 0)<|dc (v:=.int 60) (lY (by rfl) g_MOST_POWER ⟨_,rfl⟩)<|fun _ _=>RW)) (aG tZ) bF
theorem cB:Fk P w K mg base 12 "times" jK:=by
 refine fk (k:=11) ["one", "other", "totals", "others", "key", "number", "other_key", "other_number", "place", "letters", "product", "unpacked_terms"] T.f8 T.z ?_
 intros
 obtain ⟨_,g_MOST_PAIRS⟩:=T.g_MOST_PAIRS;refine au (d8 (Hy Qi (bN cC (JC kZ Ou<|a1<|vV 0)<|JC kZ Ou<|a1<|vV 1)<|dc (v:=.int 20000) (lY (by rfl) g_MOST_PAIRS ⟨_,rfl⟩)<|fun _ _=>RW) (aG tZ) bF) ?_;refine au ?_ ?_
 ·with_reducible exact Ek 2 afZ
 refine au (Ek 3<|Bh (iJ T)<|a1<|vV 1) ?_;refine au (eE Nq hh (cj<|Bh (iJ T)<|a1<|vV 0) (dH hh<|aQ (Fe 4)<|aQ (Fe 5) dO)<|aG<|eE Nq hh (cj<|vV 3) (dH hh<|aQ (Fe 6)<|aQ (Fe 7) dO)<|au (Ek 8<|bN cV (vV 4)<|vV 6)<|aG<|gw (bN cV (agt qq (vV 2) (a2 (vV 8) aF) (by rfl) (Vl (by rfl)<|by rfl) (by rfl) (bT<|by rfl)<|cN<|by rfl)<|bN cC (vV 5)<|vV 7)<|p7 (vV 2) (vV 8) JB nG) ?_;refine au (Ek 9<|aay (kE<|vV 0) (JC kZ Ou<|a1<|Bm (Bm (vV 0) aF) aF) aF) ?_;refine au (Ek 10<|Bh (iy T)<|a1<|vV 2) ?_;refine au (Ek 11<|dct cH Jz<|a1<|Sd [9] hh (cP<|by rfl) Du (Gi hh<|cP<|by rfl) (cj<|vV 10) (fun _ _ _ _=>gM)<|fun _ _ _ _=>(dW<|a2 (Bh (yh T)<|a2 (vV 0)<|vV 2)<|vV 1)) ?_;refine au (nZ<|Bh (pJ T)<|a1<|vV 11) ?_;exact aG<|aO<|vV 11
theorem eX:Fk P w K mg base 13 "less_swapped" jr:=by
 refine fk (k:=12) ["one", "other", "i", "j"] T.f9 T.z ?_
 intros
 exact aG<|aO<|Bh (yx T)<|a2 (Bh (cB T)<|a2 (Bm (vV 0)<|vV 2)<|Bm (vV 1)<|vV 3)<|Bh (cB T)<|a2 (Bm (vV 0)<|vV 3)<|Bm (vV 1)<|vV 2
theorem bO:Fk P w K mg base 14 "sum_cross" dR:=by
 refine fk (k:=13) ["one", "other"] T.f10 T.z ?_
 intros
 exact aG<|aO<|dW<|a3 (Bh (eX T)<|aC (vV 0)<|a3 (vV 1) aF aF) (Bh (eX T)<|aC (vV 0)<|a3 (vV 1) aF aF)<|Bh (eX T)<|aC (vV 0)<|a3 (vV 1) aF aF
theorem dJ:Fk P w K mg base 13 "sum_dot" gD:=by
 refine fk (k:=12) ["one", "other", "total", "mine", "its"] T.f11 T.z ?_
 intros
 refine au (Ek 2<|dW oY) ?_;refine au (eE Nq hh (uF (by rfl) (by exact T.z _ (by decide)) (a2 (vV 0)<|vV 1) (bT<|by rfl)<|cN<|by rfl) (dH hh<|aQ (Fe 3)<|aQ (Fe 4) dO)<|aG<|Ek 2<|Bh (oO T)<|a2 (vV 2)<|Bh (cB T)<|a2 (vV 3)<|vV 4) ?_;exact aG<|aO<|vV 2
theorem wM:Fk P w K mg base 15 "sum_turn" qH:=by
 refine fk (k:=14) ["one", "other", "third"] T.f12 T.z ?_
 intros
 exact aG<|aO<|Bh (dJ T)<|a2 (Bh (bO T)<|a2 (vV 0)<|vV 1)<|vV 2
theorem dz:Fk P w K mg base 13 "sums_times" dZ:=by
 refine fk (k:=12) ["some", "factor"] T.f13 T.z ?_
 intros
 exact aG<|aO<|dct cH Jz<|a1<|Pq [1] (cj<|vV 0)<|fun _ _ _ _=>(Bh (cB T)<|a2 (vV 0)<|vV 1)
theorem kJ:Fk P w K mg base 13 "sums_minus" fK:=by
 refine fk (k:=12) ["some", "others"] T.f14 T.z ?_
 intros
 exact aG<|aO<|dct cH Jz<|a1<|Sd [] hh (cP<|by rfl) Du (Gi hh<|cP<|by rfl) (uF (by rfl) (by exact T.z _ (by decide)) (a2 (vV 0)<|vV 1) (bT<|by rfl)<|cN<|by rfl) (fun _ _ _ _=>gM)<|fun _ _ _ _=>(Bh (yx T)<|a2 (vV 0)<|vV 1)
theorem iM:Fk P w K mg base 13 "sum_together" jq:=by
 refine fk (k:=12) ["line", "other"] T.f15 T.z ?_
 intros
 exact aG<|aO<|dW<|aC (Bh (cB T)<|a2 (Bm (vV 0) aF)<|Bm (vV 1) aF)<|aC (Bh (oO T)<|a2 (Bh (cB T)<|a2 (Bm (vV 0) aF)<|Bm (vV 1) aF)<|Bh (cB T)<|a2 (Bm (vV 0) aF)<|Bm (vV 1) aF)<|aC (Bh (cB T)<|a2 (Bm (vV 0) aF)<|Bm (vV 1) aF)<|a3 (Bh (oO T)<|a2 (Bh (cB T)<|a2 (Bm (vV 0) aF)<|Bm (vV 1) aF)<|Bh (cB T)<|a2 (Bm (vV 0) aF)<|Bm (vV 1) aF) (Bh (oO T)<|a2 (Bh (cB T)<|a2 (Bm (vV 0) aF)<|Bm (vV 1) aF)<|Bh (cB T)<|a2 (Bm (vV 0) aF)<|Bm (vV 1) aF)<|Bh (cB T)<|a2 (Bm (vV 0) aF)<|Bm (vV 1) aF
theorem jm:Fk P w K mg base 13 "doubled" jU:=by
 refine fk (k:=12) ["one"] T.f16 T.z ?_
 intros
 exact aG<|aO<|Bh (oO T)<|a2 (vV 0)<|vV 0
theorem iW:Fk P w K mg base 14 "sum_table" eY:=by
 refine fk (k:=13) ["curve"] T.f17 T.z ?_
 intros
 refine aG ?_;with_reducible exact aO (dW (a3 (dW (a3 (Bh (by with_unfolding_all exact jm T) (a1 (Bm (vV 0) aF))) (Bm (vV 0) aF) (Bm (vV 0) aF))) (dW (a3 (Bm (vV 0) aF) (Bh (by with_unfolding_all exact jm T) (a1 (Bm (vV 0) aF))) (Bm (vV 0) aF))) (dW (a3 (Bm (vV 0) aF) (Bm (vV 0) aF) (Bh (by with_unfolding_all exact jm T) (a1 (Bm (vV 0) aF)))))))
theorem qp:Fk P w K mg base 15 "turned_rows" jP:=by
 refine fk (k:=14) ["rows"] T.f18 T.z ?_
 intros
 exact aG<|aO<|dW<|a3 (Bh (bO T)<|a2 (Bm (vV 0) aF)<|Bm (vV 0) aF) (Bh (bO T)<|a2 (Bm (vV 0) aF)<|Bm (vV 0) aF)<|Bh (bO T)<|a2 (Bm (vV 0) aF)<|Bm (vV 0) aF
theorem gW:Fk P w K mg base 14 "rows_times" d7:=by
 refine fk (k:=13) ["rows", "thing"] T.f19 T.z ?_
 intros
 exact aG<|aO<|dct cH Jz<|a1<|Pq [1] (cj<|vV 0)<|fun _ _ _ _=>(Bh (dJ T)<|a2 (vV 0)<|vV 1)
theorem dY:Fk P w K mg base 15 "rows_on_both_sides" eG:=by
 refine fk (k:=14) ["rows", "one", "other"] T.f20 T.z ?_
 intros
 exact aG<|aO<|Bh (dJ T)<|a2 (vV 1)<|Bh (gW T)<|a2 (vV 0)<|vV 2
theorem ux:Fk P w K mg base 16 "rows_size" pB:=by
 refine fk (k:=15) ["rows"] T.f21 T.z ?_
 intros
 exact aG<|aO<|Bh (wM T)<|a3 (Bm (vV 0) aF) (Bm (vV 0) aF)<|Bm (vV 0) aF
theorem vo:Fk P w K mg base 15 "curve_raw" pF:=by
 refine fk (k:=14) ["five", "first", "second", "third", "last", "more", "less"] T.f22 T.z ?_
 intros
 refine au (Ek 1<|Bh (bO T)<|a2 (Bm (vV 0) aF)<|Bm (vV 0) aF) ?_;refine au (Ek 2<|Bh (bO T)<|a2 (Bm (vV 0) aF)<|Bm (vV 0) aF) ?_;refine au (Ek 3<|Bh (bO T)<|a2 (Bm (vV 0) aF)<|Bm (vV 0) aF) ?_;refine au (Ek 4<|Bh (bO T)<|a2 (Bm (vV 0) aF)<|Bm (vV 0) aF) ?_;refine au (Ek 5<|Bh (cB T)<|a2 (Bh (dJ T)<|a2 (vV 1)<|Bm (vV 0) aF)<|Bh (dJ T)<|a2 (vV 2)<|Bm (vV 0) aF) ?_;refine au (Ek 6<|Bh (cB T)<|a2 (Bh (dJ T)<|a2 (vV 3)<|Bm (vV 0) aF)<|Bh (dJ T)<|a2 (vV 4)<|Bm (vV 0) aF) ?_;exact aG<|aO<|Bh (kJ T)<|a2 (Bh (dz T)<|a2 (Bh (iM T)<|a2 (vV 3)<|vV 4)<|vV 5)<|Bh (dz T)<|a2 (Bh (iM T)<|a2 (vV 1)<|vV 2)<|vV 6
theorem wN:Fk P w K mg base 17 "pole_raw" qQ:=by
 refine fk (k:=16) ["curve", "line", "rows"] T.f23 T.z ?_
 intros
 refine au (Ek 2<|Bh (iW T)<|a1<|vV 0) ?_;exact aG<|aO<|Bh (dz T)<|a2 (Bh (gW T)<|a2 (Bh (qp T)<|a1<|vV 2)<|vV 1)<|Bh (ux T)<|a1<|vV 2
theorem vR:Fk P w K mg base 16 "other_raw" p8:=by
 refine fk (k:=15) ["curve", "one", "other", "rows", "own", "shared"] T.f24 T.z ?_
 intros
 refine au (Ek 3<|Bh (iW T)<|a1<|vV 0) ?_;refine au (Ek 4<|Bh (dY T)<|a3 (vV 3) (vV 2)<|vV 2) ?_;refine au (Ek 5<|Bh (jm T)<|a1<|Bh (dY T)<|a3 (vV 3) (vV 1)<|vV 2) ?_;exact aG<|aO<|Bh (kJ T)<|a2 (Bh (dz T)<|a2 (vV 1)<|vV 4)<|Bh (dz T)<|a2 (vV 2)<|vV 5
theorem afV:Fk P w K mg base 18 "raw" QF:=by
 refine fk (k:=17) ["rows", "things", "k", "word", "told"] T.f25 T.z ?_
 intros
 refine au (Ek 3<|Bm (Bm (vV 0)<|vV 2) aF) ?_;refine au (Fl [1] (i:=4) (by assumption) (by rfl) (by exact Or.inl rfl) hh (cP<|by rfl) BL (Ck<|cP<|by rfl) (cj<|Tn (Bm (vV 0)<|vV 2) (DX aF) GR) (fun _ _ _ _=>gM)<|fun _ _ _ _=>(Bm (vV 1)<|vV 0)) ?_;refine au (d8 (Hy (qg qq) (vV 3) bI) (aG<|aO<|Bh (vo T)<|a1<|vV 4) bF) ?_;refine au (d8 (Hy (qg qq) (vV 3) bI) (aG<|aO<|Bh (gW T)<|a2 (Bh (iW T)<|a1<|Bm (vV 4) aF)<|Bm (vV 4) aF) bF) ?_;refine au (d8 (Hy (qg qq) (vV 3) bI) (aG<|aO<|Bh (wN T)<|a2 (Bm (vV 4) aF)<|Bm (vV 4) aF) bF) ?_;refine au (d8 (Hy (qg qq) (vV 3) bI) (aG<|aO<|Bh (vR T)<|a3 (Bm (vV 4) aF) (Bm (vV 4) aF)<|Bm (vV 4) aF) bF) ?_;exact aG<|aO<|Bh (bO T)<|a2 (Bm (vV 4) aF)<|Bm (vV 4) aF
theorem iZ:Fk P w K mg base 10 "_law_cell" zN:=by
 refine fk (k:=9) ["_law_script", "_law_k"] T.f26 T.z ?_
 intros
 refine au (d8 (Hy Xp (vV 1)<|JC kZ Ou<|a1<|vV 0) (aG<|aO<|Bm (vV 0)<|vV 1) bF) ?_;exact aG<|aO aF
theorem zq:Fk P w K mg base 10 "_law_bag" Gw:=by
 refine fk (k:=9) ["_law_cell_here"] T.f27 T.z ?_
 intros
 exact aG<|aO<|uE<|a2 (bN CV (JC QK boot_abs<|a1<|vV 0)<|dct Bl boot_int<|a1<|cce abe (JC QK boot_abs<|a1<|vV 0)<|bN Uk aF aF)<|bN rK (JC QK boot_abs<|a1<|vV 0) aF
theorem dh:Fk P w K mg base 10 "_law_draw" j5:=by
 refine fk (k:=9) ["_law_bag_here", "_law_many", "_law_found"] T.f28 T.z ?_
 intros
 refine au (d8 (Hy Qi (Bm (vV 0) aF) aF) (au (Ek 2<|bN rK (Bm (vV 0) aF)<|vV 1)<|au (gw (bN Dc (Bm (vV 0) aF)<|vV 1)<|p7 (vV 0) aF Kr zf)<|aG<|aO<|vV 2) bF) ?_;refine au (gw (bN rK (bN cV (bN cC (Bm (vV 0) aF) aF) aF) aF)<|p7 (vV 0) aF Kr zf) ?_;exact aG<|aO<|bN rK (bN Dc (bN rK (bN cC (Bm (vV 0) aF)<|bN cV (bN Dc (Bm (vV 0) aF) aF) aF) aF) aF)<|vV 1
theorem uO:Fk P w K mg base 10 "_law_asks" zU:=by
 refine fk (k:=9) ["_law_word", "_law_asks_here"] T.f29 T.z ?_
 intros
 refine au ?_ ?_
 ·with_reducible exact Ek 1 (agk (PJ.cons (eV oY) (PJ.cons (eV (a2 bI bI)) (PJ.cons (eV (a2 bI bI)) (PJ.cons (eV (a2 bI bI)) PJ.nil)))) (by with_unfolding_all exact List.cons_ne_nil _ _) (by with_unfolding_all exact Vt rfl))
 refine au (gw (eV<|aC bI<|aC bI<|a3 bI bI bI)<|p7 (vV 1) bI JB nG) ?_;refine au (gw (eV<|a2 bI bI)<|p7 (vV 1) bI JB nG) ?_;refine au (gw (eV<|a3 bI bI bI)<|p7 (vV 1) bI JB nG) ?_;exact aG<|aO<|Zv (vV 1) (vV 0) (by intro _ _;rfl)
theorem pW:Fk P w K mg base 10 "_law_sort" nP:=by
 refine fk (k:=9) ["_law_row_here"] T.f30 T.z ?_
 intros
 refine au (d8 (lJ (Hy (qg qq) (Bm (vV 0) aF) bI)<|kO<|Hy (qg qq) (Bm (vV 0) aF) bI).pt (aG<|aO bI) bF) ?_;exact aG<|aO<|Bm (eV<|a2 bI bI)<|dct Bl boot_int<|a1<|cce (qg qq) (Bm (vV 0) aF) bI
theorem acC:Fk P w K mg base 11 "_law_pick" zj:=by
 refine fk (k:=10) ["_law_bag_here", "_law_rows", "_law_sort_here", "_law_numbers"] T.f31 T.z ?_
 intros
 refine au (Fl [1,2] (i:=3) (by assumption) (by rfl) (by exact Or.inl rfl) hh (cP<|by rfl) BL (Ck<|cP<|by rfl) (S8<|a1<|JC kZ Ou<|a1<|vV 1) (fun _ _ _ _=>(oJ<|Hy (qg qq) (Bh (pW T)<|a1<|Bm (vV 1)<|vV 0)<|vV 2))<|fun _ _ _ _=>(vV 0)) ?_;exact aG<|aO<|Bm (vV 3)<|Bh (dh T)<|a2 (vV 0)<|JC kZ Ou<|a1<|vV 3
theorem acZ:Fk P w K mg base 12 "_law_row" GJ:=by
 refine fk (k:=11) ["_law_bag_here", "_law_rows", "_law_frees", "_law_sorts", "_law_words", "_law_word", "_law_lacking"] T.f32 T.z ?_
 intros
 refine au (Ek 3<|Pq [] (cj<|vV 1)<|fun _ _ _ _=>(Bh (pW T)<|a1<|vV 0)) ?_;refine au (Ek 4<|eV<|aC bI<|aC bI<|aC bI<|aC bI<|aC bI<|aC bI<|aC bI<|a3 bI bI bI) ?_;refine au (Ek 5<|Bm (vV 4)<|Bh (dh T)<|a2 (vV 0) aF) ?_;refine au (Fl [3] (i:=6) (by assumption) (by rfl) (by exact Or.inl rfl) hh (cP<|by rfl) BL (Ck<|cP<|by rfl) (cj<|Bh (uO T)<|a1<|vV 5) (fun _ _ _ _=>(oJ<|Hy (afa qq) (vV 0)<|vV 1))<|fun _ _ _ _=>(vV 0)) ?_;refine au (d8 (lJ (Hy Xp (JC kZ Ou<|a1<|vV 1)<|vV 2)<|kO<|Hy Qi (JC kZ Ou<|a1<|vV 6) aF).pt (aG<|Ek 5<|Bm (eV<|a2 bI bI)<|dct Bl boot_int<|a1<|cce Xp (JC kZ Ou<|a1<|vV 1)<|vV 2) bF) ?_;exact aG<|aO<|dct cH Jz<|a1<|bN cV (eV<|a1<|vV 5)<|Pq [0,1] (cj<|Bh (uO T)<|a1<|vV 5)<|fun _ _ _ _=>(Bh (acC T)<|a3 (vV 1) (vV 2)<|vV 0)
theorem cO:Fk P w K mg base 10 "_law_cross" oV:=by
 refine fk (k:=9) ["_law_one", "_law_other", "_law_a", "_law_b", "_law_c", "_law_d", "_law_e", "_law_f"] T.f33 T.z ?_
 intros
 refine au (gw (vV 0)<|dH hh<|aQ (Fe 2)<|aQ (Fe 3)<|aQ (Fe 4) dO) ?_;refine au (gw (vV 1)<|dH hh<|aQ (Fe 5)<|aQ (Fe 6)<|aQ (Fe 7) dO) ?_;exact aG<|aO<|dW<|a3 (bN nT (bN cC (vV 3)<|vV 7)<|bN cC (vV 4)<|vV 6) (bN nT (bN cC (vV 4)<|vV 5)<|bN cC (vV 2)<|vV 7)<|bN nT (bN cC (vV 2)<|vV 6)<|bN cC (vV 3)<|vV 5
theorem eH:Fk P w K mg base 10 "_law_dot" rN:=by
 refine fk (k:=9) ["_law_one", "_law_other"] T.f34 T.z ?_
 intros
 exact aG<|aO<|bN cV (bN cV (bN cC (Bm (vV 0) aF)<|Bm (vV 1) aF)<|bN cC (Bm (vV 0) aF)<|Bm (vV 1) aF)<|bN cC (Bm (vV 0) aF)<|Bm (vV 1) aF
theorem aci:Fk P w K mg base 11 "_law_turn" zZ:=by
 refine fk (k:=10) ["_law_one", "_law_other", "_law_third"] T.f35 T.z ?_
 intros
 exact aG<|aO<|Bh (eH T)<|a2 (Bh (cO T)<|a2 (vV 0)<|vV 1)<|vV 2
theorem mJ:Fk P w K mg base 10 "_law_rows_of" jC:=by
 refine fk (k:=9) ["_law_curve", "_law_a", "_law_b", "_law_c", "_law_d", "_law_e", "_law_f"] T.f36 T.z ?_
 intros
 refine au (gw (vV 0)<|dH hh<|aQ (Fe 1)<|aQ (Fe 2)<|aQ (Fe 3)<|aQ (Fe 4)<|aQ (Fe 5)<|aQ (Fe 6) dO) ?_;refine aG ?_;with_reducible exact aO (eV (a3 (dW (a3 (bN cC aF (vV 1)) (vV 2) (vV 4))) (dW (a3 (vV 2) (bN cC aF (vV 3)) (vV 5))) (dW (a3 (vV 4) (vV 5) (bN cC aF (vV 6))))))
theorem qI:Fk P w K mg base 11 "_law_times" vP:=by
 refine fk (k:=10) ["_law_curve", "_law_row_here"] T.f37 T.z ?_
 intros
 exact aG<|aO<|dct cH Jz<|a1<|Pq [1] (cj<|Bh (mJ T)<|a1<|vV 0)<|fun _ _ _ _=>(Bh (eH T)<|a2 (vV 0)<|vV 1)
theorem Gj:Fk P w K mg base 10 "_law_at" Lf:=by
 refine fk (k:=9) ["_law_one", "_law_numbers", "_law_found", "_law_powers", "_law_number", "_law_power", "_law_letter", "_law_lap"] T.f38 T.z ?_
 intros
 refine au (Ek 2 aF) ?_;refine au (eE Nq hh (cj<|vV 0) (dH hh<|aQ (Fe 3)<|aQ (Fe 4) dO)<|au (eE Nq hh (uF (by rfl) (by exact T.z _ (by decide)) (a2 (vV 3)<|vV 1) (bT<|by rfl)<|cN<|by rfl) (dH hh<|aQ (Fe 5)<|aQ (Fe 6) dO)<|aG<|eE Nq hh (S8<|a1<|vV 5) (Fe 7)<|aG<|Ek 4<|bN cC (vV 4)<|vV 6)<|aG<|Ek 2<|bN cV (vV 2)<|vV 4) ?_;exact aG<|aO<|vV 2
theorem rT:Fk P w K mg base 10 "_law_sum_good" mQ:=by
 refine fk (k:=9) ["_law_thing_here", "_law_letters", "_law_ahead", "_law_term", "_law_number"] T.f39 T.z ?_
 intros
 refine au (d8 (nW<|kE<|JC Bq Uz<|a2 (vV 0)<|dc (lC (v:=.ty "tuple") (by rfl) (by exact T.z _ (by decide)) Jz<|by rfl)<|fun _ _=>by rw [Ak]) (aG<|aO KR) bF) ?_;refine au (Ek 2 V0) ?_;refine au (eE Nq hh (cj<|vV 0) (Fe 3)<|au (d8 (lJ (nW<|kE<|JC Bq Uz<|a2 (vV 3)<|dc (lC (v:=.ty "tuple") (by rfl) (by exact T.z _ (by decide)) Jz<|by rfl)<|fun _ _=>by rw [Ak])<|lJ (Hy (RV qq) (JC kZ Ou<|a1<|vV 3) aF)<|lJ (nW<|kE<|JC Bq Uz<|a2 (Bm (vV 3) aF)<|dc (lC (v:=.ty "tuple") (by rfl) (by exact T.z _ (by decide)) Jz<|by rfl)<|fun _ _=>by rw [Ak])<|kO<|Hy (RV qq) (JC kZ Ou<|a1<|Bm (vV 3) aF)<|vV 1).pt (aG<|aO KR) bF)<|au (eE Nq hh (cj<|bN cV (dct zT boot_list<|a1<|Bm (vV 3) aF)<|eV<|a1<|Bm (vV 3) aF) (Fe 4)<|aG<|d8 (lJ (nW<|kE<|JC Bq Uz<|a2 (vV 4)<|dc (lC (v:=.ty "int") (by rfl) (by exact T.z _ (by decide)) boot_int<|by rfl)<|fun _ _=>by rw [Ak])<|kO<|kE<|JC Bq Uz<|a2 (vV 4)<|dc (lC (v:=.ty "bool") (by rfl) (by exact T.z _ (by decide)) boot_bool<|by rfl)<|fun _ _=>by rw [Ak]).pt (aG<|aO KR) bF)<|au (d8 (lJ (Hy Xp (JC (zcx hh) boot_min<|a1<|bN cV (eV<|a1 aF)<|dct zT boot_list<|a1<|Bm (vV 3) aF) aF)<|lJ (Hy (qg qq) (Bm (vV 3) aF) aF)<|kO (aef (Hy afl (vV 2) V0)<|adD<|nW<|Hy (ZR qq) (vV 2)<|Bm (vV 3) aF).pt).pt (aG<|aO KR) bF)<|aG<|Ek 2<|Bm (vV 3) aF) ?_;exact aG<|aO KR
theorem zaB:Fk P w K mg base 11 "_law_part" yH:=by
 refine fk (k:=10) ["_law_bag_here", "_law_letters", "_law_top", "_law_way", "_law_number", "_law_letter", "_law_powers", "_law_both"] T.f40 T.z ?_
 intros
 refine au (Ek 3<|Bh (dh T)<|a2 (vV 0) aF) ?_;refine au (Ek 4<|bN nT (Bh (dh T)<|a2 (vV 0)<|bN cV (bN cC aF<|vV 2) aF)<|vV 2) ?_;refine au ?_ ?_
 ·with_reducible exact d8 (lJ (Hy (qg qq) (vV 3) aF) (kO (Hy (qg qq) (vV 1) aF))).pt (aG (aO (eV (a1 (dW (a2 (bN yF (dW (a1 aF)) (vV 1)) (vV 4))))))) bF
 refine au (Ek 5<|Bh (dh T)<|a2 (vV 0)<|vV 1) ?_;refine au (Ek 6<|dct cH Jz<|a1<|Pq [5] (S8<|a1<|vV 1)<|fun _ _ _ _=>(dct Bl boot_int<|a1<|cce (qg qq) (vV 0)<|vV 1)) ?_;refine au ?_ ?_
 ·with_reducible exact d8 (lJ (Hy Qi (vV 1) aF) (kO (Hy (qg qq) (vV 3) aF))).pt (aG (aO (eV (a1 (dW (a2 (vV 6) (vV 4))))))) bF
 refine au (Ek 7<|bN yF (dW<|a1 aF)<|vV 1) ?_;refine au ?_ ?_
 ·with_reducible exact d8 (Hy (qg qq) (vV 3) aF) (aG (aO (eV (a2 (dW (a2 (bN yF (dW (a1 aF)) (vV 1)) (vV 4))) (dW (a2 (vV 6) (bN nT (Bh (by with_unfolding_all exact dh T) (a2 (vV 0) aF)) aF))))))) bF
 refine aG ?_;try unfold lO
 with_reducible exact aO (eV (a3 (dW (a2 (bN yF (dW (a1 aF)) (vV 1)) (bN nT (Bh (by with_unfolding_all exact dh T) (a2 (vV 0) aF)) aF))) (dW (a2 (vV 6) (vV 4))) (dW (a2 (vV 7) (bN nT (Bh (by with_unfolding_all exact dh T) (a2 (vV 0) aF)) aF)))))
theorem zaj:Fk P w K mg base 12 "_law_thing" uV:=by
 refine fk (k:=11) ["_law_bag_here", "_law_letters", "_law_sort_here", "_law_top", "_law_said", "_law_k"] T.f41 T.z ?_
 intros
 refine au (Ek 4<|uE oY) ?_;refine au (eE Nq hh (S8<|a1<|bN cV aF<|bN CV aF<|dct Bl boot_int<|a1<|cce (qg qq) (vV 2) bI) (Fe 5)<|aG<|nZ<|nM (vV 4) (a1<|dct cH Jz<|a1<|JC (zbJ qq) PyProof.Rows.boot_sorted<|a1<|dl1 [] (cj<|Bh (zaB T)<|a3 (vV 0) (vV 1)<|vV 3) (fun _ _ _ _=>(oJ<|Hy (RV qq) (Bm (vV 0) aF) aF))<|fun _ _ _ _=>(vV 0)) (by rfl) (JX<|by rfl) (by rfl) (bT<|by rfl)<|by rfl) ?_;exact aG<|aO<|dct cH Jz<|a1<|vV 4
theorem vg:Fk P w K mg base 10 "_law_pair" yq:=by
 refine fk (k:=9) ["_law_one", "_law_other", "_law_l", "_law_m", "_law_n", "_law_u", "_law_v", "_law_w"] T.f42 T.z ?_
 intros
 refine au (gw (vV 0)<|dH hh<|aQ (Fe 2)<|aQ (Fe 3)<|aQ (Fe 4) dO) ?_;refine au (gw (vV 1)<|dH hh<|aQ (Fe 5)<|aQ (Fe 6)<|aQ (Fe 7) dO) ?_;exact aG<|aO<|eV<|aC (bN cC (vV 2)<|vV 5)<|aC (bN cV (bN cC (vV 2)<|vV 6)<|bN cC (vV 3)<|vV 5)<|aC (bN cC (vV 3)<|vV 6)<|a3 (bN cV (bN cC (vV 2)<|vV 7)<|bN cC (vV 4)<|vV 5) (bN cV (bN cC (vV 3)<|vV 7)<|bN cC (vV 4)<|vV 6)<|bN cC (vV 4)<|vV 7
theorem zbl:Fk P w K mg base 12 "_law_due" Ga:=by
 refine fk (k:=11) ["_law_word", "_law_some", "_law_p", "_law_q", "_law_r", "_law_s", "_law_t", "_law_one", "_law_two", "_law_three", "_law_four", "_law_near", "_law_far", "_law_table", "_law_swung", "_law_size", "_law_moved", "_law_there", "_law_between"] T.f43 T.z ?_
 intros
 refine au (d8 (lJ (Hy (qg qq) (vV 0) bI)<|kO<|Hy (qg qq) (vV 0) bI).pt (aG<|aO<|Bh (cO T)<|a2 (Bm (vV 1) aF)<|Bm (vV 1) aF) bF) ?_;refine au (d8 (Hy (qg qq) (vV 0) bI) (au (gw (vV 1)<|dH hh<|aQ (Fe 2)<|aQ (Fe 3)<|aQ (Fe 4)<|aQ (Fe 5)<|aQ (Fe 6) dO)<|au (Ek 7<|Bh (cO T)<|a2 (vV 2)<|vV 3)<|au (Ek 8<|Bh (cO T)<|a2 (vV 4)<|vV 5)<|au (Ek 9<|Bh (cO T)<|a2 (vV 2)<|vV 4)<|au (Ek 10<|Bh (cO T)<|a2 (vV 3)<|vV 5)<|au (Ek 11<|bN cC (Bh (eH T)<|a2 (vV 7)<|vV 6)<|Bh (eH T)<|a2 (vV 8)<|vV 6)<|au (Ek 12<|bN cC (Bh (eH T)<|a2 (vV 9)<|vV 6)<|Bh (eH T)<|a2 (vV 10)<|vV 6)<|aG<|aO<|dct cH Jz<|a1<|Sd [11,12] hh (cP<|by rfl) Du (Gi hh<|cP<|by rfl) (uF (by rfl) (by exact T.z _ (by decide)) (a2 (Bh (vg T)<|a2 (vV 9)<|vV 10)<|Bh (vg T)<|a2 (vV 7)<|vV 8) (bT<|by rfl)<|cN<|by rfl) (fun _ _ _ _=>gM)<|fun _ _ _ _=>(bN nT (bN cC (vV 2)<|vV 0)<|bN cC (vV 3)<|vV 1)) bF) ?_;refine au (d8 (Hy (qg qq) (vV 0) bI) (aG<|aO<|Bh (qI T)<|a2 (Bm (vV 1) aF)<|Bm (vV 1) aF) bF) ?_;refine au (d8 (Hy (qg qq) (vV 0) bI) (au (Ek 13<|Bh (mJ T)<|a1<|Bm (vV 1) aF)<|au (Ek 14<|eV<|a3 (Bh (cO T)<|a2 (Bm (vV 13) aF)<|Bm (vV 13) aF) (Bh (cO T)<|a2 (Bm (vV 13) aF)<|Bm (vV 13) aF)<|Bh (cO T)<|a2 (Bm (vV 13) aF)<|Bm (vV 13) aF)<|au (Ek 15<|Bh (aci T)<|a3 (Bm (vV 13) aF) (Bm (vV 13) aF)<|Bm (vV 13) aF)<|aG<|aO<|dct cH Jz<|a1<|Pq [1,15] (cj<|vV 14)<|fun _ _ _ _=>(bN cC (Bh (eH T)<|a2 (vV 0)<|Bm (vV 1) aF)<|vV 2)) bF) ?_;refine au (Ek 16<|Bh (qI T)<|a2 (Bm (vV 1) aF)<|Bm (vV 1) aF) ?_;refine au (Ek 17<|Bh (eH T)<|a2 (Bm (vV 1) aF)<|vV 16) ?_;refine au (Ek 18<|bN cC aF<|Bh (eH T)<|a2 (Bm (vV 1) aF)<|vV 16) ?_;exact aG<|aO<|dct cH Jz<|a1<|Sd [17,18] hh (cP<|by rfl) Du (Gi hh<|cP<|by rfl) (uF (by rfl) (by exact T.z _ (by decide)) (a2 (Bm (vV 1) aF)<|Bm (vV 1) aF) (bT<|by rfl)<|cN<|by rfl) (fun _ _ _ _=>gM)<|fun _ _ _ _=>(bN nT (bN cC (vV 2)<|vV 0)<|bN cC (vV 3)<|vV 1)
theorem afX {f:Addr}{fd:Kw}(F:TY K "law" "law" Qc f fd):qm P w K mg base NT 19 f fd ["_law_script"] (Ks K PX):=by
 have S:mD ["_law_script", "_law_frees", "_law_size", "_law_letters", "_law_top", "_law_rows", "_law_things", "_law_k", "_law_bag_here", "_law_spots", "_law_handed", "_law_found", "_law_many", "_law_numbers", "_law_some"] ["_law_script"] (bR Qc):=⟨rfl,rfl,rfl,by decide +kernel,rfl,by decide +kernel,by decide +kernel⟩
 refine aat (k:=18) F S fun _ _ _ _ _ _ hr=>?_;have hc:=hr.calm (by decide);have nd:=S.nd;have z:=T.z;refine au (Ek 1<|bN cV aF<|bN rK (Bh (iZ T)<|a2 (vV 0) aF) aF) ?_;refine au (Ek 2<|JC (U5 hh) boot_max<|a2 (vV 1)<|bN cV aF<|bN rK (bN Dc (Bh (iZ T)<|a2 (vV 0) aF) aF) aF) ?_;refine au (Ek 3<|bN cC aF<|JC (U5 hh) boot_max<|a2 aF<|bN nT (vV 1) aF) ?_;refine au (Ek 4<|aay (Hy (qg qq) (vV 3) aF) (Bm (eV<|aC aF<|a3 aF aF<|bN Uk aF aF)<|bN rK (Bh (iZ T)<|a2 (vV 0) aF) aF) aF) ?_;refine au (Ek 5<|uE oY) ?_;refine au (Ek 6<|uE oY) ?_;refine au (eE Nq hh (S8<|a1<|vV 2) (Fe 7)<|au (Ek 8<|Bh (zq T)<|a1<|Bh (iZ T)<|a2 (vV 0)<|bN cV aF<|vV 7)<|au (nZ<|nM (vV 5) (a1<|Bh (acZ T)<|a3 (vV 8) (vV 5)<|vV 1) (by rfl) (JX<|by rfl) (by rfl) (bT<|by rfl)<|by rfl)<|aG<|nZ<|nM (vV 6) (a1<|Bh (zaj T)<|aC (vV 8)<|a3 (vV 3) (Bh (pW T)<|a1<|Bm (vV 5)<|vV 7)<|vV 4) (by rfl) (JX<|by rfl) (by rfl) (bT<|by rfl)<|by rfl) ?_;refine au (Ek 8<|Bh (zq T)<|a1<|Bh (iZ T)<|a2 (vV 0) aF) ?_;refine au (Fl [3,8] (i:=9) (by assumption) (by rfl) (by exact Or.inl rfl) hh (cP<|by rfl) BL (Ck<|cP<|by rfl) (S8<|a1 aF) (fun _ _ _ _=>gM)<|fun _ _ _ _=>(dct cH Jz<|a1<|Pq [2] (S8<|a1<|vV 1)<|fun _ _ _ _=>(bN nT (Bh (dh T)<|a2 (vV 1) aF) aF))) ?_;refine au (eE Nq hh (zao (by rfl) (by exact T.z _ (by decide))<|a2 (vV 1)<|vV 2) (Fe 7)<|au (Ek 10<|eV<|a2 (dct zT boot_list<|a1<|vV 5)<|dct zT boot_list<|a1<|vV 6)<|au (Ek 11<|Bh (afV T)<|a3 (Bm (vV 10) aF) (Bm (vV 10) aF)<|vV 7)<|au (Ek 12<|bN cV aF<|bN CV aF<|dct Bl boot_int<|a1<|cce (qg qq) (Bm (Bm (vV 5)<|vV 7) aF) bI)<|au (d8 (lJ (nW<|kE<|JC Bq Uz<|a2 (vV 11)<|dc (lC (v:=.ty "tuple") (by rfl) (by exact T.z _ (by decide)) Jz<|by rfl)<|fun _ _=>by rw [Ak])<|lJ (Hy (RV qq) (JC kZ Ou<|a1<|vV 11)<|vV 12)<|kO<|Hy (XS qq) (vV 10)<|eV<|a2 (vV 5)<|vV 6).pt (aG<|aO KR) bF)<|au (d8 (Hy Qi (JC kZ Ou<|a1<|dl1 [3] (cj<|vV 11) (fun _ _ _ _=>(oJ<|nW<|kE<|Bh (rT T)<|a2 (vV 0)<|vV 1))<|fun _ _ _ _=>(vV 0)) aF) (aG<|aO KR) bF)<|aG<|eE Nq hh (cj<|vV 9) (Fe 13)<|au (Fl [6,13] (i:=14) (by assumption) (by rfl) (by exact Or.inl rfl) hh (cP<|by rfl) BL (Ck<|cP<|by rfl) (cj<|Tn (Bm (vV 5)<|vV 7) (DX aF) GR) (fun _ _ _ _=>gM)<|fun _ _ _ _=>(dct cH Jz<|a1<|Pq [2] (cj<|Bm (vV 1)<|vV 0)<|fun _ _ _ _=>(Bh (Gj T)<|a2 (vV 0)<|vV 1)))<|aG<|d8 (Hy (RV qq) (dct cH Jz<|a1<|Pq [13] (cj<|vV 11)<|fun _ _ _ _=>(Bh (Gj T)<|a2 (vV 0)<|vV 1))<|dct cH Jz<|a1<|Bh (zbl T)<|a2 (Bm (Bm (vV 5)<|vV 7) aF)<|vV 14) (aG<|aO KR) bF) ?_;exact aG<|aO KR
end
variable {mg : Str->Option Mk}{K : Az}
def fO (x:Str)(s:Stmt)(oc:Mk)(od:Option Addr)(kV dc pm:Mk)(an:Option Addr)(cd ct:Mk)(sl:Array (Option Mk)):Option Obj:=FN ⟨oc,od,.func (Te x x (mj s) (gK s) (bR s) .none kV dc pm an cd ct),sl⟩
def sR (f:Addr):Option (Option Mk):=FN (FN (.ref f))
def eU (K:Az)(x:Str)(s:Stmt):Prop:=∃ f oc od kV dc pm an cd ct sl,Jp K IV x=sR f/\K.lookup f=fO x s oc od kV dc pm an cd ct sl/\Vd K cd x=true/\Rb K (.ref f)=true
variable {x : Str}
theorem Px {s:Stmt}{f:Addr}{oc:Mk}{od:Option Addr}{kV dc pm:Mk}{an:Option Addr}{cd ct:Mk}{sl:Array (Option Mk)}(a:Jp K IV x=sR f)(l:K.lookup f=fO x s oc od kV dc pm an cd ct sl)(c:Vd K cd x=true)(k:Rb K (.ref f)=true):eU K x s:=⟨f,oc,od,kV,dc,pm,an,cd,ct,sl,a,l,c,k⟩
theorem bQ {h:Heap}{st:Stmt}{ps:List Str}(X:K.In h)(G:h.Ns IV mg)(H:eU K x st)(hb:∀ (kV doc pm:Mk) (an:Option Addr) (cdv ct:Mk) (us:List Mk),us.length=ps.length->bindArgs (Te x x (mj st) (gK st) (bR st) .none kV doc pm an cdv ct) ⟨us,[]⟩=pure (ps.zip us):=by intro _ _ _ _ _ _ us hl;first | (match us,hl with | [_],_=>rfl) | (match us,hl with | [_,_],_=>rfl) | (match us,hl with | [_,_,_],_=>rfl) | (match us,hl with | [_,_,_,_],_=>rfl)):At K mg x st ps:=by
 obtain ⟨f,oc,od,kV,dc,pm,an,cd,ct,sl,a,l,c,k⟩:=H;exact ⟨f,_,CJ (st:=st) l c k,Ul X G a,(CJ (st:=st) l c k).binds hb⟩
theorem zc {n:Str}{l:List Str}(a:mg n=FX)(b:∀ m∈l,mg m=FX):∀ m∈n::l,mg m=FX:=List.forall_mem_cons.2 ⟨a,b⟩
theorem all_mk {l:PySem.W.OpenLaw}{w:Bw}{h:Heap}{fa:Addr}(hlaw:∀ ns:List Int,ns.length<=63->PX [.kls (ns.map W.int)] g0 (fun w _=>w=.bl true) EF)(X:K.In h)(G:h.Ns IV mg)(hfa:mg "law" = FN (.ref fa))
  (h0:eU K "sum_of_totals" (top 8))
  (h1:eU K "with_times" (top 9))
  (h2:eU K "plus" (top 10))
  (h3:eU K "minus" (top 11))
  (h4:eU K "packed" (top 12))
  (h5:eU K "unpacked" (top 13))
  (h6:eU K "packed_terms" (top 14))
  (h7:eU K "check_powers" (top 15))
  (h8:eU K "times" (top 16))
  (h9:eU K "less_swapped" (top 18))
  (h10:eU K "sum_cross" (top 19))
  (h11:eU K "sum_dot" (top 20))
  (h12:eU K "sum_turn" (top 21))
  (h13:eU K "sums_times" (top 22))
  (h14:eU K "sums_minus" (top 23))
  (h15:eU K "sum_together" (top 24))
  (h16:eU K "doubled" (top 25))
  (h17:eU K "sum_table" (top 26))
  (h18:eU K "turned_rows" (top 27))
  (h19:eU K "rows_times" (top 28))
  (h20:eU K "rows_on_both_sides" (top 29))
  (h21:eU K "rows_size" (top 30))
  (h22:eU K "curve_raw" (top 31))
  (h23:eU K "pole_raw" (top 32))
  (h24:eU K "other_raw" (top 33))
  (h25:eU K "raw" (top 34))
  (h26:eU K "_law_cell" (top 36))
  (h27:eU K "_law_bag" (top 37))
  (h28:eU K "_law_draw" (top 38))
  (h29:eU K "_law_asks" (top 39))
  (h30:eU K "_law_sort" (top 40))
  (h31:eU K "_law_pick" (top 41))
  (h32:eU K "_law_row" (top 42))
  (h33:eU K "_law_cross" (top 43))
  (h34:eU K "_law_dot" (top 44))
  (h35:eU K "_law_turn" (top 45))
  (h36:eU K "_law_rows_of" (top 46))
  (h37:eU K "_law_times" (top 47))
  (h38:eU K "_law_at" (top 48))
  (h39:eU K "_law_sum_good" (top 49))
  (h40:eU K "_law_part" (top 50))
  (h41:eU K "_law_thing" (top 51))
  (h42:eU K "_law_pair" (top 52))
  (h43:eU K "_law_due" (top 53))
  (h44:eU K "law" (top 54))
  (z_abs:Jp K IV "abs" = FN FX)
  (z_any:Jp K IV "any" = FN FX)
  (z_bool:Jp K IV "bool" = FN FX)
  (z_dict:Jp K IV "dict" = FN FX)
  (z_int:Jp K IV "int" = FN FX)
  (z_isinstance:Jp K IV "isinstance" = FN FX)
  (z_len:Jp K IV "len" = FN FX)
  (z_list:Jp K IV "list" = FN FX)
  (z_max:Jp K IV "max" = FN FX)
  (z_min:Jp K IV "min" = FN FX)
  (z_range:Jp K IV "range" = FN FX)
  (z_reversed:Jp K IV "reversed" = FN FX)
  (z_sorted:Jp K IV "sorted" = FN FX)
  (z_tuple:Jp K IV "tuple" = FN FX)
  (z_zip:Jp K IV "zip" = FN FX)
  (g_MOST_TERMS:∃ n,Jp K IV "MOST_TERMS" = FN (FN (.int 600 n)))
  (g_MOST_POWER:∃ n,Jp K IV "MOST_POWER" = FN (FN (.int 60 n)))
  (g_MOST_PAIRS:∃ n,Jp K IV "MOST_PAIRS" = FN (FN (.int 20000 n)))
  (g_FIELD:∃ n,Jp K IV "FIELD" = FN (FN (.int 65536 n)))
  : ∃ fd:Kw,(∀ (s:Ai) (v:Mk),BindsTo s fd ⟨[v],[]⟩ [("_law_script",v)])/\∀ base:Heap,K.In base->base.Ns IV mg->qm l.prog w K mg base NT 19 fa fd ["_law_script"] (JQ K):=by
 have T:∀ base,Txt l.prog w K mg base:=fun _=>⟨bQ X G h0,bQ X G h1,bQ X G h2,bQ X G h3,bQ X G h4,bQ X G h5,bQ X G h6,bQ X G h7,bQ X G h8,bQ X G h9,bQ X G h10,bQ X G h11,bQ X G h12,bQ X G h13,bQ X G h14,bQ X G h15,bQ X G h16,bQ X G h17,bQ X G h18,bQ X G h19,bQ X G h20,bQ X G h21,bQ X G h22,bQ X G h23,bQ X G h24,bQ X G h25,bQ X G h26,bQ X G h27,bQ X G h28,bQ X G h29,bQ X G h30,bQ X G h31,bQ X G h32,bQ X G h33,bQ X G h34,bQ X G h35,bQ X G h36,bQ X G h37,bQ X G h38,bQ X G h39,bQ X G h40,bQ X G h41,bQ X G h42,bQ X G h43,zc (OD X G z_abs) (zc (OD X G z_any) (zc (OD X G z_bool) (zc (OD X G z_dict) (zc (OD X G z_int) (zc (OD X G z_isinstance) (zc (OD X G z_len) (zc (OD X G z_list) (zc (OD X G z_max) (zc (OD X G z_min) (zc (OD X G z_range) (zc (OD X G z_reversed) (zc (OD X G z_sorted) (zc (OD X G z_tuple) (zc (OD X G z_zip) (fun _ h=>nomatch h))))))))))))))),g_MOST_TERMS.imp fun _ e=>Ul X G e,g_MOST_POWER.imp fun _ e=>Ul X G e,g_MOST_PAIRS.imp fun _ e=>Ul X G e,g_FIELD.imp fun _ e=>Ul X G e⟩
 obtain ⟨f,oc,od,kV,dc,pm,an,cd,ct,sl,a,l,c,k⟩:=h44;have e:=hfa.symm.trans (Ul X G a);cases e;exact ⟨_,fun s v=>.of_eq rfl,fun base _ _=>agO hlaw<|afX (T base)<|CJ (st:=Qc) l c k⟩
variable {XP : (Str->Option Mk)->Heap->Prop}
theorem walk {l:PySem.W.OpenLaw}{q:DI}{loose:List Str}{YP:Bw->Heap->Prop}{d:DefRec}{K:Params->Az}(hn:l.most=FN 63)(hdf:d.params.defaults=[])
  (hY:∀ (w:Bw) (h:Heap),YP w h->(K w.params).In h)
  (F:∀ (w:Bw) (mg:Str->Option Mk) (fa:Addr) (h:Heap),(K w.params).In h->h.Ns IV mg->mg d.name=FN (.ref fa) ->
   ∃ fd:Kw,(∀ (s:Ai) (u:Mk),BindsTo s fd ⟨[u],[]⟩ [("_law_script",u)])/\∀ base:Heap,(K w.params).In base->base.Ns IV mg->qm l.prog w (K w.params) mg base NT 19 fa fd ["_law_script"] (JQ (K w.params))) :
  PySem.W.WalkO q loose XP YP l.row.toRowW d [] (fun f vs=>PySem.call f vs):=
 L2.Gk (n:=63) (k:=19) (x := "_law_script") (CX:=fun _=>NT) (sp:=fun w=>JQ (K w.params)) hn (by decide) hdf ⟨fun _=>rfl,by decide,by decide⟩ hY F (fun _ _ a ns hl hO hS=>⟨a,ns,rfl,hS,hO,hl,fun _=>rfl⟩) fun _ _ _ _ _ z=>z
local macro_rules | `(tactic| trivial) => `(tactic| with_reducible exact Sm.lit (by decide))
local macro_rules | `(tactic| trivial) => `(tactic| with_reducible exact Sm.zero)
local macro_rules | `(tactic| trivial) => `(tactic| with_reducible exact Sm.neg (by trivial))
local macro_rules | `(tactic| trivial) => `(tactic| with_reducible exact Sm.sub (by trivial) (by trivial))
local macro_rules | `(tactic| trivial) => `(tactic| with_reducible exact Sm.add (by trivial) (by trivial))
local macro_rules | `(tactic| trivial) => `(tactic| with_reducible exact Sm.mul (by trivial) (by trivial))
local macro_rules | `(tactic| trivial) => `(tactic| with_reducible assumption)
theorem ud (h:Gh)(n:Nat)(c:Cell):(h.set n c).c n=FN c:=by show (if n=n then FN c else h.c n)=FN c;rw [if_pos rfl]
variable {h : Gh}{m n : Nat}
theorem mL {c:Cell}(e:m≠n):(h.set n c).c m=h.c m:=by show (if m=n then FN c else h.c m)=_;rw [if_neg e]
theorem G8 (h:Gh)(c:Cell):(h.new c).c h.nx=FN c:=by show (if h.nx=h.nx then FN c else h.c h.nx)=FN c;rw [if_pos rfl]
theorem vK {c:Cell}(e:m≠h.nx):(h.new c).c m=h.c m:=by show (if m=h.nx then FN c else h.c m)=_;rw [if_neg e]
variable {ws : List W}
theorem cZ (e:h.c n=FN (.lst ws)):view h (.loc n)=FN ws:=by simp only [view,dX,e]
def Ke (n:Nat)(h h':Gh):Prop:=h'.nx=h.nx/\∀ m,m≠n->h'.c m=h.c m
theorem Ke.trans {n:Nat}{a b c:Gh}(x:Ke n a b)(y:Ke n b c):Ke n a c:=⟨y.1.trans x.1,fun m e=>(y.2 m e).trans (x.2 m e)⟩
theorem Ke.set {n:Nat}{h:Gh}{c:Cell}:Ke n h (h.set n c):=⟨rfl,fun _ e=>mL e⟩
theorem dU {a b:Int}(h:0<b):a.fmod b=a % b:=Int.fmod_eq_emod_of_nonneg a (Int.le_of_lt h)
theorem sJ {a b:Int}(h:0<b):a.fdiv b=a / b:=Int.fdiv_eq_ediv_of_nonneg a (Int.le_of_lt h)
variable {c : Bool}
theorem VF {A B:Prop}(e:c=true)(h:A):Hz c A B:=by subst e;exact h
theorem Rp {c:Prop}[Decidable c]{A B:Prop}(h1:c->A)(h2:¬ c->B):Hz (decide c) A B:=by
 by_cases h:c
 ·rw [decide_eq_true h];exact h1 h
 ·rw [decide_eq_false h];exact h2 h
variable {g : MG}
theorem cY {ws0:List W}{b:MS}{D:bV}(I:Nat->Sw->Gh->Prop)
  (step:∀ (i:Nat) (w:W) (Z : Sw) (h:Gh) (N:Sw->Gh->Prop),(∀ Z' h',I (i+1) Z' h'->N Z' h')->ws[i]?=FN w->I i Z h->g w Z h fun Z1 h1=>b { D with nx:=N,ct:=N,bk:=D.nx } Z1 h1)
  (fin:∀ Z h,I ws.length Z h->D.nx Z h):∀ {Z : Sw} {h:Gh},I 0 Z h->iB ⟨ws0,FX⟩ g b D ws Z h:=by
 induction ws generalizing I with
 | nil=>intro Z h h0;exact fin Z h h0
 | cons w ws ih=>
  intro Z h h0;refine step 0 w Z h _ (fun Z' h' q=>?_) rfl h0;exact ih (fun i=>I<|i+1) (fun i w Z h N hN e hi=>step (i+1) w Z h N hN (by simpa using e) hi) (fun Z h q=>fin Z h q) q
variable {ix : List Nat}{te : ME}{tt : MT}{Z : Sw}{own : W->Option (List W)}{Q : WK}
theorem dF {ws0:List W}(I:Nat->List W->Gh->Prop)
  (step:∀ (i:Nat) (w:W) (acc:List W) (h:Gh) (N:List W->Gh->Prop),(∀ acc' h',I (i+1) acc' h'->N acc' h')->ws[i]?=FN w->I i acc h ->
   ∃ vs,own w=FN vs/\tt (vs.map FN++lg ix Z) h fun c h1=>Hz c (te (vs.map FN++lg ix Z) h1 fun v h2=>N (acc++[v]) h2) (N acc h1))
  (fin:∀ acc h,I ws.length acc h->Q (.lst acc) h):∀ {acc:List W} {h:Gh},I 0 acc h->qb ⟨ws0,FX⟩ own ix tt te Z Q ws acc h:=by
 induction ws generalizing I with
 | nil=>intro acc h h0;exact fin acc h h0
 | cons w ws ih=>
  intro acc h h0;obtain ⟨vs,ev,q⟩:=step 0 w acc h _ (fun acc' h' q=>ih (fun i=>I (i+1)) (fun i w acc h N hN e hi=>step (i+1) w acc h N hN (by simpa using e) hi) (fun acc h q=>fin acc h q) q) rfl h0;show (match own w with
   | some vs=>_
   | none=>False)
  rw [ev];exact q
variable {i : Nat}{w : W}
theorem yP {lo:Int}(e:(wg lo n)[i]?=FN w):i<n/\w=.int (lo+(i:Int)):=by
 have hi:i<n:=by
  have:=(K5.mp e).1
  simpa [wg] using this
 unfold wg at e;rw [Fv,List.getElem?_range hi] at e;exact ⟨hi,(Eu e).symm⟩
theorem rG {lo:Int}:(wg lo n).length=n:=by simp [wg]
variable {j : Int}{ma : MA}
theorem zcs {b:MS}{D:bV}(hm:∀ R,ma Z h R=R [.int j] h)(h1:-(2^62)<=j)(h2:j<2^62)(I:Nat->Sw->Gh->Prop)
  (step:∀ (i:Nat) (Z : Sw) (h:Gh) (N:Sw->Gh->Prop),(∀ Z' h',I (i+1) Z' h'->N Z' h')->i<j.toNat->I i Z h->g (.int (i:Int)) Z h fun Z1 h1=>b { D with nx:=N,ct:=N,bk:=D.nx } Z1 h1)
  (fin:∀ Z h,I j.toNat Z h->D.nx Z h) (h0:I 0 Z h):oN (iQ ma) g b D Z h:=by
 unfold oN iQ;rw [hm];refine uP.mk h1 h2 ?_;refine cY I (fun i w Z h N hN e hi=>?_) (fun Z h q=>fin Z h (by rw [rG] at q;exact q)) h0;obtain ⟨hlt,rfl⟩:=yP e;rw [Int.zero_add];exact step i Z h N hN hlt hi
variable {ns : List Int}
theorem acA {k:Int}(h0:0<=k)(h1:k<((ns.map W.int).length:Int)):Ka (ns.map W.int) k=FN (.int (ns.getD k.toNat 0)):=by
 have hk:k.toNat<ns.length:=by rw [Bx] at h1;lia
 have e:(ns.map W.int)[k.toNat]?=FN (.int (ns.getD k.toNat 0)):=by
  rw [Fv,Gz hk,Nt,Gz hk];rfl
 have:=cL e
 rwa [show ((k.toNat:Nat):Int)=k by lia] at this
theorem Jh (e:(ns.map W.int)[i]?=FN w):∃ n,ns[i]?=FN n/\w=.int n:=by
 rw [Fv] at e;cases q:ns[i]? with
 | none=>rw [q] at e;cases e
 | some n=>rw [q] at e;exact ⟨n,rfl,(Eu e).symm⟩
theorem jA (a b:Int):Dv (.int a) (.int b)=(a==b):=by rw [Dv]
abbrev Tr:=Int×Int×Int
def tl (t:Tr):List Int:=[t.1,t.2.1,t.2.2]
def tw (t:Tr):W:=.tup [.int t.1,.int t.2.1,.int t.2.2]
def sc (k:Int)(t:Tr):Tr:=(t.1*k,t.2.1*k,t.2.2*k)
def crs (p q:Tr):Tr:=(p.2.1*q.2.2 - p.2.2*q.2.1,p.2.2*q.1 - p.1*q.2.2,p.1*q.2.1 - p.2.1*q.1)
def dt3 (p q:Tr):Int:=p.1*q.1+p.2.1*q.2.1+p.2.2*q.2.2
theorem ray {p q:Tr}(hp:p≠(0,0,0))(h:crs p q=(0,0,0)):∃ s t:Int,s≠0/\sc s q=sc t p:=by
 obtain ⟨a,b,c⟩:=p;obtain ⟨x,y,z⟩:=q;have h1:b*z - c*y=0:=congrArg (·.1) h;have h2:c*x - a*z=0:=congrArg (·.2.1) h;have h3:a*y - b*x=0:=congrArg (·.2.2) h;by_cases ha:a=0
 ·by_cases hb:b=0
  ·by_cases hc:c=0
   ·exact absurd (by rw [ha,hb,hc]) hp
   ·refine ⟨c,z,hc,?_⟩;simp only [sc];refine Prod.ext ?_ (Prod.ext ?_ ?_) <;> simp only <;> grind
  ·refine ⟨b,y,hb,?_⟩;simp only [sc];refine Prod.ext ?_ (Prod.ext ?_ ?_) <;> simp only <;> grind
 ·refine ⟨a,x,ha,?_⟩;simp only [sc];refine Prod.ext ?_ (Prod.ext ?_ ?_) <;> simp only <;> grind
theorem flat {n p q r:Tr}(hn:n≠(0,0,0))(hp:dt3 n p=0)(hq:dt3 n q=0)(hr:dt3 n r=0):dt3 (crs p q) r=0:=by
 obtain ⟨n1,n2,n3⟩:=n;obtain ⟨p1,p2,p3⟩:=p;obtain ⟨q1,q2,q3⟩:=q;obtain ⟨r1,r2,r3⟩:=r;simp only [dt3,crs] at *;generalize hd:(p2*q3 - p3*q2)*r1+(p3*q1 - p1*q3)*r2+(p1*q2 - p2*q1)*r3=d;have e1:n1*d=0:=by grind
 have e2:n2*d=0:=by grind
 have e3:n3*d=0:=by grind
 by_cases h:d=0
 ·exact h
 ·have f:∀ x:Int,x*d=0->x=0:=fun x e=>by
   rcases Int.mul_eq_zero.mp e with e | e
   ·exact e
   ·exact absurd e h
  exact absurd (by rw [f _ e1,f _ e2,f _ e3]) hn
theorem Vh (p q:Tr):Dv (tw p) (tw q)=decide (p=q):=by
 obtain ⟨a,b,c⟩:=p;obtain ⟨x,y,z⟩:=q;unfold tw;rw [Dv,lW,lW,lW,lW,jA,jA,jA];by_cases ha:a=x <;> by_cases hb:b=y <;> by_cases hc:c=z <;> simp [ha,hb,hc]
theorem uy (e:h.c n=FN (.lst ws)):dX h (.loc n)=FN ws:=by simp only [dX,e]
theorem Er:∀ bs:List Bool,Ig (bs.map W.bl)=FN bs
 | []=>rfl
 | b::bs=>by rw [Bu,Ig,Er bs];rfl
theorem agp {s:Src}(I:Nat->List W->Gh->Prop)
  (go:∀ i acc h,I i acc h->∀ P:Prop,P->s.go h P)
  (step:∀ (i:Nat) (w:W) (acc:List W) (h:Gh) (N:List W->Gh->Prop),(∀ acc' h',I (i+1) acc' h'->N acc' h')->ws[i]?=FN w->I i acc h ->
   ∃ vs,own w=FN vs/\tt (vs.map FN++lg ix Z) h fun c h1=>Hz c (te (vs.map FN++lg ix Z) h1 fun v h2=>N (acc++[v]) h2) (N acc h1))
  (fin:∀ acc h,I ws.length acc h->Q (.lst acc) h):∀ {acc:List W} {h:Gh},I 0 acc h->qb s own ix tt te Z Q ws acc h:=by
 induction ws generalizing I with
 | nil=>intro acc h h0;exact go 0 acc h h0 _ (fin acc h h0)
 | cons w ws ih=>
  intro acc h h0;obtain ⟨vs,ev,q⟩:=step 0 w acc h _ (fun acc' h' q=>ih (fun i=>I (i+1)) (fun i=>go (i+1)) (fun i w acc h N hN e hi=>step (i+1) w acc h N hN (by simpa using e) hi) (fun acc h q=>fin acc h q) q) rfl h0;refine go 0 acc h h0 _ ?_;show (match own w with
   | some vs=>_
   | none=>False)
  rw [ev];exact q
theorem aeT {us:List W}(e:h.c n=FN (.lst us))(hz:us.length<Dp)(k:Q .non (h.set n (.lst (us++[w])))):gY (.loc n) [w] h Q:=by
 show (match h.c n with
  | some (Cell.lst us)=>_
  | _=>False)
 rw [e];exact ⟨hz,k⟩
theorem afS (hm:∀ R,ma Z h R=R [.int j] h)(h1:-(2^62)<=j)(h2:j<2^62)(hz:j.toNat<=Dp)(I:Nat->List W->Gh->Prop)
  (step:∀ (i:Nat) (acc:List W) (h:Gh) (N:List W->Gh->Prop),(∀ acc' h',I (i+1) acc' h'->N acc' h')->i<j.toNat->I i acc h ->
   ∃ vs,own (.int (i:Int))=FN vs/\tt (vs.map FN++lg ix Z) h fun c h1=>Hz c (te (vs.map FN++lg ix Z) h1 fun v h2=>N (acc++[v]) h2) (N acc h1))
  (fin:∀ acc h,I j.toNat acc h->Q (.lst acc) h) (h0:I 0 [] h):GK own ix (iQ ma) tt te Z h Q:=by
 unfold GK iQ;rw [hm];refine uP.mk h1 h2<|fG.mk (by rw [rG];exact hz) ?_
 refine dF I (fun i w acc h N hN e hi=>?_) (fun acc h q=>fin acc h (by rw [rG] at q;exact q)) h0;obtain ⟨hlt,rfl⟩:=yP e;rw [Int.zero_add];exact step i acc h N hN hlt hi
theorem wB (a b:Str):Dv (.str a) (.str b)=(a==b):=by rw [Dv]
def Jd (h:Gh)(n:Nat):Prop:=∃ a b,h.c n=FN (.lst [.int a,.int b])/\0<=b/\b<2147483647
def nU (c:Ar):Prop:=∀ {h:Gh} {n:Nat} {many:Int} {Q:WK} {E:Cd},Jd h n->0<many->Sm 60 many->(∀ d h',0<=d->d<many->Jd h' n->Ke n h h'->Q (.int d) h')->c [.loc n,.int many] h Q E
theorem yO:nU zV:=by
 intro h n many Q E hb hm hs k;obtain ⟨a,b,e,b0,b1⟩:=hb;have hm0:many≠0:=by lia
 have ev:=cZ e;have bag:∀ {h':Gh} {a b:Int},h'.c n=FN (.lst [.int a,.int b])->0<=b->b<2147483647->Jd h' n:=fun e h0 h1=>⟨_,_,e,h0,h1⟩
 show (match view h (.loc n) with
  | some ws=>_
  | none=>False)
 rw [ev];refine v8 (fun _=>?_)<|fun _=>?_
 ·show (match view h (.loc n) with
   | some ws=>_
   | none=>False)
  rw [ev];refine And.intro hm0 ?_;show (match view h (.loc n) with
   | some ws=>_
   | none=>False)
  rw [ev];refine And.intro ⟨hm0,60,by decide,hs⟩ ?_;show (match h.c n with
   | some (Cell.lst ws)=>_
   | _=>False)
  rw [e];show Q (.int (a.fmod many)) (h.set n _);rw [dU hm];exact k _ _ (U4 _ hm0) (Tf _ hm) (bag (ud _ _ _) b0 b1) Ke.set
 ·show (match view h (.loc n) with
   | some ws=>_
   | none=>False)
  rw [ev];refine And.intro (.of (m:=31) (n:=64) (GD (by lia)<|by lia) (.lit rfl) (by decide)<|by decide) ?_;refine And.intro (show (2147483647:Int)≠0 by decide) ?_;show (match h.c n with
   | some (Cell.lst ws)=>_
   | _=>False)
  rw [e];have c0:0<=(b*48271+11).fmod 2147483647:=by rw [dU (by decide)];exact U4 _ (by decide)
  have c1:(b*48271+11).fmod 2147483647<2147483647:=by rw [dU (by decide)];exact Tf _ (by decide)
  have e2:(h.set n (.lst [.int a,.int ((b*48271+11).fmod 2147483647)])).c n=FN (.lst [.int a,.int ((b*48271+11).fmod 2147483647)]):=ud _ _ _;have ev2:=cZ e2;have o2:Ke n h (h.set n (.lst [.int a,.int ((b*48271+11).fmod 2147483647)])):=Ke.set;show (match view (h.set n (.lst [.int a,.int ((b*48271+11).fmod 2147483647)])) (.loc n) with
   | some ws=>_
   | none=>False)
  rw [ev2];show (match view (h.set n (.lst [.int a,.int ((b*48271+11).fmod 2147483647)])) (.loc n) with
   | some ws=>_
   | none=>False)
  rw [ev2];generalize (b*48271+11).fmod 2147483647=c at *;refine And.intro ⟨by decide,64,by decide,.lit rfl⟩ ?_;have q0:0<=c.fdiv 65536:=by rw [sJ (by decide)];lia
  have q1:c.fdiv 65536<2147483647:=by rw [sJ (by decide)];lia
  refine And.intro (.of (m:=31) (n:=40) (GD (by lia)<|by lia) (GD (by lia)<|by lia) (by decide)<|by decide) ?_;refine And.intro (show (2147483629:Int)≠0 by decide) ?_;refine And.intro ⟨by decide,64,by decide,.lit rfl⟩ ?_;refine And.intro hm0 ?_;show Q (.int (Int.fmod _ many)) (h.set n (.lst [.int a,.int c]));rw [dU hm];exact k _ _ (U4 _ hm0) (Tf _ hm) (bag e2 c0 c1) o2
def sI (c:Ar):Prop:=∀ {h:Gh} {ns:List Int} {k:Int} {Q:WK} {E:Cd},0<=k->Q (.int (ns.getD k.toNat 0)) h->c [.kls (ns.map .int),.int k] h Q E
theorem aev:sI yG:=by
 intro h ns k Q E h0 q;show br (decide (k<((ns.map W.int).length:Int))) _ _;refine v8 (fun hk=>?_)<|fun hk=>?_
 ·conv=>whnf
  rw [acA h0 hk];exact q
 ·have e:ns.getD k.toNat 0=0:=by
   rw [Nt,List.getElem?_eq_none (by rw [Bx] at hk;lia)];rfl
  rw [e] at q;exact q
def tK (Q:Bool->Gh->Prop):WK:=fun w h=>match w with
 | .bl c=>Q c h
 | _=>False
def uK (Q:Bool->Gh->Prop):WK:=fun w h=>match Xi h w with
 | some b=>Q b h
 | none=>False
def aK (b:ME)(Z : Sw)(Q:WK):WK:=fun x h=>match x with
 | .bl true=>b Z h Q
 | .bl false=>Q (.bl false) h
 | _=>False
def oK (b:ME)(Z : Sw)(Q:WK):WK:=fun x h=>match x with
 | .bl false=>b Z h Q
 | .bl true=>Q (.bl true) h
 | _=>False
def nK (Q:WK):WK:=fun x h=>match x with
 | .bl c=>Q (.bl (!c)) h
 | _=>False
def iK (R:Src->Gh->Prop):WK:=fun w h=>match T6 h w with
 | some s=>R s h
 | none=>False
def xK (f:Str->Bool)(Q:WK):WK:=fun w h=>match w with
 | .exc n=>Q (.bl (f n)) h
 | .exa n _=>Q (.bl (f n)) h
 | _=>False
def pK (Q:Option Int->Gh->Prop):WK:=fun w h=>match w with
 | .int i=>Q (FN i) h
 | _=>False
def aas (g:MG)(b:MS)(D:bV)(Z : Sw):Src->Gh->Prop:=fun s h=>iB s g b D s.ws Z h
def lcK (own:W->Option (List W))(ix:List Nat)(tt:MT)(te:ME)(Z : Sw)(Q:WK):Src->Gh->Prop:=fun s h=>fG s.ws.length (qb s own ix tt te Z Q s.ws [] h)
def rgK (R:Src->Gh->Prop):List W->Gh->Prop:=fun ws h=>match ws with
 | [.int j]=>uP j (R ⟨wg 0 j.toNat,FX⟩ h)
 | _=>False
def zpK (R:Src->Gh->Prop):List W->Gh->Prop:=fun ws h=>match ws with
 | [x,y]=>(match Lw h x y with
  | some s=>R s h
  | none=>False)
 | _=>False
theorem aH {m u:MS}{D:bV}(x:m { D with nx:=u D } Z h):bw m u D Z h:=x
variable {N : Sw->Gh->Prop}
theorem aY {b c:Sw->Gh->Prop}{r:WK}(x:N Z h):bV.nx ⟨N,r,b,c⟩ Z h:=x
theorem abp {b c:Sw->Gh->Prop}{r:WK}(x:b Z h):bV.bk ⟨N,r,b,c⟩ Z h:=x
theorem abt {b c:Sw->Gh->Prop}{r:WK}(x:c Z h):bV.ct ⟨N,r,b,c⟩ Z h:=x
theorem gF {b c:Sw->Gh->Prop}{r:WK}(x:r w h):bV.rt ⟨N,r,b,c⟩ w h:=x
theorem agK {D:bV}(x:D.rt w h):bV.rt (bV.lost D) w h:=x
theorem zbO {D:bV}(x:D.nx (Z.map fun _=>FX) h):bV.nx (bV.lost D) Z h:=x
theorem aW {D:bV}(x:D.nx Z h):dB D Z h:=x
theorem aP {m:ME}{D:bV}(x:m Z h fun w h1=>g w Z h1 D.nx):bK m g D Z h:=x
theorem mH {m:ME}{D:bV}(x:m Z h fun _ h1=>D.nx Z h1):xT m D Z h:=x
theorem aX {m:ME}{D:bV}(x:m Z h D.rt):cF m D Z h:=x
variable {E : Cd}
theorem jW {c:Str}{D:bV}(x:E ⟨c,[]⟩ h):uR c E D Z h:=x
theorem aZ {t:MT}{a b:MS}{D:bV}(x:t Z h fun c h1=>br c (a D Z h1) (b D Z h1)):lq t a b D Z h:=x
theorem Il {t:MT}{a b:ME}(x:t Z h fun c h1=>br c (a Z h1 Q) (b Z h1 Q)):mIf t a b Z h Q:=x
variable {d : Str}
theorem agG {mb:Cd->MS}{mh:MS}{D:bV}(x:mb (fun x h'=>Hz (QT x.cls d) (mh D.lost (Z.set i (FN (Xn x))) h') False) D Z h):abw i d mb mh D Z h:=x
theorem iR {g:Oz}(e:w=.tup ws)(b:KJ ws.length n=true)(x:g ws Z h N):gR n g w Z h N:=by
 subst e;unfold gR;dsimp only;rw [b];exact x
theorem HD {g:Oz}(e:w=.lst ws)(b:KJ ws.length n=true)(x:g ws Z h N):gR n g w Z h N:=by
 subst e;unfold gR;dsimp only;rw [b];exact x
theorem Wx {g:Oz}(e:w=.tup ws)(b:KJ ws.length n=true)(x:g ws Z h N):aaE n g w Z h N:=by
 subst e;unfold aaE;dsimp only;rw [b];exact x
theorem bZ {r:Oz}(x:g w Z h fun Z1 h1=>r ws Z1 h1 N):bY g r (w::ws) Z h N:=x
theorem jV (x:N Z h):v7 [] Z h N:=x
theorem ak (e:Z[i]?=FN (FN w))(x:Q w h):aA i Z h Q:=by
 unfold aA;rw [e];exact x
theorem aU (x:Q w h):mC w Z h Q:=x
theorem aD {r:M2}{ma mb:ME}(x:ma Z h fun a h1=>mb Z h1 fun b h2=>r a b h2 Q):AP r ma mb Z h Q:=x
theorem Vi {r:W->Gh->WK->Prop}{ma:ME}(x:ma Z h fun a h1=>r a h1 Q):mUn r ma Z h Q:=x
theorem Mg {i:Int}(x:Q (.int (-i)) h):Yg (.int i) h Q:=x
theorem aj {a:ME}{r:MA}{Q:List W->Gh->Prop}(x:a Z h fun w h1=>r Z h1 fun ws h2=>Q (w::ws) h2):ao a r Z h Q:=x
theorem aq {Q:List W->Gh->Prop}(x:Q [] h):aL Z h Q:=x
variable {P : Prop}
theorem bC (e:Pu n 1000=true)(x:P):fG n P:=by
 unfold fG;rw [e];exact x
theorem cQ {t:MA}(x:t Z h fun ws h1=>fG ws.length (Q (.tup ws) h1)):je t Z h Q:=x
theorem iG {t:MA}(x:t Z h fun ws h1=>fG ws.length (Q (.lst ws) h1)):lA t Z h Q:=x
theorem aB {c:Ar}(x:ma Z h fun ws h1=>c ws h1 Q E):aJ c E ma Z h Q:=x
theorem bL {r:MC}(x:ma Z h fun ws h1=>r ws h1 Q):Dz r ma Z h Q:=x
theorem aN {m:ME}{Q:Bool->Gh->Prop}(x:m Z h (tK Q)):bM m Z h Q:=x
theorem dD {Q:Bool->Gh->Prop}(x:Q c h):tK Q (.bl c) h:=x
theorem iY {m:ME}{Q:Bool->Gh->Prop}(x:m Z h (uK Q)):Cg m Z h Q:=x
theorem EY {b:Bool}{Q:Bool->Gh->Prop}(e:Xi h w=FN b)(x:Q b h):uK Q w h:=by
 unfold uK;rw [e];exact x
theorem mO {t:MT}{Q:Bool->Gh->Prop}(x:t Z h fun c h1=>Q (!c) h1):Ii t Z h Q:=x
theorem HJ {t u:MT}{Q:Bool->Gh->Prop}(x:t Z h fun c h1=>br c (u Z h1 Q) (Q false h1)):Yp t u Z h Q:=x
theorem jN {t u:MT}{Q:Bool->Gh->Prop}(x:t Z h fun c h1=>br c (Q true h1) (u Z h1 Q)):Nb t u Z h Q:=x
theorem bH {Q:Bool->Gh->Prop}(x:Q true h):jO Z h Q:=x
theorem acR {a b:ME}(x:a Z h (aK b Z Q)):Yy a b Z h Q:=x
theorem agL {a b:ME}(x:a Z h (oK b Z Q)):abl a b Z h Q:=x
theorem zbQ {a:ME}(x:a Z h (nK Q)):YX a Z h Q:=x
theorem abA {b:ME}(x:br c (b Z h Q) (Q (.bl false) h)):aK b Z Q (.bl c) h:=by
 cases c with
 | true=>exact x.1 rfl
 | false=>exact x.2 rfl
theorem abo {b:ME}(x:br c (Q (.bl true) h) (b Z h Q)):oK b Z Q (.bl c) h:=by
 cases c with
 | true=>exact x.1 rfl
 | false=>exact x.2 rfl
theorem abP (x:Q (.bl (!c)) h):nK Q (.bl c) h:=x
theorem aeg {f:Str->Bool}{m:ME}(x:m Z h (xK f Q)):abE f m Z h Q:=x
theorem abf {f:Str->Bool}{n:Str}(x:Q (.bl (f n)) h):xK f Q (.exc n) h:=x
variable {a : Prop}
theorem BW {b:Prop}(x:a):br true a b:=Cq rfl x
theorem wA {b:Prop}(x:b):br false a b:=gj rfl x
theorem zcA {b:Prop}(x:b):br (!true) a b:=wA x
theorem agE {b:Prop}(x:a):br (!false) a b:=BW x
theorem bD {b:Prop}(x:a):Hz true a b:=x
theorem zK {b:Prop}(x:b):Hz false a b:=x
theorem eO {i:Int}(x:Q (.int (i - j)) h):yg (.int i) (.int j) h Q:=x
theorem fC {i:Int}(x:Q (.int (i+j)) h):dN (.int i) (.int j) h Q:=x
theorem bG {i:Int}(c:o9 i j)(x:Q (.int (i*j)) h):gC (.int i) (.int j) h Q:=⟨c,x⟩
theorem Mz {i:Int}(c:Ia i j)(x:Q (.int (i.fdiv j)) h):Mr (.int i) (.int j) h Q:=⟨c,x⟩
theorem yV {i:Int}(c:j≠0)(x:Q (.int (i.fmod j)) h):Bv (.int i) (.int j) h Q:=⟨c,x⟩
theorem U6 {i:Int}(x:Q (.bl (decide (i<j))) h):kLt (.int i) (.int j) h Q:=x
theorem xG {i:Int}(x:Q (.bl (decide (i>j))) h):QS (.int i) (.int j) h Q:=x
theorem uD {i:Int}(x:Q (.bl (decide (i=j))) h):J8 (.int i) (.int j) h Q:=by
 have e:Dv (.int i) (.int j)=decide (i=j):=jA i j;show Q (.bl (Dv (.int i) (.int j))) h;rw [e];exact x
theorem xM {i:Int}(x:Q (.bl (decide (i≠j))) h):KZ (.int i) (.int j) h Q:=by
 have e:(!Dv (.int i) (.int j))=decide (i≠j):=by rw [jA];by_cases z:i=j <;> simp [z]
 show Q (.bl (!Dv (.int i) (.int j))) h;rw [e];exact x
theorem Y5 {i j:Bool}(x:Q (.bl (decide (i=j))) h):J8 (.bl i) (.bl j) h Q:=by
 have e:Dv (.bl i) (.bl j)=decide (i=j):=by rw [Dv];cases i <;> cases j <;> rfl
 show Q (.bl (Dv (.bl i) (.bl j))) h;rw [e];exact x
theorem Yj {i j:Bool}(x:Q (.bl (decide (i≠j))) h):KZ (.bl i) (.bl j) h Q:=by
 have e:(!Dv (.bl i) (.bl j))=decide (i≠j):=by rw [Dv];cases i <;> cases j <;> rfl
 show Q (.bl (!Dv (.bl i) (.bl j))) h;rw [e];exact x
theorem Vj {p q:Tr}(x:Q (.bl (decide (p=q))) h):J8 (tw p) (tw q) h Q:=by
 show Q (.bl (Dv (tw p) (tw q))) h;rw [Vh];exact x
theorem WX {p q:Tr}(x:Q (.bl (decide (p≠q))) h):KZ (tw p) (tw q) h Q:=by
 have e:(!Dv (tw p) (tw q))=decide (p≠q):=by rw [Vh];by_cases z:p=q <;> simp [z]
 show Q (.bl (!Dv (tw p) (tw q))) h;rw [e];exact x
theorem Zu {p:Tr}{a b c:Int}(x:Q (.bl (decide (p=(a,b,c)))) h):J8 (tw p) (.tup [.int a,.int b,.int c]) h Q:=Vj (q:=(a,b,c)) x
theorem YL {p:Tr}{a b c:Int}(x:Q (.bl (decide (p≠(a,b,c)))) h):KZ (tw p) (.tup [.int a,.int b,.int c]) h Q:=WX (q:=(a,b,c)) x
theorem cJ {x:W}{i:Int}(e:view h x=FN ws)(a:Ka ws i=FN w)(k:Q w h):BJ x (.int i) h Q:=by
 unfold BJ;dsimp only;rw [e];dsimp only;rw [a];exact k
theorem oR {T:String}{b:Bool}(e:Xh h w T=FN b)(x:Q (.bl b) h):HF [w,.ty T] h Q:=by
 unfold HF;dsimp only;rw [e];exact x
theorem fJ {xs:List W}(e:view h w=FN xs)(x:Q (.int (xs.length:Int)) h):Gd [w] h Q:=by
 unfold Gd;dsimp only;rw [e];exact x
theorem bW {us:List W}(x:Q (.tup us) h):cD [.lst us] h Q:=x
variable {bs : List Bool}
theorem Le {us:List W}(e:dX h w=FN us)(b:Ig us=FN bs)(x:Q (.bl (bs.any id)) h):VN [w] h Q:=by
 unfold VN;dsimp only;rw [e];dsimp only;rw [b];exact x
theorem Xa {us:List W}(e:dX h w=FN us)(b:Ig us=FN bs)(x:Q (.bl (bs.all id)) h):aaj [w] h Q:=by
 unfold aaj;dsimp only;rw [e];dsimp only;rw [b];exact x
theorem ado {us:List W}(e:dX h w=FN us)(b:sE us=FN ns)(x:Q (.int ns.sum) h):aax [w] h Q:=by
 unfold aax;dsimp only;rw [e];dsimp only;rw [b];exact x
theorem adJ {i:Int}(x:Q (.int (if i<0 then -i else i)) h):R7 [.int i] h Q:=x
theorem Aa {b:Bool}(x:Q (.int (if b then 1 else 0)) h):Kl [.bl b] h Q:=x
theorem g8 {mi:MI}{b:MS}{D:bV}(x:mi Z h (aas g b D Z)):oN mi g b D Z h:=x
variable {o : Option (Nat×List W)}
theorem iz {b:MS}{D:bV}(x:iB ⟨ws,o⟩ g b D ws Z h):aas g b D Z ⟨ws,o⟩ h:=x
theorem Gx {b:MS}{D:bV}(x:D.nx Z h):iB ⟨ws,FX⟩ g b D [] Z h:=x
theorem rF {r:List W}{b:MS}{D:bV}(x:g w Z h fun Z1 h1=>b { D with nx:=iB ⟨ws,FX⟩ g b D r,ct:=iB ⟨ws,FX⟩ g b D r,bk:=D.nx } Z1 h1):iB ⟨ws,FX⟩ g b D (w::r) Z h:=x
variable {R : Src->Gh->Prop}
theorem fY {m:ME}(x:m Z h (iK R)):Hx m Z h R:=x
theorem ql (e:T6 h w=FN ⟨ws,o⟩)(x:R ⟨ws,o⟩ h):iK R w h:=by
 unfold iK;rw [e];exact x
theorem mG (x:ma Z h (rgK R)):iQ ma Z h R:=x
theorem Z0 (x:R ⟨[.int 0,.int 1,.int 2],FX⟩ h):rgK R [.int 3] h:=x
theorem XM (x:R ⟨[.int 0,.int 1],FX⟩ h):rgK R [.int 2] h:=x
theorem qT (x:ma Z h (zpK R)):NQ ma Z h R:=x
variable {as : List W}
theorem Ca {a b:W}{bs:List W}{zs:List W}(e:pH a=FN as)(e':pH b=FN bs)(z:m6 as bs=zs)(x:R ⟨zs,FX⟩ h):zpK R [a,b] h:=by
 subst z;have es:Lw h a b=FN ⟨m6 as bs,FX⟩:=by unfold Lw;rw [e,e']
 unfold zpK;dsimp only;rw [es];exact x
theorem Y6 {b:W}{bs:List W}{zs:List W}(e:h.c n=FN (.lst as))(e':pH b=FN bs)(z:m6 as bs=zs)(x:R ⟨zs,FN (n,as)⟩ h):zpK R [.loc n,b] h:=by
 subst z;have es:Lw h (.loc n) b=FN ⟨m6 as bs,FN (n,as)⟩:=by unfold Lw;rw [e'];dsimp only [pH];rw [e]
 unfold zpK;dsimp only;rw [es];exact x
theorem aaQ {bs:List W}:m6 [] bs=[]:=by cases bs <;> rfl
theorem aak {a:W}:m6 (a::as) []=[]:=rfl
theorem YQ {a b:W}{bs l:List W}(e:m6 as bs=l):m6 (a::as) (b::bs)=.tup [a,b]::l:=by rw [m6,e]
theorem gn {mi:MI}(x:mi Z h (lcK own ix tt te Z Q)):GK own ix mi tt te Z h Q:=x
theorem wL (e:Pu ws.length 1000=true)(x:qb ⟨ws,o⟩ own ix tt te Z Q ws [] h):lcK own ix tt te Z Q ⟨ws,o⟩ h:=bC e x
variable {acc : List W}
theorem qG (x:Q (.lst acc) h):qb ⟨ws,FX⟩ own ix tt te Z Q [] acc h:=x
theorem dj {r vs:List W}(e:own w=FN vs)(x:tt (vs.map FN++lg ix Z) h fun c h1=>Hz c (te (vs.map FN++lg ix Z) h1 fun v h2=>qb ⟨ws,FX⟩ own ix tt te Z Q r (acc++[v]) h2) (qb ⟨ws,FX⟩ own ix tt te Z Q r acc h1)):qb ⟨ws,FX⟩ own ix tt te Z Q (w::r) acc h:=by
 unfold qb;show match own w with
  | some vs=>tt (vs.map FN++lg ix Z) h fun c h1=>Hz c (te (vs.map FN++lg ix Z) h1 fun v h2=>qb ⟨ws,FX⟩ own ix tt te Z Q r (acc++[v]) h2) (qb ⟨ws,FX⟩ own ix tt te Z Q r acc h1)
  | none=>False
 rw [e];exact x
variable {body : Cd->MS}
theorem YD {N:Nat}(hl:KJ ws.length n=true)(x:body E { nx:=fun _ h'=>Q .non h',rt:=Q } (ws.map FN++Gs (N - ws.length) FX) h):Es n N false body ws h Q E:=by
 unfold Es;rw [hl];exact x
variable {r : W->Option Int->Option Int->Gh->WK->Prop}
theorem Nx {m:ME}{l u:MO}(x:m Z h fun a h1=>l Z h1 fun lo h2=>u Z h2 fun hi h3=>r a lo hi h3 Q):mSl r m l u Z h Q:=x
theorem wU {m:ME}{Q:Option Int->Gh->Prop}(x:m Z h (pK Q)):Fp m Z h Q:=x
theorem Ze {i:Int}{Q:Option Int->Gh->Prop}(x:Q (FN i) h):pK Q (.int i) h:=x
def p3K (i j k:Nat)(D:bV)(Z : Sw):List W->Gh->Prop:=fun ws h=>match ws with
 | [x,y,z]=>D.nx (((Z.set i (FN x)).set j (FN y)).set k (FN z)) h
 | _=>False
theorem zbR {j k:Nat}{ta:MA}{D:bV}(x:ta Z h (p3K i j k D Z)):Yk i j k ta D Z h:=x
theorem aeS {xs:List W}{n:Int}{b:Prop}(e:decide ((xs.length:Int)≠n)=false)(x:b):br (decide ((xs.length:Int)≠n)) a b:=gj e x
theorem adz {b:Prop}(e:bs.all id=true)(x:b):br (!(bs.all id)) a b:=gj (by rw [e];rfl) x
theorem XR {n:Str}{b:Prop}(e:QT n d=true)(x:a):Hz (QT n d) a b:=VF e x
theorem ZJ {n:Str}{b:Prop}(e:QT n d=true)(x:a):br (QT n d) a b:=Cq e x
theorem Zo {n:Str}{b:Prop}(e:QT n d=false)(x:b):br (QT n d) a b:=gj e x
theorem R0 {α : Type}{a x:α}{l:List α}:(a::l).set 0 x=x::l:=rfl
theorem RQ {α : Type}{a x:α}{l l':List α}(e:l.set n x=l'):(a::l).set (n+1) x=a::l':=by rw [List.set_cons_succ,e]
theorem lD {Z':Sw}(e:Z.set i (FN w) = Z')(x:N Z' h):kI i w Z h N:=by
 subst e;exact x
theorem nV {Z':Sw}(x:N Z' h)(e:Z.set i (FN w) = Z':=by repeat (first | with_reducible exact R0 | with_reducible apply RQ)):kI i w Z h N:=lD e x
theorem ZV {j k:Nat}{D:bV}{Z1 Z2 Z3:Sw}{x y z:W}(e1:Z.set i (FN x) = Z1)(e2:Z1.set j (FN y) = Z2)(e3:Z2.set k (FN z) = Z3)(q:D.nx Z3 h):p3K i j k D Z [x,y,z] h:=by
 subst e1 e2 e3;exact q
def S6 (ws:List W)(n:Nat):Sw:=ws.map FN++Gs (n - ws.length) FX
theorem aaG:S6 [] 0=[]:=rfl
theorem aar {l:Sw}(e:S6 [] n=l):S6 [] (n+1)=FX::l:=by
 subst e;rfl
theorem aaw {l:Sw}(e:S6 ws n=l):S6 (w::ws) (n+1)=FN w::l:=by
 subst e;unfold S6;rw [Iw,Nat.add_sub_add_right];rfl
theorem cA {N:Nat}(hl:KJ ws.length n=true)(e:S6 ws N = Z)(x:body E { nx:=fun _ h'=>Q .non h',rt:=Q } Z h):Es n N false body ws h Q E:=by
 subst e;exact YD hl x
theorem ZL {n:Str}{fs:List (Str×W)}{mh:MS}{D:bV}{Z':Sw}(e:QT n d=true)(s:Z.set i (FN (Xn ⟨n,fs⟩)) = Z')(x:mh D Z' h):Hz (QT (Xw.mk n fs).cls d) (mh D (Z.set i (FN (Xn (Xw.mk n fs)))) h) False:=by
 subst s;exact VF e x
theorem afB {mi:MI}(x:GK own ix mi tt te Z h (aaO Q)):abq own ix mi tt te Z h Q:=x
theorem FW {mo mi:ME}{ms:Oi}(x:mo Z h fun o h1=>mi Z h1 fun i h2=>ms o i w h2 fun h3=>N Z h3):J5 mo mi ms w Z h N:=x
theorem zaP {r us:List W}{b:MS}{D:bV}(e:h.c n=FN (.lst us))(x:g w Z h fun Z1 h1=>b { D with nx:=iB ⟨ws,FN (n,us)⟩ g b D r,ct:=iB ⟨ws,FN (n,us)⟩ g b D r,bk:=D.nx } Z1 h1):iB ⟨ws,FN (n,us)⟩ g b D (w::r) Z h:=⟨e,x⟩
theorem adf {us:List W}{b:MS}{D:bV}(e:h.c n=FN (.lst us))(x:D.nx Z h):iB ⟨ws,FN (n,us)⟩ g b D [] Z h:=⟨e,x⟩
theorem zcl {us:List W}(e:h.c n=FN (.lst us))(x:Q (.lst acc) h):qb ⟨ws,FN (n,us)⟩ own ix tt te Z Q [] acc h:=⟨e,x⟩
theorem adt {us r vs:List W}(ec:h.c n=FN (.lst us))(e:own w=FN vs)(x:tt (vs.map FN++lg ix Z) h fun c h1=>Hz c (te (vs.map FN++lg ix Z) h1 fun v h2=>qb ⟨ws,FN (n,us)⟩ own ix tt te Z Q r (acc++[v]) h2) (qb ⟨ws,FN (n,us)⟩ own ix tt te Z Q r acc h1)):qb ⟨ws,FN (n,us)⟩ own ix tt te Z Q (w::r) acc h:=by
 unfold qb;refine ⟨ec,?_⟩;show match own w with
  | some vs=>tt (vs.map FN++lg ix Z) h fun c h1=>Hz c (te (vs.map FN++lg ix Z) h1 fun v h2=>qb ⟨ws,FN (n,us)⟩ own ix tt te Z Q r (acc++[v]) h2) (qb ⟨ws,FN (n,us)⟩ own ix tt te Z Q r acc h1)
  | none=>False
 rw [e];exact x
theorem abI (e:h.c n=FN (.lst ws))(x:R ⟨ws,FN (n,ws)⟩ h):iK R (.loc n) h:=ql (by simp only [T6,e]) x
theorem XQ {i:Int}(e:h.c n=FN (.lst ws))(a:Ka ws i=FN w)(k:Q w h):BJ (.loc n) (.int i) h Q:=cJ (cZ e) a k
theorem yW {N:Nat}(hl:KJ ws.length n=true)(e:S6 ws N = Z)(x:body E { nx:=fun _ h'=>uT true h .non h' Q,rt:=fun w h'=>uT true h w h' Q } Z h):Es n N true body ws h Q E:=by
 subst e;unfold Es;rw [hl];exact x
theorem zck {a b:List W}(e:Pu (a.length+b.length) 1000=true)(x:Q (.lst (a++b)) h):dN (.lst a) (.lst b) h Q:=bC e x
theorem YT {a b:Bool}(x:Q (.bl (a==b)) h):kIs (.bl a) (.bl b) h Q:=x
theorem afv {a b:Bool}(x:Q (.bl (!(a==b))) h):FQ (.bl a) (.bl b) h Q:=x
theorem cI {a b:Str}(x:Q (.bl (decide (a=b))) h):J8 (.str a) (.str b) h Q:=by
 have e:Dv (.str a) (.str b)=decide (a=b):=by rw [Dv];by_cases z:a=b <;> simp [z]
 show Q (.bl (Dv (.str a) (.str b))) h;rw [e];exact x
theorem aah {a b:Str}(x:Q (.bl (decide (a≠b))) h):KZ (.str a) (.str b) h Q:=by
 have e:(!Dv (.str a) (.str b))=decide (a≠b):=by rw [Dv];by_cases z:a=b <;> simp [z]
 show Q (.bl (!Dv (.str a) (.str b))) h;rw [e];exact x
theorem aeP {b:Prop}(e:bs.any id=false)(x:b):br (bs.any id) a b:=gj e x
local macro_rules | `(tactic| rfl') => `(tactic| repeat (first
 | with_reducible refine aH ?_ | with_reducible refine aP ?_ | with_reducible refine aB ?_ | with_reducible refine aj ?_ | with_reducible refine aq ?_
 | ((with_reducible apply ak);exact rfl) | with_reducible refine aU ?_ | with_reducible refine aD ?_ | with_reducible refine lD (by repeat (first | with_reducible exact R0 | with_reducible apply RQ)) ?_ | with_reducible refine agK ?_ | with_reducible refine zbO ?_ | with_reducible refine aY ?_ | with_reducible refine gF ?_ | with_reducible refine abp ?_ | with_reducible refine abt ?_
 | with_reducible refine aZ ?_ | with_reducible refine Il ?_ | with_reducible refine aX ?_ | with_reducible refine mH ?_ | with_reducible refine aW ?_ | with_reducible refine agG ?_ | with_reducible refine jW ?_
 | with_reducible refine aN ?_ | with_reducible refine dD ?_ | with_reducible refine iY ?_ | ((with_reducible apply EY);exact rfl) | with_reducible refine mO ?_ | with_reducible refine HJ ?_ | with_reducible refine jN ?_ | with_reducible refine bH ?_
 | with_reducible refine acR ?_ | with_reducible refine agL ?_ | with_reducible refine zbQ ?_ | with_reducible refine abA ?_ | with_reducible refine abo ?_ | with_reducible refine abP ?_ | with_reducible refine aeg ?_ | with_reducible refine abf ?_
 | with_reducible refine BW ?_ | with_reducible refine wA ?_ | with_reducible refine zcA ?_ | with_reducible refine agE ?_ | with_reducible refine bD ?_ | with_reducible refine zK ?_
 | with_reducible refine cQ ?_ | with_reducible refine iG ?_ | ((with_reducible apply bC);exact rfl) | with_reducible refine bL ?_ | with_reducible refine Vi ?_ | with_reducible refine Mg ?_
 | ((with_reducible apply iR);exact rfl;exact rfl) | ((with_reducible apply HD);exact rfl;exact rfl) | ((with_reducible apply Wx);exact rfl;exact rfl) | with_reducible refine bZ ?_ | with_reducible refine jV ?_
 | with_reducible refine eO ?_ | with_reducible refine fC ?_ | ((with_reducible apply bG);exact o9.of (by trivial) (by trivial) (by lia) (by lia)) | with_reducible refine U6 ?_ | with_reducible refine xG ?_
 | with_reducible refine uD ?_ | with_reducible refine xM ?_ | with_reducible refine Y5 ?_ | with_reducible refine Yj ?_ | with_reducible refine Vj ?_ | with_reducible refine WX ?_ | with_reducible refine Zu ?_ | with_reducible refine YL ?_
 | ((with_reducible apply cJ);exact rfl;exact rfl) | ((with_reducible apply oR);exact rfl) | ((with_reducible apply fJ);exact rfl) | with_reducible refine bW ?_ | ((with_reducible apply Le);exact rfl;exact rfl) | ((with_reducible apply Xa);exact rfl;exact rfl) | ((with_reducible apply ado);exact rfl;exact rfl) | with_reducible refine Aa ?_ | with_reducible refine adJ ?_
 | with_reducible refine g8 ?_ | with_reducible refine iz ?_ | with_reducible refine Gx ?_ | with_reducible refine rF ?_ | with_reducible refine fY ?_ | ((with_reducible apply ql);exact rfl) | with_reducible refine mG ?_ | with_reducible refine Z0 ?_ | with_reducible refine XM ?_ | with_reducible refine qT ?_ | ((with_reducible apply Ca);exact rfl;exact rfl;(repeat (first | with_reducible exact aaQ | with_reducible exact aak | with_reducible apply YQ)))
 | with_reducible refine gn ?_ | ((with_reducible apply wL);exact rfl) | with_reducible refine qG ?_ | ((with_reducible apply dj);exact rfl) | ((with_reducible apply cA);exact rfl;repeat (first | with_reducible exact aaG | with_reducible apply aaw | with_reducible apply aar)) | with_reducible refine Nx ?_ | with_reducible refine wU ?_ | with_reducible refine Ze ?_ | with_reducible refine zbR ?_ | with_reducible refine ZV (by repeat (first | with_reducible exact R0 | with_reducible apply RQ)) (by repeat (first | with_reducible exact R0 | with_reducible apply RQ)) (by repeat (first | with_reducible exact R0 | with_reducible apply RQ)) ?_ | ((with_reducible apply aeS);exact rfl) | ((with_reducible apply adz);exact rfl) | ((with_reducible apply ZL);decide +kernel;(repeat (first | with_reducible exact R0 | with_reducible apply RQ))) | ((with_reducible apply XR);decide +kernel) | ((with_reducible apply ZJ);decide +kernel) | ((with_reducible apply Zo);decide +kernel) | with_reducible refine afB ?_ | with_reducible refine FW ?_ | ((with_reducible apply abI);(with_reducible assumption)) | ((with_reducible apply zaP);(with_reducible assumption)) | ((with_reducible apply adf);(with_reducible assumption)) | ((with_reducible apply zcl);(with_reducible assumption)) | ((with_reducible apply adt);(with_reducible assumption);exact rfl) | ((with_reducible apply XQ);(with_reducible assumption);exact rfl) | ((with_reducible apply Y6);(with_reducible assumption);exact rfl;(repeat (first | with_reducible exact aaQ | with_reducible exact aak | with_reducible apply YQ))) | ((with_reducible apply yW);exact rfl;(repeat (first | with_reducible exact aaG | with_reducible apply aaw | with_reducible apply aar))) | ((with_reducible apply zck);exact rfl) | with_reducible refine YT ?_ | with_reducible refine afv ?_ | with_reducible refine cI ?_ | with_reducible refine aah ?_ | ((with_reducible apply aeP);decide +kernel)))
theorem Ae {r:MM}{mo:ME}(x:mo Z h fun x h1=>BZ h1 x (ma Z h1 fun xs h2=>r x xs h2 Q)):Qv r mo ma Z h Q:=x
theorem su {us:List W}(e:h.c n=FN (.lst us))(p:P):BZ h (.loc n) P:=by
 simp only [BZ,e];exact p
theorem sU (hm:∀ R,ma Z h R=R ws h)(hz:Pu ws.length 1000=true)(x:∀ g:Gh,g.c h.nx=FN (.lst ws)->(∀ n,n≠h.nx->g.c n=h.c n)->g.nx=h.nx+1->Q (.loc h.nx) g):vQ ma Z h Q:=by
 unfold vQ;rw [hm];exact bC hz<|x _ (G8 _ _) (fun _ e=>vK e) rfl
theorem Ju {us:List W}(e:h.c n=FN (.lst us))(hz:us.length<=1000)(k:∀ g:Gh,g.c n=FN (.lst (us++[w]))->(∀ m,m≠n->g.c m=h.c m)->g.nx=h.nx->Q .non g):gY (.loc n) [w] h Q:=
 aeT e (Ot hz (by decide)) (k _ (ud _ _ _) (fun _ e=>mL e) rfl)
def rng (a m:Nat):List Nat:=List.range' a (m - a)
theorem aeQ {a x:Nat}:x∈rng a m↔a<=x/\x<m:=by
 unfold rng;rw [List.mem_range'_1];lia
theorem yL (a m:Nat):wg (a:Int) ((m:Int) - (a:Int)).toNat=(rng a m).map fun x:Nat=>W.int (x:Int):=by
 unfold wg rng;rw [List.range'_eq_map_range,JV,show ((m:Int) - (a:Int)).toNat=m - a by lia];refine Ut fun x _=>?_;simp
theorem zaz (m:Nat):wg 0 ((m:Nat):Int).toNat=(rng 0 m).map fun x:Nat=>W.int (x:Int):=by
 have:=yL 0 m
 rw [show ((m:Int) - ((0:Nat):Int)).toNat=((m:Nat):Int).toNat by lia] at this;exact this
def aaV (R:Src->Gh->Prop):List W->Gh->Prop:=fun ws h=>match ws with
 | [.int i,.int j]=>uP i (uP j (R ⟨wg i (j - i).toNat,FX⟩ h))
 | _=>False
theorem zbI (x:ma Z h (aaV R)):Qm ma Z h R:=x
theorem afn {a:Int}(ha:a=(n:Int))(h1:n<=1000)(h2:m<=1000)(x:R ⟨(rng n m).map fun x:Nat=>W.int (x:Int),FX⟩ h):aaV R [.int a,.int (m:Int)] h:=by
 subst ha;rw [<-yL] at x;exact uP.mk (by lia) (by lia)<|uP.mk (by lia) (by lia) x
theorem BK (h2:m<=1000)(x:R ⟨(rng 0 m).map fun x:Nat=>W.int (x:Int),FX⟩ h):rgK R [.int (m:Int)] h:=by
 rw [<-zaz] at x;exact uP.mk (by lia) (by lia) x
def nxt (l:List Nat):Nat:=match l.getLast? with
 | none=>0
 | some x=>x+1
def grow (m:Nat)(l:List Nat):List (List Nat):=(rng (nxt l) m).map fun p=>l++[p]
theorem lF {a x:Nat}(e:(rng a m)[i]?=FN x):x=a+i/\x<m:=by
 have hx:=aeQ.mp (K4 e);unfold rng at e;have hl:=(K5.mp e).1;rw [V9] at hl;rw [Gz (by rw [V9];exact hl),List.getElem_range'] at e;have:=Eu e
 lia
abbrev Tm:=List Int×Int
def JR (t:Tm):W:=.tup [.tup (t.1.map .int),.int t.2]
def Bt (ts:List Tm):W:=.tup (ts.map JR)
def zaI (h h':Gh):Prop:=h.nx<=h'.nx/\∀ n,n<h.nx->h'.c n=h.c n
def Pw (ps:List Int):Prop:=∀ p∈ps,0<=p/\p<=60
theorem aew {i:Int}(c:ZF i j)(x:Q (.int (i^j.toNat)) h):RT (.int i) (.int j) h Q:=⟨c,x⟩
theorem xR (n:Nat):∀ l:List Int,Kh n (l.map .int)
 | []=>by simp [Kh]
 | x::l=>by rw [Bu,Kh];exact ⟨by simp [Lo],xR n l⟩
def Jj (ts:List Tm):List (List Int×W):=ts.map fun t=>(t.1,.int t.2)
def wk (ts:List Tm)(k:List Int)(n:Int):List Tm:=if ts.any (fun t=>decide (t.1=k)) then ts.map (fun t=>if t.1=k then (t.1,n) else t) else ts++[(k,n)]
theorem yN:∀ (ts:List Tm) (k:List Int),wC (Jj ts) k=((ts.find? fun t=>decide (t.1=k)).map fun t=>W.int t.2)
 | [],k=>rfl
 | t::ts,k=>by
  show wC ((t.1,.int t.2)::Jj ts) k=_;rw [zW,Ov,yN ts k];by_cases e:t.1=k
  ·simp [e]
  ·simp [e]
theorem aft (ts:List Tm)(k:List Int)(n:Int):Sg (Jj ts) k (.int n)=Jj (wk ts k n):=by
 have e:(wC (Jj ts) k).isSome=ts.any fun t=>decide (t.1=k):=by
  rw [yN,Option.isSome_map,VB,List.find?_isSome,Sy]
 unfold Sg wk;rw [e];by_cases c:(ts.any fun t=>decide (t.1=k))=true
 ·rw [if_pos c,if_pos c];unfold Jj;rw [JV,JV];refine Ut fun t _=>?_;simp only [Uy];by_cases e:t.1=k
  ·rw [if_pos e,if_pos e]
  ·rw [if_neg e,if_neg e]
 ·rw [if_neg c,if_neg c];simp [Jj]
theorem Gm (ts:List Tm)(k:List Int)(n:Int):(wk ts k n).length<=ts.length+1:=by
 unfold wk;split
 ·rw [Bx];lia
 ·simp
theorem qZ (k:List Int):Ie (.tup (k.map .int))=FN k:=by
 show sE (k.map .int)=FN k;induction k with
 | nil=>rfl
 | cons a k ih=>rw [Bu];simp [sE,ih]
variable {k : List Int}{ts : List Tm}
theorem afo {x:Int}{N:Gh->Prop}(e:h.c n=FN (.dtt (Jj ts)))(hz:ts.length<=990)(q:∀ g:Gh,g.c n=FN (.dtt (Jj (wk ts k x)))->(∀ m,m≠n->g.c m=h.c m)->g.nx=h.nx->N g):Gg (.loc n) (.tup (k.map .int)) (.int x) h N:=by
 unfold Gg;rw [qZ];dsimp only;rw [e];dsimp only;refine fG.mk (CW (m:=1000) (by unfold Jj;rw [Bx];lia)<|by decide) ?_;rw [aft];exact q _ (ud _ _ _) (fun _ e=>mL e) rfl
variable {t : Tm}
theorem YK (e:h.c n=FN (.dtt (Jj ts)))(f:(ts.find? fun t=>decide (t.1=k))=FN t)(q:Q (.int t.2) h):Ti (.loc n) (.tup (k.map .int)) h Q:=by
 unfold Ti;rw [qZ];dsimp only;rw [e];dsimp only;rw [yN,f];exact q
theorem afA (ts:List Tm)(k:List Int)(n:Int)(nd:(ts.map (·.1)).Nodup):((wk ts k n).map (·.1)).Nodup:=by
 unfold wk;split
 ·rw [JV];have e:(((·.1):Tm->List Int) ∘ fun t:Tm=>if t.1=k then (t.1,n) else t)=(·.1):=by
   funext t;simp only [Uy];split <;> rfl
  rw [e];exact nd
 ·rename_i c;rw [Gp,List.nodup_append];refine ⟨nd,by simp,fun a ha b hb e=>c ?_⟩;simp only [Bu,Jo,Jr] at hb;obtain ⟨t,ht,e2⟩:=GX.mp ha;rw [Sy];exact ⟨t,ht,by simp [e2,e,hb]⟩
def CG (ts:List Tm)(k:List Int):Int:=((ts.find? fun t=>decide (t.1=k)).map (·.2)).getD 0
def Al (ts:List Tm)(k:List Int)(v:Int):List Tm:=wk ts k (CG ts k+v)
def nQ (ts:List Tm)(ks:List (List Int)):List Tm:=(ks.map fun k=>(k,CG ts k)).filter fun t=>decide (t.2≠0)
def lin (f:List Int->Int)(ts:List Tm):Int:=(ts.map fun t=>f t.1*t.2).sum
theorem cT (t:Tm)(ts:List Tm)(k:List Int):CG (t::ts) k=if t.1=k then t.2 else CG ts k:=by
 unfold CG;rw [Ov];by_cases e:t.1=k
 ·rw [if_pos e,decide_eq_true e];rfl
 ·rw [if_neg e,decide_eq_false e]
theorem zaT (ts us:List Tm)(k:List Int):CG (ts++us) k=if k∈ts.map (·.1) then CG ts k else CG us k:=by
 induction ts with
 | nil=>simp
 | cons t ts ih=>
  rw [VJ,cT,cT,ih,Bu];by_cases e:t.1=k
  ·rw [if_pos e,if_pos e,if_pos (by simp [e])]
  ·rw [if_neg e,if_neg e];by_cases m:k∈ts.map (·.1)
   ·rw [if_pos m,if_pos (IK _ m)]
   ·rw [if_neg m,if_neg (fun q=>by rcases G7.mp q with q | q;exact e q.symm;exact m q)]
theorem JL (h:k∉ts.map (·.1)):CG ts k=0:=by
 induction ts with
 | nil=>rfl
 | cons t ts ih=>
  rw [Bu] at h;rw [cT,if_neg (fun e=>h (by simp [e])),ih fun m=>h (IK _ m)]
theorem rP (nd:(ts.map (·.1)).Nodup)(h:t∈ts):CG ts t.1=t.2:=by
 induction ts with
 | nil=>cases h
 | cons u ts ih=>
  rw [Bu,Qj] at nd;rw [cT];rcases G7.mp h with rfl | h
  ·rw [if_pos rfl]
  ·rw [if_neg (fun e=>nd.1 (by rw [e];exact GX.mpr ⟨t,h,rfl⟩)),ih nd.2 h]
theorem Gn (ts:List Tm)(k:List Int):(ts.any fun t=>decide (t.1=k))=decide (k∈ts.map (·.1)):=by
 rw [VB,Sy,decide_eq_true_iff,GX];constructor
 ·rintro ⟨t,ht,e⟩;exact ⟨t,ht,by simpa using e⟩
 ·rintro ⟨t,ht,e⟩;exact ⟨t,ht,by simpa using e⟩
theorem get_map (ts:List Tm)(k r:List Int)(n:Int):CG (ts.map fun t=>if t.1=k then (t.1,n) else t) r=if r=k/\k∈ts.map (·.1) then n else CG ts r:=by
 induction ts with
 | nil=>simp [CG]
 | cons t ts ih=>
  rw [Bu,cT,ih,cT,Bu];by_cases e:t.1=k
  ·rw [if_pos e];dsimp only;by_cases q:t.1=r
   ·rw [if_pos q,if_pos ⟨by rw [<-q,e],by simp [e]⟩]
   ·rw [if_neg q,if_neg q,if_neg (fun z=>q (by rw [e,z.1])),if_neg (fun z=>q (by rw [e,z.1]))]
  ·rw [if_neg e];by_cases q:t.1=r
   ·rw [if_pos q,if_pos q,if_neg (fun z=>e (by rw [q,z.1]))]
   ·rw [if_neg q,if_neg q];by_cases m:r=k/\k∈ts.map (·.1)
    ·rw [if_pos m,if_pos ⟨m.1,IK _ m.2⟩]
    ·rw [if_neg m,if_neg (fun z=>m ⟨z.1,by rcases G7.mp z.2 with y | y;exact absurd y.symm e;exact y⟩)]
theorem xV (n:Int)(h:k∈ts.map (·.1)):wk ts k n=ts.map fun t=>if t.1=k then (t.1,n) else t:=by
 unfold wk;rw [Gn,if_pos (by simpa using h)]
theorem uc (n:Int)(h:k∉ts.map (·.1)):wk ts k n=ts++[(k,n)]:=by
 unfold wk;rw [Gn,if_neg (by simpa using h)]
theorem zbC (ts:List Tm)(k r:List Int)(n:Int):CG (wk ts k n) r=if r=k then n else CG ts r:=by
 by_cases h:k∈ts.map (·.1)
 ·rw [xV n h,get_map];by_cases q:r=k
  ·rw [if_pos q,if_pos ⟨q,h⟩]
  ·rw [if_neg q,if_neg (fun z=>q z.1)]
 ·rw [uc n h,zaT];by_cases q:r=k
  ·rw [if_pos q,q,if_neg h,cT,if_pos rfl]
  ·rw [if_neg q];by_cases m:r∈ts.map (·.1)
   ·rw [if_pos m]
   ·rw [if_neg m,cT,if_neg (Im q),JL m];rfl
theorem acE (ts:List Tm)(k r:List Int)(v:Int):CG (Al ts k v) r=CG ts r+if r=k then v else 0:=by
 unfold Al;rw [zbC];by_cases q:r=k
 ·rw [if_pos q,if_pos q,q]
 ·rw [if_neg q,if_neg q,Int.add_zero]
theorem keys_map (ts:List Tm)(k:List Int)(n:Int):(ts.map fun t=>if t.1=k then (t.1,n) else t).map (·.1)=ts.map (·.1):=by
 rw [JV];refine Ut fun t _=>?_;simp only [Uy];split <;> rfl
theorem nR (ts:List Tm)(k:List Int)(v:Int):(Al ts k v).map (·.1)=if k∈ts.map (·.1) then ts.map (·.1) else ts.map (·.1)++[k]:=by
 unfold Al;by_cases h:k∈ts.map (·.1)
 ·rw [xV _ h,keys_map,if_pos h]
 ·rw [uc _ h,if_neg h,Gp];rfl
variable {v : Int}
theorem vJ (nd:(ts.map (·.1)).Nodup):((Al ts k v).map (·.1)).Nodup:=afA ts k _ nd
theorem bJ (f:List Int->Int)(t:Tm)(ts:List Tm):lin f (t::ts)=f t.1*t.2+lin f ts:=by unfold lin;simp
theorem jJ (f:List Int->Int)(ts us:List Tm):lin f (ts++us)=lin f ts+lin f us:=by unfold lin;simp
variable {f : List Int->Int}
theorem Hq {f:List Int->Int}{k:List Int}{n:Int}:∀ {ts:List Tm},(ts.map (·.1)).Nodup->k∈ts.map (·.1)->lin f (ts.map fun t=>if t.1=k then (t.1,n) else t)=lin f ts+f k*(n - CG ts k)
 | t::ts,nd,h=>by
  rw [Bu,Qj] at nd;rw [Bu,bJ,bJ,cT];by_cases e:t.1=k
  ·have no:k∉ts.map (·.1):=e ▸ nd.1;have em:(ts.map fun t=>if t.1=k then (t.1,n) else t)=ts:=by
    refine (Ut fun u hu=>?_).trans (List.map_id _);rw [if_neg (fun q=>no (by rw [<-q];exact GX.mpr ⟨u,hu,rfl⟩))];rfl
   rw [if_pos e,if_pos e,em];dsimp only;rw [e];grind
  ·rw [if_neg e,if_neg e,Hq nd.2 (by rcases G7.mp h with q | q;exact absurd q.symm e;exact q)];lia
theorem Dm (nd:(ts.map (·.1)).Nodup):lin f (Al ts k v)=lin f ts+f k*v:=by
 unfold Al;by_cases h:k∈ts.map (·.1)
 ·rw [xV _ h,Hq nd h];grind
 ·rw [uc _ h,jJ,JL h];unfold lin;simp
theorem ael {a b:List Int}(p:a.Perm b):a.sum=b.sum:=by
 induction p with
 | nil=>rfl
 | cons x _ ih=>simp only [List.sum_cons,ih]
 | swap x y l=>simp only [List.sum_cons];lia
 | trans _ _ ih1 ih2=>exact ih1.trans ih2
theorem lV (f:List Int->Int):∀ ts:List Tm,lin f (ts.filter fun t=>decide (t.2≠0))=lin f ts
 | []=>rfl
 | t::ts=>by
  rw [Uj];by_cases e:t.2=0
  ·rw [if_neg (by simp [e]),lV f ts,bJ,e];lia
  ·rw [if_pos (by simp [e]),bJ,bJ,lV f ts]
variable {ks : List (List Int)}{D : List Tm}
theorem zcp (nd:(D.map (·.1)).Nodup)(p:ks.Perm (D.map (·.1))):lin f (nQ D ks)=lin f D:=by
 unfold nQ;rw [lV];unfold lin;rw [JV,ael (p.map _),JV];congr 1
 refine Ut fun t ht=>?_;simp only [Uy];rw [rP nd ht]
theorem Ml {u:Tm}(nd:(D.map (·.1)).Nodup)(p:∀ k∈ks,k∈D.map (·.1))(h:u∈nQ D ks):u∈D/\u.2≠0:=by
 unfold nQ at h;obtain ⟨h1,h2⟩:=List.mem_filter.mp h;obtain ⟨k,hk,rfl⟩:=GX.mp h1;obtain ⟨t,ht,rfl⟩:=GX.mp (p k hk);rw [rP nd ht] at h2 |-
 exact ⟨ht,by simpa using h2⟩
theorem zbS (D:List Tm)(ks:List (List Int)):(nQ D ks).length<=ks.length:=by
 unfold nQ;exact CW (List.length_filter_le _ _) (by rw [Bx];exact Bp _)
theorem Dg (h:ks.Pairwise (· < ·)):((nQ D ks).map (·.1)).Pairwise (· < ·):=by
 unfold nQ;rw [T3];refine List.Pairwise.filter _ ?_;rw [T3];exact h
theorem fu (h:ks.Pairwise (· < ·)):ks.Nodup:=by
 unfold List.Nodup;refine h.imp fun {a b} h e=>?_;rw [e] at h;exact Uo _ h
def fr (l:Nat)(x:Int)(r k:List Int):Int:=if r=k.set l 0 then x^(k.getD l 0).toNat else 0
theorem Bs {α : Type}{P:List α->Prop}(h0:P [])(h1:∀ ts t,P ts->P (ts++[t]))(ts:List α):P ts:=by
 have:∀ us:List α,P us.reverse:=fun us=>by
  induction us with
  | nil=>exact h0
  | cons a us ih=>rw [Vw];exact h1 _ _ ih
 have:=this ts.reverse
 rwa [List.reverse_reverse] at this
theorem Lr (e:h.c n=FN (.dtt (Jj ts)))(m:k∈ts.map (·.1))(q:Q (.int (CG ts k)) h):Ti (.loc n) (.tup (k.map .int)) h Q:=by
 cases f:ts.find? fun t=>decide (t.1=k) with
 | none=>
  obtain ⟨t,ht,e⟩:=GX.mp m;exact absurd (List.find?_eq_none.mp f t ht)<|by simp [e]
 | some t=>
  have eg:CG ts k=t.2:=by unfold CG;rw [f];rfl
  rw [eg] at q;exact YK e f q
variable {L : Nat}
theorem adP (nd:(ts.map (·.1)).Nodup)(hL:∀ t∈ts,t.1.length=L):BP (ts.map (·.1)):=by
 intro h2 k hk e;obtain ⟨t,ht,e1⟩:=GX.mp hk;have L0:L=0:=by rw [<-hL t ht,e1,e];rfl
 have all:∀ k∈ts.map (·.1),k=[]:=fun k hk=>by
  obtain ⟨u,hu,e2⟩:=GX.mp hk;rw [<-e2];exact Ql<|by rw [hL u hu,L0]
 generalize ts.map (·.1)=ks at nd h2 all;match ks,nd,h2,all with
 | a::b::r,nd,_,all=>
  have ea:=all a (by simp);have eb:=all b (by simp);rw [ea,eb] at nd;simp at nd
 | [_],_,h2,_=>simp at h2
 | [],_,h2,_=>simp at h2
def Pv (ps:List Int):Prop:=∀ p∈ps,0<=p/\p<=61
theorem zbc (us:List W)(k:Nat):Ag us (FN (k:Int)) FX=us.drop k:=by
 unfold Ag;rw [HT.Qg,HT.Jt];by_cases h:k<=us.length
 ·rw [Nat.min_eq_left h,Ur (by rw [List.length_drop];exact Bp _)]
 ·rw [Nat.min_eq_right (by lia),List.drop_length,List.drop_of_length_le (by lia)];simp
theorem u5 {Q:Option Int->Gh->Prop}(x:Q FX h):oH Z h Q:=x
theorem Z5 (e:h.c n=FN (.dtt (Jj ts)))(q:Q (.int (CG ts k)) h):Fo (.loc n) [.tup (k.map .int),.int 0] h Q:=by
 unfold Fo;dsimp only;rw [e,qZ];dsimp only;rw [yN];have:(((ts.find? fun t=>decide (t.1=k)).map fun t=>W.int t.2).getD (.int 0))=.int (CG ts k):=by
  unfold CG;cases ts.find? fun t=>decide (t.1=k) <;> rfl
 rw [this];exact q
theorem zcg {kvs:List (List Int×W)}(e:h.c n=FN (.dtt kvs))(p:P):Hg h (.loc n) P:=by
 unfold Hg;dsimp only;rw [e];exact p
theorem zcz {r:MM}{mo:ME}(x:mo Z h fun x h1=>Hg h1 x (ma Z h1 fun xs h2=>r x xs h2 Q)):YH r mo ma Z h Q:=x
theorem Zd (n:Nat)(t:Tm):Lo n (JR t):=by
 unfold JR;simp only [Lo,Kh];exact ⟨xR _ _,trivial,trivial⟩
theorem Lp (n:Nat):∀ ts:List Tm,Kh n (ts.map JR)
 | []=>by simp [Kh]
 | t::ts=>by rw [Bu,Kh];exact ⟨Zd n t,Lp n ts⟩
theorem Zq (n:Nat)(ts:List Tm):Lo n (Bt ts):=by unfold Bt;rw [Lo];exact Lp n ts
def pack (k:List Int):Int:=k.foldl (fun a p=>a*65536+p) 0
def Kb (L:Nat)(k:List Int):Prop:=k.length=L/\∀ p∈k,0<=p/\p<=100
theorem cU (k:List Int)(p:Int):pack (k++[p])=pack k*65536+p:=by unfold pack;rw [List.foldl_append];rfl
theorem oZ {p:Int}(h:Kb (L+1) (k++[p])):Kb L k/\0<=p/\p<=100:=by
 refine ⟨⟨by have:=h.1;simp at this;lia,fun q hq=>h.2 q<|Rj _ hq⟩,h.2 p<|by simp⟩
theorem jE (h:k.length=L+1):∃ (a:List Int) (p:Int),k=a++[p]:=by
 refine ⟨k.dropLast,k.getLast (by intro e;rw [e] at h;simp at h),?_⟩;exact (List.dropLast_concat_getLast _).symm
theorem kW:∀ {L:Nat} {k l:List Int},Kb L k->Kb L l->pack k=pack l->k=l
 | 0,k,l,h1,h2,_=>by rw [Ql h1.1,Ql h2.1]
 | L+1,k,l,h1,h2,e=>by
  obtain ⟨a,p,rfl⟩:=jE h1.1;obtain ⟨b,q,rfl⟩:=jE h2.1;obtain ⟨ha,p0,p1⟩:=oZ h1;obtain ⟨hb,q0,q1⟩:=oZ h2;rw [cU,cU] at e;have e1:pack a=pack b:=by lia
  have e2:p=q:=by lia
  rw [kW ha hb e1,e2]
theorem Hf:∀ {a b:List Int} {p q:Int},a.length=b.length->(a++[p]<b++[q]↔a<b\/a=b/\p<q)
 | [],[],p,q,_=>by simp [Qs]
 | [],_::_,_,_,h=>by simp at h
 | _::_,[],_,_,h=>by simp at h
 | x::a,y::b,p,q,h=>by
  have ih:=Hf (a:=a) (b:=b) (p:=p) (q:=q) (by simpa using h);rw [VJ,VJ,Qs,Qs,ih];constructor
  ·rintro (h | ⟨h1,h2 | ⟨h2,h3⟩⟩)
   ·exact .inl<|.inl h
   ·exact .inl<|.inr ⟨h1,h2⟩
   ·exact .inr ⟨by rw [h1,h2],h3⟩
  ·rintro ((h | ⟨h1,h2⟩) | ⟨h1,h2⟩)
   ·exact .inl h
   ·exact .inr ⟨h1,.inl h2⟩
   ·obtain ⟨e1,e2⟩:=Pz h1;exact .inr ⟨e1,.inr ⟨e2,h2⟩⟩
theorem Di:∀ {L:Nat} {k l:List Int},Kb L k->Kb L l->(k<l↔pack k<pack l)
 | 0,k,l,h1,h2=>by
  rw [Ql h1.1,Ql h2.1];constructor
  ·intro h;exact absurd h (Uo _)
  ·intro h;exact absurd h (Int.lt_irrefl _)
 | L+1,k,l,h1,h2=>by
  obtain ⟨a,p,rfl⟩:=jE h1.1;obtain ⟨b,q,rfl⟩:=jE h2.1;obtain ⟨ha,p0,p1⟩:=oZ h1;obtain ⟨hb,q0,q1⟩:=oZ h2;have ih:=Di ha hb;rw [Hf (by rw [ha.1,hb.1]),cU,cU];constructor
  ·rintro (h | ⟨h,h'⟩)
   ·have:=ih.mp h;lia
   ·rw [h];lia
  ·intro h;rcases Int.lt_trichotomy (pack a) (pack b) with c | c | c
   ·exact .inl<|ih.mpr c
   ·exact .inr ⟨kW ha hb c,by lia⟩
   ·lia
def gH (k l:List Int):List Int:=List.zipWith (· + ·) k l
theorem zP {l:List Int}(h:k.length=l.length):(gH k l).length=k.length:=by unfold gH;rw [List.length_zipWith,h,Nat.min_self]
theorem vm:∀ {k l:List Int} {p q:Int},k.length=l.length->gH (k++[p]) (l++[q])=gH k l++[p+q]
 | [],[],p,q,_=>rfl
 | [],_::_,_,_,h=>by simp at h
 | _::_,[],_,_,h=>by simp at h
 | x::a,y::b,p,q,h=>by
  show (x+y)::gH (a++[p]) (b++[q])=(x+y)::(gH a b++[p+q]);rw [vm (by simpa using h)]
theorem za:∀ {L:Nat} {k l:List Int},k.length=L->l.length=L->pack (gH k l)=pack k+pack l
 | 0,k,l,h1,h2=>by rw [Ql h1,Ql h2];rfl
 | L+1,k,l,h1,h2=>by
  obtain ⟨a,p,rfl⟩:=jE h1;obtain ⟨b,q,rfl⟩:=jE h2;have la:a.length=L:=by simpa using h1
  have lb:b.length=L:=by simpa using h2
  rw [vm (by rw [la,lb]),cU,cU,cU,za la lb];lia
theorem uh:∀ {k l:List Int} {p:Int},p∈gH k l->∃ a∈k,∃ b∈l,p=a+b
 | [],_,_,h=>by simp [gH] at h
 | _::_,[],_,h=>by simp [gH] at h
 | a::k,b::l,p,h=>by
  have h:p∈(a+b)::gH k l:=h;rcases G7.mp h with rfl | h
  ·exact ⟨a,by simp,b,by simp,rfl⟩
  ·obtain ⟨x,hx,y,hy,e⟩:=uh h;exact ⟨x,IK _ hx,y,IK _ hy,e⟩
theorem xZ:∀ {L:Nat} {k:List Int},Kb L k->0<=pack k/\(pack k).natAbs<2^(16*L)
 | 0,k,h=>by rw [Ql h.1];exact ⟨Int.le_refl _,by decide⟩
 | L+1,k,h=>by
  obtain ⟨a,p,rfl⟩:=jE h.1;obtain ⟨ha,p0,p1⟩:=oZ h;obtain ⟨i0,i1⟩:=xZ ha;rw [cU,Nat.mul_succ,Oq];generalize 2^(16*L)=A at *;have:(2:Nat)^16=65536:=rfl
  rw [this];lia
def FT (k:List Int)(n:Int)(vs:List Tm)(D:List Tm):List Tm:=vs.foldl (fun D s=>Al D (gH k s.1) (n*s.2)) D
def lB (us vs:List Tm):List Tm:=us.foldl (fun D t=>FT t.1 t.2 vs D) []
theorem eN (k:List Int)(n:Int)(vs D:List Tm)(s:Tm):FT k n (vs++[s]) D=Al (FT k n vs D) (gH k s.1) (n*s.2):=by unfold FT;rw [List.foldl_append];rfl
theorem fj (us vs:List Tm)(t:Tm):lB (us++[t]) vs=FT t.1 t.2 vs (lB us vs):=by unfold lB;rw [List.foldl_append];rfl
variable {vs : List Tm}
theorem Fw {n:Int}(h:(D.map (·.1)).Nodup):((FT k n vs D).map (·.1)).Nodup:=by
 refine Bs (P:=fun vs=>((FT k n vs D).map (·.1)).Nodup) h (fun vs t ih=>?_) vs;rw [eN];exact vJ ih
theorem lG (us vs:List Tm):((lB us vs).map (·.1)).Nodup:=by
 refine Bs (P:=fun us=>((lB us vs).map (·.1)).Nodup) List.nodup_nil (fun us t ih=>?_) us;rw [fj];exact Fw ih
theorem zF (k:List Int)(n:Int)(vs D:List Tm):(FT k n vs D).length<=D.length+vs.length:=by
 refine Bs (P:=fun vs=>(FT k n vs D).length<=D.length+vs.length) (Bp _) (fun vs t ih=>?_) vs;rw [eN,JG,WL];exact CW (Gm ..)<|by lia
theorem rE (us vs:List Tm):(lB us vs).length<=us.length*vs.length:=by
 refine Bs (P:=fun us=>(lB us vs).length<=us.length*vs.length) (Ja _) (fun us t ih=>?_) us;rw [fj,JG,WL,Nat.add_mul,Nat.one_mul];exact CW (zF ..)<|by lia
def dl (r k:List Int):Int:=if k=r then 1 else 0
theorem afm (k:List Int)(n:Int)(r:List Int)(D vs:List Tm):CG (FT k n vs D) r=CG D r+n*lin (fun l=>dl r (gH k l)) vs:=by
 refine Bs (P:=fun vs=>CG (FT k n vs D) r=CG D r+n*lin (fun l=>dl r<|gH k l) vs) (by show CG D r=CG D r+n*0;lia) (fun vs t ih=>?_) vs;rw [eN,acE,jJ,ih];show _=_+n*(_+lin (fun l=>dl r (gH k l)) [t]);rw [bJ];show _=_+n*(_+(dl r (gH k t.1)*t.2+0));unfold dl;by_cases c:gH k t.1=r
 ·rw [if_pos c.symm,if_pos c];grind
 ·rw [if_neg (Im c),if_neg c];grind
theorem zaY (r:List Int)(us vs:List Tm):CG (lB us vs) r=lin (fun k=>lin (fun l=>dl r (gH k l)) vs) us:=by
 refine Bs (P:=fun us=>CG (lB us vs) r=lin (fun k=>lin (fun l=>dl r<|gH k l) vs) us) rfl (fun us t ih=>?_) us;rw [fj,afm,ih,jJ,bJ];show _=_+(_+0);rw [Int.add_zero,SM]
theorem n8 (f:List Int->Int)(c:Int):∀ us:List Tm,lin (fun k=>f k*c) us=lin f us*c
 | []=>by show (0:Int)=0*c;lia
 | t::us=>by rw [bJ,bJ,n8 f c us];grind
def wj (D rs:List Tm):Prop:=∃ ks:List (List Int),ks.Perm (D.map (·.1))/\ks.Pairwise (· < ·)/\rs=nQ D ks
def Ms (L:Nat)(us:List Tm):Prop:=us.length<=210/\(us.map (·.1)).Pairwise (· < ·)/\∀ t∈us,t.1.length=L/\t.2≠0/\Sm 1000 t.2/\∀ p∈t.1,0<=p/\p<=40
theorem Fz {l:List Int}(hk:k.length=L/\∀ p∈k,0<=p/\p<=40)(hl:l.length=L/\∀ p∈l,0<=p/\p<=40):Kb L (gH k l):=by
 refine ⟨by rw [zP<|by rw [hk.1,hl.1],hk.1],fun p hp=>?_⟩;obtain ⟨a,ha,b,hb,rfl⟩:=uh hp;have:=hk.2 a ha
 have:=hl.2 b hb
 lia
theorem GF (ht:t.1.length=L/\∀ p∈t.1,0<=p/\p<=40)(hv:∀ t∈vs,t.1.length=L/\∀ p∈t.1,0<=p/\p<=40)(hD:∀ k∈D.map (·.1),Kb L k):∀ k∈(FT t.1 t.2 vs D).map (·.1),Kb L k:=by
 revert hv
 refine Bs (P:=fun vs=>(∀ t∈vs,t.1.length=L/\∀ p∈t.1,0<=p/\p<=40)->∀ k∈(FT t.1 t.2 vs D).map (·.1),Kb L k) (fun _=>hD) (fun vs s ih hv k hk=>?_) vs;rw [eN,nR] at hk;have hk:k∈(FT t.1 t.2 vs D).map (·.1)\/k=gH t.1 s.1:=by
  split at hk
  ·exact .inl hk
  ·rcases Jx.mp hk with hk | hk
   ·exact .inl hk
   ·exact .inr<|Jr.mp hk
 rcases hk with hk | rfl
 ·exact ih (fun u hu=>hv u<|Rj _ hu) k hk
 ·exact Fz ht<|hv s<|by simp
variable {us : List Tm}
theorem uU (hu:∀ t∈us,t.1.length=L/\∀ p∈t.1,0<=p/\p<=40)(hv:∀ t∈vs,t.1.length=L/\∀ p∈t.1,0<=p/\p<=40):∀ k∈(lB us vs).map (·.1),Kb L k:=by
 revert hu
 refine Bs (P:=fun us=>(∀ t∈us,t.1.length=L/\∀ p∈t.1,0<=p/\p<=40)->∀ k∈(lB us vs).map (·.1),Kb L k) (fun _ k hk=>by simp [lB] at hk) (fun us t ih hu=>?_) us;rw [fj];exact GF (hu t<|by simp) hv<|ih fun u h=>hu u<|Rj _ h
def Jk (D:List Tm):List (Key×W):=D.map fun t=>(.inl (pack t.1),.int t.2)
theorem Hr (hD:∀ j∈D.map (·.1),Kb L j)(hk:Kb L k):qd (Jk D) (.inl (pack k))=((D.find? fun t=>decide (t.1=k)).map fun t=>W.int t.2):=by
 unfold qd Jk;induction D with
 | nil=>rfl
 | cons t D ih=>
  have ih:=ih fun j hj=>hD j (by rw [Bu];exact IK _ hj)
  rw [Bu,Ov,Ov];by_cases c:t.1=k
  ·rw [decide_eq_true c,decide_eq_true (by rw [c])];rfl
  ·rw [decide_eq_false c,decide_eq_false (fun e=>c (kW (hD t.1 (by simp)) hk (Sum.inl.inj e)))];exact ih
theorem zco (hD:∀ j∈D.map (·.1),Kb L j)(hk:Kb L k):(qd (Jk D) (.inl (pack k))).getD (.int 0)=.int (CG D k):=by
 rw [Hr hD hk];unfold CG;cases D.find? fun t=>decide (t.1=k) <;> rfl
theorem adU {n:Int}(hD:∀ j∈D.map (·.1),Kb L j)(hk:Kb L k):M6 (Jk D) (.inl (pack k)) (.int n)=Jk (wk D k n):=by
 have ea:((Jk D).any fun kv=>decide (kv.1=Sum.inl (pack k)))=D.any fun t=>decide (t.1=k):=by
  unfold Jk;rw [List.any_map,VB,Sy,Sy];constructor
  ·rintro ⟨t,ht,e⟩;simp only [Uy,decide_eq_true_iff] at e;exact ⟨t,ht,decide_eq_true<|kW (hD t.1<|GX.mpr ⟨t,ht,rfl⟩) hk<|Sum.inl.inj e⟩
  ·rintro ⟨t,ht,e⟩;rw [decide_eq_true_iff] at e;exact ⟨t,ht,by simp [e]⟩
 unfold M6 wk;rw [ea];by_cases c:(D.any fun t=>decide (t.1=k))=true
 ·rw [if_pos c,if_pos c];unfold Jk;rw [JV,JV];refine Ut fun t ht=>?_;simp only [Uy];by_cases e:t.1=k
  ·rw [if_pos e,if_pos (by rw [e])]
  ·rw [if_neg e,if_neg (fun z=>e (kW (hD t.1 (GX.mpr ⟨t,ht,rfl⟩)) hk (Sum.inl.inj z)))]
 ·rw [if_neg c,if_neg c];simp [Jk]
theorem DY:∀ {ks js:List Int},ks.Perm js->ks.Pairwise (· < ·)->js.Pairwise (· < ·)->ks=js
 | [],js,p,_,_=>p.symm.eq_nil.symm
 | a::ks,[],p,_,_=>p.eq_nil
 | a::ks,b::js,p,h1,h2=>by
  have e:a=b:=by
   have ma:a∈b::js:=p.mem_iff.mp (JW ..);have mb:b∈a::ks:=p.mem_iff.mpr (JW ..);rcases G7.mp ma with e | ma
   ·exact e
   ·rcases G7.mp mb with e | mb
    ·exact e.symm
    ·have:=(T5.mp h1).1 b mb
     have:=(T5.mp h2).1 a ma
     lia
  subst e;rw [DY (List.Perm.cons_inv p) (T5.mp h1).2 (T5.mp h2).2]
def NZ (a:List Int):List (List Int)->List (List Int)
 | []=>[a]
 | b::l=>if a<b then a::b::l else b::NZ a l
theorem pN (a:List Int):∀ l,(NZ a l).Perm (a::l)
 | []=>.refl _
 | b::l=>by
  unfold NZ;split
  ·exact .refl _
  ·exact (List.Perm.cons b<|pN a l).trans (List.Perm.swap a b l)
theorem zQ {a:List Int}:∀ {l:List (List Int)},l.Pairwise (· < ·)->a∉l->(NZ a l).Pairwise (· < ·)
 | [],_,_=>by simp [NZ]
 | b::l,h,n=>by
  rw [T5] at h;unfold NZ;split
  ·rename_i c;rw [T5];refine ⟨fun x hx=>?_,T5.mpr h⟩;rcases G7.mp hx with rfl | hx
   ·exact c
   ·exact List.lt_trans c<|h.1 x hx
  ·rename_i c;rw [T5];refine ⟨fun x hx=>?_,zQ h.2 fun m=>n<|IK _ m⟩;rcases G7.mp ((pN a l).mem_iff.mp hx) with rfl | hx
   ·rcases List.le_iff_lt_or_eq.mp (List.not_lt.mp c) with h | h
    ·exact h
    ·exact absurd (by rw [h];exact JW ..) n
   ·exact h.1 x hx
theorem Nu:∀ (l:List (List Int)),l.Nodup->∃ ks:List (List Int),ks.Perm l/\ks.Pairwise (· < ·)
 | [],_=>⟨[],.refl _,.nil⟩
 | a::l,nd=>by
  rw [Qj] at nd;obtain ⟨ks,p,s⟩:=Nu l nd.2;exact ⟨NZ a ks,(pN a ks).trans (p.cons a),zQ s fun m=>nd.1<|p.mem_iff.mp m⟩
def PkX (c0:Ar):Prop:=∀ {h:Gh} {k:List Int} {L:Nat} {Q:WK} {E:Cd},Kb L k->L<=8->Q (.int (pack k)) h->c0 [.tup (k.map .int)] h Q E
theorem mq {b:MS}{D:bV}(hv:Z[i]?=FN (FN (.tup ws)))(x:iB ⟨ws,FX⟩ g b D ws Z h):oN (Hx (aA i)) g b D Z h:=g8 (fY (ak hv (ql rfl (iz x))))
theorem CN (h:Kb L k)(i:Nat):Kb (min i L) (k.take i):=⟨by rw [QC,h.1],fun p hp=>h.2 p (VP hp)⟩
theorem zcu:PkX tG:=by
 intro h k L Q E hk hL q;unfold tG;refine cA rfl (Z:=[FN<|.tup<|k.map .int,FX,FX]) rfl<|aH<|aP<|aU ?_
 refine nV<|aY ?_
 refine aH ?_;refine mq (ws:=k.map .int) rfl ?_;refine cY (fun i Z h'=>h'=h/\∃ s2:Option W,Z = [FN<|.tup<|k.map .int,FN<|.int<|pack<|k.take i,s2]) ?_ ?_ ⟨rfl,FX,rfl⟩
 ·rintro i w Z h' N hN e ⟨rfl,s2,rfl⟩;obtain ⟨p,ep,rfl⟩:=Jh e;have sp:=(xZ (CN hk i)).2;have s1:Sm 128 (pack (k.take i)):=FJ sp (Vy (by decide) (by lia));refine nV ?_;refine aP<|aD<|aD<|ak rfl<|aU<|bG (.of s1 (n:=64) (.lit rfl) (by decide)<|by decide)<|ak rfl<|fC ?_
  refine lD (Z':=[FN<|.tup<|k.map .int,FN<|.int<|pack<|k.take<|i+1,FN<|.int p]) ?_<|aY<|hN _ _ ⟨rfl,_,rfl⟩
  rw [Ji,ep];show _=[FN (W.tup (k.map .int)),FN (.int (pack (k.take i++[p]))),FN (.int p)];rw [cU];rfl
 ·rintro Z h' ⟨rfl,s2,rfl⟩;rw [Bx,K3];unfold qW;exact aY<|aX<|ak rfl<|gF q
def UnX (c0:Ar):Prop:=∀ {h:Gh} {k:List Int} {L:Nat} {Q:WK} {E:Cd},Kb L k->L<=8->Q (.tup (k.map .int)) h->c0 [.int (pack k),.int (L:Int)] h Q E
theorem adp (h:Kb L k)(hi:i<L):(pack (k.take (L - i))).fmod 65536=k.getD (L - 1 - i) 0/\(pack (k.take (L - i))).fdiv 65536=pack (k.take (L - (i+1))):=by
 have lk:=h.1;have e1:L - i=(L - 1 - i)+1:=by lia
 have e2:L - (i+1)=L - 1 - i:=by lia
 have ek:k[L - 1 - i]?=FN (k[L - 1 - i]'(by lia)):=Gz (by lia);have hb:=h.2 (k[L - 1 - i]'(by lia)) (U7 (by lia));rw [e2,e1,Ji,ek];show (pack (k.take (L - 1 - i)++[k[L - 1 - i]'(by lia)])).fmod 65536=_/\(pack (k.take (L - 1 - i)++[k[L - 1 - i]'(by lia)])).fdiv 65536=_;rw [cU,Nt,ek];have:=(xZ (CN h (L - 1 - i))).1
 rw [dU (by decide),sJ (by decide)];constructor
 ·show _=k[L - 1 - i]'(by lia);lia
 ·lia
theorem Zy {us:List W}(hv:Z[i]?=FN (FN (.loc n)))(e:h.c n=FN (.lst us))(x:Q (.tup us.reverse) h):wD (aA i) Z h Q:=by
 refine ak hv ?_;show (match dX h (.loc n) with
  | some us=>Q (.tup us.reverse) h
  | none=>False)
 rw [uy e];exact x
def dg (k:List Int)(L i:Nat):List Int:=(Oo i).map fun j=>k.getD (L - 1 - j) 0
theorem aey (h:k.length=L):(dg k L L).reverse=k:=by
 have ll:(dg k L L).length=L:=by unfold dg;simp
 refine List.ext_getElem (by rw [List.length_reverse,ll,h]) fun j h1 h2=>?_;rw [List.getElem_reverse];simp only [dg,List.getElem_map,List.getElem_range,Bx,List.length_range];have:L - 1 - (L - 1 - j)=j:=by lia
 rw [this,Nt,Gz h2];rfl
theorem aae:UnX lM:=by
 intro h k L Q E hk hL q;unfold lM;refine yW rfl (Z:=[FN<|.int<|pack k,FN<|.int L,FX,FX]) rfl ?_;refine aH<|aP<|sU (ws:=[]) (fun R=>rfl) rfl fun g eg og xg=>?_
 refine nV<|aY ?_
 refine aH ?_;refine zcs (j:=(L:Int)) (fun _=>rfl) (by lia) (by lia) (fun i Z h'=>i<=L/\∃ s3:Option W,Z = [FN<|.int<|pack<|k.take<|L - i,FN<|.int L,FN<|.loc h.nx,s3]/\h'.c h.nx=FN (.lst<|(dg k L i).map .int)/\∀ n,n≠h.nx->h'.c n=h.c n) ?_ ?_ ⟨Ja _,FX,by rw [Nat.sub_zero,Ur (by rw [hk.1];exact Bp _)],eg,og⟩
 ·rintro i Z h' N hN hi ⟨_,s3,rfl,e2,o2⟩;have hi:i<L:=by lia
  obtain ⟨u1,u2⟩:=adp hk hi;refine nV ?_;refine aH<|mH<|Ae<|ak rfl<|su e2<|aj<|aD<|ak rfl<|aU<|yV (by decide)<|aq ?_
  refine Ju e2 (by rw [Bx];unfold dg;simp;lia) fun g2 a1 a2 a3=>aY ?_;refine aP<|aD<|ak rfl<|aU<|Mz ⟨by decide,64,by decide,.lit rfl⟩ ?_
  rw [u2];refine nV<|aY ?_
  refine hN _ _ ⟨by lia,_,rfl,?_,fun n hn=>by rw [a2 n hn];exact o2 n hn⟩;rw [a1,u1];unfold dg;rw [List.range_succ,Gp,Gp];rfl
 ·rintro Z h' ⟨_,s3,rfl,e2,o2⟩;have eL:(L:Int).toNat=L:=by lia
  rw [eL] at e2;unfold mK;refine aY<|aX<|Zy rfl e2 ?_
  rw [<-List.map_reverse,aey hk.1];exact ⟨fun n c hn ec=>by rw [o2 n<|by lia];exact ec,.inl ⟨by rw [Lo];exact xR _ _,q⟩⟩
def ptW (t:Tm):W:=.tup [.int (pack t.1),.int t.2]
def PtX (c0:Ar):Prop:=∀ {h:Gh} {us:List Tm} {L:Nat} {Q:WK} {E:Cd},(∀ t∈us,Kb L t.1)->us.length<=1000->L<=8->Q (.lst (us.map ptW)) h->c0 [Bt us] h Q E
theorem abQ {pk:Ar}(hpk:PkX pk):PtX (fP pk):=by
 intro h us L Q E hu hz hL q;unfold fP;refine cA rfl (Z:=[FN<|Bt us]) rfl<|aX<|gn<|fY<|ak rfl<|ql (ws:=us.map JR) (o:=FX) rfl<|fG.mk (CW (m:=1000) (by rw [Bx];exact hz)<|by decide) ?_
 refine dF (fun i acc g=>g=h/\acc=(us.take i).map ptW) ?_ ?_ ⟨rfl,rfl⟩
 ·rintro i w acc g N hN e ⟨rfl,rfl⟩;rw [Fv] at e;cases qe:us[i]? with
  | none=>rw [qe] at e;cases e
  | some t=>
   rw [qe] at e;cases e;refine ⟨[.tup<|t.1.map .int,.int t.2],rfl,bH<|bD<|cQ<|aj<|aB<|aj<|ak rfl<|aq ?_⟩;refine hpk (hu t<|K4 qe) hL<|aj<|ak rfl<|aq<|bC rfl<|hN _ _ ⟨rfl,?_⟩
   rw [Ji,qe,Gp];rfl
 ·rintro acc g ⟨rfl,rfl⟩;rw [Bx,K3];exact gF q
theorem Mq (e:h.c n=FN (.dct (Jk D)))(hD:∀ j∈D.map (·.1),Kb L j)(m:k∈D.map (·.1))(q:Q (.int (CG D k)) h):RX (.loc n) (.int (pack k)) h Q:=by
 show (match h.c n with
  | some (.dct kvs)=>(match qd kvs (.inl (pack k)) with
   | some w=>Q w h
   | none=>False)
  | _=>False)
 rw [e];show (match qd (Jk D) (.inl (pack k)) with
  | some w=>Q w h
  | none=>False)
 rw [Hr hD (hD k m)];cases f:D.find? fun t=>decide (t.1=k) with
 | none=>
  obtain ⟨t,ht,e⟩:=GX.mp m;exact absurd (List.find?_eq_none.mp f t ht)<|by simp [e]
 | some t=>
  have eg:CG D k=t.2:=by unfold CG;rw [f];rfl
  rw [eg] at q;exact q
def itW (t:Tm):W:=.tup [.int (pack t.1),.int t.2]
def aaH (c0:Ar):Prop:=∀ {h:Gh} {n:Nat} {D:List Tm} {L:Nat} {Q:WK} {E:Cd},h.c n=FN (.dct (Jk D))->(∀ j∈D.map (·.1),Kb L j)->(D.map (·.1)).Nodup->D.length<=30000->(∀ rs,wj D rs->(rs.length<=600->Q (.tup (rs.map itW)) h)/\(600<rs.length->E ⟨"TooMuch",[]⟩ h))->c0 [.loc n] h Q E
def Ve (rs:List Tm):Prop:=∃ t∈rs,∃ p∈t.1,60<p
instance (rs:List Tm):Decidable (Ve rs):=by unfold Ve;infer_instance
def CpX (c0:Ar):Prop:=∀ {h:Gh} {rs:List Tm} {L:Nat} {Q:WK} {E:Cd},(∀ t∈rs,t.1.length=L)->L<=8->rs.length<=600->(¬ Ve rs->Q .non h)->(Ve rs->E ⟨"TooMuch",[]⟩ h)->c0 [Bt rs] h Q E
theorem abF:CpX fM:=by
 intro h rs L Q E hl hL hz q1 q2;unfold fM;refine cA rfl (Z:=[FN<|Bt rs,FX,FX]) rfl ?_;refine mq (ws:=rs.map JR) rfl ?_;refine cY (fun i Z h'=>h'=h/\(∀ t∈rs.take i,∀ p∈t.1,¬ 60<p)/\∃ s1 s2:Option W,Z = [FN<|Bt rs,s1,s2]) ?_ ?_ ⟨rfl,fun _ h=>by simp at h,FX,FX,rfl⟩
 ·rintro i w Z h' N hN e ⟨rfl,lo,s1,s2,rfl⟩;rw [Fv] at e;cases qe:rs[i]? with
  | none=>rw [qe] at e;cases e
  | some t=>
   rw [qe] at e;cases e;have mt:=K4 qe;have lt:=hl t mt;refine iR rfl rfl<|bZ<|nV ?_
   refine bZ<|nV ?_
   refine jV ?_;refine aZ<|iY<|bL<|aj<|gn<|fY<|ak rfl<|ql (ws:=t.1.map .int) (o:=FX) rfl<|fG.mk (CW (m:=1000) (by rw [Bx];lia)<|by decide) ?_
   refine dF (fun j acc g=>g=h'/\acc=((t.1.take j).map fun p=>decide<|p>60).map .bl) ?_ ?_ ⟨rfl,rfl⟩
   ·rintro j w acc g N' hN' e' ⟨rfl,rfl⟩;obtain ⟨p,ep,rfl⟩:=Jh e';refine ⟨[.int p],rfl,bH<|bD<|aD<|ak rfl<|aU<|xG<|hN' _ _ ⟨rfl,?_⟩⟩;rw [Ji,ep];simp
   ·rintro acc g ⟨rfl,rfl⟩;rw [Bx,K3];refine aq<|Le (us:=(t.1.map fun p=>decide<|p>60).map .bl) (bs:=t.1.map fun p=>decide<|p>60) rfl (Er _)<|EY rfl ?_
    have ea:(t.1.map fun p=>decide (p>60)).any id=decide (∃ p∈t.1,60<p):=by
     rw [VB,List.any_map,Sy,decide_eq_true_iff];constructor
     ·rintro ⟨p,hp,e⟩;exact ⟨p,hp,by simpa using e⟩
     ·rintro ⟨p,hp,e⟩;exact ⟨p,hp,by simpa using e⟩
    rw [ea];refine v8 (fun c=>jW<|q2 ⟨t,mt,c⟩) fun c=>aW<|hN _ _ ⟨rfl,fun u hu p hp h60=>?_,_,_,rfl⟩
    rw [Ji,qe] at hu;rcases Jx.mp hu with hu | hu
    ·exact lo u hu p hp h60
    ·have:u=t:=by simpa using hu
     exact c ⟨p,by rw [<-this];exact hp,h60⟩
 ·rintro Z h' ⟨rfl,lo,s1,s2,rfl⟩;rw [Bx,K3] at lo;exact aY<|q1 fun ⟨t,ht,p,hp,h60⟩=>lo t ht p hp h60
def Over (us vs rs:List Tm):Prop:=20000<us.length*vs.length\/600<rs.length\/Ve rs
theorem agj {x:Int}{N:Gh->Prop}(e:h.c n=FN (.dct (Jk D)))(hD:∀ j∈D.map (·.1),Kb L j)(hk:Kb L k)(hz:D.length<=30000)(q:∀ g:Gh,g.c n=FN (.dct (Jk (wk D k x)))->(∀ m,m≠n->g.c m=h.c m)->g.nx=h.nx->N g):xJ (.loc n) (.int (pack k)) (.int x) h N:=by
 show (match h.c n with
  | some (.dct kvs)=>fG (kvs.length+1) (N (h.set n (.dct (M6 kvs (.inl (pack k)) (.int x)))))
  | _=>False)
 rw [e];refine fG.mk (CW (m:=30001) (by unfold Jk;rw [Bx];lia)<|by decide) ?_;rw [adU hD hk];exact q _ (ud _ _ _) (fun _ e=>mL e) rfl
theorem agi (e:h.c n=FN (.dct (Jk D)))(hD:∀ j∈D.map (·.1),Kb L j)(hk:Kb L k)(q:Q (.int (CG D k)) h):Kg (.loc n) [.int (pack k),.int 0] h Q:=by
 show (match h.c n,(FN (Sum.inl (pack k)):Option Key) with
  | some (.dct kvs),FN k=>Q ((qd kvs k).getD (.int 0)) h
  | _,_=>False)
 rw [e];show Q ((qd (Jk D) (.inl (pack k))).getD (.int 0)) h;rw [zco hD hk];exact q
theorem afC {kvs:List (Key×W)}(e:h.c n=FN (.dct kvs))(p:P):Ft h (.loc n) P:=by
 unfold Ft;dsimp only;rw [e];exact p
theorem agg {r:MM}{mo:ME}(x:mo Z h fun x h1=>Ft h1 x (ma Z h1 fun xs h2=>r x xs h2 Q)):ZW r mo ma Z h Q:=x
theorem agF (x:∀ g:Gh,g.c h.nx=FN (.dct (Jk []))->(∀ n,n≠h.nx->g.c n=h.c n)->g.nx=h.nx+1->Q (.loc h.nx) g):Nf Z h Q:=x _ (G8 _ _) (fun _ e=>vK e) rfl
theorem zax (e:us[i]?=FN t):lB (us.take (i+1)) vs=FT t.1 t.2 vs (lB (us.take i) vs):=by
 rw [Ji,e];exact fj ..
theorem acr {n:Int}{s:Tm}(e:vs[i]?=FN s):FT k n (vs.take (i+1)) D=Al (FT k n (vs.take i) D) (gH k s.1) (n*s.2):=by
 rw [Ji,e];exact eN ..
theorem Ms.kb (h:Ms L us):∀ t∈us,t.1.length=L/\∀ p∈t.1,0<=p/\p<=40:=fun t ht=>⟨(h.2.2 t ht).1,(h.2.2 t ht).2.2.2⟩
variable {rs : List Tm}
theorem wj.facts (hD:∀ k∈D.map (·.1),Kb L k)(nd:(D.map (·.1)).Nodup)(a:wj D rs):(∀ t∈rs,Kb L t.1/\t.2≠0)/\(rs.map (·.1)).Pairwise (· < ·):=by
 obtain ⟨ks,pk,sk,rfl⟩:=a;refine ⟨fun t ht=>?_,Dg sk⟩;have:=Ml nd (fun k hk=>pk.mem_iff.mp hk) ht
 exact ⟨hD t.1<|GX.mpr ⟨t,this.1,rfl⟩,this.2⟩
theorem zX:∀ us:List Tm,mU (us.map JR)=FN (Jj us)
 | []=>rfl
 | t::us=>by
  show (match Ie (.tup (t.1.map W.int)) with
   | some ks=>(mU (us.map JR)).map ((ks,W.int t.2)::·)
   | none=>FX)=_
  rw [qZ,zX us];rfl
theorem adO (nd:(us.map (·.1)).Nodup)(x:∀ g:Gh,g.c h.nx=FN (.dtt (Jj us))->(∀ n,n≠h.nx->g.c n=h.c n)->g.nx=h.nx+1->Q (.loc h.nx) g):zM [Bt us] h Q:=by
 show (match mU (us.map JR) with
  | some ps=>(ps.map (·.1)).Nodup/\Q (.loc h.nx) (h.new (.dtt ps))
  | none=>False)
 rw [zX];refine ⟨?_,x _ (G8 _ _) (fun _ e=>vK e) rfl⟩;have:(Jj us).map (·.1)=us.map (·.1):=by unfold Jj;rw [JV];rfl
 rw [this];exact nd
theorem Mx {h':Gh}(keep:∀ n,n<h.nx->h'.c n=h.c n)(q:Q (Bt us) h):uT true h (Bt us) h' Q:=
 ⟨fun n c hn ec=>by rw [keep n hn];exact ec,.inl ⟨Zq _ _,q⟩⟩
def oF (f:Int)(us vs:List Tm):List Tm:=vs.foldl (fun D t=>Al D t.1 (f*t.2)) us
theorem gq (f:Int)(us vs:List Tm)(t:Tm):oF f us (vs++[t])=Al (oF f us vs) t.1 (f*t.2):=by unfold oF;rw [List.foldl_append];rfl
theorem jc {f:Int}(h:(us.map (·.1)).Nodup):((oF f us vs).map (·.1)).Nodup:=by
 refine Bs (P:=fun vs=>((oF f us vs).map (·.1)).Nodup) h (fun vs t ih=>?_) vs;rw [gq];exact vJ ih
theorem nj (f:Int)(us vs:List Tm):(oF f us vs).length<=us.length+vs.length:=by
 refine Bs (P:=fun vs=>(oF f us vs).length<=us.length+vs.length) (Bp _) (fun vs t ih=>?_) vs;rw [gq,JG,WL];exact CW (Gm ..)<|by lia
theorem uX {f:Int}:∀ k∈(oF f us vs).map (·.1),k∈us.map (·.1)\/k∈vs.map (·.1):=by
 refine Bs (P:=fun vs=>∀ k∈(oF f us vs).map (·.1),k∈us.map (·.1)\/k∈vs.map (·.1)) (fun k h=>.inl h) (fun vs t ih k hk=>?_) vs;rw [gq,nR] at hk;rw [Gp,Jx];have hk:k∈(oF f us vs).map (·.1)\/k=t.1:=by
  split at hk
  ·exact .inl hk
  ·rcases Jx.mp hk with hk | hk
   ·exact .inl hk
   ·exact .inr<|Jr.mp hk
 rcases hk with hk | hk
 ·rcases ih k hk with h | h
  ·exact .inl h
  ·exact .inr<|.inl h
 ·exact .inr<|.inr<|by simp [hk]
def Ls (L:Nat)(us:List Tm):Prop:=us.length<=400/\(us.map (·.1)).Pairwise (· < ·)/\∀ t∈us,t.1.length=L/\t.2≠0/\Sm 1000 t.2
theorem aeZ {f:Int}(hu:Ls L us)(hv:Ls L vs):∀ t∈oF f us vs,t.1.length=L:=fun t ht=>by
 rcases uX t.1 (GX.mpr ⟨t,ht,rfl⟩) with h | h
 ·obtain ⟨u,h1,h2⟩:=GX.mp h;rw [<-h2];exact (hu.2.2 u h1).1
 ·obtain ⟨u,h1,h2⟩:=GX.mp h;rw [<-h2];exact (hv.2.2 u h1).1
def aaM (c0:Ar):Prop:=∀ {h:Gh} {n:Nat} {ts:List Tm} {Q:WK} {E:Cd},h.c n=FN (.dtt (Jj ts))->ts.length<=1000->BP (ts.map (·.1))->(∀ ks:List (List Int),ks.Perm (ts.map (·.1))->ks.Pairwise (· < ·)->((nQ ts ks).length<=600->Q (Bt (nQ ts ks)) h)/\(600<(nQ ts ks).length->E ⟨"TooMuch",[]⟩ h))->c0 [.loc n] h Q E
theorem zbu (hv:Z[0]?=FN (FN (.loc n)))(ec:h.c n=FN (.dct (Jk D)))(hD:∀ j∈D.map (·.1),Kb L j)(nd:(D.map (·.1)).Nodup)(hz:D.length<=30000)
  (q:∀ rs,wj D rs->Q (.lst (rs.map itW)) h) :
  GK Ik [0] (Hx (Dz z6 (ao (aA 0) aL))) (bM (AP KZ (AP PL (aA 1) (aA 0)) (mC (.int 0)))) (je (ao (aA 0) (ao (AP PL (aA 1) (aA 0)) aL))) Z h Q:=by
 have eb:lg [0] Z = [FN (.loc n)]:=by unfold lg;rw [Bu,hv];rfl
 refine gn<|fY<|bL<|aj<|ak hv<|aq<|Or.inr ?_
 show (match h.c n with
  | some (.dct kvs)=>∃ ks:List Int,Bj kvs ks/\∀ js:List Int,js.Perm ks->js.Pairwise (· < ·)->_
  | _=>False)
 rw [ec];refine ⟨(D.map (·.1)).map pack,by unfold Bj Jk;rw [JV,JV,JV];rfl,fun js pj sj=>?_⟩;obtain ⟨ks,pk,sk⟩:=Nu (D.map (·.1)) nd;have ej:js=ks.map pack:=by
  refine DY (pj.trans (pk.map pack).symm) sj ?_;rw [T3];exact List.Pairwise.imp_of_mem (fun {a b} ha hb h=>(Di (hD a<|pk.mem_iff.mp ha)<|hD b<|pk.mem_iff.mp hb).mp h) sk
 subst ej;have q:=q _ ⟨ks,pk,sk,rfl⟩;have lk:ks.length=D.length:=by rw [pk.length_eq,Bx]
 refine ql (ws:=(ks.map pack).map .int) (o:=FX) rfl<|fG.mk (CW (m:=30000) (by rw [Bx,Bx];lia)<|by decide) ?_
 refine dF (fun i acc h'=>h'=h/\acc=(nQ D<|ks.take i).map itW) ?_ ?_ ⟨rfl,rfl⟩
 ·rintro i w acc h' N hN e ⟨rfl,rfl⟩;rw [JV,Fv] at e;cases qe:ks[i]? with
  | none=>rw [qe] at e;cases e
  | some k=>
   rw [qe] at e;cases e;have mk:=pk.mem_iff.mp (K4 qe);refine ⟨[.int<|pack k],rfl,?_⟩;rw [eb];have eo:nQ D (ks.take (i+1))=nQ D (ks.take i)++([(k,CG D k)].filter fun t:Tm=>decide (t.2≠0)):=by
    unfold nQ;rw [Ji,qe,Gp,List.filter_append];rfl
   refine aN<|aD<|aD<|ak rfl<|ak rfl<|Or.inr<|Mq ec hD mk<|aU<|xM<|dD ?_
   refine Rp (fun ne=>?_) fun ne=>?_
   ·refine cQ<|aj<|ak rfl<|aj<|aD<|ak rfl<|ak rfl<|Or.inr<|Mq ec hD mk<|aq<|bC rfl ?_
    refine hN _ _ ⟨rfl,?_⟩;rw [eo,Uj,if_pos (by simpa using ne),Gp];rfl
   ·refine hN _ _ ⟨rfl,?_⟩;rw [eo,Uj,if_neg (by simpa using ne)];simp
 ·rintro acc h' ⟨rfl,rfl⟩;rw [Bx,Bx,K3];exact q
theorem aea:aaH cG:=by
 intro h n D L Q E ec hD nd hz q;unfold cG;refine cA rfl (Z:=[FN<|.loc n,FX]) rfl<|aH<|aP<|bL<|aj<|zbu rfl ec hD nd hz fun rs hr=>aq<|bW ?_
 obtain ⟨q1,q2⟩:=q rs hr;refine nV<|aY ?_
 refine aH<|aZ<|aN<|aD<|bL<|aj<|ak rfl<|aq<|fJ (xs:=rs.map itW) rfl ?_
 rw [Bx];refine aU<|xG<|dD<|v8 (fun c=>jW<|q2<|by lia) fun c=>aW<|aY ?_
 unfold dG;exact aX<|ak rfl<|gF<|q1<|by lia
theorem adE (hv:Z[0]?=FN (FN (.loc n)))(ec:h.c n=FN (.dtt (Jj ts)))(hz:ts.length<=1000)(hs:BP (ts.map (·.1)))
  (q:∀ ks:List (List Int),ks.Perm (ts.map (·.1))->ks.Pairwise (· < ·)->Q (.lst ((nQ ts ks).map JR)) h) :
  GK Ik [0] (Hx (Dz z6 (ao (aA 0) aL))) (bM (AP KZ (AP PL (aA 1) (aA 0)) (mC (.int 0)))) (je (ao (aA 0) (ao (AP PL (aA 1) (aA 0)) aL))) Z h Q:=by
 have eb:lg [0] Z = [FN (.loc n)]:=by unfold lg;rw [Bu,hv];rfl
 refine gn<|fY<|bL<|aj<|ak hv<|aq<|Or.inl ?_
 show (match h.c n with
  | some (.dtt kvs)=>BP (kvs.map (·.1))/\∀ ks:List (List Int),ks.Perm (kvs.map (·.1))->ks.Pairwise (· < ·)->_
  | _=>False)
 rw [ec];have ek:(Jj ts).map (·.1)=ts.map (·.1):=by unfold Jj;rw [JV];rfl
 refine ⟨by rw [ek];exact hs,fun ks pk sk=>?_⟩;rw [ek] at pk;have q:=q ks pk sk;have lk:ks.length=ts.length:=by rw [pk.length_eq,Bx]
 refine ql (ws:=ks.map fun k=>.tup<|k.map .int) (o:=FX) rfl<|fG.mk (CW (m:=1000) (by rw [Bx];lia)<|by decide) ?_
 refine dF (fun i acc h'=>h'=h/\acc=(nQ ts<|ks.take i).map JR) ?_ ?_ ⟨rfl,rfl⟩
 ·rintro i w acc h' N hN e ⟨rfl,rfl⟩;rw [Fv] at e;cases qe:ks[i]? with
  | none=>rw [qe] at e;cases e
  | some k=>
   rw [qe] at e;cases e;have mk:=pk.mem_iff.mp (K4 qe);refine ⟨[.tup<|k.map .int],rfl,?_⟩;rw [eb];have eo:nQ ts (ks.take (i+1))=nQ ts (ks.take i)++([(k,CG ts k)].filter fun t:Tm=>decide (t.2≠0)):=by
    unfold nQ;rw [Ji,qe,Gp,List.filter_append];rfl
   refine aN<|aD<|aD<|ak rfl<|ak rfl<|Or.inl<|Lr ec mk<|aU<|xM<|dD ?_
   refine Rp (fun ne=>?_) fun ne=>?_
   ·refine cQ<|aj<|ak rfl<|aj<|aD<|ak rfl<|ak rfl<|Or.inl<|Lr ec mk<|aq<|bC rfl ?_
    refine hN _ _ ⟨rfl,?_⟩;rw [eo,Uj,if_pos (by simpa using ne),Gp];rfl
   ·refine hN _ _ ⟨rfl,?_⟩;rw [eo,Uj,if_neg (by simpa using ne)];simp
 ·rintro acc h' ⟨rfl,rfl⟩;rw [Bx,K3];exact q
theorem aeX:aaM cG:=by
 intro h n ts Q E ec hz hs q;unfold cG;refine cA rfl (Z:=[FN<|.loc n,FX]) rfl<|aH<|aP<|bL<|aj<|adE rfl ec hz hs fun ks pk sk=>aq<|bW ?_
 obtain ⟨q1,q2⟩:=q ks pk sk;refine nV<|aY ?_
 refine aH<|aZ<|aN<|aD<|bL<|aj<|ak rfl<|aq<|fJ (xs:=(nQ ts ks).map JR) rfl ?_
 rw [Bx];refine aU<|xG<|dD<|v8 (fun c=>jW<|q2<|by lia) fun c=>aW<|aY ?_
 unfold dG;exact aX<|ak rfl<|gF<|q1<|by lia
def aal (f:Int)(us vs rs:List Tm):Prop:=∃ ks:List (List Int),ks.Perm ((oF f us vs).map (·.1))/\ks.Pairwise (· < ·)/\rs=nQ (oF f us vs) ks
def WhX (c0:Ar):Prop:=∀ {h:Gh} {us vs:List Tm} {f:Int} {L:Nat} {Q:WK} {E:Cd},Ls L us->Ls L vs->Sm 64 f->(∀ rs,aal f us vs rs->(rs.length<=600->Q (Bt rs) h)/\(600<rs.length->∀ h':Gh,E ⟨"TooMuch",[]⟩ h'))->c0 [Bt us,Bt vs,.int f] h Q E
theorem acy {f:Int}(e:vs[i]?=FN t):oF f us (vs.take (i+1))=Al (oF f us (vs.take i)) t.1 (f*t.2):=by
 rw [Ji,e];exact gq ..
theorem abD {so:Ar}(hso:aaM so):WhX (iV so):=by
 intro h us vs f L Q E hu hv sf q;have lu:=hu.1;have lv:=hv.1;unfold iV;refine yW rfl (Z:=[FN<|Bt us,FN<|Bt vs,FN<|.int f,FX,FX,FX]) rfl<|aH<|aP<|bL<|aj<|ak rfl<|aq<|adO (fu hu.2.1) fun g eg og xg=>?_
 refine nV<|aY ?_
 refine aH ?_;refine mq (ws:=vs.map JR) rfl ?_;refine cY (fun i Z h'=>∃ s4 s5:Option W,Z = [FN<|Bt us,FN<|Bt vs,FN<|.int f,FN<|.loc h.nx,s4,s5]/\h'.c h.nx=FN (.dtt<|Jj<|oF f us<|vs.take i)/\∀ n,n≠h.nx->h'.c n=h.c n) ?_ ?_ ⟨FX,FX,rfl,eg,og⟩
 ·rintro i w Z h' N hN e ⟨s4,s5,rfl,e2,o2⟩;rw [Fv] at e;cases qe:vs[i]? with
  | none=>rw [qe] at e;cases e
  | some t=>
   rw [qe] at e;cases e;have ld:=nj f us (vs.take i);rw [QC] at ld;refine iR rfl rfl<|bZ<|nV ?_
   refine bZ<|nV ?_
   refine jV ?_;refine aP<|aD<|zcz<|ak rfl<|zcg e2<|aj<|ak rfl<|aj<|aU<|aq<|Z5 e2 ?_
   refine aD<|ak rfl<|ak rfl<|bG (.of sf (hv.2.2 t<|K4 qe).2.2 (by decide) (by decide))<|fC<|FW<|ak rfl<|ak rfl ?_
   refine afo e2 (by lia) fun g2 a1 a2 a3=>aY<|hN _ _ ⟨_,_,rfl,?_,fun n hn=>by rw [a2 n hn];exact o2 n hn⟩
   rw [acy qe];exact a1
 ·rintro Z h' ⟨s4,s5,rfl,e2,o2⟩;rw [Bx,K3] at e2;unfold jx;refine aY<|aX<|aB<|aj<|ak rfl<|aq ?_
  refine hso e2 (CW (nj f us vs)<|by lia) (adP (L:=L) (jc<|fu hu.2.1)<|aeZ hu hv) fun ks pk sk=>?_;obtain ⟨q1,q2⟩:=q _ ⟨ks,pk,sk,rfl⟩;exact ⟨fun l=>Mx (fun n hn=>o2 n<|by lia)<|q1 l,fun l=>q2 l h'⟩
def TV (f:Int)(c0:Ar):Prop:=∀ {h:Gh} {us vs:List Tm} {L:Nat} {Q:WK} {E:Cd},Ls L us->Ls L vs->(∀ rs,aal f us vs rs->(rs.length<=600->Q (Bt rs) h)/\(600<rs.length->∀ h':Gh,E ⟨"TooMuch",[]⟩ h'))->c0 [Bt us,Bt vs] h Q E
theorem afz {wt:Ar}(hwt:WhX wt):TV 1 (Hj wt):=by
 intro h us vs L Q E hu hv q;unfold Hj;exact cA rfl (Z:=[FN<|Bt us,FN<|Bt vs]) rfl<|aX<|aB<|aj<|ak rfl<|aj<|ak rfl<|aj<|aU<|aq<|hwt hu hv (.lit rfl) q
theorem agq {wt:Ar}(hwt:WhX wt):TV (-1) (wz wt):=by
 intro h us vs L Q E hu hv q;unfold wz;exact cA rfl (Z:=[FN<|Bt us,FN<|Bt vs]) rfl<|aX<|aB<|aj<|ak rfl<|aj<|ak rfl<|aj<|Vi<|aU<|Mg<|aq<|hwt hu hv (.lit rfl) q
theorem adX {b:MS}{D:bV}(hv:Z[i]?=FN (FN (.lst ws)))(x:iB ⟨ws,FX⟩ g b D ws Z h):oN (Hx (aA i)) g b D Z h:=g8 (fY (ak hv (ql rfl (iz x))))
theorem LR {l:List W}:Ka (w::l) 0=FN w:=by
 unfold Ka Pa;simp
theorem lets (hv:Z[0]?=FN (FN (Bt us)))(hl:∀ t∈us,t.1.length=L)(q:∀ l:Nat,(us≠[]->l=L)->Q (.int l) h):
  mIf (Cg (aA 0)) (Dz Gd (ao (AP BJ (AP BJ (aA 0) (mC (.int 0))) (mC (.int 0))) aL)) (mC (.int 0)) Z h Q:=by
 cases us with
 | nil=>exact Il (iY (ak hv (EY (b:=false) rfl (wA (aU (q 0 fun n=>absurd rfl n))))))
 | cons t us=>
  refine Il<|iY<|ak hv<|EY (b:=true) rfl<|BW<|bL<|aj<|aD<|aD<|ak hv<|aU<|cJ (ws:=(t::us).map JR) rfl (w:=JR t) (by rw [Bu];exact LR)<|aU<|cJ (ws:=[.tup<|t.1.map .int,.int t.2]) rfl (w:=.tup (t.1.map .int)) LR<|aq<|fJ (xs:=t.1.map .int) rfl ?_
  rw [Bx];exact q _ fun _=>hl t<|by simp
theorem abv {l:Nat}{un:Ar}{E0:Cd}(hun:UnX un)(hv:Z[10]?=FN (FN (.tup (rs.map itW))))(hv9:Z[9]?=FN (FN (.int l)))(hr:∀ t∈rs,Kb L t.1)(hl:rs≠[]->l=L)(hL:L<=8)(hz:rs.length<=600)(q:Q (.lst (rs.map JR)) h):
  GK (Rz 2) [9] (Hx (aA 10)) jO (je (ao (aJ un E0 (ao (aA 0) (ao (aA 2) aL))) (ao (aA 1) aL))) Z h Q:=by
 have eb:lg [9] Z = [FN (.int l)]:=by unfold lg;rw [Bu,hv9];rfl
 refine gn<|fY<|ak hv<|ql (ws:=rs.map itW) (o:=FX) rfl<|fG.mk (CW (m:=1000) (by rw [Bx];lia)<|by decide) ?_
 refine dF (fun i acc g=>g=h/\acc=(rs.take i).map JR) ?_ ?_ ⟨rfl,rfl⟩
 ·rintro i w acc g N hN e ⟨rfl,rfl⟩;rw [Fv] at e;cases qe:rs[i]? with
  | none=>rw [qe] at e;cases e
  | some t=>
   rw [qe] at e;cases e;have mt:=K4 qe;have el:=hl (List.ne_nil_of_mem mt);subst el;refine ⟨[.int<|pack t.1,.int t.2],rfl,?_⟩;rw [eb];refine bH<|bD<|cQ<|aj<|aB<|aj<|ak rfl<|aj<|ak rfl<|aq ?_
   refine hun (hr t mt) hL<|aj<|ak rfl<|aq<|bC rfl<|hN _ _ ⟨rfl,?_⟩
   rw [Ji,qe,Gp];rfl
 ·rintro acc g ⟨rfl,rfl⟩;rw [Bx,K3];exact q
def Xm (c0:Ar):Prop:=∀ {h:Gh} {us vs:List Tm} {L:Nat} {Q:WK} {E:Cd},Ms L us->Ms L vs->L<=8->(∀ rs,wj (lB us vs) rs->(¬ Over us vs rs->Q (Bt rs) h)/\(Over us vs rs->∀ h':Gh,E ⟨"TooMuch",[]⟩ h'))->c0 [Bt us,Bt vs] h Q E
abbrev ht (us vs:List Tm)(h:Gh)(r:Sw):Sw:=FN (Bt us)::FN (Bt vs)::FN (.loc h.nx)::FN (.lst (vs.map ptW))::r
theorem zcc {so un pt cp:Ar}(hso:aaH so)(hun:UnX un)(hpt:PtX pt)(hcp:CpX cp):Xm (xW so un pt cp):=by
 intro h us vs L Q E hu hv hL q;have lu:=hu.1;have lv:=hv.1;have ku:=hu.kb;have kv:=hv.kb;have kbu:∀ t∈us,Kb L t.1:=fun t ht=>⟨(ku t ht).1,fun p hp=>by have:=(ku t ht).2 p hp;lia⟩
 have kbv:∀ t∈vs,Kb L t.1:=fun t ht=>⟨(kv t ht).1,fun p hp=>by have:=(kv t ht).2 p hp;lia⟩
 have kD:=uU ku kv;obtain ⟨ks,pk,sk⟩:=Nu _ (lG us vs);have hO:wj (lB us vs) (nQ (lB us vs) ks):=⟨ks,pk,sk,rfl⟩
 unfold xW;refine yW rfl (Z:=[FN<|Bt us,FN<|Bt vs,FX,FX,FX,FX,FX,FX,FX,FX,FX,FX]) rfl ?_;refine aH<|aZ<|aN<|aD<|aD<|bL<|aj<|ak rfl<|aq<|fJ (xs:=us.map JR) rfl<|bL<|aj<|ak rfl<|aq<|fJ (xs:=vs.map JR) rfl ?_
 rw [Bx,Bx];refine bG (.of (n:=8) (m:=8) (by unfold Sm;show (us.length:Int).natAbs<256;lia) (by unfold Sm;show (vs.length:Int).natAbs<256;lia) (by decide)<|by decide)<|aU<|xG<|dD ?_
 have em:(us.length:Int)*(vs.length:Int)=((us.length*vs.length:Nat):Int):=by rw [Int.natCast_mul]
 rw [em];generalize ez:us.length*vs.length=z;refine v8 (fun c=>jW<|(q _ hO).2 (.inl<|by lia) _) fun c=>aW<|aY ?_
 have hz:us.length*vs.length<=20000:=by lia
 unfold uI;refine aH<|aP<|agF fun g eg og xg=>?_
 refine nV<|aY ?_
 refine aH<|aP<|aB<|aj<|ak rfl<|aq<|hpt kbv (by lia) hL ?_
 refine nV<|aY ?_
 refine aH<|g8<|fY<|aB<|aj<|ak rfl<|aq<|hpt kbu (by lia) hL<|ql (ws:=us.map ptW) (o:=FX) rfl<|iz ?_
 refine cY (fun i Z h'=>∃ s4 s5 s6 s7 s8:Option W,Z = ht us vs h [s4,s5,s6,s7,s8,FX,FX,FX]/\h'.c h.nx=FN (.dct<|Jk<|lB (us.take i) vs)/\h'.nx=h.nx+1/\∀ n,n≠h.nx->h'.c n=h.c n) ?_ ?_ ⟨FX,FX,FX,FX,FX,rfl,eg,xg,og⟩
 ·rintro i w Z h' N hN e ⟨s4,s5,s6,s7,s8,rfl,e2,x2,o2⟩;rw [Fv] at e;cases qe:us[i]? with
  | none=>rw [qe] at e;cases e
  | some t=>
   rw [qe] at e;cases e;have mt:=K4 qe;have zi:(us.take i).length*vs.length<=20000:=CW (W7 _ (by rw [QC];lia)) hz;have ldi:=CW (rE (us.take i) vs) zi;have kDi:∀ k∈(lB (us.take i) vs).map (·.1),Kb L k:=uU (fun u hu=>ku u (VP hu)) kv
   refine iR rfl rfl<|bZ<|nV ?_
   refine bZ<|nV ?_
   refine jV ?_;refine adX (ws:=vs.map ptW) rfl ?_;refine cY (fun j Z h'=>∃ s6 s7 s8:Option W,Z = ht us vs h [FN<|.int<|pack t.1,FN<|.int t.2,s6,s7,s8,FX,FX,FX]/\h'.c h.nx=FN (.dct<|Jk<|FT t.1 t.2 (vs.take j)<|lB (us.take i) vs)/\h'.nx=h.nx+1/\∀ n,n≠h.nx->h'.c n=h.c n) ?_ ?_ ⟨s6,s7,s8,rfl,e2,x2,o2⟩
   ·rintro j w Z h2 N2 hN2 e' ⟨s6,s7,s8,rfl,e3,x3,o3⟩;rw [Fv] at e';cases qf:vs[j]? with
    | none=>rw [qf] at e';cases e'
    | some s=>
     rw [qf] at e';cases e'
     have ms:=K4 qf;have kDj:=GF (t:=t) (vs:=vs.take j) (ku t mt) (fun u hu=>kv u (VP hu)) kDi;have kz:=Fz (ku t mt) (kv s ms);have lj:=zF t.1 t.2 (vs.take j) (lB (us.take i) vs);rw [QC] at lj;refine iR rfl rfl<|bZ<|nV ?_
     refine bZ<|nV ?_
     refine jV ?_;refine aH<|aP<|aD<|ak rfl<|ak rfl<|fC ?_
     rw [<-za (ku t mt).1 (kv s ms).1];refine nV<|aY ?_
     refine aP<|aD<|agg<|ak rfl<|afC e3<|aj<|ak rfl<|aj<|aU<|aq<|agi e3 kDj kz ?_
     refine aD<|ak rfl<|ak rfl<|bG (.of (hu.2.2 t mt).2.2.1 (hv.2.2 s ms).2.2.1 (by decide) (by decide))<|fC<|FW<|ak rfl<|ak rfl ?_
     refine agj e3 kDj kz (by lia) fun g2 a1 a2 a3=>aY<|hN2 _ _ ⟨_,_,_,rfl,?_,by lia,fun n hn=>by rw [a2 n hn];exact o3 n hn⟩
     rw [acr qf];exact a1
   ·rintro Z h2 ⟨s6,s7,s8,rfl,e3,x3,o3⟩;rw [Bx,K3] at e3;refine aY<|hN _ _ ⟨_,_,_,_,_,rfl,?_,x3,o3⟩
    rw [zax qe];exact e3
 ·rintro Z h' ⟨s4,s5,s6,s7,s8,rfl,e2,x2,o2⟩;rw [Bx,K3] at e2;have ge:zaI h h':=⟨by lia,fun n hn=>o2 n (by lia)⟩
  refine aY ?_;unfold uZ;refine aH<|aP<|lets (L:=L) rfl (fun t ht=>(ku t ht).1) fun l el=>?_
  refine nV<|aY ?_
  refine aH<|aP<|aB<|aj<|ak rfl<|aq ?_
  refine hso e2 kD (lG us vs) (CW (rE us vs)<|by lia) fun rs hr=>?_;obtain ⟨q1,q2⟩:=q rs hr;have fr:=(hr.facts kD (lG us vs)).1;refine ⟨fun l6=>?_,fun l6=>q2 (.inr<|.inl l6) _⟩;have hne:rs≠[]->l=L:=fun n=>el fun eu=>n (by
   subst eu;obtain ⟨ks,pk,sk,rfl⟩:=hr;have:ks=[]:=pk.eq_nil
   rw [this];rfl)
  refine nV<|aY ?_
  refine aH<|aP<|bL<|aj<|abv hun rfl rfl (fun t ht=>(fr t ht).1) hne hL l6<|aq<|bW ?_
  refine nV<|aY ?_
  refine aH<|mH<|aB<|aj<|ak rfl<|aq ?_
  refine hcp (fun t ht=>(fr t ht).1.1) hL l6 (fun lo=>aY<|aX<|ak rfl<|gF<|Mx (fun n hn=>ge.2 n hn)<|q1 fun o=>?_) fun hi=>q2 (.inr<|.inr hi) _;rcases o with o | o | o
  ·lia
  ·lia
  ·exact lo o
def mo (ps xs:List Int):Nat->Int
 | 0=>1
 | i+1=>mo ps xs i*(xs.getD i 0)^(ps.getD i 0).toNat
def wo (ts:List Tm)(xs:List Int)(L:Nat):Nat->Int
 | 0=>0
 | i+1=>wo ts xs L i+(ts.getD i ([],0)).2*mo (ts.getD i ([],0)).1 xs L
def Bd (xs:List Int):Prop:=∀ x∈xs,Sm 34 x
theorem DK {x:Int}(k:Nat)(h:Sm 34 x):(x^k).natAbs<=2^(34*k):=by
 rw [Int.natAbs_pow,Nat.pow_mul];exact Nat.pow_le_pow_left (KQ h) k
variable {xs : List Int}
theorem Bd.get (h:Bd xs)(i:Nat):Sm 34 (xs.getD i 0):=by
 rw [Nt];cases e:xs[i]? with
 | none=>exact (by unfold Sm;decide:Sm 34 0)
 | some x=>exact h x (K4 e)
theorem Pw.get {ps:List Int}(h:Pw ps)(i:Nat):0<=ps.getD i 0/\ps.getD i 0<=60:=by
 rw [Nt];cases e:ps[i]? with
 | none=>exact (by decide:(0:Int)<=0/\(0:Int)<=60)
 | some x=>exact h x (K4 e)
theorem afi {x p:Int}(h:Sm 34 x)(h1:p<=60):(x^p.toNat).natAbs<=2^2040:=
 CW (DK _ h) (Vy (by decide) (by lia))
theorem Q0 {ps xs:List Int}(hx:Bd xs)(hp:Pw ps):∀ i,(mo ps xs i).natAbs<=2^(2040*i)
 | 0=>by simp [mo]
 | i+1=>by
  rw [mo,T8,Nat.mul_succ,Oq];exact Vm (Q0 hx hp i)<|afi (hx.get i) (hp.get i).2
theorem G9 {k:Nat}{a b:Int}(h:Sm m a)(hb:b.natAbs<=2^k):Sm (m+k) (a*b):=by
 unfold Sm at *;rw [T8,Oq];exact Nat.mul_lt_mul_of_lt_of_le h hb<|Sv<|by decide
theorem rH {f g:List Int->Int}:∀ {us:List Tm},(∀ t∈us,f t.1=g t.1)->lin f us=lin g us
 | [],_=>rfl
 | t::us,h=>by rw [bJ,bJ,h t (by simp),rH fun u hu=>h u (IK _ hu)]
theorem sW {r:List Int}:∀ {vs:List Tm},(vs.map (·.1)).Nodup->lin (dl r) vs=CG vs r
 | [],_=>rfl
 | t::vs,nd=>by
  rw [Bu,Qj] at nd;rw [bJ,cT,sW nd.2];unfold dl;by_cases c:t.1=r
  ·rw [if_pos c,if_pos c,JL (c ▸ nd.1)];lia
  ·rw [if_neg c,if_neg c];lia
theorem zbe {g:List Int->Int}{n:Int}(nd:(D.map (·.1)).Nodup)(vs:List Tm):lin g (FT k n vs D)=lin g D+n*lin (fun l=>g (gH k l)) vs:=by
 refine Bs (P:=fun vs=>lin g (FT k n vs D)=lin g D+n*lin (fun l=>g<|gH k l) vs) (by show lin g D=lin g D+n*0;lia) (fun vs t ih=>?_) vs;rw [eN,Dm (Fw nd),ih,jJ,bJ];show _=_+n*(_+(g (gH k t.1)*t.2+0));grind
theorem acN (g:List Int->Int)(us vs:List Tm):lin g (lB us vs)=lin (fun k=>lin (fun l=>g (gH k l)) vs) us:=by
 refine Bs (P:=fun us=>lin g (lB us vs)=lin (fun k=>lin (fun l=>g<|gH k l) vs) us) rfl (fun us t ih=>?_) us;rw [fj,zbe (lG us vs),ih,jJ,bJ];show _=_+(_+0);rw [Int.add_zero,SM]
theorem adF {g:List Int->Int}(hg:∀ t∈us,∀ s∈vs,g (gH t.1 s.1)=g t.1*g s.1):lin g (lB us vs)=lin g us*lin g vs:=by
 rw [acN,<-n8];refine rH fun t ht=>?_;rw [SM,<-n8];refine rH fun s hs=>?_;rw [hg t ht s hs,SM]
theorem wW {g:List Int->Int}{f:Int}(nd:(us.map (·.1)).Nodup)(vs:List Tm):lin g (oF f us vs)=lin g us+f*lin g vs:=by
 refine Bs (P:=fun vs=>lin g (oF f us vs)=lin g us+f*lin g vs) (by show lin g us=lin g us+f*0;lia) (fun vs t ih=>?_) vs;rw [gq,Dm (jc nd),ih,jJ,bJ];show _=_+f*(_+(g t.1*t.2+0));grind
theorem wj.lin {D rs:List Tm}(nd:(D.map (·.1)).Nodup)(a:wj D rs)(g:List Int->Int):lin g rs=lin g D:=by
 obtain ⟨ks,pk,_,rfl⟩:=a;exact zcp nd pk
theorem DR {ts:List Tm}{xs:List Int}{L:Nat}:∀ i,i<=ts.length->wo ts xs L i=lin (fun k=>mo k xs L) (ts.take i)
 | 0,_=>rfl
 | i+1,h=>by
  have e:ts[i]?=FN (ts[i]'(by lia)):=Gz _;rw [wo,DR i (by lia),Ji,e,Nt,e];show _=lin _ (ts.take i++[ts[i]'(by lia)]);rw [jJ,bJ];show _=_+(_+0);rw [Int.add_zero,SM];rfl
theorem afI:wo ts xs L ts.length=lin (fun k=>mo k xs L) ts:=by
 rw [DR _ (Bp _),K3]
theorem Hw:∀ {k l:List Int} {i:Nat},k.length=l.length->(gH k l).getD i 0=k.getD i 0+l.getD i 0
 | [],[],_,_=>rfl
 | [],_::_,_,h=>by simp at h
 | _::_,[],_,h=>by simp at h
 | a::k,b::l,0,_=>rfl
 | a::k,b::l,i+1,h=>by
  show (gH k l).getD i 0=k.getD i 0+l.getD i 0;exact Hw<|by simpa using h
theorem El {k l xs:List Int}(hl:k.length=l.length)(hk:∀ i,0<=k.getD i 0)(hm:∀ i,0<=l.getD i 0):∀ i,mo (gH k l) xs i=mo k xs i*mo l xs i
 | 0=>rfl
 | i+1=>by
  rw [mo,mo,mo,El hl hk hm i,Hw hl,Int.toNat_add (hk i) (hm i),Int.pow_add];grind
theorem Dr {f:List Int->Int}{B C:Nat}(hf:∀ k,(f k).natAbs<=B):∀ {us:List Tm},(∀ t∈us,t.2.natAbs<=C)->(lin f us).natAbs<=us.length*(B*C)
 | [],_=>Ja _
 | t::us,h=>by
  rw [bJ,Iw,Nat.succ_mul,Ua];refine CW (Int.natAbs_add_le _ _)<|Vk ?_<|Dr hf fun u hu=>h u<|IK _ hu
  rw [T8];exact Vm (hf _)<|h t<|by simp
theorem acV {n:Int}(vs:List Tm):∀ x∈(FT k n vs D).map (·.1),x∈D.map (·.1)\/∃ s∈vs,x=gH k s.1:=by
 refine Bs (P:=fun vs=>∀ x∈(FT k n vs D).map (·.1),x∈D.map (·.1)\/∃ s∈vs,x=gH k s.1) (fun _ h=>.inl h) (fun vs s ih x hx=>?_) vs;rw [eN,nR] at hx;have hx:x∈(FT k n vs D).map (·.1)\/x=gH k s.1:=by
  split at hx
  ·exact .inl hx
  ·rcases Jx.mp hx with hx | hx
   ·exact .inl hx
   ·exact .inr<|Jr.mp hx
 rcases hx with hx | hx
 ·rcases ih x hx with h | ⟨u,hu,e⟩
  ·exact .inl h
  ·exact .inr ⟨u,Rj _ hu,e⟩
 ·exact .inr ⟨s,by simp,hx⟩
theorem acD (us vs:List Tm):∀ x∈(lB us vs).map (·.1),∃ t∈us,∃ s∈vs,x=gH t.1 s.1:=by
 refine Bs (P:=fun us=>∀ x∈(lB us vs).map (·.1),∃ t∈us,∃ s∈vs,x=gH t.1 s.1) (fun x h=>by simp [lB] at h) (fun us t ih x hx=>?_) us;rw [fj] at hx;rcases acV vs x hx with h | ⟨s,hs,e⟩
 ·obtain ⟨u,hu,s,hs,e⟩:=ih x h;exact ⟨u,Rj _ hu,s,hs,e⟩
 ·exact ⟨t,by simp,s,hs,e⟩
def Mb (L b p n:Nat)(us:List Tm):Prop:=us.length<=n/\(us.map (·.1)).Pairwise (· < ·)/\∀ t∈us,t.1.length=L/\t.2≠0/\Sm b t.2/\∀ q∈t.1,0<=q/\q<=(p:Int)
variable {b p : Nat}
theorem Mb.mono {L b p n b' p' n':Nat}{us:List Tm}(h:Mb L b p n us)(hb:b<=b')(hp:p<=p')(hn:n<=n'):Mb L b' p' n' us:=
 ⟨by have:=h.1;lia,h.2.1,fun t ht=>⟨(h.2.2 t ht).1,(h.2.2 t ht).2.1,(h.2.2 t ht).2.2.1.mono hb,fun q hq=>by have:=(h.2.2 t ht).2.2.2 q hq;lia⟩⟩
theorem Mb.ms (h:Mb L 1000 30 64 us):Ms L us:=⟨by have:=h.1;lia,h.2.1,fun t ht=>⟨(h.2.2 t ht).1,(h.2.2 t ht).2.1,(h.2.2 t ht).2.2.1,fun q hq=>by have:=(h.2.2 t ht).2.2.2 q hq;lia⟩⟩
theorem Mb.nn (h:Mb L b p n us)(ht:t∈us)(i:Nat):0<=t.1.getD i 0:=by
 rw [Nt];cases e:t.1[i]? with
 | none=>exact Int.le_refl _
 | some x=>exact ((h.2.2 t ht).2.2.2 x (K4 e)).1
theorem wj.mem (nd:(D.map (·.1)).Nodup)(a:wj D rs):rs.length<=D.length/\(rs.map (·.1)).Pairwise (· < ·)/\∀ t∈rs,t.1∈D.map (·.1)/\t.2≠0/\t.2=CG D t.1:=by
 obtain ⟨ks,pk,sk,rfl⟩:=a;have lo:=zbS D ks;rw [pk.length_eq,Bx] at lo;refine ⟨lo,Dg sk,fun t ht=>?_⟩;have:=Ml nd (fun k hk=>pk.mem_iff.mp hk) ht
 exact ⟨GX.mpr ⟨t,this.1,rfl⟩,this.2,(rP nd this.1).symm⟩
theorem agA {c q:Nat}(hu:Mb L b p n us)(hv:Mb L c q m vs)(hn:n<=64)(hm:m<=64)(a:wj (lB us vs) rs):Mb L (b+c+13) (p+q) (n*m) rs:=by
 obtain ⟨h1,h2,h3⟩:=a.mem (lG us vs);have lm:=CW (CW h1 (rE us vs)) (Vm hu.1 hv.1);refine ⟨lm,h2,fun t ht=>?_⟩;obtain ⟨k1,k2,k3⟩:=h3 t ht;obtain ⟨x,hx,s,hs,e⟩:=acD us vs _ k1;refine ⟨by rw [e,zP<|by rw [(hu.2.2 x hx).1,(hv.2.2 s hs).1],(hu.2.2 x hx).1],k2,?_,fun z hz=>?_⟩
 ·rw [k3,zaY];have d1:∀ k l,(dl t.1 (gH k l)).natAbs<=1:=fun k l=>by unfold dl;split <;> decide
  have i1:∀ k,(lin (fun l=>dl t.1 (gH k l)) vs).natAbs<=64*2^c:=fun k=>CW (Dr (B:=1) (C:=2^c) (fun l=>d1 k l) fun s hs=>KQ (hv.2.2 s hs).2.2.1) (by rw [Nat.one_mul];exact W7 _ (CW hv.1 hm))
  have i2:=Dr (C:=2^b) i1 fun s hs=>KQ (hu.2.2 s hs).2.2.1
  unfold Sm;refine Ot i2<|Ot (W7 _<|CW hu.1 hn) ?_
  rw [Oq,Oq];have p1:0<2^b:=Sv (by decide);have p2:0<2^c:=Sv (by decide);have p3:0<2^b*2^c:=Nat.mul_pos p1 p2;have e:64*(64*2^c*2^b)=4096*(2^b*2^c):=by
   rw [Nat.mul_assoc 64,<-Nat.mul_assoc 64 64,Nat.mul_comm (2^c)]
  rw [e];have e2:(2:Nat)^13=8192:=by decide
  rw [e2];lia
 ·rw [e] at hz;obtain ⟨y,hy,w,hw,rfl⟩:=uh hz;have:=(hu.2.2 x hx).2.2.2 y hy
  have:=(hv.2.2 s hs).2.2.2 w hw
  lia
theorem Lh (h:∀ t∈us,Sm b t.2)(r:List Int):Sm b (CG us r):=by
 unfold CG;cases e:us.find? fun t=>decide (t.1=r) with
 | none=>exact Sv (by decide)
 | some t=>exact h t (List.mem_of_find?_eq_some e)
theorem ags {f:Int}(hu:Mb L b p n us)(hv:Mb L b p n vs)(hf:f=1\/f = -1)(a:wj (oF f us vs) rs):Mb L (b+1) p (n+n) rs:=by
 have nu:=fu hu.2.1;obtain ⟨h1,h2,h3⟩:=a.mem (jc nu);have lm:=CW (CW h1 (nj f us vs)) (Vk hu.1 hv.1);refine ⟨lm,h2,fun t ht=>?_⟩;obtain ⟨k1,k2,k3⟩:=h3 t ht;have kk:t.1.length=L/\∀ q∈t.1,0<=q/\q<=(p:Int):=by
  rcases uX t.1 k1 with h | h
  ·obtain ⟨u,hu2,e⟩:=GX.mp h;rw [<-e];exact ⟨(hu.2.2 u hu2).1,(hu.2.2 u hu2).2.2.2⟩
  ·obtain ⟨u,hu2,e⟩:=GX.mp h;rw [<-e];exact ⟨(hv.2.2 u hu2).1,(hv.2.2 u hu2).2.2.2⟩
 refine ⟨kk.1,k2,?_,kk.2⟩;have e:CG (oF f us vs) t.1=CG us t.1+f*CG vs t.1:=by rw [<-sW (jc nu),wW nu,sW nu,sW (fu hv.2.1)]
 have b1:=Lh (fun u h=>(hu.2.2 u h).2.2.1) t.1;have b2:=Lh (fun u h=>(hv.2.2 u h).2.2.1) t.1;rw [k3,e];unfold Sm at *;rw [Nat.pow_succ];rcases hf with rfl | rfl <;> lia
theorem Dl:∀ {cs:List Int} {lo hi:Int},cs.Pairwise (· < ·)->(∀ c∈cs,lo<=c/\c<hi)->lo<=hi->(cs.length:Int)<=hi - lo
 | [],lo,hi,_,_,h=>by simp;lia
 | c::cs,lo,hi,s,b,_=>by
  rw [T5] at s;have hc:=b c (by simp);have:=Dl (lo:=lo+1) (hi:=hi) s.2 (fun d hd=>by have:=s.1 d hd;have:=b d (IK _ hd);lia) (by lia)
  rw [Iw];lia
def code (P:Int):List Int->Int
 | [a]=>a
 | [a,b]=>a*P+b
 | _=>0
theorem aeM {P:Int}(hL:L<=2){l:List Int}(hk:k.length=L/\∀ q∈k,0<=q/\q<P)(hl:l.length=L/\∀ q∈l,0<=q/\q<P)(h:k<l):code P k<code P l:=by
 match k,l,hk,hl with
 | [],[],_,_=>exact absurd h (Uo _)
 | [a],[b],_,_=>
  rw [Qs] at h;rcases h with h | ⟨_,h⟩
  ·exact h
  ·exact absurd h<|Uo _
 | [a,c],[b,d],hk,hl=>
  have c1:=hk.2 c (by simp);have d1:=hl.2 d (by simp);show a*P+c<b*P+d;rw [Qs] at h;rcases h with h | ⟨e,h⟩
  ·have:(a+1)*P<=b*P:=Wb (by lia) (by lia)
   rw [Int.add_mul,Int.one_mul] at this;lia
  ·rw [Qs] at h;rcases h with h | ⟨_,h⟩
   ·rw [e];lia
   ·exact absurd h<|Uo _
 | [],_::_,hk,hl=>exact absurd (hk.1.trans hl.1.symm) (by simp)
 | _::_,[],hk,hl=>exact absurd (hk.1.trans hl.1.symm) (by simp)
 | [_],_::_::_,hk,hl=>exact absurd (hk.1.trans hl.1.symm) (by simp)
 | _::_::_,[_],hk,hl=>exact absurd (hk.1.trans hl.1.symm) (by simp)
 | _::_::_::_,_,hk,hl=>
  have:=hk.1
  simp only [Iw] at this;lia
 | _,_::_::_::_,hk,hl=>
  have:=hl.1
  simp only [Iw] at this;lia
theorem zbH {P:Int}(hL:L<=2)(hk:k.length=L/\∀ q∈k,0<=q/\q<P)(hP:1<=P):0<=code P k/\code P k<P*P:=by
 have pp:1*P<=P*P:=Wb hP (by lia);match k,hk with
 | [],_=>exact ⟨Int.le_refl _,by show (0:Int)<P*P;lia⟩
 | [a],hk=>
  have:=hk.2 a (by simp)
  exact ⟨this.1,by show a<P*P;lia⟩
 | [a,b],hk=>
  have ha:=hk.2 a (by simp);have hb:=hk.2 b (by simp);have h1:0*P<=a*P:=Wb ha.1 (by lia);have h2:(a+1)*P<=P*P:=Wb (by lia) (by lia);rw [Int.add_mul,Int.one_mul] at h2;exact ⟨by show 0<=a*P+b;lia,by show a*P+b<P*P;lia⟩
 | _::_::_::_,hk=>
  have:=hk.1
  simp only [Iw] at this;lia
theorem Mb.box (h:Mb L b p n us)(hL:L<=2):Mb L b p ((p+1)*(p+1)) us:=by
 refine ⟨?_,h.2.1,h.2.2⟩;have hk:∀ k∈us.map (·.1),k.length=L/\∀ q∈k,0<=q/\q<(p:Int)+1:=fun k hk=>by
  obtain ⟨t,ht,rfl⟩:=GX.mp hk;exact ⟨(h.2.2 t ht).1,fun q hq=>by have:=(h.2.2 t ht).2.2.2 q hq;lia⟩
 have:=Dl (cs:=(us.map (·.1)).map (code ((p:Int)+1))) (lo:=0) (hi:=((p:Int)+1)*((p:Int)+1)) (by
  rw [T3];exact List.Pairwise.imp_of_mem (fun {a b} ha hb h=>aeM hL (hk a ha) (hk b hb) h) h.2.1) (fun c hc=>by
  obtain ⟨k,h1,rfl⟩:=GX.mp hc;exact zbH hL (hk k h1) (by lia)) (Int.mul_nonneg (by lia) (by lia))
 rw [Bx,Bx] at this;have e:((p:Int)+1)*((p:Int)+1)=(((p+1)*(p+1):Nat):Int):=by rw [Int.natCast_mul];rfl
 rw [e] at this;lia
def Ir (L p n k:Nat):Prop:=n<=k\/L<=2/\(p+1)*(p+1)<=k
theorem Mb.cap {k:Nat}(h:Mb L b p n us)(c:Ir L p n k):Mb L b p k us:=by
 rcases c with c | ⟨c,d⟩
 ·exact h.mono (Bp _) (Bp _) c
 ·exact (h.box c).mono (Bp _) (Bp _) d
def Ev (L b p n:Nat)(f:List Int->Int)(us:List Tm):Prop:=Mb L b p n us/\∀ xs,lin (fun q=>mo q xs L) us=f xs
def Qu (c0:Ar):Prop:=∀ {h:Gh} {us vs:List Tm} {L b c p q n m:Nat} (k:Nat) {f g:List Int->Int} {Q:WK} {E:Cd},Ev L b p n f us->Ev L c q m g vs->L<=8->b<=1000->c<=1000->n<=64->m<=64->p<=30->q<=30->k<=600->Ir L (p+q) (n*m) k ->
 (∀ rs,Ev L (b+c+13) (p+q) k (fun xs=>f xs*g xs) rs->Q (Bt rs) h)->c0 [Bt us,Bt vs] h Q E
variable {c0 : Ar}
theorem Xm.e (hc:Xm c0):Qu c0:=by
 intro h us vs L b c p q n m k f g Q E hu hv hL hb hc' hn hm hp hq hk cap x;refine hc (hu.1.mono hb hp hn).ms (hv.1.mono hc' hq hm).ms hL fun rs a=>?_;have mr:=(agA hu.1 hv.1 hn hm a).cap cap;refine ⟨fun _=>x rs ⟨mr,fun xs=>?_⟩,fun o=>?_⟩
 ·rw [a.lin (lG us vs),adF fun t ht s hs=>El (by rw [(hu.1.2.2 t ht).1,(hv.1.2.2 s hs).1]) (hu.1.nn ht) (hv.1.nn hs) L,hu.2,hv.2]
 ·rcases o with o | o | ⟨t,ht,z,hz,h60⟩
  ·have:=Vm (CW hu.1.1 hn) (CW hv.1.1 hm)
   lia
  ·have:=mr.1
   lia
  ·have:=(mr.2.2 t ht).2.2.2 z hz
   lia
theorem HB {f:Int}(hu:Mb L b p n us)(hv:Mb L b p m vs)(hf:f=1\/f = -1)(a:wj (oF f us vs) rs):Mb L (b+1) p (n+m) rs:=by
 have r:=ags (hu.mono (Bp _) (Bp _) (Nat.le_max_left n m)) (hv.mono (Bp _) (Bp _) (Nat.le_max_right n m)) hf a;refine ⟨?_,r.2⟩;have h1:=(a.mem (jc (fu hu.2.1))).1;exact CW (CW h1<|nj f us vs)<|Vk hu.1 hv.1
def TX (s:Int)(c0:Ar):Prop:=∀ {h:Gh} {us vs:List Tm} {L b p n m:Nat} (k:Nat) {f g:List Int->Int} {Q:WK} {E:Cd},Ev L b p n f us->Ev L b p m g vs->b<=1000->n<=400->m<=400->k<=600->Ir L p (n+m) k ->
 (∀ rs,Ev L (b+1) p k (fun xs=>f xs+s*g xs) rs->Q (Bt rs) h)->c0 [Bt us,Bt vs] h Q E
theorem Mb.ls4 (h:Mb L b p n us)(hb:b<=1000)(hn:n<=400):Ls L us:=⟨by have:=h.1;lia,h.2.1,fun t ht=>⟨(h.2.2 t ht).1,(h.2.2 t ht).2.1,(h.2.2 t ht).2.2.1.mono hb⟩⟩
theorem TV.e {s:Int}(hs:s=1\/s = -1)(hc:TV s c0):TX s c0:=by
 intro h us vs L b p n m k f g Q E hu hv hb hn hm hk cap x;have nu:=fu hu.1.2.1;refine hc (hu.1.ls4 hb hn) (hv.1.ls4 hb hm) fun rs a=>?_;have mr:=(HB hu.1 hv.1 hs a).cap cap;refine ⟨fun _=>x rs ⟨mr,fun xs=>?_⟩,fun l=>?_⟩
 ·rw [wj.lin (jc nu) a,wW nu,hu.2,hv.2]
 ·have:=mr.1
  lia
theorem Ev.le {b' p' n':Nat}(h:Ev L b p n f us)(hb:b<=b')(hp:p<=p')(hn:n<=n'):Ev L b' p' n' f us:=⟨h.1.mono hb hp hn,h.2⟩
theorem Ev.eq {g:List Int->Int}(h:Ev L b p n f us)(e:∀ xs,f xs=g xs):Ev L b p n g us:=⟨h.1,fun xs=>by rw [h.2,e]⟩
theorem Ev.nil (L b p n:Nat):Ev L b p n (fun _=>0) []:=⟨⟨Ja _,.nil,fun _ h=>(nomatch h)⟩,fun _=>rfl⟩
abbrev tW (T:List (List Tm)):W:=.tup (T.map Bt)
abbrev Fn:=List Int->Int
structure E3 (L b p n:Nat) (f g h:Fn) (x y z:List Tm):Prop where
 x1:Ev L b p n f x
 x2:Ev L b p n g y
 x3:Ev L b p n h z
structure Nm (L b c p q n m k:Nat):Prop where
 hl:L<=8
 hb:b+c+20<=1000
 hn:n<=64
 hm:m<=64
 hp:p<=30
 hq:q<=30
 hk:k<=400
 cap:Ir L (p+q) (n*m) k
variable {ti : Ar}
theorem Oa (hti:Qu ti){c q k:Nat}(N:Nm L b c p q n m k){f g:Fn}(hu:Ev L b p n f us)(hv:Ev L c q m g vs)(x:∀ rs,Ev L (b+c+13) (p+q) k (fun xs=>f xs*g xs) rs->Q (Bt rs) h):ti [Bt us,Bt vs] h Q E:=by
 have:=N.hb
 have:=N.hk
 exact hti k hu hv N.hl (by lia) (by lia) N.hn N.hm N.hp N.hq (by lia) N.cap x
def LsE (c0:Ar):Prop:=∀ {h:Gh} {A B:List (List Tm)} {i j:Nat} {u1 u2 v1 v2:List Tm} {f1 f2 g1 g2:Fn} {L b c p q n m k k2:Nat} {Q:WK} {E:Cd},Nm L b c p q n m k->k2<=600->Ir L (p+q) (k+k) k2 ->
 A[i]?=FN u1->A[j]?=FN u2->B[j]?=FN v1->B[i]?=FN v2->Ev L b p n f1 u1->Ev L b p n f2 u2->Ev L c q m g1 v1->Ev L c q m g2 v2 ->
 (∀ rs,Ev L (b+c+14) (p+q) k2 (fun xs=>f1 xs*g1 xs - f2 xs*g2 xs) rs->Q (Bt rs) h)->c0 [tW A,tW B,.int (i:Int),.int (j:Int)] h Q E
variable {A : List (List Tm)}{u : List Tm}
theorem wG (e:A[i]?=FN u)(x:Q (Bt u) h):BJ (tW A) (.int (i:Int)) h Q:=
 cJ (ws:=A.map Bt) rfl (cL (by rw [Fv,e];rfl)) x
theorem afr {mi:Ar}(hmi:TX (-1) mi)(hti:Qu ti):LsE (gk mi ti):=by
 intro h A B i j u1 u2 v1 v2 f1 f2 g1 g2 L b c p q n m k k2 Q E N hk2 cap e1 e2 e3 e4 a1 a2 a3 a4 x;have:=N.hb
 have:=N.hk
 unfold gk;refine cA rfl (Z:=[FN<|tW A,FN<|tW B,FN<|.int (i:Int),FN<|.int (j:Int)]) rfl<|aX<|aB<|aj<|aB<|aj<|aD<|ak rfl<|ak rfl<|wG e1 ?_
 refine aj<|aD<|ak rfl<|ak rfl<|wG e3<|aq<|Oa hti N a1 a3 fun r1 b1=>?_
 refine aj<|aB<|aj<|aD<|ak rfl<|ak rfl<|wG e2 ?_
 refine aj<|aD<|ak rfl<|ak rfl<|wG e4<|aq<|Oa hti N a2 a4 fun r2 b2=>aq ?_
 refine hmi k2 b1 b2 (by lia) (by lia) (by lia) hk2 cap fun rs er=>gF<|x rs<|er.eq fun xs=>?_
 lia
def CrE (c0:Ar):Prop:=∀ {h:Gh} {x y z u v w:List Tm} {f1 f2 f3 g1 g2 g3:Fn} {L b c p q n m k k2:Nat} {Q:WK} {E:Cd},Nm L b c p q n m k->k2<=600->Ir L (p+q) (k+k) k2 ->
 E3 L b p n f1 f2 f3 x y z->E3 L c q m g1 g2 g3 u v w ->
 (∀ a b1 c1,E3 L (b+c+14) (p+q) k2 (fun xs=>f2 xs*g3 xs - f3 xs*g2 xs) (fun xs=>f3 xs*g1 xs - f1 xs*g3 xs) (fun xs=>f1 xs*g2 xs - f2 xs*g1 xs) a b1 c1->Q (tW [a,b1,c1]) h)->c0 [tW [x,y,z],tW [u,v,w]] h Q E
theorem zbh {ls:Ar}(hls:LsE ls):CrE (jL ls):=by
 intro h x y z u v w f1 f2 f3 g1 g2 g3 L b c p q n m k k2 Q E N hk2 cap e1 e2 q';unfold jL;refine cA rfl (Z:=[FN<|tW [x,y,z],FN<|tW [u,v,w]]) rfl<|aX<|cQ<|aj<|aB<|aj<|ak rfl<|aj<|ak rfl<|aj<|aU<|aj<|aU<|aq ?_
 refine hls (i:=1) (j:=2) N hk2 cap rfl rfl rfl rfl e1.x2 e1.x3 e2.x3 e2.x2 fun a ea=>?_;refine aj<|aB<|aj<|ak rfl<|aj<|ak rfl<|aj<|aU<|aj<|aU<|aq ?_
 refine hls (i:=2) (j:=0) N hk2 cap rfl rfl rfl rfl e1.x3 e1.x1 e2.x1 e2.x3 fun b1 eb=>?_;refine aj<|aB<|aj<|ak rfl<|aj<|ak rfl<|aj<|aU<|aj<|aU<|aq ?_
 refine hls (i:=0) (j:=1) N hk2 cap rfl rfl rfl rfl e1.x1 e1.x2 e2.x2 e2.x1 fun c1 ec=>?_;exact aq<|bC rfl<|gF<|q' a b1 c1 ⟨ea,eb,ec⟩
def DoE (c0:Ar):Prop:=∀ {h:Gh} {x y z u v w:List Tm} {f1 f2 f3 g1 g2 g3:Fn} {L b c p q n m k k3:Nat} {Q:WK} {E:Cd},Nm L b c p q n m k->k*3<=400->k3<=600->Ir L (p+q) (k*3) k3 ->
 E3 L b p n f1 f2 f3 x y z->E3 L c q m g1 g2 g3 u v w ->
 (∀ r,Ev L (b+c+16) (p+q) k3 (fun xs=>f1 xs*g1 xs+f2 xs*g2 xs+f3 xs*g3 xs) r->Q (Bt r) h)->c0 [tW [x,y,z],tW [u,v,w]] h Q E
variable {pl : Ar}
theorem aez (hpl:TX 1 pl)(hti:Qu ti):DoE (o8 pl ti):=by
 intro h x y z u v w f1 f2 f3 g1 g2 g3 L b c p q n m k k3 Q E N kk hk3 cap e1 e2 q';have:=N.hb
 unfold o8;refine cA rfl (Z:=[FN<|tW [x,y,z],FN<|tW [u,v,w],FX,FX,FX]) rfl<|aH<|aP<|cQ<|aq<|bC rfl ?_
 refine nV<|aY ?_
 refine aH<|g8<|qT<|aj<|ak rfl<|aj<|ak rfl<|aq ?_
 refine Ca (as:=[Bt x,Bt y,Bt z]) (bs:=[Bt u,Bt v,Bt w]) rfl rfl rfl<|iz ?_
 have step:∀ {t mx ix:List Tm} {s3 s4:Option W} {h':Gh} {F f g:Fn} {N' b0 c0:Sw->Gh->Prop} {r0:WK} (i:Nat),i<=2->Ev L (b+c+13+i) (p+q) (k*i) F t->Ev L b p n f mx->Ev L c q m g ix ->
   (∀ rs,Ev L (b+c+13+(i+1)) (p+q) (k*(i+1)) (fun xs=>F xs+f xs*g xs) rs->N' [FN (tW [x,y,z]),FN (tW [u,v,w]),FN (Bt rs),FN (Bt mx),FN (Bt ix)] h') ->
   (gR 2 (bY (kI 3) (bY (kI 4) v7))) (.tup [Bt mx,Bt ix]) [FN (tW [x,y,z]),FN (tW [u,v,w]),FN (Bt t),s3,s4] h' fun Z1 h1=>(bK (aJ pl E (ao (aA 2) (ao (aJ ti E (ao (aA 3) (ao (aA 4) aL))) aL))) (kI 2)) { nx:=N',rt:=r0,bk:=b0,ct:=c0 } Z1 h1:=fun {t mx ix s3 s4 h' F f g N' b0 c0 r0} i hi et em ei k'=>by
  refine iR rfl rfl<|bZ<|nV ?_
  refine bZ<|nV ?_
  refine jV ?_;refine aP<|aB<|aj<|ak rfl<|aj<|aB<|aj<|ak rfl<|aj<|ak rfl<|aq<|Oa hti N em ei fun r1 b1=>aq ?_
  have c1:k*i<=400:=CW (Nat.mul_le_mul_left k (by lia:i<=3)) kk;have c2:k*(i+1)<=400:=CW (Nat.mul_le_mul_left k (by lia:i+1<=3)) kk;refine hpl (k*(i+1)) et (b1.le (by lia) (Bp _)<|Bp _) (by lia) c1 (by lia) (by lia) (.inl (by rw [Nat.mul_succ];exact Bp _)) fun rs er=>?_;refine nV<|aY ?_
  refine k' rs<|(er.le (by lia) (Bp _)<|Bp _).eq fun xs=>?_
  lia
 refine rF<|step (s3:=FX) (s4:=FX) (t:=[]) (F:=fun _=>0) 0 (by lia) (Ev.nil ..) e1.x1 e2.x1 fun r1 a1=>?_
 refine rF<|step 1 (by lia) a1 e1.x2 e2.x2 fun r2 a2=>?_
 refine rF<|step 2 (by lia) a2 e1.x3 e2.x3 fun r3 a3=>?_
 refine Gx ?_;unfold pQ;refine aY<|aX<|ak rfl<|gF<|q' r3 ⟨a3.1.cap cap,fun xs=>?_⟩
 rw [a3.2];dsimp only;lia
inductive EL (L b p n:Nat):List Fn->List (List Tm)->Prop
 | nil:EL L b p n [] []
 | cons {f:Fn} {us:List Tm} {fs:List Fn} {T:List (List Tm)}:Ev L b p n f us->EL L b p n fs T->EL L b p n (f::fs) (us::T)
variable {T : List (List Tm)}{fs : List Fn}
theorem EL.le {L b p n b' p' n':Nat}{fs:List Fn}{T:List (List Tm)}(e:EL L b p n fs T)(hb:b<=b')(hp:p<=p')(hn:n<=n'):EL L b' p' n' fs T:=by
 induction e with
 | nil=>exact .nil
 | cons a _ ih=>exact .cons (a.le hb hp hn) ih
theorem EL.length {L b p n:Nat}{fs:List Fn}{T:List (List Tm)}(e:EL L b p n fs T):fs.length=T.length:=by
 induction e with
 | nil=>rfl
 | cons _ _ ih=>simp [ih]
theorem EL.snoc {f:Fn}(e:EL L b p n fs T)(h:Ev L b p n f us):EL L b p n (fs++[f]) (T++[us]):=by
 induction e with
 | nil=>exact .cons h .nil
 | cons a _ ih=>exact .cons a ih
theorem EL.at {L b p n:Nat}{fs:List Fn}{T:List (List Tm)}(e:EL L b p n fs T){i:Nat}{us:List Tm}(h:T[i]?=FN us):∃ f,fs[i]?=FN f/\Ev L b p n f us:=by
 induction e generalizing i with
 | nil=>simp at h
 | cons a _ ih=>
  cases i with
  | zero=>cases h;exact ⟨_,rfl,a⟩
  | succ i=>exact ih h
theorem E3.l {f g h:Fn}{x y z:List Tm}(e:E3 L b p n f g h x y z):EL L b p n [f,g,h] [x,y,z]:=.cons e.x1 (.cons e.x2 (.cons e.x3 .nil))
theorem EL.e3 {f g h:Fn}(e:EL L b p n [f,g,h] T):∃ x y z,T=[x,y,z]/\E3 L b p n f g h x y z:=by
 cases e with
 | cons a e=>cases e with
  | cons b e=>cases e with
   | cons c e=>cases e;exact ⟨_,_,_,rfl,a,b,c⟩
def StE (c0:Ar):Prop:=∀ {h:Gh} {T:List (List Tm)} {fs:List Fn} {vs:List Tm} {g:Fn} {L b c p q n m k:Nat} {Q:WK} {E:Cd},Nm L b c p q n m k->T.length<=6->EL L b p n fs T->Ev L c q m g vs ->
 (∀ R,EL L (b+c+13) (p+q) k (fs.map fun f xs=>f xs*g xs) R->Q (tW R) h)->c0 [tW T,Bt vs] h Q E
theorem zbx (hti:Qu ti):StE (iI ti):=by
 intro h T fs vs g L b c p q n m k Q E N hT e ev q';have lf:=e.length;unfold iI;refine cA rfl (Z:=[FN<|tW T,FN<|Bt vs]) rfl<|aX<|bL<|aj<|gn<|fY<|ak rfl<|ql (ws:=T.map Bt) (o:=FX) rfl<|fG.mk (CW (m:=1000) (by rw [Bx];lia)<|by decide) ?_
 refine dF (fun i acc h'=>h'=h/\∃ R,acc=R.map Bt/\EL L (b+c+13) (p+q) k ((fs.take i).map fun f xs=>f xs*g xs) R) ?_ ?_ ⟨rfl,[],rfl,.nil⟩
 ·rintro i w acc h' N' hN e' ⟨rfl,R,rfl,er⟩;rw [Fv] at e';cases qe:T[i]? with
  | none=>rw [qe] at e';cases e'
  | some us=>
   rw [qe] at e';cases e'
   obtain ⟨f,ef,eu⟩:=e.at qe;refine ⟨[Bt us],rfl,bH<|bD<|aB<|aj<|ak rfl<|aj<|ak rfl<|aq ?_⟩;refine Oa hti N eu ev fun rs er1=>hN _ _ ⟨rfl,R++[rs],by rw [Gp];rfl,?_⟩;rw [Ji,ef,Gp];exact er.snoc er1
 ·rintro acc h' ⟨rfl,R,rfl,er⟩;rw [Bx,<-lf,K3] at er;exact aq<|bW<|gF<|q' R er
def SmE (c0:Ar):Prop:=∀ {h:Gh} {T S:List (List Tm)} {fs gs:List Fn} {L b p n k:Nat} {Q:WK} {E:Cd},b<=1000->n<=400->k<=600->Ir L p (n+n) k->T.length<=6->T.length=S.length->EL L b p n fs T->EL L b p n gs S ->
 (∀ R,EL L (b+1) p k (List.zipWith (fun f g xs=>f xs - g xs) fs gs) R->Q (tW R) h)->c0 [tW T,tW S] h Q E
theorem zaS {gs:List Fn}{f g:Fn}{F:Fn->Fn->Fn}(e1:fs[i]?=FN f)(e2:gs[i]?=FN g):(List.zipWith F fs gs).take (i+1)=(List.zipWith F fs gs).take i++[F f g]:=by
 rw [Ji,List.getElem?_zipWith,e1,e2];rfl
theorem zaQ {mi:Ar}(hmi:TX (-1) mi):SmE (jf mi):=by
 intro h T S fs gs L b p n k Q E hb hn hk cap hT hS e1 e2 q';have l1:=e1.length;have l2:=e2.length;unfold jf;refine cA rfl (Z:=[FN<|tW T,FN<|tW S]) rfl<|aX<|bL<|aj<|gn<|qT<|aj<|ak rfl<|aj<|ak rfl<|aq<|Ca (as:=T.map Bt) (bs:=S.map Bt) rfl rfl rfl ?_
 have lz:(m6 (T.map Bt) (S.map Bt)).length=T.length:=by rw [nO,Bx,Bx];lia
 refine fG.mk (CW (m:=1000) (by rw [lz];lia)<|by decide) ?_;refine dF (fun i acc h'=>h'=h/\∃ R,acc=R.map Bt/\EL L (b+1) p k ((List.zipWith (fun f g xs=>f xs - g xs) fs gs).take i) R) ?_ ?_ ⟨rfl,[],rfl,.nil⟩
 ·rintro i w acc h' N' hN e' ⟨rfl,R,rfl,er⟩;obtain ⟨a,c,ea,ec,rfl⟩:=nJ e';rw [Fv] at ea ec;cases qa:T[i]? with
  | none=>rw [qa] at ea;cases ea
  | some us=>
   cases qc:S[i]? with
   | none=>rw [qc] at ec;cases ec
   | some vs=>
    rw [qa] at ea;rw [qc] at ec;cases ea;cases ec;obtain ⟨f,ef,eu⟩:=e1.at qa;obtain ⟨g,eg,ev⟩:=e2.at qc;refine ⟨[Bt us,Bt vs],rfl,bH<|bD<|aB<|aj<|ak rfl<|aj<|ak rfl<|aq ?_⟩;refine hmi k eu ev hb hn hn hk cap fun rs er1=>hN _ _ ⟨rfl,R++[rs],by rw [Gp];rfl,?_⟩;rw [zaS ef eg];exact er.snoc<|er1.eq fun xs=>by lia
 ·rintro acc h' ⟨rfl,R,rfl,er⟩;rw [lz,Ur (by rw [List.length_zipWith];lia)] at er;exact aq<|bW<|gF<|q' R er
theorem Q8 {f:Int}(h:∀ t∈vs,t.1∈us.map (·.1)):(oF f us vs).map (·.1)=us.map (·.1):=by
 revert h
 refine Bs (P:=fun vs=>(∀ t∈vs,t.1∈us.map (·.1))->(oF f us vs).map (·.1)=us.map (·.1)) (fun _=>rfl) (fun vs t ih h=>?_) vs;have ih:=ih fun u hu=>h u (Rj _ hu)
 rw [gq,nR,ih,if_pos (h t (by simp))]
def DbE (c0:Ar):Prop:=∀ {h:Gh} {us:List Tm} {f:Fn} {L b p n:Nat} {Q:WK} {E:Cd},b<=1000->n<=400->Ev L b p n f us->(∀ rs,Ev L (b+1) p n (fun xs=>2*f xs) rs->Q (Bt rs) h)->c0 [Bt us] h Q E
theorem acp (hpl:TV 1 pl):DbE (pZ pl):=by
 intro h us f L b p n Q E hb hn e q';have nu:=fu e.1.2.1;unfold pZ;refine cA rfl (Z:=[FN<|Bt us]) rfl<|aX<|aB<|aj<|ak rfl<|aj<|ak rfl<|aq ?_
 refine hpl (e.1.ls4 hb hn) (e.1.ls4 hb hn) fun rs a=>?_;have mr:=HB e.1 e.1 (.inl rfl) a;have lr:rs.length<=n:=by
  have h1:=(wj.mem (jc nu) a).1;have h2:=congrArg Pg (Q8 (f:=1) (us:=us) (vs:=us) fun t ht=>GX.mpr ⟨t,ht,rfl⟩);rw [Bx,Bx] at h2;have:=e.1.1
  lia
 refine ⟨fun _=>gF<|q' rs ⟨⟨lr,mr.2⟩,fun xs=>?_⟩,fun l=>absurd l<|by lia⟩;rw [wj.lin (jc nu) a,wW nu,e.2];dsimp only;lia
theorem tij (hti:Qu ti){c q k:Nat}(N:Nm L b c p q n m k){B:List (List Tm)}{j:Nat}{v:List Tm}{f g:Fn}(v0:Z[0]?=FN (FN (tW A)))(v1:Z[1]?=FN (FN (tW B)))(eu:A[i]?=FN u)(ev:B[j]?=FN v)(hu:Ev L b p n f u)(hv:Ev L c q m g v)
  (x:∀ rs,Ev L (b+c+13) (p+q) k (fun xs=>f xs*g xs) rs->Q (Bt rs) h) :
  aJ ti E (ao (AP BJ (aA 0) (mC (.int (i:Int)))) (ao (AP BJ (aA 1) (mC (.int (j:Int)))) aL)) Z h Q:=
 aB (aj (aD (ak v0 (aU (wG eu (aj (aD (ak v1 (aU (wG ev (aq (Oa hti N hu hv x))))))))))))
theorem pij (hpl:TX 1 pl)(hti:Qu ti){c q k k2:Nat}(N:Nm L b c p q n m k)(hk2:k2<=600)(cap:Ir L (p+q) (k+k) k2){B:List (List Tm)}{j i' j':Nat}{v u' v':List Tm}{f g f' g':Fn}(v0:Z[0]?=FN (FN (tW A)))(v1:Z[1]?=FN (FN (tW B)))(eu:A[i]?=FN u)(ev:B[j]?=FN v)(hu:Ev L b p n f u)(hv:Ev L c q m g v)(eu':A[i']?=FN u')(ev':B[j']?=FN v')(hu':Ev L b p n f' u')(hv':Ev L c q m g' v')
  (x:∀ rs,Ev L (b+c+14) (p+q) k2 (fun xs=>f xs*g xs+f' xs*g' xs) rs->Q (Bt rs) h) :
  aJ pl E (ao (aJ ti E (ao (AP BJ (aA 0) (mC (.int (i:Int)))) (ao (AP BJ (aA 1) (mC (.int (j:Int)))) aL))) (ao (aJ ti E (ao (AP BJ (aA 0) (mC (.int (i':Int)))) (ao (AP BJ (aA 1) (mC (.int (j':Int)))) aL))) aL)) Z h Q:=by
 have:=N.hb
 have:=N.hk
 refine aB<|aj<|tij hti N v0 v1 eu ev hu hv fun r1 e1=>aj<|tij hti N v0 v1 eu' ev' hu' hv' fun r2 e2=>aq ?_
 exact hpl k2 e1 e2 (by lia) (by lia) (by lia) hk2 cap fun rs er=>x rs<|er.eq fun xs=>by lia
def ToE (c0:Ar):Prop:=∀ {h:Gh} {x y z u v w:List Tm} {f1 f2 f3 g1 g2 g3:Fn} {L b c p q n m k k2:Nat} {Q:WK} {E:Cd},Nm L b c p q n m k->k<=k2->k2<=600->Ir L (p+q) (k+k) k2 ->
 E3 L b p n f1 f2 f3 x y z->E3 L c q m g1 g2 g3 u v w ->
 (∀ R,EL L (b+c+14) (p+q) k2 [fun xs=>f1 xs*g1 xs,fun xs=>f1 xs*g2 xs+f2 xs*g1 xs,fun xs=>f2 xs*g2 xs,fun xs=>f1 xs*g3 xs+f3 xs*g1 xs,fun xs=>f2 xs*g3 xs+f3 xs*g2 xs,fun xs=>f3 xs*g3 xs] R->Q (tW R) h)->c0 [tW [x,y,z],tW [u,v,w]] h Q E
theorem acg (hpl:TX 1 pl)(hti:Qu ti):ToE (fV pl ti):=by
 intro h x y z u v w f1 f2 f3 g1 g2 g3 L b c p q n m k k2 Q E N hkk hk2 cap e1 e2 q';unfold fV;refine cA rfl (Z:=[FN<|tW [x,y,z],FN<|tW [u,v,w]]) rfl<|aX<|cQ<|aj ?_
 refine tij (i:=0) (j:=0) hti N rfl rfl rfl rfl e1.x1 e2.x1 fun a1 b1=>aj ?_;refine pij (i:=0) (j:=1) (i':=1) (j':=0) hpl hti N hk2 cap rfl rfl rfl rfl e1.x1 e2.x2 rfl rfl e1.x2 e2.x1 fun a2 b2=>aj ?_;refine tij (i:=1) (j:=1) hti N rfl rfl rfl rfl e1.x2 e2.x2 fun a3 b3=>aj ?_;refine pij (i:=0) (j:=2) (i':=2) (j':=0) hpl hti N hk2 cap rfl rfl rfl rfl e1.x1 e2.x3 rfl rfl e1.x3 e2.x1 fun a4 b4=>aj ?_;refine pij (i:=1) (j:=2) (i':=2) (j':=1) hpl hti N hk2 cap rfl rfl rfl rfl e1.x2 e2.x3 rfl rfl e1.x3 e2.x2 fun a5 b5=>aj ?_;refine tij (i:=2) (j:=2) hti N rfl rfl rfl rfl e1.x3 e2.x3 fun a6 b6=>aq<|bC rfl<|gF<|q' [a1,a2,a3,a4,a5,a6] ?_
 exact .cons (b1.le (by lia) (Bp _) hkk)<|.cons b2<|.cons (b3.le (by lia) (Bp _) hkk)<|.cons b4<|.cons b5<|.cons (b6.le (by lia) (Bp _) hkk) .nil
abbrev t3 (A B C:List (List Tm)):W:=.tup [tW A,tW B,tW C]
def TaE (c0:Ar):Prop:=∀ {h:Gh} {x0 x1 x2 x3 x4 x5:List Tm} {f0 f1 f2 f3 f4 f5:Fn} {L b p n:Nat} {Q:WK} {E:Cd},b<=1000->n<=400->EL L b p n [f0,f1,f2,f3,f4,f5] [x0,x1,x2,x3,x4,x5] ->
 (∀ a d g,E3 L (b+1) p n (fun xs=>2*f0 xs) f1 f3 a x1 x3->E3 L (b+1) p n f1 (fun xs=>2*f2 xs) f4 x1 d x4->E3 L (b+1) p n f3 f4 (fun xs=>2*f5 xs) x3 x4 g->Q (t3 [a,x1,x3] [x1,d,x4] [x3,x4,g]) h)->c0 [tW [x0,x1,x2,x3,x4,x5]] h Q E
theorem aem {db:Ar}(hdb:DbE db):TaE (jB db):=by
 intro h x0 x1 x2 x3 x4 x5 f0 f1 f2 f3 f4 f5 L b p n Q E hb hn e q';cases e with
 | cons e0 e=>cases e with
  | cons e1 e=>cases e with
   | cons e2 e=>cases e with
    | cons e3 e=>cases e with
     | cons e4 e=>cases e with
      | cons e5 e=>
       unfold jB;refine cA rfl (Z:=[FN<|tW [x0,x1,x2,x3,x4,x5]]) rfl<|aX<|cQ<|aj<|cQ<|aj<|aB<|aj<|aD<|ak rfl<|aU<|wG (i:=0) rfl<|aq ?_
       refine hdb hb hn e0 fun a ea=>?_;refine aj<|aD<|ak rfl<|aU<|wG (i:=1) rfl<|aj<|aD<|ak rfl<|aU<|wG (i:=3) rfl<|aq<|bC rfl ?_
       refine aj<|cQ<|aj<|aD<|ak rfl<|aU<|wG (i:=1) rfl<|aj<|aB<|aj<|aD<|ak rfl<|aU<|wG (i:=2) rfl<|aq ?_
       refine hdb hb hn e2 fun d ed=>?_;refine aj<|aD<|ak rfl<|aU<|wG (i:=4) rfl<|aq<|bC rfl ?_
       refine aj<|cQ<|aj<|aD<|ak rfl<|aU<|wG (i:=3) rfl<|aj<|aD<|ak rfl<|aU<|wG (i:=4) rfl ?_
       refine aj<|aB<|aj<|aD<|ak rfl<|aU<|wG (i:=5) rfl<|aq ?_
       refine hdb hb hn e5 fun g eg=>aq<|bC rfl<|aq<|bC rfl<|gF ?_
       have l1:=e1.le (Qe b) (Bp p) (Bp n);have l3:=e3.le (Qe b) (Bp p) (Bp n);have l4:=e4.le (Qe b) (Bp p) (Bp n);exact q' a d g ⟨ea,l1,l3⟩ ⟨l1,ed,l4⟩ ⟨l3,l4,eg⟩
theorem RG {B C D:List (List Tm)}(e:[A,B,C][i]?=FN D)(x:Q (tW D) h):BJ (t3 A B C) (.int (i:Int)) h Q:=
 cJ (ws:=[A,B,C].map tW) rfl (cL (by rw [Fv,e];rfl)) x
def TuE (c0:Ar):Prop:=∀ {h:Gh} {x y z u v w r s t:List Tm} {f1 f2 f3 g1 g2 g3 h1 h2 h3:Fn} {L b c d p q o n m l k k2 k3 k4:Nat} {Q:WK} {E:Cd},Nm L b c p q n m k->k2<=600->Ir L (p+q) (k+k) k2->Nm L (b+c+14) d (p+q) o k2 l k3->k3*3<=400->k4<=600->Ir L (p+q+o) (k3*3) k4 ->
 E3 L b p n f1 f2 f3 x y z->E3 L c q m g1 g2 g3 u v w->E3 L d o l h1 h2 h3 r s t ->
 (∀ e,Ev L (b+c+14+d+16) (p+q+o) k4 (fun xs=>(f2 xs*g3 xs - f3 xs*g2 xs)*h1 xs+(f3 xs*g1 xs - f1 xs*g3 xs)*h2 xs+(f1 xs*g2 xs - f2 xs*g1 xs)*h3 xs) e->Q (Bt e) h)->c0 [tW [x,y,z],tW [u,v,w],tW [r,s,t]] h Q E
variable {cr dt : Ar}
theorem zcb (hcr:CrE cr)(hdt:DoE dt):TuE (lQ cr dt):=by
 intro h x y z u v w r s t f1 f2 f3 g1 g2 g3 h1 h2 h3 L b c d p q o n m l k k2 k3 k4 Q E N hk2 cap N2 kk hk4 cap2 e1 e2 e3 q';unfold lQ;refine cA rfl (Z:=[FN<|tW [x,y,z],FN<|tW [u,v,w],FN<|tW [r,s,t]]) rfl<|aX<|aB<|aj<|aB<|aj<|ak rfl<|aj<|ak rfl<|aq ?_
 refine hcr N hk2 cap e1 e2 fun a b1 c1 ea=>aj<|ak rfl<|aq ?_
 exact hdt N2 kk hk4 cap2 ea e3 fun r2 e=>gF<|q' r2 e
def TrE (c0:Ar):Prop:=∀ {h:Gh} {a1 a2 a3 b1 b2 b3 c1 c2 c3:List Tm} {f1 f2 f3 g1 g2 g3 h1 h2 h3:Fn} {L b p n k k2:Nat} {Q:WK} {E:Cd},Nm L b b p p n n k->k2<=600->Ir L (p+p) (k+k) k2 ->
 E3 L b p n f1 f2 f3 a1 a2 a3->E3 L b p n g1 g2 g3 b1 b2 b3->E3 L b p n h1 h2 h3 c1 c2 c3 ->
 (∀ A B C,(∃ x y z,A=[x,y,z]/\E3 L (b+b+14) (p+p) k2 (fun xs=>g2 xs*h3 xs - g3 xs*h2 xs) (fun xs=>g3 xs*h1 xs - g1 xs*h3 xs) (fun xs=>g1 xs*h2 xs - g2 xs*h1 xs) x y z) ->
  (∃ x y z,B=[x,y,z]/\E3 L (b+b+14) (p+p) k2 (fun xs=>h2 xs*f3 xs - h3 xs*f2 xs) (fun xs=>h3 xs*f1 xs - h1 xs*f3 xs) (fun xs=>h1 xs*f2 xs - h2 xs*f1 xs) x y z) ->
  (∃ x y z,C=[x,y,z]/\E3 L (b+b+14) (p+p) k2 (fun xs=>f2 xs*g3 xs - f3 xs*g2 xs) (fun xs=>f3 xs*g1 xs - f1 xs*g3 xs) (fun xs=>f1 xs*g2 xs - f2 xs*g1 xs) x y z)->Q (t3 A B C) h) ->
 c0 [t3 [a1,a2,a3] [b1,b2,b3] [c1,c2,c3]] h Q E
theorem zbz (hcr:CrE cr):TrE (gQ cr):=by
 intro h a1 a2 a3 b1 b2 b3 c1 c2 c3 f1 f2 f3 g1 g2 g3 h1 h2 h3 L b p n k k2 Q E N hk2 cap ea eb ec q';unfold gQ;refine cA rfl (Z:=[FN<|t3 [a1,a2,a3] [b1,b2,b3] [c1,c2,c3]]) rfl<|aX<|cQ<|aj ?_
 refine aB<|aj<|aD<|ak rfl<|aU<|RG (i:=1) rfl<|aj<|aD<|ak rfl<|aU<|RG (i:=2) rfl<|aq ?_
 refine hcr N hk2 cap eb ec fun x y z e1=>?_;refine aj<|aB<|aj<|aD<|ak rfl<|aU<|RG (i:=2) rfl<|aj<|aD<|ak rfl<|aU<|RG (i:=0) rfl<|aq ?_
 refine hcr N hk2 cap ec ea fun x' y' z' e2=>?_;refine aj<|aB<|aj<|aD<|ak rfl<|aU<|RG (i:=0) rfl<|aj<|aD<|ak rfl<|aU<|RG (i:=1) rfl<|aq ?_
 refine hcr N hk2 cap ea eb fun x2 y2 z2 e3=>aq<|bC rfl<|gF ?_
 exact q' _ _ _ ⟨_,_,_,rfl,e1⟩ ⟨_,_,_,rfl,e2⟩ ⟨_,_,_,rfl,e3⟩
def RtE (c0:Ar):Prop:=∀ {h:Gh} {a1 a2 a3 b1 b2 b3 c1 c2 c3 u v w:List Tm} {f1 f2 f3 g1 g2 g3 h1 h2 h3 k1 k2 k3:Fn} {L b c p q n m k k4:Nat} {Q:WK} {E:Cd},Nm L b c p q n m k->k*3<=400->k4<=600->Ir L (p+q) (k*3) k4 ->
 E3 L b p n f1 f2 f3 a1 a2 a3->E3 L b p n g1 g2 g3 b1 b2 b3->E3 L b p n h1 h2 h3 c1 c2 c3->E3 L c q m k1 k2 k3 u v w ->
 (∀ x y z,E3 L (b+c+16) (p+q) k4 (fun xs=>f1 xs*k1 xs+f2 xs*k2 xs+f3 xs*k3 xs) (fun xs=>g1 xs*k1 xs+g2 xs*k2 xs+g3 xs*k3 xs) (fun xs=>h1 xs*k1 xs+h2 xs*k2 xs+h3 xs*k3 xs) x y z->Q (tW [x,y,z]) h) ->
 c0 [t3 [a1,a2,a3] [b1,b2,b3] [c1,c2,c3],tW [u,v,w]] h Q E
theorem adq (hdt:DoE dt):RtE (iT dt):=by
 intro h a1 a2 a3 b1 b2 b3 c1 c2 c3 u v w f1 f2 f3 g1 g2 g3 h1 h2 h3 k1 k2 k3 L b c p q n m k k4 Q E N kk hk4 cap ea eb ec ek q';unfold iT;refine cA rfl (Z:=[FN<|t3 [a1,a2,a3] [b1,b2,b3] [c1,c2,c3],FN<|tW [u,v,w]]) rfl<|aX<|bL<|aj<|gn<|fY<|ak rfl<|ql (ws:=[tW [a1,a2,a3],tW [b1,b2,b3],tW [c1,c2,c3]]) (o:=FX) rfl<|wL rfl ?_
 refine dj (vs:=[tW [a1,a2,a3]]) rfl<|bH<|bD<|aB<|aj<|ak rfl<|aj<|ak rfl<|aq ?_
 refine hdt N kk hk4 cap ea ek fun x ex=>?_;refine dj (vs:=[tW [b1,b2,b3]]) rfl<|bH<|bD<|aB<|aj<|ak rfl<|aj<|ak rfl<|aq ?_
 refine hdt N kk hk4 cap eb ek fun y ey=>?_;refine dj (vs:=[tW [c1,c2,c3]]) rfl<|bH<|bD<|aB<|aj<|ak rfl<|aj<|ak rfl<|aq ?_
 refine hdt N kk hk4 cap ec ek fun z ez=>qG<|aq<|bW<|gF ?_
 exact q' x y z ⟨ex,ey,ez⟩
def BoE (c0:Ar):Prop:=∀ {h:Gh} {a1 a2 a3 b1 b2 b3 c1 c2 c3 r s t u v w:List Tm} {f1 f2 f3 g1 g2 g3 h1 h2 h3 j1 j2 j3 k1 k2 k3:Fn} {L b c p q n m k k4 k5 k6:Nat} {Q:WK} {E:Cd},Nm L b c p q n m k->k*3<=400->k4<=600->Ir L (p+q) (k*3) k4->Nm L c (b+c+16) q (p+q) m k4 k5->k5*3<=400->k6<=600->Ir L (q+(p+q)) (k5*3) k6 ->
 E3 L b p n f1 f2 f3 a1 a2 a3->E3 L b p n g1 g2 g3 b1 b2 b3->E3 L b p n h1 h2 h3 c1 c2 c3->E3 L c q m j1 j2 j3 r s t->E3 L c q m k1 k2 k3 u v w ->
 (∀ e,Ev L (c+(b+c+16)+16) (q+(p+q)) k6 (fun xs=>j1 xs*(f1 xs*k1 xs+f2 xs*k2 xs+f3 xs*k3 xs)+j2 xs*(g1 xs*k1 xs+g2 xs*k2 xs+g3 xs*k3 xs)+j3 xs*(h1 xs*k1 xs+h2 xs*k2 xs+h3 xs*k3 xs)) e->Q (Bt e) h) ->
 c0 [t3 [a1,a2,a3] [b1,b2,b3] [c1,c2,c3],tW [r,s,t],tW [u,v,w]] h Q E
theorem ago {rt:Ar}(hdt:DoE dt)(hrt:RtE rt):BoE (cR dt rt):=by
 intro h a1 a2 a3 b1 b2 b3 c1 c2 c3 r s t u v w f1 f2 f3 g1 g2 g3 h1 h2 h3 j1 j2 j3 k1 k2 k3 L b c p q n m k k4 k5 k6 Q E N kk hk4 cap N2 kk2 hk6 cap2 ea eb ec ej ek q';unfold cR;refine cA rfl (Z:=[FN<|t3 [a1,a2,a3] [b1,b2,b3] [c1,c2,c3],FN<|tW [r,s,t],FN<|tW [u,v,w]]) rfl<|aX<|aB<|aj<|ak rfl<|aj<|aB<|aj<|ak rfl<|aj<|ak rfl<|aq ?_
 refine hrt N kk hk4 cap ea eb ec ek fun x y z e=>aq ?_;exact hdt N2 kk2 hk6 cap2 ej e fun r2 e=>gF<|q' r2 e
def SzE (c0:Ar):Prop:=∀ {h:Gh} {a1 a2 a3 b1 b2 b3 c1 c2 c3:List Tm} {f1 f2 f3 g1 g2 g3 h1 h2 h3:Fn} {L b p n k k2 k3 k4:Nat} {Q:WK} {E:Cd},Nm L b b p p n n k->k2<=600->Ir L (p+p) (k+k) k2->Nm L (b+b+14) b (p+p) p k2 n k3->k3*3<=400->k4<=600->Ir L (p+p+p) (k3*3) k4 ->
 E3 L b p n f1 f2 f3 a1 a2 a3->E3 L b p n g1 g2 g3 b1 b2 b3->E3 L b p n h1 h2 h3 c1 c2 c3 ->
 (∀ e,Ev L (b+b+14+b+16) (p+p+p) k4 (fun xs=>(f2 xs*g3 xs - f3 xs*g2 xs)*h1 xs+(f3 xs*g1 xs - f1 xs*g3 xs)*h2 xs+(f1 xs*g2 xs - f2 xs*g1 xs)*h3 xs) e->Q (Bt e) h)->c0 [t3 [a1,a2,a3] [b1,b2,b3] [c1,c2,c3]] h Q E
variable {tu : Ar}
theorem zbM (htu:TuE tu):SzE (jD tu):=by
 intro h a1 a2 a3 b1 b2 b3 c1 c2 c3 f1 f2 f3 g1 g2 g3 h1 h2 h3 L b p n k k2 k3 k4 Q E N hk2 cap N2 kk hk4 cap2 ea eb ec q';unfold jD;refine cA rfl (Z:=[FN<|t3 [a1,a2,a3] [b1,b2,b3] [c1,c2,c3]]) rfl<|aX ?_
 refine aB<|aj<|aD<|ak rfl<|aU<|RG (i:=0) rfl<|aj<|aD<|ak rfl<|aU<|RG (i:=1) rfl ?_
 refine aj<|aD<|ak rfl<|aU<|RG (i:=2) rfl<|aq ?_
 exact htu N hk2 cap N2 kk hk4 cap2 ea eb ec fun e ee=>gF<|q' e ee
def Cl (L n:Nat):Prop:=L<=2/\n=4\/L<=8/\n=1
theorem Ir.box {k:Nat}(h:L<=2)(e:Pu ((p+1)*(p+1)) k=true):Ir L p n k:=.inr ⟨h,Vt e⟩
theorem Ir.few {k:Nat}(e:Pu n k=true):Ir L p n k:=.inl (Vt e)
theorem Nm.bx {c q k:Nat}(l:L<=2)(h:b+c+20<=1000/\n<=64/\m<=64/\p<=30/\q<=30/\k<=400/\Pu ((p+q+1)*(p+q+1)) k=true:=by decide):Nm L b c p q n m k:=⟨by lia,h.1,h.2.1,h.2.2.1,h.2.2.2.1,h.2.2.2.2.1,h.2.2.2.2.2.1,.box l h.2.2.2.2.2.2⟩
theorem Nm.fw {c q k:Nat}(l:L<=8)(h:b+c+20<=1000/\n<=64/\m<=64/\p<=30/\q<=30/\k<=400/\Pu (n*m) k=true:=by decide):Nm L b c p q n m k:=⟨l,h.1,h.2.1,h.2.2.1,h.2.2.2.1,h.2.2.2.2.1,h.2.2.2.2.2.1,.few h.2.2.2.2.2.2⟩
theorem Ih {A:List (List (List Tm))}(e:A[i]?=FN T)(x:Q (tW T) h):BJ (.lst (A.map tW)) (.int (i:Int)) h Q:=
 cJ (ws:=A.map tW) rfl (cL (by rw [Fv,e];rfl)) x
abbrev Sp (L n:Nat)(f g h:Fn)(x y z:List Tm):Prop:=E3 L 40 1 n f g h x y z
def crv (f1 f2 f3 g1 g2 g3 h1 h2 h3 j1 j2 j3 k1 k2 k3:Fn):List Fn:=
  let a1:Fn:=fun xs=>f2 xs*g3 xs - f3 xs*g2 xs;let a2:Fn:=fun xs=>f3 xs*g1 xs - f1 xs*g3 xs;let a3:Fn:=fun xs=>f1 xs*g2 xs - f2 xs*g1 xs
  let b1:Fn:=fun xs=>h2 xs*j3 xs - h3 xs*j2 xs;let b2:Fn:=fun xs=>h3 xs*j1 xs - h1 xs*j3 xs;let b3:Fn:=fun xs=>h1 xs*j2 xs - h2 xs*j1 xs
  let c1:Fn:=fun xs=>f2 xs*h3 xs - f3 xs*h2 xs;let c2:Fn:=fun xs=>f3 xs*h1 xs - f1 xs*h3 xs;let c3:Fn:=fun xs=>f1 xs*h2 xs - f2 xs*h1 xs
  let d1:Fn:=fun xs=>g2 xs*j3 xs - g3 xs*j2 xs;let d2:Fn:=fun xs=>g3 xs*j1 xs - g1 xs*j3 xs;let d3:Fn:=fun xs=>g1 xs*j2 xs - g2 xs*j1 xs
  let mo:Fn:=fun xs=>(a1 xs*k1 xs+a2 xs*k2 xs+a3 xs*k3 xs)*(b1 xs*k1 xs+b2 xs*k2 xs+b3 xs*k3 xs)
  let le:Fn:=fun xs=>(c1 xs*k1 xs+c2 xs*k2 xs+c3 xs*k3 xs)*(d1 xs*k1 xs+d2 xs*k2 xs+d3 xs*k3 xs)
  [fun xs=>c1 xs*d1 xs*mo xs - a1 xs*b1 xs*le xs,fun xs=>(c1 xs*d2 xs+c2 xs*d1 xs)*mo xs - (a1 xs*b2 xs+a2 xs*b1 xs)*le xs,fun xs=>c2 xs*d2 xs*mo xs - a2 xs*b2 xs*le xs,
   fun xs=>(c1 xs*d3 xs+c3 xs*d1 xs)*mo xs - (a1 xs*b3 xs+a3 xs*b1 xs)*le xs,fun xs=>(c2 xs*d3 xs+c3 xs*d2 xs)*mo xs - (a2 xs*b3 xs+a3 xs*b2 xs)*le xs,fun xs=>c3 xs*d3 xs*mo xs - a3 xs*b3 xs*le xs]
def CuE (c0:Ar):Prop:=∀ {h:Gh} {x1 x2 x3 y1 y2 y3 z1 z2 z3 u1 u2 u3 v1 v2 v3:List Tm} {f1 f2 f3 g1 g2 g3 h1 h2 h3 j1 j2 j3 k1 k2 k3:Fn} {L n:Nat} {Q:WK} {E:Cd},Cl L n ->
 Sp L n f1 f2 f3 x1 x2 x3->Sp L n g1 g2 g3 y1 y2 y3->Sp L n h1 h2 h3 z1 z2 z3->Sp L n j1 j2 j3 u1 u2 u3->Sp L n k1 k2 k3 v1 v2 v3 ->
 (∀ R,EL L 1000 40 600 (crv f1 f2 f3 g1 g2 g3 h1 h2 h3 j1 j2 j3 k1 k2 k3) R->Q (tW R) h)->c0 [.lst ([[x1,x2,x3],[y1,y2,y3],[z1,z2,z3],[u1,u2,u3],[v1,v2,v3]].map tW)] h Q E
theorem adW {st sm to:Ar}(hti:Qu ti)(hcr:CrE cr)(hdt:DoE dt)(hst:StE st)(hsm:SmE sm)(hto:ToE to):CuE (gP ti cr dt st sm to):=by
 intro h x1 x2 x3 y1 y2 y3 z1 z2 z3 u1 u2 u3 v1 v2 v3 f1 f2 f3 g1 g2 g3 h1 h2 h3 j1 j2 j3 k1 k2 k3 L n Q E cl ef eg eh ej ek q';have core:∀ {kc kd ke kf kg kh ki kj kk:Nat},Nm L 40 40 1 1 n n kc->kd<=600->Ir L (1+1) (kc+kc) kd->Nm L 94 40 (1+1) 1 kd n ke->ke*3<=400->kf<=600->Ir L (1+1+1) (ke*3) kf->Nm L 150 150 3 3 kf kf kg->Nm L 94 94 2 2 kd kd kh->kh<=ki->ki<=600->Ir L (2+2) (kh+kh) ki->Nm L 202 313 4 6 ki kg kj->kk<=600->Ir L 10 (kj+kj) kk ->
   gP ti cr dt st sm to [.lst ([[x1,x2,x3],[y1,y2,y3],[z1,z2,z3],[u1,u2,u3],[v1,v2,v3]].map tW)] h Q E:=fun {kc kd ke kf kg kh ki kj kk} N1 a1 a2 N2 a3 a4 a5 N3 N4 a6 a7 a8 N5 a9 a10=>by
  unfold gP;refine cA rfl (Z:=[FN<|.lst<|[[x1,x2,x3],[y1,y2,y3],[z1,z2,z3],[u1,u2,u3],[v1,v2,v3]].map tW,FX,FX,FX,FX,FX,FX]) rfl ?_;have ix:∀ {Z : Sw} {i:Nat} {T:List (List Tm)} {h:Gh} {Q:WK},Z[0]?=FN (FN (.lst ([[x1,x2,x3],[y1,y2,y3],[z1,z2,z3],[u1,u2,u3],[v1,v2,v3]].map tW)))->[[x1,x2,x3],[y1,y2,y3],[z1,z2,z3],[u1,u2,u3],[v1,v2,v3]][i]?=FN T->Q (tW T) h->AP BJ (aA 0) (mC (.int (i:Int))) Z h Q:=fun v0 e x=>aD (ak v0 (aU (Ih e x)))
  refine aH<|aP<|aB<|aj<|ix (i:=0) rfl rfl<|aj<|ix (i:=1) rfl rfl<|aq ?_
  refine hcr N1 a1 a2 ef eg fun p1 p2 p3 e1=>nV<|aY ?_
  refine aH<|aP<|aB<|aj<|ix (i:=2) rfl rfl<|aj<|ix (i:=3) rfl rfl<|aq ?_
  refine hcr N1 a1 a2 eh ej fun q1 q2 q3 e2=>nV<|aY ?_
  refine aH<|aP<|aB<|aj<|ix (i:=0) rfl rfl<|aj<|ix (i:=2) rfl rfl<|aq ?_
  refine hcr N1 a1 a2 ef eh fun r1 r2 r3 e3=>nV<|aY ?_
  refine aH<|aP<|aB<|aj<|ix (i:=1) rfl rfl<|aj<|ix (i:=3) rfl rfl<|aq ?_
  refine hcr N1 a1 a2 eg ej fun s1 s2 s3 e4=>nV<|aY ?_
  refine aH<|aP<|aB<|aj<|aB<|aj<|ak rfl<|aj<|ix (i:=4) rfl rfl<|aq ?_
  refine hdt N2 a3 a4 a5 e1 ek fun t1 b1=>aj<|aB<|aj<|ak rfl<|aj<|ix (i:=4) rfl rfl<|aq ?_
  refine hdt N2 a3 a4 a5 e2 ek fun t2 b2=>aq<|Oa hti N3 b1 b2 fun mo b3=>?_
  refine nV<|aY ?_
  refine aH<|aP<|aB<|aj<|aB<|aj<|ak rfl<|aj<|ix (i:=4) rfl rfl<|aq ?_
  refine hdt N2 a3 a4 a5 e3 ek fun t3' b4=>aj<|aB<|aj<|ak rfl<|aj<|ix (i:=4) rfl rfl<|aq ?_
  refine hdt N2 a3 a4 a5 e4 ek fun t4 b5=>aq<|Oa hti N3 b4 b5 fun le b6=>?_
  refine nV<|aY ?_
  refine aX<|aB<|aj<|aB<|aj<|aB<|aj<|ak rfl<|aj<|ak rfl<|aq ?_
  refine hto N4 a6 a7 a8 e3 e4 fun R1 c1=>aj<|ak rfl<|aq<|hst N5 (by have:=c1.length;simp at this;lia) c1 b3 fun R2 c2=>?_
  refine aj<|aB<|aj<|aB<|aj<|ak rfl<|aj<|ak rfl<|aq ?_
  refine hto N4 a6 a7 a8 e1 e2 fun R3 c3=>aj<|ak rfl<|aq<|hst N5 (by have:=c3.length;simp at this;lia) c3 b6 fun R4 c4=>aq ?_
  refine hsm (by decide) N5.hk a9 a10 (by have:=c2.length;simp at this;lia) (by have:=c2.length;have:=c4.length;simp at *;lia) c2 c4 fun R5 c5=>gF<|q' R5 ?_
  exact c5.le (by decide) (by decide)<|by lia
 rcases cl with ⟨l2,rfl⟩ | ⟨l8,rfl⟩
 ·exact core (kc:=9) (kd:=9) (ke:=16) (kf:=16) (kg:=49) (kh:=25) (ki:=25) (kj:=121) (kk:=121) (.bx l2) (by decide) (.box l2 rfl) (.bx l2) (by decide) (by decide) (.box l2 rfl) (.bx l2) (.bx l2) (by decide) (by decide) (.box l2 rfl) (.bx l2) (by decide)<|.box l2 rfl
 ·exact core (kc:=1) (kd:=2) (ke:=2) (kf:=6) (kg:=36) (kh:=4) (ki:=8) (kj:=288) (kk:=600) (.fw l8) (by decide) (.few rfl) (.fw l8) (by decide) (by decide) (.few rfl) (.fw l8) (.fw l8) (by decide) (by decide) (.few rfl) (.fw l8) (by decide)<|.few rfl
abbrev szF (f0 f1 f2 f3 f4 f5:Fn):Fn:=fun xs=>(f1 xs*f4 xs - f3 xs*(2*f2 xs))*f3 xs+(f3 xs*f1 xs - 2*f0 xs*f4 xs)*f4 xs+(2*f0 xs*(2*f2 xs) - f1 xs*f1 xs)*(2*f5 xs)
def XH (f0 f1 f2 f3 f4 f5 k1 k2 k3:Fn):List Fn:=
  [fun xs=>((2*f2 xs*(2*f5 xs) - f4 xs*f4 xs)*k1 xs+(f4 xs*f3 xs - f1 xs*(2*f5 xs))*k2 xs+(f1 xs*f4 xs - 2*f2 xs*f3 xs)*k3 xs)*szF f0 f1 f2 f3 f4 f5 xs,
   fun xs=>((f4 xs*f3 xs - 2*f5 xs*f1 xs)*k1 xs+(2*f5 xs*(2*f0 xs) - f3 xs*f3 xs)*k2 xs+(f3 xs*f1 xs - f4 xs*(2*f0 xs))*k3 xs)*szF f0 f1 f2 f3 f4 f5 xs,
   fun xs=>((f1 xs*f4 xs - f3 xs*(2*f2 xs))*k1 xs+(f3 xs*f1 xs - 2*f0 xs*f4 xs)*k2 xs+(2*f0 xs*(2*f2 xs) - f1 xs*f1 xs)*k3 xs)*szF f0 f1 f2 f3 f4 f5 xs]
abbrev Cv (L n:Nat)(f0 f1 f2 f3 f4 f5:Fn)(x0 x1 x2 x3 x4 x5:List Tm):Prop:=EL L 40 1 n [f0,f1,f2,f3,f4,f5] [x0,x1,x2,x3,x4,x5]
def PoE (c0:Ar):Prop:=∀ {h:Gh} {x0 x1 x2 x3 x4 x5 u v w:List Tm} {f0 f1 f2 f3 f4 f5 k1 k2 k3:Fn} {L n:Nat} {Q:WK} {E:Cd},Cl L n->Cv L n f0 f1 f2 f3 f4 f5 x0 x1 x2 x3 x4 x5->Sp L n k1 k2 k3 u v w ->
 (∀ R,EL L 1000 40 600 (XH f0 f1 f2 f3 f4 f5 k1 k2 k3) R->Q (tW R) h)->c0 [tW [x0,x1,x2,x3,x4,x5],tW [u,v,w]] h Q E
theorem Xg {st ta tr rt sz:Ar}(hst:StE st)(hta:TaE ta)(htr:TrE tr)(hrt:RtE rt)(hsz:SzE sz):PoE (jk st ta tr rt sz):=by
 intro h x0 x1 x2 x3 x4 x5 u v w f0 f1 f2 f3 f4 f5 k1 k2 k3 L n Q E cl ec ek q';have n4:n<=400:=by rcases cl with ⟨_,rfl⟩ | ⟨_,rfl⟩ <;> decide
 have core:∀ {kc kd ke kf kg:Nat},Nm L 41 41 1 1 n n kc->kd<=600->Ir L (1+1) (kc+kc) kd->Nm L 96 40 (1+1) 1 kd n ke->Nm L 96 41 (1+1) 1 kd n ke->ke*3<=400->kf<=600->Ir L (1+1+1) (ke*3) kf->Nm L 152 153 3 3 kf kf kg ->
   jk st ta tr rt sz [tW [x0,x1,x2,x3,x4,x5],tW [u,v,w]] h Q E:=fun {kc kd ke kf kg} N1 a1 a2 N2 N2' a3 a4 a5 N3=>by
  unfold jk;refine cA rfl (Z:=[FN<|tW [x0,x1,x2,x3,x4,x5],FN<|tW [u,v,w],FX]) rfl<|aH<|aP<|aB<|aj<|ak rfl<|aq ?_
  refine hta (by decide) n4 ec fun a d g e1 e2 e3=>nV<|aY ?_
  refine aX<|aB<|aj<|aB<|aj<|aB<|aj<|ak rfl<|aq ?_
  refine htr N1 a1 a2 e1 e2 e3 fun A B C eA eB eC=>?_;obtain ⟨p1,p2,p3,rfl,eA⟩:=eA;obtain ⟨q1,q2,q3,rfl,eB⟩:=eB;obtain ⟨r1,r2,r3,rfl,eC⟩:=eC;refine aj<|ak rfl<|aq<|hrt N2 a3 a4 a5 eA eB eC ek fun s1 s2 s3 es=>?_
  refine aj<|aB<|aj<|ak rfl<|aq<|hsz N1 a1 a2 N2' a3 a4 a5 e1 e2 e3 fun z ez=>aq ?_
  exact hst N3 (by simp) es.l ez fun R er=>gF<|q' R<|er.le (by decide) (by decide) (by have:=N3.hk;lia)
 rcases cl with ⟨l2,rfl⟩ | ⟨l8,rfl⟩
 ·exact core (kc:=9) (kd:=9) (ke:=16) (kf:=16) (kg:=49) (.bx l2) (by decide) (.box l2 rfl) (.bx l2) (.bx l2) (by decide) (by decide) (.box l2 rfl)<|.bx l2
 ·exact core (kc:=1) (kd:=2) (ke:=2) (kf:=6) (kg:=36) (.fw l8) (by decide) (.few rfl) (.fw l8) (.fw l8) (by decide) (by decide) (.few rfl)<|.fw l8
abbrev bo (f0 f1 f2 f3 f4 f5 j1 j2 j3 k1 k2 k3:Fn):Fn:=fun xs=>j1 xs*(2*f0 xs*k1 xs+f1 xs*k2 xs+f3 xs*k3 xs)+j2 xs*(f1 xs*k1 xs+2*f2 xs*k2 xs+f4 xs*k3 xs)+j3 xs*(f3 xs*k1 xs+f4 xs*k2 xs+2*f5 xs*k3 xs)
def UW (f0 f1 f2 f3 f4 f5 j1 j2 j3 k1 k2 k3:Fn):List Fn:=
 [fun xs=>j1 xs*bo f0 f1 f2 f3 f4 f5 k1 k2 k3 k1 k2 k3 xs - k1 xs*(2*bo f0 f1 f2 f3 f4 f5 j1 j2 j3 k1 k2 k3 xs),fun xs=>j2 xs*bo f0 f1 f2 f3 f4 f5 k1 k2 k3 k1 k2 k3 xs - k2 xs*(2*bo f0 f1 f2 f3 f4 f5 j1 j2 j3 k1 k2 k3 xs),fun xs=>j3 xs*bo f0 f1 f2 f3 f4 f5 k1 k2 k3 k1 k2 k3 xs - k3 xs*(2*bo f0 f1 f2 f3 f4 f5 j1 j2 j3 k1 k2 k3 xs)]
def OtE (c0:Ar):Prop:=∀ {h:Gh} {x0 x1 x2 x3 x4 x5 r s t u v w:List Tm} {f0 f1 f2 f3 f4 f5 j1 j2 j3 k1 k2 k3:Fn} {L n:Nat} {Q:WK} {E:Cd},Cl L n->Cv L n f0 f1 f2 f3 f4 f5 x0 x1 x2 x3 x4 x5->Sp L n j1 j2 j3 r s t->Sp L n k1 k2 k3 u v w ->
 (∀ R,EL L 1000 40 600 (UW f0 f1 f2 f3 f4 f5 j1 j2 j3 k1 k2 k3) R->Q (tW R) h)->c0 [tW [x0,x1,x2,x3,x4,x5],tW [r,s,t],tW [u,v,w]] h Q E
theorem adK {st sm db ta bo':Ar}(hst:StE st)(hsm:SmE sm)(hdb:DbE db)(hta:TaE ta)(hbo:BoE bo'):OtE (gG st sm db ta bo'):=by
 intro h x0 x1 x2 x3 x4 x5 r s t u v w f0 f1 f2 f3 f4 f5 j1 j2 j3 k1 k2 k3 L n Q E cl ec ej ek q';have n4:n<=400:=by rcases cl with ⟨_,rfl⟩ | ⟨_,rfl⟩ <;> decide
 have core:∀ {ka kb kc kd ke kf:Nat},Nm L 41 40 1 1 n n ka->ka*3<=400->kb<=600->Ir L (1+1) (ka*3) kb->Nm L 40 97 1 (1+1) n kb kc->kc*3<=400->kd<=64->Ir L (1+(1+1)) (kc*3) kd->Nm L 40 153 1 3 n kd ke->Nm L 40 154 1 3 n kd ke->kf<=600->Ir L 4 (ke+ke) kf ->
   gG st sm db ta bo' [tW [x0,x1,x2,x3,x4,x5],tW [r,s,t],tW [u,v,w]] h Q E:=fun {ka kb kc kd ke kf} N1 a1 a2 a3 N2 a4 a5 a6 N3 N3' a7 a8=>by
  unfold gG;refine cA rfl (Z:=[FN<|tW [x0,x1,x2,x3,x4,x5],FN<|tW [r,s,t],FN<|tW [u,v,w],FX,FX,FX]) rfl<|aH<|aP<|aB<|aj<|ak rfl<|aq ?_
  refine hta (by decide) n4 ec fun a d g e1 e2 e3=>nV<|aY ?_
  refine aH<|aP<|aB<|aj<|ak rfl<|aj<|ak rfl<|aj<|ak rfl<|aq ?_
  refine hbo N1 a1 a2 a3 N2 a4 (by lia) a6 e1 e2 e3 ek ek fun ow eo=>?_;refine nV<|aY ?_
  refine aH<|aP<|aB<|aj<|aB<|aj<|ak rfl<|aj<|ak rfl<|aj<|ak rfl<|aq ?_
  refine hbo N1 a1 a2 a3 N2 a4 (by lia) a6 e1 e2 e3 ej ek fun sh es=>aq<|hdb (by decide) (by lia) es fun sd ed=>?_
  refine nV<|aY ?_
  refine aX<|aB<|aj<|aB<|aj<|ak rfl<|aj<|ak rfl<|aq ?_
  refine hst N3 (by simp) ej.l eo fun R1 c1=>aj<|aB<|aj<|ak rfl<|aj<|ak rfl<|aq ?_
  refine hst N3' (by simp) ek.l ed fun R2 c2=>aq ?_;have l1:=c1.length;have l2:=c2.length;refine hsm (b:=207) (by decide) N3.hk a7 a8 (by simp at l1;lia) (by simp at l1 l2;lia) (c1.le (by decide) (by decide)<|Bp _) (c2.le (by decide) (by decide)<|Bp _) fun R3 c3=>gF<|q' R3 ?_
  exact c3.le (by decide) (by decide) a7
 rcases cl with ⟨l2,rfl⟩ | ⟨l8,rfl⟩
 ·exact core (ka:=9) (kb:=9) (kc:=16) (kd:=16) (ke:=25) (kf:=25) (.bx l2) (by decide) (by decide) (.box l2 rfl) (.bx l2) (by decide) (by decide) (.box l2 rfl) (.bx l2) (.bx l2) (by decide)<|.box l2 rfl
 ·exact core (ka:=1) (kb:=3) (kc:=3) (kd:=9) (ke:=9) (kf:=18) (.fw l8) (by decide) (by decide) (.few rfl) (.fw l8) (by decide) (by decide) (.few rfl) (.fw l8) (.fw l8) (by decide)<|.few rfl
def AtX (c0:Ar):Prop:=∀ {h:Gh} {ts:List Tm} {xs:List Int} {L:Nat} {Q:WK} {E:Cd},L<=8->(∀ t∈ts,t.1.length=L/\Sm 1000 t.2/\Pw t.1)->xs.length=L->Bd xs->Q (.int (wo ts xs L ts.length)) h->c0 [Bt ts,.tup (xs.map .int)] h Q E
theorem sV:∀ n:Nat,((rng 0 n).map fun x:Nat=>W.int (x:Int)).length=n:=fun n=>by unfold rng;rw [Bx,V9];lia
theorem X3:AtX Cy:=by
 intro h ts xs L Q E hL wf hx bx q;unfold Cy;refine cA rfl (Z:=[FN<|Bt ts,FN<|.tup<|xs.map .int,FX,FX,FX,FX,FX,FX]) rfl<|aH<|aP<|aU ?_
 refine nV<|aY ?_
 refine aH ?_;refine mq (ws:=ts.map JR) rfl ?_;refine cY (fun i Z h'=>h'=h/\∃ s3 s4 s5 s6 s7:Option W,Z = [FN<|Bt ts,FN<|.tup<|xs.map .int,FN<|.int<|wo ts xs L i,s3,s4,s5,s6,s7]) ?_ ?_ ⟨rfl,FX,FX,FX,FX,FX,rfl⟩
 ·rintro i w Z h' N hN e ⟨rfl,s3,s4,s5,s6,s7,rfl⟩;rw [Fv] at e;cases qe:ts[i]? with
  | none=>rw [qe] at e;cases e
  | some t=>
   rw [qe] at e;cases e;have mt:=K4 qe;obtain ⟨w1,w2,w3⟩:=wf t mt;have et:ts.getD i ([],0)=t:=by rw [Nt,qe];rfl
   refine iR rfl rfl<|bZ<|nV ?_
   refine bZ<|nV ?_
   refine jV ?_;refine aH<|g8<|qT<|aj<|ak rfl<|aj<|ak rfl<|aq ?_
   refine Ca (as:=t.1.map .int) (bs:=xs.map .int) rfl rfl rfl<|iz ?_
   have lz:(m6 (t.1.map W.int) (xs.map W.int)).length=L:=by rw [nO,Bx,Bx];lia
   refine cY (fun j Z h1=>h1=h'/\∃ s5 s6 s7:Option W,Z = [FN<|Bt ts,FN<|.tup<|xs.map .int,FN<|.int<|wo ts xs L i,FN<|.tup<|t.1.map .int,FN<|.int<|t.2*mo t.1 xs j,s5,s6,s7]) ?_ ?_ ⟨rfl,s5,s6,s7,by rw [mo,Int.mul_one]⟩
   ·rintro j w Z h1 N' hN' e' ⟨rfl,s5,s6,s7,rfl⟩;obtain ⟨a,b,ea,eb,rfl⟩:=nJ e';have hj:j<L:=by have:=(K5.mp e').1;rw [lz] at this;exact this
    rw [Fv,Gz (by lia)] at ea eb;have eg:t.1.getD j 0=t.1[j]'(by lia):=by rw [Nt,Gz (by lia)];rfl
    have ex:xs.getD j 0=xs[j]'(by lia):=by rw [Nt,Gz (by lia)];rfl
    cases ea;cases eb;rw [<-eg,<-ex];obtain ⟨b0,b1⟩:=w3.get j;have en:t.1.getD j 0=(((t.1.getD j 0).toNat:Nat):Int):=by lia
    refine iR rfl rfl<|bZ<|nV ?_
    refine bZ<|nV ?_
    refine jV ?_;refine g8<|mG<|aj<|ak rfl<|aq ?_
    rw [en];refine BK (by lia)<|iz ?_
    rw [<-en];refine cY (fun a Z h2=>h2=h1/\a<=60/\∃ s7:Option W,Z = [FN<|Bt ts,FN<|.tup<|xs.map .int,FN<|.int<|wo ts xs L i,FN<|.tup<|t.1.map .int,FN<|.int<|t.2*mo t.1 xs j*xs.getD j 0^a,FN<|.int<|t.1.getD j 0,FN<|.int<|xs.getD j 0,s7]) ?_ ?_ ⟨rfl,Ja _,s7,by rw [Int.pow_zero,Int.mul_one]⟩
    ·rintro a w Z h2 N2 hN2 e2 ⟨rfl,a0,s7,rfl⟩;have ha:a<(t.1.getD j 0).toNat:=by have:=(K5.mp e2).1;rw [sV] at this;exact this
     refine nV ?_;refine aP<|aD<|ak rfl<|ak rfl ?_
     refine bG (.of (G9 (G9 w2<|Q0 bx w3 j)<|DK a<|bx.get j) (bx.get j) (by lia)<|by decide) ?_;exact lD (Z':=[FN<|Bt ts,FN<|.tup<|xs.map .int,FN<|.int<|wo ts xs L i,FN<|.tup<|t.1.map .int,FN<|.int<|t.2*mo t.1 xs j*xs.getD j 0^(a+1),FN<|.int<|t.1.getD j 0,FN<|.int<|xs.getD j 0,FN w]) (by rw [Int.pow_succ,<-Int.mul_assoc];rfl)<|aY<|hN2 _ _ ⟨rfl,by lia,_,rfl⟩
    ·rintro Z h2 ⟨rfl,a0,s7,rfl⟩;rw [sV];exact aY<|hN' _ _ ⟨rfl,FN<|.int<|t.1.getD j 0,FN<|.int<|xs.getD j 0,s7,by rw [mo,Int.mul_assoc]⟩
   ·rintro Z h1 ⟨rfl,s5,s6,s7,rfl⟩;rw [lz];refine aY<|aP<|aD<|ak rfl<|ak rfl<|fC ?_
    exact lD (Z':=[FN<|Bt ts,FN<|.tup<|xs.map .int,FN<|.int<|wo ts xs L<|i+1,FN<|.tup<|t.1.map .int,FN<|.int<|t.2*mo t.1 xs L,s5,s6,s7]) (by rw [wo,et];rfl)<|aY<|hN _ _ ⟨rfl,_,_,_,_,_,rfl⟩
 ·rintro Z h' ⟨rfl,s3,s4,s5,s6,s7,rfl⟩;rw [Bx];unfold zB;exact aY<|aX<|ak rfl<|gF q
theorem XC {l:List Int}(x:Q (.bl (decide (k<l))) h):Vb (.tup (k.map .int)) (.tup (l.map .int)) h Q:=by
 unfold Vb;rw [qZ,qZ];exact x
theorem Lg (x:Q (.bl (!Jl w)) h):FQ w .non h Q:=by cases w <;> exact x
theorem Fg {us:List W}(x:Q (.lst us) h):uY [.tup us] h Q:=x
theorem Mw {a b:List W}(hz:a.length+b.length<=1000)(x:Q (.lst (a++b)) h):dN (.lst a) (.lst b) h Q:=fG.mk (CW hz (by decide:1000<=Dp)) x
def GoX (c0:Ar):Prop:=∀ {h:Gh} {ts:List Tm} {L:Nat} {Q:WK} {E:Cd},L<=8->ts.length<=1000->(ts.map (·.1)).Pairwise (· < ·)->(∀ t∈ts,t.1.length=L/\t.2≠0/\∀ p∈t.1,0<=p)->Q (.bl true) h->c0 [Bt ts,.int (L:Int)] h Q E
theorem afs:GoX jg:=by
 intro h ts L Q E hL hz JT wf q;unfold jg;refine cA rfl (Z:=[FN<|Bt ts,FN<|.int (L:Int),FX,FX,FX]) rfl<|aH<|aZ<|mO<|iY<|bL<|aj<|ak rfl<|aj<|aU<|aq<|oR (b:=true) rfl<|EY rfl<|gj rfl<|aW<|aY ?_
 unfold jw;refine aH<|aP<|aU<|nV<|aY ?_
 refine aH ?_;refine mq (ws:=ts.map JR) rfl ?_;refine cY (fun i Z h'=>h'=h/\i<=ts.length/\∃ (a:W) (s3 s4:Option W),Z = [FN<|Bt ts,FN<|.int (L:Int),FN a,s3,s4]/\(a=.non\/∃ (j:Nat) (t:Tm),j+1=i/\ts[j]?=FN t/\a=.tup (t.1.map .int))) ?_ ?_ ⟨rfl,Ja _,.non,FX,FX,rfl,.inl rfl⟩
 ·rintro i w Z h' N hN e ⟨rfl,_,a,s3,s4,rfl,ha⟩;rw [Fv] at e;cases qe:ts[i]? with
  | none=>rw [qe] at e;cases e
  | some t=>
   rw [qe] at e;cases e;have hi:=(K5.mp qe).1;obtain ⟨w1,w2,w3⟩:=wf t (K4 qe);refine nV ?_;refine aH<|aZ ?_
   have ix0:∀ {s4:Option W} {R:WK},R (.tup (t.1.map .int)) h'->AP BJ (aA 3) (mC (.int 0)) [FN (Bt ts),FN (.int (L:Int)),FN a,FN (JR t),s4] h' R:=fun x=>aD (ak rfl (aU (cJ (ws:=[.tup (t.1.map .int),.int t.2]) (w:=.tup (t.1.map .int)) rfl rfl x)))
   have ix1:∀ {s4:Option W} {R:WK},R (.int t.2) h'->AP BJ (aA 3) (mC (.int 1)) [FN (Bt ts),FN (.int (L:Int)),FN a,FN (JR t),s4] h' R:=fun x=>aD (ak rfl (aU (cJ (ws:=[.tup (t.1.map .int),.int t.2]) (w:=.int t.2) rfl rfl x)))
   refine jN<|mO<|iY<|bL<|aj<|ak rfl<|aj<|aU<|aq<|oR (b:=true) rfl<|EY rfl<|gj rfl ?_
   refine jN<|aN<|aD<|bL<|aj<|ak rfl<|aq<|fJ (xs:=[.tup<|t.1.map .int,.int t.2]) rfl<|aU<|xM<|dD<|gj rfl ?_
   refine jN<|mO<|iY<|bL<|aj<|ix0<|aj<|aU<|aq<|oR (b:=true) rfl<|EY rfl<|gj rfl ?_
   refine aN<|aD<|bL<|aj<|ix0<|aq<|fJ (xs:=t.1.map .int) rfl<|ak rfl<|xM<|dD<|gj (by rw [Bx,w1];simp) ?_
   refine aW<|aY<|aH<|g8<|fY<|aD<|bL<|aj<|ix0<|aq<|Fg ?_
   refine iG<|aj<|ix1<|aq<|bC rfl<|Mw (by rw [Bx];show t.1.length+1<=1000;lia) ?_
   have el:(t.1.map W.int++[W.int t.2])=(t.1++[t.2]).map .int:=by rw [Gp];rfl
   rw [el];refine ql (ws:=(t.1++[t.2]).map .int) (o:=FX) rfl<|iz ?_
   refine cY (fun j Z h1=>h1=h'/\∃ s4:Option W,Z = [FN<|Bt ts,FN<|.int (L:Int),FN a,FN<|JR t,s4]) ?_ ?_ ⟨rfl,s4,rfl⟩
   ·rintro j w Z h1 N' hN' e' ⟨rfl,s4,rfl⟩;obtain ⟨n,en,rfl⟩:=Jh e';refine nV ?_;refine aZ ?_;refine jN<|mO<|iY<|bL<|aj<|ak rfl<|aj<|aU<|aq<|oR (b:=true) rfl<|EY rfl<|gj rfl ?_
    exact iY<|bL<|aj<|ak rfl<|aj<|aU<|aq<|oR (b:=false) rfl<|EY rfl<|gj rfl<|aW<|hN' _ _ ⟨rfl,_,rfl⟩
   ·rintro Z h1 ⟨rfl,s4,rfl⟩;refine aY<|aH<|aZ<|jN<|aN<|aD<|bL<|aj<|aD<|iG<|aj<|aU<|aq<|bC rfl ?_
    refine bL<|aj<|ix0<|aq<|Fg<|Mw (by rw [Bx];show 1+t.1.length<=1000;lia)<|aq ?_
    refine ⟨0::t.1,rfl,by simp,fun M hM ml=>aU<|U6<|dD<|gj ?_ ?_⟩
    ·have:0<=M:=by
      rcases G7.mp hM with rfl | hM
      ·exact Int.le_refl _
      ·exact w3 M hM
     simp;lia
    refine jN<|aN<|aD<|ix1<|aU<|uD<|dD<|gj (by simp [w2]) ?_
    have fin:bK (AP BJ (aA 3) (mC (.int 0))) (kI 2) { nx:=N,rt:=Q,ct:=N,bk:=fW E { nx:=fun _ h'=>Q .non h',rt:=Q } } [FN (Bt ts),FN (.int (L:Int)),FN a,FN (JR t),s4] h1:=by
     refine aP<|ix0<|nV<|aY ?_
     refine hN _ _ ⟨rfl,hi,_,_,_,rfl,.inr ⟨i,t,rfl,qe,rfl⟩⟩
    rcases ha with rfl | ⟨j,u,ej,eu,rfl⟩
    ·exact HJ<|aN<|aD<|ak rfl<|aU<|Lg<|dD<|gj rfl<|wA<|aW<|aY fin
    ·refine HJ<|aN<|aD<|ak rfl<|aU<|Lg<|dD<|Cq rfl ?_
     have lt:u.1<t.1:=by
      have hj:=(K5.mp eu).1;have:=Vz.mp JT j i (by rw [Bx];lia) (by rw [Bx];lia) (by lia)
      rw [List.getElem_map,List.getElem_map,(K5.mp eu).2,(K5.mp qe).2] at this;exact this
     refine mO<|aN<|aD<|ak rfl<|ix0<|XC<|dD<|gj (by rw [decide_eq_true lt];rfl)<|aW<|aY fin
 ·rintro Z h' ⟨rfl,_,a,s3,s4,rfl,_⟩;unfold fW;exact aY<|aX<|aU<|gF q
def Xr (L:Nat)(ps:List Tm):Prop:=(ps.map (·.1)).Nodup/\ps.length<=3/\(2<L->ps.length<=1)/\∀ t∈ps,t.1.length=L/\Sm 40 t.2/\∀ q∈t.1,0<=q/\q<=1
def Wq (c0:Ar):Prop:=∀ {h:Gh} {b L:Nat} {top:Int} {Q:WK} {E:Cd},Jd h b->L<=8->L≠1->0<=top->top<=1000000000->(∀ ps h',Xr L ps->Jd h' b->Ke b h h'->Q (.lst (ps.map QM)) h')->c0 [.loc b,.int (L:Int),.int top] h Q E
def un (l L:Nat):List Int:=(Oo L).map fun k=>if k=l then 1 else 0
theorem afe {l:Nat}(ea:acc=(un l i).map .int):acc++[.int (if i=l then 1 else 0)]=(un l (i+1)).map .int:=by
 rw [ea];unfold un;rw [List.range_succ,Gp,Gp];rfl
theorem Sx {c:Int}(hL:L<=8)(q:Q (.tup ((Gs L c).map .int)) h):vf (.tup [.int c]) (.int (L:Int)) h Q:=by
 have fl:∀ k:Nat,(Gs k [W.int c]).flatten=(Gs k c).map .int:=fun k=>by
  induction k with
  | zero=>rfl
  | succ k ih=>rw [Rg,Rg,U9,ih];rfl
 have eL:(L:Int).toNat=L:=by lia
 refine ⟨⟨by lia,by lia,by rw [eL];simp;lia⟩,?_⟩;rw [eL,fl];exact q
theorem QZ (l L:Nat):(un l L).length=L/\∀ q∈un l L,0<=q/\q<=1:=by
 refine ⟨by unfold un;simp,fun q hq=>?_⟩;unfold un at hq;obtain ⟨k,_,rfl⟩:=GX.mp hq;split <;> decide
theorem Af {c:Int}(L:Nat)(h:0<=c/\c<=1):(Gs L c).length=L/\∀ q∈Gs L c,0<=q/\q<=1:=⟨by simp,fun q hq=>by rw [List.eq_of_mem_replicate hq];exact h⟩
theorem zH {n:Int}(hk:k.length=L/\∀ q∈k,0<=q/\q<=1)(hn:Sm 40 n):Xr L [(k,n)]:=by
 refine ⟨by simp,by simp,by simp,fun t ht=>?_⟩;rw [Jr.mp ht];exact ⟨hk.1,hn,hk.2⟩
theorem afD {l:Nat}(hl:l<2):un l 2≠[0,0]/\un l 2≠[1,1]:=by
 match l,hl with
 | 0,_=>decide
 | 1,_=>decide
variable {dr : Ar}
theorem afG (hdr:nU dr):Wq (tR dr):=by
 intro h b L top Q E hb hL h1 t0 t1 q';have sm:∀ {n:Int},-2000000000<=n->n<=3000000000->Sm 40 n:=fun {n} a b=>(GD (n:=35) (by lia) (by lia)).mono (by decide)
 have sm6:∀ {n:Int},-2000000000<=n->n<=3000000000->Sm 60 n:=fun {n} a b=>(GD (n:=35) (by lia) (by lia)).mono (by decide)
 unfold tR;refine cA rfl (Z:=[FN<|.loc b,FN<|.int (L:Int),FN<|.int top,FX,FX,FX,FX,FX]) rfl<|aH<|aP<|aB<|aj<|ak rfl<|aj<|aU<|aq ?_
 refine hdr hb (by decide) (sm6 (by decide)<|by decide) fun way ha w0 w1 ba oa=>nV<|aY ?_
 refine aH<|aP<|aD<|aB<|aj<|ak rfl<|aj<|aD<|aD<|aU<|ak rfl<|bG (.of (m:=64) (.lit rfl) (sm6 (n:=top) (by lia)<|by lia) (by decide)<|by decide)<|aU<|fC<|aq ?_
 refine hdr ba (by lia) (sm6 (by lia)<|by lia) fun d hc d0 d1 bc oc=>ak rfl<|eO<|nV<|aY ?_
 have sn:Sm 40 (d - top):=sm (by lia) (by lia);have o2:=oa.trans oc;have zero:∀ {Z : Sw} {h:Gh} {R:WK},Z[1]?=FN (FN (.int (L:Int)))->R (.tup ((Gs L (0:Int)).map .int)) h->AP vf (je (ao (mC (.int 0)) aL)) (aA 1) Z h R:=fun v x=>aD (cQ (aj (aU (aq (bC rfl (ak v (Sx hL x)))))))
 refine aH<|aZ<|jN<|aN<|aD<|ak rfl<|aU<|uD<|dD ?_
 have first:cF (lA (ao (je (ao (AP vf (je (ao (mC (.int 0)) aL)) (aA 1)) (ao (aA 4) aL))) aL)) { nx:=lU dr E { nx:=fun _ h'=>Q .non h',rt:=Q },rt:=Q } [FN (.loc b),FN (.int (L:Int)),FN (.int top),FN (.int way),FN (.int (d - top)),FX,FX,FX] hc:=
  aX (iG (aj (cQ (aj (zero rfl (aj (ak rfl (aq (bC rfl (aq (bC rfl (gF (q' [(Gs L 0,d - top)] hc (zH (Af L (by decide)) sn) bc o2)))))))))))))
 refine v8 (fun _=>BW first) fun nw=>aN<|aD<|ak rfl<|aU<|uD<|dD<|v8 (fun _=>first) fun nl=>aW<|aY ?_
 unfold lU;refine aH<|aP<|aB<|aj<|ak rfl<|aj<|ak rfl<|aq ?_
 refine hdr bc (by lia) (sm6 (by lia)<|by lia) fun l he l0 l1 be oe=>?_;obtain ⟨l,rfl⟩:=Wj l0;have o3:=o2.trans oe;refine nV<|aY ?_
 refine aH<|aP<|bL<|aj ?_
 refine afS (j:=(L:Int)) (fun R=>rfl) (by lia) (by lia) (CW (m:=1000) (by lia)<|by decide) (fun i acc g=>g=he/\acc=(un l i).map .int) ?_ ?_ ⟨rfl,rfl⟩
 ·rintro i acc g N hN hi ⟨rfl,ea⟩;refine ⟨[.int (i:Int)],rfl,bH<|bD<|bL<|aj<|aD<|ak rfl<|ak rfl<|uD<|aq<|Aa<|hN _ _ ⟨rfl,?_⟩⟩;rw [<-afe ea];by_cases c:i=l
  ·rw [if_pos c,decide_eq_true (by lia)];rfl
  ·rw [if_neg c,decide_eq_false (by lia)];rfl
 ·rintro acc g ⟨rfl,rfl⟩;have eL:(L:Int).toNat=L:=by lia
  rw [eL];refine aq<|bW<|nV<|aY ?_
  refine aH<|aZ<|jN<|aN<|aD<|ak rfl<|aU<|xG<|dD ?_
  have sec:cF (lA (ao (je (ao (aA 6) (ao (aA 4) aL))) aL)) { nx:=mz dr E { nx:=fun _ h'=>Q .non h',rt:=Q },rt:=Q } [FN (.loc b),FN (.int (L:Int)),FN (.int top),FN (.int way),FN (.int (d - top)),FN (.int (l:Int)),FN (.tup ((un l L).map .int)),FX] g:=
   aX (iG (aj (cQ (aj (ak rfl (aj (ak rfl (aq (bC rfl (aq (bC rfl (gF (q' [(un l L,d - top)] g (zH (QZ l L) sn) be o3)))))))))))))
  refine v8 (fun _=>BW sec) fun g2=>aN<|aD<|ak rfl<|aU<|uD<|dD<|v8 (fun _=>sec) fun nw1=>aW<|aY ?_
  have L2:L=2:=by lia
  subst L2;obtain ⟨u0,u1⟩:=afD (l:=l) (by lia);unfold mz;refine aH<|aP<|aD<|cQ<|aj<|aU<|aq<|bC rfl<|ak rfl<|Sx hL ?_
  refine nV<|aY ?_
  refine aH<|aZ<|aN<|aD<|ak rfl<|aU<|uD<|dD ?_
  have tz:∀ {k:List Int} {n:Int} {ps:List Tm},k∉ps.map (·.1)->(k.length=2/\∀ q∈k,0<=q/\q<=1)->Sm 40 n->Xr 2 ps->ps.length<=2->Xr 2 ((k,n)::ps):=fun {k n ps} nk hk hn hp hl=>⟨by rw [Bu,Qj];exact ⟨nk,hp.1⟩,by rw [Iw];lia,fun h=>absurd h (by decide),fun t ht=>by
   rcases G7.mp ht with rfl | ht
   ·exact ⟨hk.1,hn,hk.2⟩
   ·exact hp.2.2.2 t ht⟩
  refine v8 (fun _=>?_) fun _=>aW<|aY ?_
  ·refine aX<|iG<|aj<|cQ<|aj<|zero rfl<|aj<|ak rfl<|aq<|bC rfl ?_
   refine aj<|cQ<|aj<|ak rfl<|aj<|aD<|aB<|aj<|ak rfl<|aj<|aU<|aq ?_
   refine hdr be (by decide) (sm6 (by decide)<|by decide) fun d2 hf e0 e1 bf of=>aU<|eO<|aq<|bC rfl<|aq<|bC rfl<|gF<|q' [([0,0],d - top),(un l 2,d2 - 2)] hf ?_ bf<|o3.trans of
   exact tz (by simpa using Im u0) (Af (c:=0) 2<|by decide) sn (zH (QZ l 2)<|sm (by lia)<|by lia)<|by simp
  ·unfold lO;refine aX<|iG<|aj<|cQ<|aj<|zero rfl<|aj<|aD<|aB<|aj<|ak rfl<|aj<|aU<|aq ?_
   refine hdr be (by decide) (sm6 (by decide)<|by decide) fun d2 hf e0 e1 bf of=>aU<|eO<|aq<|bC rfl ?_
   refine aj<|cQ<|aj<|ak rfl<|aj<|ak rfl<|aq<|bC rfl ?_
   refine aj<|cQ<|aj<|ak rfl<|aj<|aD<|aB<|aj<|ak rfl<|aj<|aU<|aq ?_
   refine hdr bf (by decide) (sm6 (by decide)<|by decide) fun d3 hg e2 e3 bg og=>aU<|eO<|aq<|bC rfl<|aq<|bC rfl<|gF<|q' [([0,0],d2 - 2),(un l 2,d - top),([1,1],d3 - 1)] hg ?_ bg<|(o3.trans of).trans og
   exact tz (by simp;exact Im u0) (Af (c:=0) 2<|by decide) (sm (by lia)<|by lia) (tz (by simpa using u1) (QZ l 2) sn (zH (Af (c:=1) 2<|by decide)<|sm (by lia)<|by lia)<|by simp)<|by simp
def zaG (b:Nat)(h h':Gh):Prop:=h.nx<=h'.nx/\∀ m,m<h.nx->m≠b->h'.c m=h.c m
def Bb (s:Str):Nat:=if s = "curve" then 6 else 3
def ThX (c0:Ar):Prop:=∀ {h:Gh} {b L n:Nat} {s:Str} {top:Int} {Q:WK} {E:Cd},Jd h b->b<h.nx->L<=8->L≠1->0<=top->top<=1000000000->(3<=n\/2<L/\1<=n) ->
 (∀ T h',T.length=Bb s->(∀ us∈T,Mb L 40 1 n us)->Jd h' b->zaG b h h'->Q (tW T) h')->c0 [.loc b,.int (L:Int),.str s,.int top] h Q E
theorem M5 (x:Q (.int (3*(if c then 1 else 0))) h):Am (.int 3) (.int (if c then 1 else 0)) h Q:=by
 exact ⟨.inr<|.inl<|.lit rfl,x⟩
variable {pa : Ar}
theorem adb (hpa:Wq pa):ThX (oG pa):=by
 intro h b L n s top Q E hb bl hL h1 t0 t1 hn q';unfold oG;refine cA rfl (Z:=[FN<|.loc b,FN<|.int (L:Int),FN<|.str s,FN<|.int top,FX,FX]) rfl<|aH<|aP<|sU (ws:=[]) (fun R=>rfl) rfl fun g eg og xg=>?_
 refine nV<|aY ?_
 refine aH ?_;refine g8<|mG<|aj<|aD<|aU<|aD<|aU<|bL<|aj<|aD<|ak rfl<|aU<|cI<|aq<|Aa<|M5<|fC<|aq ?_
 have em:(3:Int)+3*(if decide (s = "curve") then 1 else 0)=((Bb s:Nat):Int):=by
  unfold Bb;by_cases c:s = "curve"
  ·rw [if_pos c,decide_eq_true c];rfl
  ·rw [if_neg c,decide_eq_false c];rfl
 rw [em];have nb:b≠h.nx:=G3 bl;have n6:Bb s<=6:=by unfold Bb;split <;> decide
 refine BK (by lia)<|iz ?_
 have bg:Jd g b:=by
  obtain ⟨x,y,e,r⟩:=hb;exact ⟨x,y,by rw [og b nb];exact e,r⟩
 refine cY (fun i Z h'=>∃ (T:List (List Tm)) (s5:Option W),Z = [FN<|.loc b,FN<|.int (L:Int),FN<|.str s,FN<|.int top,FN<|.loc h.nx,s5]/\h'.c h.nx=FN (.lst<|T.map Bt)/\T.length=i/\(∀ us∈T,Mb L 40 1 n us)/\Jd h' b/\h'.nx=h.nx+1/\∀ m,m<h.nx->m≠b->h'.c m=h.c m) ?_ ?_ ⟨[],FX,rfl,eg,rfl,fun _ h=>(nomatch h),bg,xg,fun m hm _=>og m<|G3 hm⟩
 ·rintro i w Z h' N hN e ⟨T,s5,rfl,e2,lT,mT,b2,x2,o2⟩;have hi:i<Bb s:=by have:=(K5.mp e).1;rw [sV] at this;exact this
  refine nV ?_;refine mH<|Ae<|ak rfl<|su e2<|aj<|bL<|aj<|bL<|aj<|gn<|fY<|aB<|aj<|ak rfl<|aj<|ak rfl<|aj<|ak rfl<|aq ?_
  refine hpa b2 hL h1 t0 t1 fun ps h3 ok b3 o3=>ql (ws:=ps.map QM) (o:=FX) rfl<|fG.mk (CW (m:=1000) (by rw [Bx];have:=ok.2.1;lia)<|by decide) ?_
  refine dF (fun j acc g'=>g'=h3/\acc=((ps.take j).filter fun t=>decide<|t.2≠0).map QM) ?_ ?_ ⟨rfl,rfl⟩
  ·rintro j w acc g' N' hN' e' ⟨rfl,rfl⟩;rw [Fv] at e';cases qe:ps[j]? with
   | none=>rw [qe] at e';cases e'
   | some t=>
    rw [qe] at e';cases e'
    have tk:((ps.take (j+1)).filter fun t=>decide (t.2≠0))=((ps.take j).filter fun t=>decide (t.2≠0))++([t].filter fun t:Tm=>decide (t.2≠0)):=by
     rw [Ji,qe,List.filter_append];rfl
    refine ⟨[QM t],rfl,aN<|aD<|aD<|ak rfl<|aU<|cJ (ws:=[.tup<|t.1.map .int,.int t.2]) (w:=.int t.2) rfl rfl<|aU<|xM<|dD ?_⟩;refine Rp (fun ne=>ak rfl<|hN' _ _ ⟨rfl,?_⟩) fun ne=>hN' _ _ ⟨rfl,?_⟩
    ·rw [tk,Uj,if_pos (by simpa using ne),Gp];rfl
    ·rw [tk,Uj,if_neg (by simpa using ne)];simp
  ·rintro acc g' ⟨rfl,rfl⟩;rw [Bx,K3];refine aq ⟨ps.filter fun t=>decide<|t.2≠0,rfl,ok.1.sublist<|List.filter_sublist.map _,fun rs pr sr=>aq<|bW<|aq ?_⟩;have e3:g'.c h.nx=FN (.lst (T.map Bt)):=by rw [o3.2 h.nx (Im nb)];exact e2
   have mr:Mb L 40 1 n rs:=by
    refine ⟨?_,sr,fun t ht=>?_⟩
    ·have l1:rs.length<=ps.length:=by rw [pr.length_eq];exact List.length_filter_le _ _
     have l3:=ok.2.1;rcases hn with hn | ⟨hn,hn1⟩
     ·lia
     ·have:=ok.2.2.1 hn
      lia
    ·have m1:=List.mem_filter.mp (pr.mem_iff.mp ht);obtain ⟨c1,c2,c3⟩:=ok.2.2.2 t m1.1;exact ⟨c1,by simpa using m1.2,c2,c3⟩
   refine Ju e3 (by rw [Bx];lia) fun g2 a1 a2 a3=>aY<|hN _ _ ⟨T++[rs],_,rfl,by rw [a1,Gp];rfl,by simp [lT],fun us hu=>?_,?_,by rw [a3,o3.1];exact x2,fun m hm mb=>?_⟩
   ·rcases Jx.mp hu with hu | hu
    ·exact mT us hu
    ·rw [Jr.mp hu];exact mr
   ·obtain ⟨x,y,e,r⟩:=b3;exact ⟨x,y,by rw [a2 b nb];exact e,r⟩
   ·rw [a2 m (G3 hm),o3.2 m mb];exact o2 m hm mb
 ·rintro Z h' ⟨T,s5,rfl,e2,lT,mT,b2,x2,o2⟩;rw [sV] at lT;unfold pU;refine aY<|aX<|bL<|aj<|ak rfl<|aq ?_
  show (match dX h' (.loc h.nx) with
   | some us=>_
   | none=>False)
  rw [uy e2];exact q' T h' lT mT b2 ⟨by lia,o2⟩
inductive Rw (L n:Nat):Str->List (List (List Tm))->List Fn->Prop
 | join {x:Str} {f1 f2 f3 g1 g2 g3:Fn} {x1 x2 x3 y1 y2 y3:List Tm}:(x = "join"\/x = "meet")->Sp L n f1 f2 f3 x1 x2 x3->Sp L n g1 g2 g3 y1 y2 y3->Rw L n x [[x1,x2,x3],[y1,y2,y3]] [fun xs=>f2 xs*g3 xs - f3 xs*g2 xs,fun xs=>f3 xs*g1 xs - f1 xs*g3 xs,fun xs=>f1 xs*g2 xs - f2 xs*g1 xs]
 | curve {f1 f2 f3 g1 g2 g3 h1 h2 h3 j1 j2 j3 k1 k2 k3:Fn} {x1 x2 x3 y1 y2 y3 z1 z2 z3 u1 u2 u3 v1 v2 v3:List Tm}:Sp L n f1 f2 f3 x1 x2 x3->Sp L n g1 g2 g3 y1 y2 y3->Sp L n h1 h2 h3 z1 z2 z3->Sp L n j1 j2 j3 u1 u2 u3->Sp L n k1 k2 k3 v1 v2 v3->Rw L n "curve" [[x1,x2,x3],[y1,y2,y3],[z1,z2,z3],[u1,u2,u3],[v1,v2,v3]] (crv f1 f2 f3 g1 g2 g3 h1 h2 h3 j1 j2 j3 k1 k2 k3)
 | about {f0 f1 f2 f3 f4 f5 k1 k2 k3:Fn} {x0 x1 x2 x3 x4 x5 u v w:List Tm}:Cv L n f0 f1 f2 f3 f4 f5 x0 x1 x2 x3 x4 x5->Sp L n k1 k2 k3 u v w->Rw L n "about" [[x0,x1,x2,x3,x4,x5],[u,v,w]] [fun xs=>2*f0 xs*k1 xs+f1 xs*k2 xs+f3 xs*k3 xs,fun xs=>f1 xs*k1 xs+2*f2 xs*k2 xs+f4 xs*k3 xs,fun xs=>f3 xs*k1 xs+f4 xs*k2 xs+2*f5 xs*k3 xs]
 | pole {f0 f1 f2 f3 f4 f5 k1 k2 k3:Fn} {x0 x1 x2 x3 x4 x5 u v w:List Tm}:Cv L n f0 f1 f2 f3 f4 f5 x0 x1 x2 x3 x4 x5->Sp L n k1 k2 k3 u v w->Rw L n "pole" [[x0,x1,x2,x3,x4,x5],[u,v,w]] (XH f0 f1 f2 f3 f4 f5 k1 k2 k3)
 | other {f0 f1 f2 f3 f4 f5 j1 j2 j3 k1 k2 k3:Fn} {x0 x1 x2 x3 x4 x5 r s t u v w:List Tm}:Cv L n f0 f1 f2 f3 f4 f5 x0 x1 x2 x3 x4 x5->Sp L n j1 j2 j3 r s t->Sp L n k1 k2 k3 u v w->Rw L n "other" [[x0,x1,x2,x3,x4,x5],[r,s,t],[u,v,w]] (UW f0 f1 f2 f3 f4 f5 j1 j2 j3 k1 k2 k3)
def Xl (c0:Ar):Prop:=∀ {h:Gh} {rws thg:List W} {k:Nat} {x:Str} {js:List Nat} {ws:List (List (List Tm))} {fs:List Fn} {L n:Nat} {Q:WK} {E:Cd},rws[k]?=FN (.tup (.str x::js.map fun j:Nat=>W.int (j:Int)))->js.map (fun j=>thg[j]?)=ws.map (fun T=>FN (tW T))->Cl L n->Rw L n x ws fs ->
 (∀ R,EL L 1000 40 600 fs R->Q (tW R) h)->c0 [.lst rws,.lst thg,.int (k:Int)] h Q E
theorem Wi (cl:Cl L n){c:Nat}(hb:b+c+20<=1000):∃ k,Nm L b c 1 1 n n k/\k*3<=400/\∃ k2,k2<=600/\Ir L (1+1) (k+k) k2/\Ir L (1+1) (k*3) k2:=by
 rcases cl with ⟨l2,rfl⟩ | ⟨l8,rfl⟩
 ·exact ⟨9,⟨by lia,hb,by decide,by decide,by decide,by decide,by decide,.box l2 rfl⟩,by decide,9,by decide,.box l2 rfl,.box l2 rfl⟩
 ·exact ⟨1,⟨by lia,hb,by decide,by decide,by decide,by decide,by decide,.few rfl⟩,by decide,3,by decide,.few rfl,.few rfl⟩
theorem Rr {l:List W}:Ka (w::l) 0=FN w:=by
 unfold Ka Pa;simp
theorem aaC (w:W)(ws:List W):Ag (w::ws) (FN 1) FX=ws:=by
 first | rfl | exact zbc (w::ws) 1 | simp [Ag]
theorem aaW {us:List W}{lo hi:Option Int}(e:Ag ws lo hi=us)(x:Q (.tup us) h):W2 (.tup ws) lo hi h Q:=by
 subst e;exact x
theorem Xy {ta rt cu po ot:Ar}(hcr:CrE cr)(hta:TaE ta)(hrt:RtE rt)(hcu:CuE cu)(hpo:PoE po)(hot:OtE ot):Xl (QD cr ta rt cu po ot):=by
 intro h rws thg k x js ws fs L n Q E ek et cl rw' q';have n4:n<=400:=by rcases cl with ⟨_,rfl⟩ | ⟨_,rfl⟩ <;> decide
 have lj:js.length=ws.length:=by have:=congrArg Pg et;simpa using this
 have lw:ws.length<=5:=by cases rw' <;> simp
 unfold QD;refine cA rfl (Z:=[FN<|.lst rws,FN<|.lst thg,FN<|.int (k:Int),FX,FX]) rfl<|aH<|aP<|aD<|aD<|ak rfl<|ak rfl<|cJ (ws:=rws) rfl (cL ek)<|aU<|cJ (ws:=.str x::js.map fun j:Nat=>W.int (j:Int)) rfl Rr ?_
 refine nV<|aY ?_
 refine aH<|aP ?_
 refine gn<|fY<|Nx<|aD<|ak rfl<|ak rfl<|cJ (ws:=rws) rfl (cL ek)<|wU<|aU<|Ze<|u5 ?_
 refine aaW (aaC _ _)<|ql (ws:=js.map fun j:Nat=>W.int (j:Int)) (o:=FX) rfl<|fG.mk (CW (m:=1000) (by rw [Bx];lia)<|by decide) ?_
 refine dF (fun i acc g=>g=h/\acc=(ws.take i).map tW) ?_ ?_ ⟨rfl,rfl⟩
 ·rintro i w acc g N hN e ⟨rfl,rfl⟩;rw [Fv] at e;cases qe:js[i]? with
  | none=>rw [qe] at e;cases e
  | some j=>
   rw [qe] at e;cases e;have hi:=(K5.mp qe).1;have qw:ws[i]?=FN (ws[i]'(by lia)):=Gz _;have e2:=congrArg (·[i]?) et;simp only [Fv,qe,qw,Option.map_some] at e2;refine ⟨[.int (j:Int)],rfl,bH<|bD<|aD<|ak rfl<|ak rfl<|cJ (ws:=thg) rfl (cL<|Eu e2)<|hN _ _ ⟨rfl,?_⟩⟩;rw [Ji,qw,Gp];rfl
 ·rintro acc g ⟨rfl,rfl⟩;rw [Bx,lj,K3];refine nV<|aY ?_
  refine aH<|aZ<|aN<|aD<|ak rfl<|aU<|cI<|dD ?_
  cases rw' with
  | curve a1 a2 a3 a4 a5=>
   refine Cq (by decide)<|aX<|aB<|aj<|ak rfl<|aq ?_
   exact hcu cl a1 a2 a3 a4 a5 fun R e=>gF<|q' R e
  | about a1 a2=>
   refine gj (by decide)<|aW<|aY ?_
   unfold pG;refine aH<|aZ<|aN<|aD<|ak rfl<|aU<|cI<|dD<|Cq (by decide) ?_
   refine aX<|aB<|aj<|aB<|aj<|aD<|ak rfl<|aU<|Ih (i:=0) rfl<|aq ?_
   refine hta (by decide) n4 a1 fun a d g e1 e2 e3=>aj<|aD<|ak rfl<|aU<|Ih (i:=1) rfl<|aq ?_
   obtain ⟨ka,N1,k3,kb,hkb,_,cap⟩:=Wi cl (b:=41) (c:=40) (by decide);exact hrt N1 k3 hkb cap e1 e2 e3 a2 fun r1 r2 r3 er=>gF<|q' [r1,r2,r3]<|er.l.le (by decide) (by decide) hkb
  | pole a1 a2=>
   refine gj (by decide)<|aW<|aY ?_
   unfold pG;refine aH<|aZ<|aN<|aD<|ak rfl<|aU<|cI<|dD<|gj (by decide)<|aW<|aY ?_
   unfold sG;refine aH<|aZ<|aN<|aD<|ak rfl<|aU<|cI<|dD<|Cq (by decide) ?_
   refine aX<|aB<|aj<|aD<|ak rfl<|aU<|Ih (i:=0) rfl<|aj<|aD<|ak rfl<|aU<|Ih (i:=1) rfl<|aq ?_
   exact hpo cl a1 a2 fun R e=>gF<|q' R e
  | other a1 a2 a3=>
   refine gj (by decide)<|aW<|aY ?_
   unfold pG;refine aH<|aZ<|aN<|aD<|ak rfl<|aU<|cI<|dD<|gj (by decide)<|aW<|aY ?_
   unfold sG;refine aH<|aZ<|aN<|aD<|ak rfl<|aU<|cI<|dD<|gj (by decide)<|aW<|aY ?_
   unfold wZ;refine aH<|aZ<|aN<|aD<|ak rfl<|aU<|cI<|dD<|Cq (by decide) ?_
   refine aX<|aB<|aj<|aD<|ak rfl<|aU<|Ih (i:=0) rfl<|aj<|aD<|ak rfl<|aU<|Ih (i:=1) rfl ?_
   refine aj<|aD<|ak rfl<|aU<|Ih (i:=2) rfl<|aq ?_
   exact hot cl a1 a2 a3 fun R e=>gF<|q' R e
  | join hx a1 a2=>
   have c1:x ≠ "curve":=by rcases hx with rfl | rfl <;> decide
   have c2:x ≠ "about":=by rcases hx with rfl | rfl <;> decide
   have c3:x ≠ "pole":=by rcases hx with rfl | rfl <;> decide
   have c4:x ≠ "other":=by rcases hx with rfl | rfl <;> decide
   refine gj (decide_eq_false c1)<|aW<|aY ?_
   unfold pG;refine aH<|aZ<|aN<|aD<|ak rfl<|aU<|cI<|dD<|gj (decide_eq_false c2)<|aW<|aY ?_
   unfold sG;refine aH<|aZ<|aN<|aD<|ak rfl<|aU<|cI<|dD<|gj (decide_eq_false c3)<|aW<|aY ?_
   unfold wZ;refine aH<|aZ<|aN<|aD<|ak rfl<|aU<|cI<|dD<|gj (decide_eq_false c4)<|aW<|aY ?_
   unfold GC;refine aX<|aB<|aj<|aD<|ak rfl<|aU<|Ih (i:=0) rfl<|aj<|aD<|ak rfl<|aU<|Ih (i:=1) rfl<|aq ?_
   obtain ⟨ka,N1,k3,kb,hkb,cap,_⟩:=Wi cl (b:=40) (c:=40) (by decide);exact hcr N1 hkb cap a1 a2 fun r1 r2 r3 er=>gF<|q' [r1,r2,r3]<|er.l.le (by decide) (by decide) hkb
def CrI (c0:Ar):Prop:=∀ {h:Gh} {a b c d e f:Int} {m:Nat} {Q:WK} {E:Cd},m<=400000->Sm m a->Sm m b->Sm m c->Sm m d->Sm m e->Sm m f->Q (.tup [.int (b*f - c*e),.int (c*d - a*f),.int (a*e - b*d)]) h->c0 [.tup [.int a,.int b,.int c],.tup [.int d,.int e,.int f]] h Q E
theorem W0:CrI pR:=by
 intro h a b c d e f m Q E hm ha hb hc hd he hf q;unfold pR;refine cA rfl (Z:=[FN<|.tup [.int a,.int b,.int c],FN<|.tup [.int d,.int e,.int f],FX,FX,FX,FX,FX,FX]) rfl ?_;rfl'
 exact q
def DoI (c0:Ar):Prop:=∀ {h:Gh} {a b c d e f:Int} {m k:Nat} {Q:WK} {E:Cd},m<=400000->k<=400000->Sm m a->Sm m b->Sm m c->Sm k d->Sm k e->Sm k f->Q (.int (a*d+b*e+c*f)) h->c0 [.tup [.int a,.int b,.int c],.tup [.int d,.int e,.int f]] h Q E
theorem Rq:DoI wH:=by
 intro h a b c d e f m k Q E hm hk ha hb hc hd he hf q;unfold wH;refine cA rfl (Z:=[FN<|.tup [.int a,.int b,.int c],FN<|.tup [.int d,.int e,.int f]]) rfl ?_;rfl'
 exact q
def RoI (c0:Ar):Prop:=∀ {h:Gh} {a b c d e f:Int} {m:Nat} {Q:WK} {E:Cd},m<=400000->Sm m a->Sm m b->Sm m c->Sm m d->Sm m e->Sm m f->Q (.lst [.tup [.int (2*a),.int b,.int d],.tup [.int b,.int (2*c),.int e],.tup [.int d,.int e,.int (2*f)]]) h->c0 [.tup [.int a,.int b,.int c,.int d,.int e,.int f]] h Q E
theorem Ub:RoI jM:=by
 intro h a b c d e f m Q E hm ha hb hc hd he hf q;unfold jM;refine cA rfl (Z:=[FN<|.tup [.int a,.int b,.int c,.int d,.int e,.int f],FX,FX,FX,FX,FX,FX]) rfl ?_;rfl'
 exact q
def PaI (c0:Ar):Prop:=∀ {h:Gh} {a b c d e f:Int} {m:Nat} {Q:WK} {E:Cd},m<=400000->Sm m a->Sm m b->Sm m c->Sm m d->Sm m e->Sm m f->Q (.lst [.int (a*d),.int (a*e+b*d),.int (b*e),.int (a*f+c*d),.int (b*f+c*e),.int (c*f)]) h->c0 [.tup [.int a,.int b,.int c],.tup [.int d,.int e,.int f]] h Q E
theorem Yz:PaI sH:=by
 intro h a b c d e f m Q E hm ha hb hc hd he hf q;unfold sH;refine cA rfl (Z:=[FN<|.tup [.int a,.int b,.int c],FN<|.tup [.int d,.int e,.int f],FX,FX,FX,FX,FX,FX]) rfl ?_;rfl'
 exact q
theorem jt {a:Int}(h:Sm m a):Sm (m+2) (2*a):=by
 unfold Sm at *;rw [T8,Oq];show 2*a.natAbs<2^m*4;lia
def TmI (c0:Ar):Prop:=∀ {h:Gh} {a b c d e f x y z:Int} {m:Nat} {Q:WK} {E:Cd},m<=300000->Sm m a->Sm m b->Sm m c->Sm m d->Sm m e->Sm m f->Sm m x->Sm m y->Sm m z->Q (.tup [.int (2*a*x+b*y+d*z),.int (b*x+2*c*y+e*z),.int (d*x+e*y+2*f*z)]) h->c0 [.tup [.int a,.int b,.int c,.int d,.int e,.int f],.tup [.int x,.int y,.int z]] h Q E
variable {ro : Ar}
theorem X5 (hdt:DoI dt)(hro:RoI ro):TmI (pY dt ro):=by
 intro h a b c d e f x y z m Q E hm ha hb hc hd he hf hx hy hz q;have up:∀ {i:Int},Sm m i->Sm (m+2) i:=fun h=>h.mono (by lia)
 unfold pY;refine cA rfl (Z:=[FN<|.tup [.int a,.int b,.int c,.int d,.int e,.int f],FN<|.tup [.int x,.int y,.int z]]) rfl<|aX<|bL<|aj<|gn<|fY<|aB<|aj<|ak rfl<|aq ?_
 refine hro (by lia) ha hb hc hd he hf<|ql (ws:=[.tup [.int<|2*a,.int b,.int d],.tup [.int b,.int<|2*c,.int e],.tup [.int d,.int e,.int<|2*f]]) (o:=FX) rfl<|wL rfl ?_
 refine dj (vs:=[.tup [.int<|2*a,.int b,.int d]]) rfl<|bH<|bD<|aB<|aj<|ak rfl<|aj<|ak rfl<|aq<|hdt (m:=m+2) (k:=m) (by lia) (by lia) (jt ha) (up hb) (up hd) hx hy hz ?_
 refine dj (vs:=[.tup [.int b,.int<|2*c,.int e]]) rfl<|bH<|bD<|aB<|aj<|ak rfl<|aj<|ak rfl<|aq<|hdt (m:=m+2) (k:=m) (by lia) (by lia) (up hb) (jt hc) (up he) hx hy hz ?_
 refine dj (vs:=[.tup [.int d,.int e,.int<|2*f]]) rfl<|bH<|bD<|aB<|aj<|ak rfl<|aj<|ak rfl<|aq<|hdt (m:=m+2) (k:=m) (by lia) (by lia) (up hd) (up he) (jt hf) hx hy hz ?_
 exact qG<|aq<|bW<|gF q
theorem kY {a b c d:Int}(ha:Sm m a)(hb:Sm m b)(hc:Sm m c)(hd:Sm m d):Sm (m+m+2) (a*b - c*d):=by
 have h1:(a*b).natAbs<2^(m+m):=by rw [T8,Oq];exact Nat.mul_lt_mul'' ha hb
 have h2:(c*d).natAbs<2^(m+m):=by rw [T8,Oq];exact Nat.mul_lt_mul'' hc hd
 unfold Sm;rw [Oq];generalize 2^(m+m)=A at *;lia
theorem Ah {k:Nat}{a b c d e f:Int}(ha:Sm m a)(hb:Sm m b)(hc:Sm m c)(hd:Sm k d)(he:Sm k e)(hf:Sm k f):Sm (m+k+2) (a*d+b*e+c*f):=by
 have g:∀ {x y:Int},Sm m x->Sm k y->(x*y).natAbs<2^(m+k):=fun {x y} hx hy=>by rw [T8,Oq];exact Nat.mul_lt_mul'' hx hy
 have h1:=g ha hd;have h2:=g hb he;have h3:=g hc hf;unfold Sm;rw [Oq];generalize 2^(m+k)=A at *;lia
def TuI (c0:Ar):Prop:=∀ {h:Gh} {a b c d e f x y z:Int} {m:Nat} {Q:WK} {E:Cd},m<=100000->Sm m a->Sm m b->Sm m c->Sm m d->Sm m e->Sm m f->Sm m x->Sm m y->Sm m z->Q (.int ((b*f - c*e)*x+(c*d - a*f)*y+(a*e - b*d)*z)) h->c0 [.tup [.int a,.int b,.int c],.tup [.int d,.int e,.int f],.tup [.int x,.int y,.int z]] h Q E
theorem Yq (hcr:CrI cr)(hdt:DoI dt):TuI (rM cr dt):=by
 intro h a b c d e f x y z m Q E hm ha hb hc hd he hf hx hy hz q;unfold rM;refine cA rfl (Z:=[FN<|.tup [.int a,.int b,.int c],FN<|.tup [.int d,.int e,.int f],FN<|.tup [.int x,.int y,.int z]]) rfl<|aX<|aB<|aj<|aB<|aj<|ak rfl<|aj<|ak rfl<|aq ?_
 refine hcr (m:=m) (by lia) ha hb hc hd he hf<|aj<|ak rfl<|aq ?_
 exact hdt (m:=m+m+2) (k:=m) (by lia) (by lia) (kY hb hf hc he) (kY hc hd ha hf) (kY ha he hb hd) hx hy hz<|gF q
variable {zs : List Int}
theorem Ev.sm {f:Fn}(e:Ev L 40 1 n f us)(hn:n<=64)(bx:Bd zs)(hL:L<=8):Sm 20000 (f zs):=by
 rw [<-e.2 zs];have f0:∀ t∈us,(mo t.1 zs L*t.2).natAbs<=2^17000:=fun t ht=>by
  have pw:Pw t.1:=fun q hq=>by have:=(e.1.2.2 t ht).2.2.2 q hq;lia
  have b1:=Q0 bx pw L;have b2:=(e.1.2.2 t ht).2.2.1;rw [T8];refine CW (Vm b1<|KQ b2) ?_;rw [<-Oq];exact Vy (by decide)<|by lia
 have g:∀ us:List Tm,(∀ t∈us,(mo t.1 zs L*t.2).natAbs<=2^17000)->(lin (fun q=>mo q zs L) us).natAbs<=us.length*2^17000:=fun us=>by
  induction us with
  | nil=>intro _;exact Ja _
  | cons t us ih=>
   intro f;rw [bJ,Iw,Nat.succ_mul,Ua];exact CW (Int.natAbs_add_le _ _)<|Vk (f t<|by simp)<|ih fun u hu=>f u<|IK _ hu
 have:=CW (g us f0) (W7 _ (CW e.1.1 hn))
 unfold Sm;refine Ot this ?_;rw [show (64:Nat)=2^6 from rfl,<-Oq];exact Nat.pow_lt_pow_right (by decide)<|by decide
abbrev vW (zs:List Int)(L:Nat)(T:List (List Tm)):W:=.tup (T.map fun us=>.int (lin (fun q=>mo q zs L) us))
theorem Eb {f g h:Fn}{x y z:List Tm}(e:Sp L n f g h x y z)(zs:List Int):vW zs L [x,y,z]=.tup [.int (f zs),.int (g zs),.int (h zs)]:=by
 show W.tup [.int _,.int _,.int _]=_;rw [e.x1.2,e.x2.2,e.x3.2]
theorem Ys {f0 f1 f2 f3 f4 f5:Fn}{x0 x1 x2 x3 x4 x5:List Tm}(e:Cv L n f0 f1 f2 f3 f4 f5 x0 x1 x2 x3 x4 x5)(zs:List Int)(hn:n<=64)(bx:Bd zs)(hL:L<=8):vW zs L [x0,x1,x2,x3,x4,x5]=.tup [.int (f0 zs),.int (f1 zs),.int (f2 zs),.int (f3 zs),.int (f4 zs),.int (f5 zs)]/\Sm 20000 (f0 zs)/\Sm 20000 (f1 zs)/\Sm 20000 (f2 zs)/\Sm 20000 (f3 zs)/\Sm 20000 (f4 zs)/\Sm 20000 (f5 zs):=by
 cases e with
 | cons e0 e=>cases e with
  | cons e1 e=>cases e with
   | cons e2 e=>cases e with
    | cons e3 e=>cases e with
     | cons e4 e=>cases e with
      | cons e5 e=>
       refine ⟨?_,e0.sm hn bx hL,e1.sm hn bx hL,e2.sm hn bx hL,e3.sm hn bx hL,e4.sm hn bx hL,e5.sm hn bx hL⟩;show W.tup [.int _,.int _,.int _,.int _,.int _,.int _]=_;rw [e0.2,e1.2,e2.2,e3.2,e4.2,e5.2]
def Xq (c0:Ar):Prop:=∀ {h:Gh} {x:Str} {ws:List (List (List Tm))} {fs:List Fn} {L n:Nat} {zs:List Int} {Q:WK} {E:Cd},Cl L n->Rw L n x ws fs->Bd zs->L<=8->Q (.tup (fs.map fun f=>.int (f zs))) h->c0 [.str x,.lst (ws.map (vW zs L))] h Q E
theorem yt {ws:List (List (List Tm))}(e:ws[i]?=FN T)(ew:vW zs L T=w)(x:Q w h):BJ (.lst (ws.map (vW zs L))) (.int (i:Int)) h Q:=
 cJ (ws:=ws.map (vW zs L)) rfl (cL (by rw [Fv,e,<-ew];rfl)) x
variable {tm : Ar}
theorem Ln (hcr:CrI cr)(htm:TmI tm){ws:List (List (List Tm))}(cl:Cl L n)(rw':Rw L n x ws fs)(bx:Bd zs)(hL:L<=8)(hx:x = "join"\/x = "meet"\/x = "about")(q:Q (.tup (fs.map fun f=>.int (f zs))) h):fQ cr dt tu ro tm pa [.str x,.lst (ws.map (vW zs L))] h Q E:=by
 have n4:n<=64:=by rcases cl with ⟨_,rfl⟩ | ⟨_,rfl⟩ <;> decide
 unfold fQ;refine cA rfl (Z:=[FN<|.str x,FN<|.lst<|ws.map<|vW zs L,FX,FX,FX,FX,FX,FX,FX,FX,FX,FX,FX,FX,FX,FX,FX,FX,FX]) rfl<|aH<|aZ<|jN<|aN<|aD<|ak rfl<|aU<|cI<|dD ?_
 cases rw' with
 | join hx' a1 a2=>
  rename_i f1 f2 f3 g1 g2 g3 x1 x2 x3 y1 y2 y3;have go:cF (aJ cr E (ao (AP BJ (aA 1) (mC (.int 0))) (ao (AP BJ (aA 1) (mC (.int 1))) aL))) { nx:=gA cr dt tu ro tm pa E { nx:=fun _ h'=>Q .non h',rt:=Q },rt:=Q } [FN (.str x),FN (.lst ([[x1,x2,x3],[y1,y2,y3]].map (vW zs L))),FX,FX,FX,FX,FX,FX,FX,FX,FX,FX,FX,FX,FX,FX,FX,FX,FX] h:=by
   refine aX<|aB<|aj<|aD<|ak rfl<|aU<|yt (i:=0) rfl (Eb a1 zs)<|aj<|aD<|ak rfl<|aU<|yt (i:=1) rfl (Eb a2 zs)<|aq ?_
   exact hcr (m:=20000) (by decide) (a1.x1.sm n4 bx hL) (a1.x2.sm n4 bx hL) (a1.x3.sm n4 bx hL) (a2.x1.sm n4 bx hL) (a2.x2.sm n4 bx hL) (a2.x3.sm n4 bx hL)<|gF q
  rcases hx' with rfl | rfl
  ·exact Cq (by decide)<|BW go
  ·exact gj (by decide)<|aN<|aD<|ak rfl<|aU<|cI<|dD<|Cq (by decide) go
 | about a1 a2=>
  refine gj (by decide)<|aN<|aD<|ak rfl<|aU<|cI<|dD<|gj (by decide)<|aW<|aY ?_
  unfold gA;refine aH<|aZ<|aN<|aD<|ak rfl<|aU<|cI<|dD<|gj (by decide)<|aW<|aY ?_
  unfold jZ;refine aH<|aZ<|aN<|aD<|ak rfl<|aU<|cI<|dD<|Cq (by decide) ?_
  obtain ⟨ev,s0,s1,s2,s3,s4,s5⟩:=Ys a1 zs n4 bx hL;refine aX<|aB<|aj<|aD<|ak rfl<|aU<|yt (i:=0) rfl ev<|aj<|aD<|ak rfl<|aU<|yt (i:=1) rfl (Eb a2 zs)<|aq ?_
  exact htm (m:=20000) (by decide) s0 s1 s2 s3 s4 s5 (a2.x1.sm n4 bx hL) (a2.x2.sm n4 bx hL) (a2.x3.sm n4 bx hL)<|gF q
 | curve=>exact absurd hx (by decide)
 | pole=>exact absurd hx (by decide)
 | other=>exact absurd hx (by decide)
abbrev Kq (a b c:Int):W:=.tup [.int a,.int b,.int c]
theorem aeO (hcr:CrI cr)(hdt:DoI dt)(htu:TuI tu)(hro:RoI ro){f0 f1 f2 f3 f4 f5 k1 k2 k3:Fn}{x0 x1 x2 x3 x4 x5 v w:List Tm}(n4:n<=64)(bx:Bd zs)(hL:L<=8)(a1:Cv L n f0 f1 f2 f3 f4 f5 x0 x1 x2 x3 x4 x5)(a2:Sp L n k1 k2 k3 u v w)(q:Q (.tup ((XH f0 f1 f2 f3 f4 f5 k1 k2 k3).map fun f=>.int (f zs))) h):fQ cr dt tu ro tm pa [.str "pole",.lst ([[x0,x1,x2,x3,x4,x5],[u,v,w]].map (vW zs L))] h Q E:=by
 obtain ⟨ev,s0,s1,s2,s3,s4,s5⟩:=Ys a1 zs n4 bx hL;have e2:=Eb a2 zs;have k1s:=a2.x1.sm n4 bx hL;have k2s:=a2.x2.sm n4 bx hL;have k3s:=a2.x3.sm n4 bx hL;have up:∀ {i:Int},Sm 20000 i->Sm 20002 i:=fun h=>h.mono (by decide)
 have t0:=jt s0;have t2:=jt s2;have t5:=jt s5;have u1:=up s1;have u3:=up s3;have u4:=up s4;unfold fQ;refine cA rfl (Z:=[FN<|.str "pole",FN<|.lst<|[[x0,x1,x2,x3,x4,x5],[u,v,w]].map (vW zs L),FX,FX,FX,FX,FX,FX,FX,FX,FX,FX,FX,FX,FX,FX,FX,FX,FX]) rfl<|aH<|aZ<|jN<|aN<|aD<|ak rfl<|aU<|cI<|dD<|gj (by decide) ?_
 refine aN<|aD<|ak rfl<|aU<|cI<|dD<|gj (by decide)<|aW<|aY ?_
 unfold gA;refine aH<|aZ<|aN<|aD<|ak rfl<|aU<|cI<|dD<|gj (by decide)<|aW<|aY ?_
 unfold jZ;refine aH<|aZ<|aN<|aD<|ak rfl<|aU<|cI<|dD<|gj (by decide)<|aW<|aY ?_
 unfold oW;refine aH<|aZ<|aN<|aD<|ak rfl<|aU<|cI<|dD<|Cq (by decide) ?_
 refine aH<|aP<|aB<|aj<|aD<|ak rfl<|aU<|yt (i:=0) rfl ev<|aq ?_
 refine hro (m:=20000) (by decide) s0 s1 s2 s3 s4 s5 ?_;generalize etb:([Kq (2*f0 zs) (f1 zs) (f3 zs),Kq (f1 zs) (2*f2 zs) (f4 zs),Kq (f3 zs) (f4 zs) (2*f5 zs)]:List W)=tb;refine lD (Z':=[FN<|.str "pole",FN<|.lst<|[[x0,x1,x2,x3,x4,x5],[u,v,w]].map (vW zs L),FX,FX,FX,FX,FX,FX,FX,FX,FX,FX,FX,FN<|.lst tb,FX,FX,FX,FX,FX]) (by rw [<-etb];rfl)<|aY ?_
 have i0:∀ {R:WK} {h:Gh},R (Kq (2*f0 zs) (f1 zs) (f3 zs)) h->BJ (.lst tb) (.int 0) h R:=fun x=>cJ (ws:=tb) rfl (by rw [<-etb];rfl) x
 have i1:∀ {R:WK} {h:Gh},R (Kq (f1 zs) (2*f2 zs) (f4 zs)) h->BJ (.lst tb) (.int 1) h R:=fun x=>cJ (ws:=tb) rfl (by rw [<-etb];rfl) x
 have i2:∀ {R:WK} {h:Gh},R (Kq (f3 zs) (f4 zs) (2*f5 zs)) h->BJ (.lst tb) (.int 2) h R:=fun x=>cJ (ws:=tb) rfl (by rw [<-etb];rfl) x
 refine aH<|aP<|iG<|aj<|aB<|aj<|aD<|ak rfl<|aU<|i1<|aj<|aD<|ak rfl<|aU<|i2<|aq ?_
 refine hcr (m:=20002) (by decide) u1 t2 u4 u3 u4 t5 ?_;refine aj<|aB<|aj<|aD<|ak rfl<|aU<|i2<|aj<|aD<|ak rfl<|aU<|i0<|aq ?_
 refine hcr (m:=20002) (by decide) u3 u4 t5 t0 u1 u3 ?_;refine aj<|aB<|aj<|aD<|ak rfl<|aU<|i0<|aj<|aD<|ak rfl<|aU<|i1<|aq ?_
 refine hcr (m:=20002) (by decide) t0 u1 u3 u1 t2 u4<|aq<|bC rfl ?_
 refine nV<|aY ?_
 refine aH<|aP<|aB<|aj<|aD<|ak rfl<|aU<|i0<|aj<|aD<|ak rfl<|aU<|i1<|aj<|aD<|ak rfl<|aU<|i2<|aq ?_
 refine htu (m:=20002) (by decide) t0 u1 u3 u1 t2 u4 u3 u4 t5 ?_;have ss:=Ah (kY u1 u4 u3 t2) (kY u3 u1 t0 u4) (kY t0 t2 u1 u1) u3 u4 t5;refine nV<|aY ?_
 refine aX<|bL<|aj<|gn<|fY<|ak rfl<|ql (ws:=[Kq (2*f2 zs*(2*f5 zs) - f4 zs*f4 zs) (f4 zs*f3 zs - f1 zs*(2*f5 zs))<|f1 zs*f4 zs - 2*f2 zs*f3 zs,Kq (f4 zs*f3 zs - 2*f5 zs*f1 zs) (2*f5 zs*(2*f0 zs) - f3 zs*f3 zs)<|f3 zs*f1 zs - f4 zs*(2*f0 zs),Kq (f1 zs*f4 zs - f3 zs*(2*f2 zs)) (f3 zs*f1 zs - 2*f0 zs*f4 zs)<|2*f0 zs*(2*f2 zs) - f1 zs*f1 zs]) (o:=FX) rfl<|wL rfl ?_
 refine dj (vs:=[Kq _ _ _]) rfl<|bH<|bD<|aD<|aB<|aj<|ak rfl<|aj<|aD<|ak rfl<|aU<|yt (i:=1) rfl e2<|aq ?_
 refine hdt (m:=20002+20002+2) (k:=20000) (by decide) (by decide) (kY t2 t5 u4 u4) (kY u4 u3 u1 t5) (kY u1 u4 t2 u3) k1s k2s k3s ?_;refine ak rfl<|bG (.of (Ah (kY t2 t5 u4 u4) (kY u4 u3 u1 t5) (kY u1 u4 t2 u3) k1s k2s k3s) ss (by decide)<|by decide) ?_
 refine dj (vs:=[Kq _ _ _]) rfl<|bH<|bD<|aD<|aB<|aj<|ak rfl<|aj<|aD<|ak rfl<|aU<|yt (i:=1) rfl e2<|aq ?_
 refine hdt (m:=20002+20002+2) (k:=20000) (by decide) (by decide) (kY u4 u3 t5 u1) (kY t5 t0 u3 u3) (kY u3 u1 u4 t0) k1s k2s k3s ?_;refine ak rfl<|bG (.of (Ah (kY u4 u3 t5 u1) (kY t5 t0 u3 u3) (kY u3 u1 u4 t0) k1s k2s k3s) ss (by decide)<|by decide) ?_
 refine dj (vs:=[Kq _ _ _]) rfl<|bH<|bD<|aD<|aB<|aj<|ak rfl<|aj<|aD<|ak rfl<|aU<|yt (i:=1) rfl e2<|aq ?_
 refine hdt (m:=20002+20002+2) (k:=20000) (by decide) (by decide) (kY u1 u4 u3 t2) (kY u3 u1 t0 u4) (kY t0 t2 u1 u1) k1s k2s k3s ?_;refine ak rfl<|bG (.of (Ah (kY u1 u4 u3 t2) (kY u3 u1 t0 u4) (kY t0 t2 u1 u1) k1s k2s k3s) ss (by decide)<|by decide) ?_
 exact qG<|aq<|bW<|gF q
theorem agI (hdt:DoI dt)(htm:TmI tm){f0 f1 f2 f3 f4 f5 j1 j2 j3 k1 k2 k3:Fn}{x0 x1 x2 x3 x4 x5 r s t v w:List Tm}(n4:n<=64)(bx:Bd zs)(hL:L<=8)(a1:Cv L n f0 f1 f2 f3 f4 f5 x0 x1 x2 x3 x4 x5)(a2:Sp L n j1 j2 j3 r s t)(a3:Sp L n k1 k2 k3 u v w)(q:Q (.tup ((UW f0 f1 f2 f3 f4 f5 j1 j2 j3 k1 k2 k3).map fun f=>.int (f zs))) h):fQ cr dt tu ro tm pa [.str "other",.lst ([[x0,x1,x2,x3,x4,x5],[r,s,t],[u,v,w]].map (vW zs L))] h Q E:=by
 obtain ⟨ev,s0,s1,s2,s3,s4,s5⟩:=Ys a1 zs n4 bx hL;have e2:=Eb a2 zs;have e3:=Eb a3 zs;have j1s:=a2.x1.sm n4 bx hL;have j2s:=a2.x2.sm n4 bx hL;have j3s:=a2.x3.sm n4 bx hL;have k1s:=a3.x1.sm n4 bx hL;have k2s:=a3.x2.sm n4 bx hL;have k3s:=a3.x3.sm n4 bx hL;have up:∀ {i:Int},Sm 20000 i->Sm 20002 i:=fun h=>h.mono (by decide)
 have m1:=Ah (jt s0) (up s1) (up s3) k1s k2s k3s;have m2:=Ah (up s1) (jt s2) (up s4) k1s k2s k3s;have m3:=Ah (up s3) (up s4) (jt s5) k1s k2s k3s;have o1:=Ah k1s k2s k3s m1 m2 m3;have o2:=Ah j1s j2s j3s m1 m2 m3;unfold fQ;refine cA rfl (Z:=[FN<|.str "other",FN<|.lst<|[[x0,x1,x2,x3,x4,x5],[r,s,t],[u,v,w]].map (vW zs L),FX,FX,FX,FX,FX,FX,FX,FX,FX,FX,FX,FX,FX,FX,FX,FX,FX]) rfl<|aH<|aZ<|jN<|aN<|aD<|ak rfl<|aU<|cI<|dD<|gj (by decide) ?_
 refine aN<|aD<|ak rfl<|aU<|cI<|dD<|gj (by decide)<|aW<|aY ?_
 unfold gA;refine aH<|aZ<|aN<|aD<|ak rfl<|aU<|cI<|dD<|gj (by decide)<|aW<|aY ?_
 unfold jZ;refine aH<|aZ<|aN<|aD<|ak rfl<|aU<|cI<|dD<|gj (by decide)<|aW<|aY ?_
 unfold oW;refine aH<|aZ<|aN<|aD<|ak rfl<|aU<|cI<|dD<|gj (by decide)<|aW<|aY ?_
 unfold vX;refine aH<|aP<|aB<|aj<|aD<|ak rfl<|aU<|yt (i:=0) rfl ev<|aj<|aD<|ak rfl<|aU<|yt (i:=2) rfl e3<|aq ?_
 refine htm (m:=20000) (by decide) s0 s1 s2 s3 s4 s5 k1s k2s k3s ?_;refine nV<|aY ?_
 refine aH<|aP<|aB<|aj<|aD<|ak rfl<|aU<|yt (i:=2) rfl e3<|aj<|ak rfl<|aq ?_
 refine hdt (m:=20000) (k:=20000+2+20000+2) (by decide) (by decide) k1s k2s k3s m1 m2 m3 ?_;refine nV<|aY ?_
 refine aH<|aP<|aD<|aU<|aB<|aj<|aD<|ak rfl<|aU<|yt (i:=1) rfl e2<|aj<|ak rfl<|aq ?_
 refine hdt (m:=20000) (k:=20000+2+20000+2) (by decide) (by decide) j1s j2s j3s m1 m2 m3<|bG (.of (m:=64) (.lit rfl) o2 (by decide)<|by decide) ?_
 refine nV<|aY ?_
 have o3:=jt o2;have com:∀ a b c d:Int,a*b - c*d=b*a - d*c:=fun a b c d=>by rw [SM a,SM c]
 refine aX<|bL<|aj<|gn<|qT<|aj<|aD<|ak rfl<|aU<|yt (i:=1) rfl e2<|aj<|aD<|ak rfl<|aU<|yt (i:=2) rfl e3<|aq<|Ca (as:=[.int<|j1 zs,.int<|j2 zs,.int<|j3 zs]) (bs:=[.int<|k1 zs,.int<|k2 zs,.int<|k3 zs]) rfl rfl rfl<|wL rfl ?_
 refine dj (vs:=[.int<|j1 zs,.int<|k1 zs]) rfl<|bH<|bD<|aD<|aD<|ak rfl<|ak rfl<|bG (.of o1 j1s (by decide)<|by decide)<|aD<|ak rfl<|ak rfl<|bG (.of o3 k1s (by decide)<|by decide)<|eO ?_
 refine dj (vs:=[.int<|j2 zs,.int<|k2 zs]) rfl<|bH<|bD<|aD<|aD<|ak rfl<|ak rfl<|bG (.of o1 j2s (by decide)<|by decide)<|aD<|ak rfl<|ak rfl<|bG (.of o3 k2s (by decide)<|by decide)<|eO ?_
 refine dj (vs:=[.int<|j3 zs,.int<|k3 zs]) rfl<|bH<|bD<|aD<|aD<|ak rfl<|ak rfl<|bG (.of o1 j3s (by decide)<|by decide)<|aD<|ak rfl<|ak rfl<|bG (.of o3 k3s (by decide)<|by decide)<|eO ?_
 refine qG<|aq<|bW<|gF ?_
 have e:((UW f0 f1 f2 f3 f4 f5 j1 j2 j3 k1 k2 k3).map fun f=>W.int (f zs))=[.int (bo f0 f1 f2 f3 f4 f5 k1 k2 k3 k1 k2 k3 zs*j1 zs - 2*bo f0 f1 f2 f3 f4 f5 j1 j2 j3 k1 k2 k3 zs*k1 zs),.int (bo f0 f1 f2 f3 f4 f5 k1 k2 k3 k1 k2 k3 zs*j2 zs - 2*bo f0 f1 f2 f3 f4 f5 j1 j2 j3 k1 k2 k3 zs*k2 zs),.int (bo f0 f1 f2 f3 f4 f5 k1 k2 k3 k1 k2 k3 zs*j3 zs - 2*bo f0 f1 f2 f3 f4 f5 j1 j2 j3 k1 k2 k3 zs*k3 zs)]:=by
  unfold UW;simp only [Bu,Jo];rw [com (j1 zs),com (j2 zs),com (j3 zs)]
 rw [e] at q;exact q
theorem Lb {a1 a2 a3 b1 b2 b3:Int}(h1:Sm 20000 a1)(h2:Sm 20000 a2)(h3:Sm 20000 a3)(g1:Sm 20000 b1)(g2:Sm 20000 b2)(g3:Sm 20000 b3):Sm 40002 (a2*b3 - a3*b2)/\Sm 40002 (a3*b1 - a1*b3)/\Sm 40002 (a1*b2 - a2*b1):=⟨kY h2 g3 h3 g2,kY h3 g1 h1 g3,kY h1 g2 h2 g1⟩
theorem Sh {a b c d:Int}(ha:Sm m a)(hb:Sm m b)(hc:Sm m c)(hd:Sm m d):Sm (m+m+2) (a*b+c*d):=by
 have:=kY ha hb hc (d:=-d) (by unfold Sm at *;rw [Int.natAbs_neg];exact hd)
 rw [Int.mul_neg] at this;have e:a*b - -(c*d)=a*b+c*d:=by lia
 rw [e] at this;exact this
theorem Mp {a b:Int}(ha:Sm m a)(hb:Sm m b):Sm (m+m+2) (a*b):=by
 have:=kY ha hb (c:=0) (d:=0) (Sv (by decide)) (Sv (by decide))
 rw [Int.mul_zero,Int.sub_zero] at this;exact this
theorem agm (hcr:CrI cr)(hdt:DoI dt)(hpa:PaI pa){f1 f2 f3 g1 g2 g3 h1 h2 h3 j1 j2 j3 k1 k2 k3:Fn}{x1 x2 x3 y1 y2 y3 z1 z2 z3 u1 u2 u3 v1 v2 v3:List Tm}(n4:n<=64)(bx:Bd zs)(hL:L<=8)(a1:Sp L n f1 f2 f3 x1 x2 x3)(a2:Sp L n g1 g2 g3 y1 y2 y3)(a3:Sp L n h1 h2 h3 z1 z2 z3)(a4:Sp L n j1 j2 j3 u1 u2 u3)(a5:Sp L n k1 k2 k3 v1 v2 v3)(q:Q (.tup ((crv f1 f2 f3 g1 g2 g3 h1 h2 h3 j1 j2 j3 k1 k2 k3).map fun f=>.int (f zs))) h):fQ cr dt tu ro tm pa [.str "curve",.lst ([[x1,x2,x3],[y1,y2,y3],[z1,z2,z3],[u1,u2,u3],[v1,v2,v3]].map (vW zs L))] h Q E:=by
 have f1s:=a1.x1.sm n4 bx hL;have f2s:=a1.x2.sm n4 bx hL;have f3s:=a1.x3.sm n4 bx hL;have g1s:=a2.x1.sm n4 bx hL;have g2s:=a2.x2.sm n4 bx hL;have g3s:=a2.x3.sm n4 bx hL;have h1s:=a3.x1.sm n4 bx hL;have h2s:=a3.x2.sm n4 bx hL;have h3s:=a3.x3.sm n4 bx hL;have j1s:=a4.x1.sm n4 bx hL;have j2s:=a4.x2.sm n4 bx hL;have j3s:=a4.x3.sm n4 bx hL;have k1s:=a5.x1.sm n4 bx hL;have k2s:=a5.x2.sm n4 bx hL;have k3s:=a5.x3.sm n4 bx hL;obtain ⟨A1,A2,A3⟩:=Lb f1s f2s f3s g1s g2s g3s;obtain ⟨B1,B2,B3⟩:=Lb h1s h2s h3s j1s j2s j3s;obtain ⟨C1,C2,C3⟩:=Lb f1s f2s f3s h1s h2s h3s;obtain ⟨D1,D2,D3⟩:=Lb g1s g2s g3s j1s j2s j3s;have el:(.lst ([[x1,x2,x3],[y1,y2,y3],[z1,z2,z3],[u1,u2,u3],[v1,v2,v3]].map (vW zs L)):W)=.lst [Kq (f1 zs) (f2 zs) (f3 zs),Kq (g1 zs) (g2 zs) (g3 zs),Kq (h1 zs) (h2 zs) (h3 zs),Kq (j1 zs) (j2 zs) (j3 zs),Kq (k1 zs) (k2 zs) (k3 zs)]:=by
  show W.lst [vW zs L [x1,x2,x3],vW zs L [y1,y2,y3],vW zs L [z1,z2,z3],vW zs L [u1,u2,u3],vW zs L [v1,v2,v3]]=_;rw [Eb a1 zs,Eb a2 zs,Eb a3 zs,Eb a4 zs,Eb a5 zs]
 unfold fQ;refine cA rfl (Z:=[FN<|.str "curve",FN<|.lst<|[[x1,x2,x3],[y1,y2,y3],[z1,z2,z3],[u1,u2,u3],[v1,v2,v3]].map (vW zs L),FX,FX,FX,FX,FX,FX,FX,FX,FX,FX,FX,FX,FX,FX,FX,FX,FX]) rfl<|aH<|aZ<|jN<|aN<|aD<|ak rfl<|aU<|cI<|dD<|gj (by decide) ?_
 refine aN<|aD<|ak rfl<|aU<|cI<|dD<|gj (by decide)<|aW<|aY ?_
 unfold gA;refine aH<|aZ<|aN<|aD<|ak rfl<|aU<|cI<|dD<|Cq (by decide) ?_
 refine aH<|aP<|ak rfl<|HD el rfl<|bZ<|nV ?_
 refine bZ<|nV ?_
 refine bZ<|nV ?_
 refine bZ<|nV ?_
 refine bZ<|nV ?_
 refine jV<|aY ?_
 refine aH<|aP<|aB<|aj<|ak rfl<|aj<|ak rfl<|aq<|hcr (m:=20000) (by decide) f1s f2s f3s g1s g2s g3s ?_
 refine nV<|aY ?_
 refine aH<|aP<|aB<|aj<|ak rfl<|aj<|ak rfl<|aq<|hcr (m:=20000) (by decide) h1s h2s h3s j1s j2s j3s ?_
 refine nV<|aY ?_
 refine aH<|aP<|aB<|aj<|ak rfl<|aj<|ak rfl<|aq<|hcr (m:=20000) (by decide) f1s f2s f3s h1s h2s h3s ?_
 refine nV<|aY ?_
 refine aH<|aP<|aB<|aj<|ak rfl<|aj<|ak rfl<|aq<|hcr (m:=20000) (by decide) g1s g2s g3s j1s j2s j3s ?_
 refine nV<|aY ?_
 have nA:=Ah A1 A2 A3 k1s k2s k3s;have nB:=Ah B1 B2 B3 k1s k2s k3s;refine aH<|aP<|aD<|aB<|aj<|ak rfl<|aj<|ak rfl<|aq<|hdt (m:=40002) (k:=20000) (by decide) (by decide) A1 A2 A3 k1s k2s k3s ?_
 refine aB<|aj<|ak rfl<|aj<|ak rfl<|aq<|hdt (m:=40002) (k:=20000) (by decide) (by decide) B1 B2 B3 k1s k2s k3s<|bG (.of nA nB (by decide)<|by decide) ?_
 have pA:=Mp nA nB;refine nV<|aY ?_
 have nC:=Ah C1 C2 C3 k1s k2s k3s;have nD:=Ah D1 D2 D3 k1s k2s k3s;refine aH<|aP<|aD<|aB<|aj<|ak rfl<|aj<|ak rfl<|aq<|hdt (m:=40002) (k:=20000) (by decide) (by decide) C1 C2 C3 k1s k2s k3s ?_
 refine aB<|aj<|ak rfl<|aj<|ak rfl<|aq<|hdt (m:=40002) (k:=20000) (by decide) (by decide) D1 D2 D3 k1s k2s k3s<|bG (.of nC nD (by decide)<|by decide) ?_
 have pC:=Mp nC nD;refine nV<|aY ?_
 refine aX<|bL<|aj<|gn<|qT<|aj<|aB<|aj<|ak rfl<|aj<|ak rfl<|aq<|hpa (m:=40002) (by decide) C1 C2 C3 D1 D2 D3 ?_
 refine aj<|aB<|aj<|ak rfl<|aj<|ak rfl<|aq<|hpa (m:=40002) (by decide) A1 A2 A3 B1 B2 B3<|aq<|Ca rfl rfl rfl<|wL rfl ?_
 refine dj rfl<|bH<|bD<|aD<|aD<|ak rfl<|ak rfl<|bG (.of pA (Mp C1 D1) (by decide)<|by decide)<|aD<|ak rfl<|ak rfl<|bG (.of pC (Mp A1 B1) (by decide)<|by decide)<|eO ?_
 refine dj rfl<|bH<|bD<|aD<|aD<|ak rfl<|ak rfl<|bG (.of pA (Sh C1 D2 C2 D1) (by decide)<|by decide)<|aD<|ak rfl<|ak rfl<|bG (.of pC (Sh A1 B2 A2 B1) (by decide)<|by decide)<|eO ?_
 refine dj rfl<|bH<|bD<|aD<|aD<|ak rfl<|ak rfl<|bG (.of pA (Mp C2 D2) (by decide)<|by decide)<|aD<|ak rfl<|ak rfl<|bG (.of pC (Mp A2 B2) (by decide)<|by decide)<|eO ?_
 refine dj rfl<|bH<|bD<|aD<|aD<|ak rfl<|ak rfl<|bG (.of pA (Sh C1 D3 C3 D1) (by decide)<|by decide)<|aD<|ak rfl<|ak rfl<|bG (.of pC (Sh A1 B3 A3 B1) (by decide)<|by decide)<|eO ?_
 refine dj rfl<|bH<|bD<|aD<|aD<|ak rfl<|ak rfl<|bG (.of pA (Sh C2 D3 C3 D2) (by decide)<|by decide)<|aD<|ak rfl<|ak rfl<|bG (.of pC (Sh A2 B3 A3 B2) (by decide)<|by decide)<|eO ?_
 refine dj rfl<|bH<|bD<|aD<|aD<|ak rfl<|ak rfl<|bG (.of pA (Mp C3 D3) (by decide)<|by decide)<|aD<|ak rfl<|ak rfl<|bG (.of pC (Mp A3 B3) (by decide)<|by decide)<|eO ?_
 refine qG<|aq<|bW<|gF ?_
 have com:∀ a b c d:Int,a*b - c*d=b*a - d*c:=fun a b c d=>by rw [SM a,SM c]
 refine Eq.mp (congrArg (fun l=>Q (.tup l) h) ?_) q;unfold crv;simp only [Bu,Jo,VD,VJ,List.cons.injEq,W.int.injEq,and_true];exact ⟨com ..,com ..,com ..,com ..,com ..,com ..⟩
theorem Z8 (hcr:CrI cr)(hdt:DoI dt)(htu:TuI tu)(hro:RoI ro)(htm:TmI tm)(hpa:PaI pa):Xq (fQ cr dt tu ro tm pa):=by
 intro h x ws fs L n zs Q E cl rw' bx hL q;have n4:n<=64:=by rcases cl with ⟨_,rfl⟩ | ⟨_,rfl⟩ <;> decide
 cases rw' with
 | join hx a1 a2=>exact Ln hcr htm cl (.join hx a1 a2) bx hL (by rcases hx with h | h;exact .inl h;exact .inr (.inl h)) q
 | about a1 a2=>exact Ln hcr htm cl (.about a1 a2) bx hL (.inr (.inr rfl)) q
 | curve a1 a2 a3 a4 a5=>exact agm hcr hdt hpa n4 bx hL a1 a2 a3 a4 a5 q
 | pole a1 a2=>exact aeO hcr hdt htu hro n4 bx hL a1 a2 q
 | other a1 a2 a3=>exact agI hdt htm n4 bx hL a1 a2 a3 q
def Ko:List Str:=["free", "join", "meet", "curve", "about", "pole", "other"]
def Br (x:Str):List Str:=if x = "join" then ["spot", "spot"] else if x = "meet" then ["line", "line"] else if x = "about" then ["curve", "spot"] else
 if x = "curve" then ["spot", "spot", "spot", "spot", "spot"] else if x = "pole" then ["curve", "line"] else if x = "other" then ["curve", "spot", "spot"] else []
def Nw1 (h h':Gh):Prop:=(∀ m,m≠h.nx->h'.c m=h.c m)/\h'.nx=h.nx+1
def Q6 (c0:Ar):Prop:=∀ {h:Gh} {x:Str} {Q:WK} {E:Cd},x∈Ko->(∀ h',Nw1 h h'->Q (.lst ((Br x).map .str)) h')->c0 [.str x] h Q E
def Cm:List (Key×W):=[(.inr "free",.lst []),(.inr "join",.lst [.str "spot",.str "spot"]),(.inr "meet",.lst [.str "line",.str "line"]),(.inr "about",.lst [.str "curve",.str "spot"]),
 (.inr "curve",.lst [.str "spot",.str "spot",.str "spot",.str "spot",.str "spot"]),(.inr "pole",.lst [.str "curve",.str "line"]),(.inr "other",.lst [.str "curve",.str "spot",.str "spot"])]
theorem zbY (hx:x∈Ko):qd Cm (.inr x)=FN (.lst ((Br x).map .str)):=by
 unfold Ko at hx;simp only [G7,QJ,or_false] at hx;rcases hx with e | e | e | e | e | e | e <;> subst e <;> rfl
theorem zcw:Q6 yZ:=by
 intro h x Q E hx k;show (match (h.new (.dct [])).c h.nx with
  | some (.dct [])=>_
  | _=>False)
 rw [G8];show (match (((h.new (.dct [])).set h.nx (.dct (Cm.take 4))).c h.nx) with
  | some (.dct kvs)=>_
  | _=>False)
 rw [ud];refine fG.mk (by rw [V3];decide) ?_;show (match ((((h.new (.dct [])).set h.nx (.dct (Cm.take 4))).set h.nx (.dct (Cm.take 5))).c h.nx) with
  | some (.dct kvs)=>_
  | _=>False)
 rw [ud];refine fG.mk (by rw [V3];decide) ?_;show (match (((((h.new (.dct [])).set h.nx (.dct (Cm.take 4))).set h.nx (.dct (Cm.take 5))).set h.nx (.dct (Cm.take 6))).c h.nx) with
  | some (.dct kvs)=>_
  | _=>False)
 rw [ud];refine fG.mk (by rw [V3];decide) ?_;show (match ((((((h.new (.dct [])).set h.nx (.dct (Cm.take 4))).set h.nx (.dct (Cm.take 5))).set h.nx (.dct (Cm.take 6))).set h.nx (.dct Cm)).c h.nx) with
  | some (.dct kvs)=>_
  | _=>False)
 rw [ud];show (match qd Cm (.inr x) with
  | some w=>_
  | none=>False)
 rw [zbY hx];refine k _ ⟨fun m hm=>?_,rfl⟩;rw [mL hm,mL hm,mL hm,mL hm,vK hm]
def PK (x:Str):Str:=if x = "join" then "line" else if x = "about" then "line" else if x = "curve" then "curve" else "spot"
def Cj (c0:Ar):Prop:=∀ {h:Gh} {x:Str} {ws:List W} {Q:WK} {E:Cd},x∈Ko->Q (.str (PK x)) h->c0 [.tup (.str x::ws)] h Q E
theorem Ec:Cj rY:=by
 intro h x ws Q E hx k;unfold PK at k;have ix:∀ {Q':WK} {h':Gh},Q' (.str x) h'->BJ (.tup (.str x::ws)) (.int 0) h' Q':=fun z=>cJ (ws:=.str x::ws) (w:=.str x) rfl (cL (j:=0) rfl) z
 unfold rY;rfl'
 refine ix<|aU<|cI<|dD<|v8 (fun e=>?_)<|fun e=>?_
 ·rw [if_pos e] at k;rfl'
  exact k
 ·rw [if_neg e] at k;rfl'
  refine ix<|aU<|cI<|dD<|v8 (fun e=>?_)<|fun e=>?_
  ·rw [if_pos e] at k;rfl'
   exact k
  ·rw [if_neg e] at k;rfl'
   unfold qM;rfl'
   refine ix<|aU<|cI ?_
   by_cases e:x=("curve" : Str)
   ·rw [if_pos e] at k;rw [decide_eq_true e];exact k
   ·rw [if_neg e] at k;rw [decide_eq_false e];exact k
def Ob (w:W):Prop:=∃ x ns,x∈Ko/\w=.tup (.str x::(ns:List Int).map .int)
def JT:W->Str
 | .tup (.str x::_)=>PK x
 | _ => ""
theorem Ob.sort (r:Ob w)(hc:Cj c0)(k:Q (.str (JT w)) h):c0 [w] h Q E:=by
 obtain ⟨x,ns,hx,e⟩:=r;subst e;exact hc hx k
inductive Th (h:Gh):W->Prop
 | int {i:Int}:Th h (.int i)
 | bl {b:Bool}:Th h (.bl b)
 | str {s:Str}:Th h (.str s)
 | non:Th h .non
 | tup {ws:List W}:Th h (.tup ws)
 | lst {ws:List W}:Th h (.lst ws)
 | loc {n:Nat} {ws:List W} (e:h.c n=FN (.lst ws)) (l:n<h.nx):Th h (.loc n)
def abV:W->Bool
 | .int _=>true
 | _=>false
def Pk (ss:List Str):W->Option Str
 | .int i=>if 0<=i then ss[i.toNat]? else FX
 | _=>FX
variable {ss : List Str}
theorem agd (e:v<0):Pk ss (.int v)=FX:=by
 show (if 0<=v then ss[v.toNat]? else FX)=FX;rw [if_neg (by lia)]
theorem Mt (e:0<=v):Pk ss (.int v)=ss[v.toNat]?:=by
 show (if 0<=v then ss[v.toNat]? else FX)=_;rw [if_pos e]
def Qo (c0:Ar):Prop:=∀ {h:Gh} {b n:Nat} {rws:List W} {s:Str} {Q:WK} {E:Cd},Jd h b->h.c n=FN (.lst rws)->b≠n->(∀ r∈rws,Ob r)->rws.length<=24->(∃ r∈rws,JT r=s) ->
 (∀ (j:Nat) h',(rws.map JT)[j]?=FN s->Jd h' b->Ke b h h'->Q (.int j) h')->c0 [.loc b,.loc n,.str s] h Q E
theorem agr {c1:Ar}(hd:nU c0)(hs:Cj c1):Qo (tL c0 c1):=by
 intro h b n rws s Q E hb hn ne hr hl hex k;have ev:=cZ hn;unfold tL;rfl'
 refine fJ ev<|aq<|BK (m:=rws.length) (by lia)<|wL (by rw [Bx];unfold rng;rw [V9];exact Nat.ble_eq.mpr (by lia)) ?_
 refine dF (fun i acc h'=>h'=h/\∃ js:List Nat,acc=js.map (fun j:Nat=>W.int (j:Int))/\js.length<=i/\((∃ k,k<i/\∃ r,rws[k]?=FN r/\JT r=s)->js≠[])/\∀ j∈js,(rws.map JT)[j]?=FN s) ?_ ?_ ⟨rfl,[],rfl,Bp _,fun ⟨_,z,_⟩=>absurd z<|Nat.not_lt_zero _,fun j hj=>absurd hj<|by simp⟩
 ·rintro i w acc h' N hN e ⟨rfl,js,rfl,jl,jn,jo⟩;rw [Fv] at e;obtain ⟨x,ex,rfl⟩:=Vu.mp e;have e0:=(lF ex).1;have hx:=(lF ex).2;rw [Nat.zero_add] at e0;subst e0;have hri:rws[x]?=FN rws[x]:=Gz hx;refine ⟨[.int (x:Int)],rfl,?_⟩;refine aN<|aD<|aB<|aj<|aD<|ak rfl<|ak rfl<|cJ ev (cL hri)<|aq<|(hr _<|U7 hx).sort hs (ak rfl<|cI<|dD ?_)
  by_cases z:JT rws[x]=s
  ·rw [decide_eq_true z];refine bD<|ak rfl<|hN _ _ ⟨rfl,js++[x],by rw [Gp];rfl,by rw [JG];exact Nat.succ_le_succ jl,fun _ y=>?_,fun j hj=>?_⟩
   ·exact absurd (congrArg Pg y) (by rw [JG];exact Nat.succ_ne_zero _)
   ·rcases Jx.mp hj with hj | hj
    ·exact jo j hj
    ·rw [Jr.mp hj,Fv,hri,Option.map_some,z]
  ·rw [decide_eq_false z];refine zK<|hN _ _ ⟨rfl,js,rfl,Nat.le_succ_of_le jl,fun ⟨q,hq,r,e1,e2⟩=>jn ⟨q,?_,r,e1,e2⟩,jo⟩
   rcases Nat.lt_or_ge q x with y | y
   ·exact y
   ·have:q=x:=by lia
    subst this;rw [hri] at e1;cases e1;exact absurd e2 z
 ·rintro acc h' ⟨rfl,js,rfl,jl,jn,jo⟩;have hj:js≠[]:=by
   obtain ⟨r,h1,h2⟩:=hex;obtain ⟨q,hq,e⟩:=List.getElem_of_mem h1;refine jn ⟨q,?_,r,by rw [Gz hq,e],h2⟩;rw [Bx];unfold rng;rw [V9];exact hq
  have hjl:js.length<=24:=by
   rw [Bx] at jl;unfold rng at jl;rw [V9] at jl;lia
  have hj0:0<js.length:=List.length_pos_iff.mpr hj;rfl'
  rw [Bx];refine hd hb (by lia) (by unfold Sm;lia) fun d h2 d0 d1 hb2 ho=>?_;obtain ⟨dn,rfl⟩:=Wj d0;have hdn:dn<js.length:=by lia
  refine cJ (ws:=js.map fun j:Nat=>W.int (j:Int)) (w:=.int (js[dn]:Int)) rfl (cL (by rw [Fv,Gz hdn];rfl)) ?_;exact k _ _ (jo _<|U7 hdn) hb2 ho
def Gr (b:Nat)(h h':Gh):Prop:=h.nx<=h'.nx/\∀ m,m<h.nx->m≠b->h'.c m=h.c m
theorem Gr.trans {b:Nat}{h h1 h2:Gh}(x:Gr b h h1)(y:Gr b h1 h2):Gr b h h2:=⟨CW x.1 y.1,fun m hm ne=>(y.2 m (FJ hm x.1) ne).trans (x.2 m hm ne)⟩
theorem Ke.gr {h1:Gh}(x:Ke b h h1):Gr b h h1:=⟨Nat.le_of_eq x.1.symm,fun m _ ne=>x.2 m ne⟩
theorem Nw1.gr {h1:Gh}(x:Nw1 h h1):Gr b h h1:=⟨by rw [x.2];exact Qe _,fun m hm _=>x.1 m (G3 hm)⟩
theorem Nw1.bag {h1:Gh}(x:Nw1 h h1)(hb:Jd h b)(hl:b<h.nx):Jd h1 b:=by
 obtain ⟨p,q,e,r⟩:=hb;exact ⟨p,q,(x.1 b<|G3 hl).trans e,r⟩
variable {rws : List W}
theorem afp {c1:Ar}(hs:Cj c1)(hn:h.c n=FN (.lst rws))(hr:∀ r∈rws,Ob r)(hl:rws.length<=24)(q:Q (.lst (rws.map fun r=>.str (JT r))) h):
  lcK Ik [] jO (aJ c1 E (ao (aA 0) aL)) Z Q ⟨rws,FN (n,rws)⟩ h:=by
 refine fG.mk (CW hl<|by decide) ?_;refine agp (fun i acc h'=>h'=h/\acc=(rws.take i).map fun r=>.str<|JT r) ?_ ?_ ?_ ⟨rfl,rfl⟩
 ·rintro i acc h' ⟨rfl,_⟩ P p;exact ⟨hn,p⟩
 ·rintro i w acc h' N hN ew ⟨rfl,rfl⟩;refine ⟨[w],rfl,bH<|bD ?_⟩;refine aB<|aj<|ak rfl<|aq<|(hr w<|K4 ew).sort hs (hN _ _ ⟨rfl,?_⟩)
  rw [Ji,ew,Gp];rfl
 ·rintro acc h' ⟨rfl,rfl⟩;rw [K3];exact q
theorem abd {y:W}{us:List Str}{a:Str}(e:dX h y=FN (us.map .str))(k:Q (.bl (!decide (a∈us))) h):Aj (.str a) y h Q:=by
 have e1:(Ce 20 (.str a)&&(us.map W.str).all (Ce 20))=true:=by
  rw [Nr];refine ⟨rfl,QB.mpr fun w hw=>?_⟩;obtain ⟨x,_,rfl⟩:=GX.mp hw;rfl
 have e2:((us.map W.str).any fun u=>Dv u (.str a))=decide (a∈us):=by
  rw [VB,Sy,decide_eq_true_iff];constructor
  ·rintro ⟨w,hw,he⟩;obtain ⟨x,hx,rfl⟩:=GX.mp hw;rw [wB] at he;rw [<-eq_of_beq he];exact hx
  ·intro ha;exact ⟨.str a,GX.mpr ⟨a,ha,rfl⟩,by rw [wB];exact beq_self_eq_true a⟩
 unfold Aj;rw [e];show Hz (Ce 20 (.str a)&&(us.map W.str).all (Ce 20)) _ _;rw [e1,e2];exact k
theorem YS {us:List Str}(hZ : lg ix Z = [FN (.lst (ss.map .str))])(hl:us.length<=24)(q:∀ ls:List Str,(ls=[]->∀ u∈us,u∈ss)->ls.length<=24->Q (.lst (ls.map .str)) h):
  lcK Ik ix (bM (AP Aj (aA 0) (aA 1))) (aA 0) Z Q ⟨us.map .str,FX⟩ h:=by
 refine fG.mk (by rw [Bx];exact CW hl (by decide)) ?_;refine dF (fun i acc h'=>h'=h/\∃ ls:List Str,acc=ls.map .str/\ls.length<=i/\(ls=[]->∀ u∈us.take i,u∈ss)) ?_ ?_ ⟨rfl,[],rfl,Bp _,fun _ u hu=>by simp at hu⟩
 ·rintro i w acc h' N hN e ⟨rfl,ls,rfl,ll,lh⟩;rw [Fv] at e;obtain ⟨u,eu,rfl⟩:=Vu.mp e;refine ⟨[.str u],rfl,?_⟩;rw [hZ];refine aN<|aD<|ak rfl<|ak rfl<|abd (us:=ss) rfl<|dD ?_
  by_cases z:u∈ss
  ·rw [decide_eq_true z];refine zK<|hN _ _ ⟨rfl,ls,rfl,Nat.le_succ_of_le ll,fun e v hv=>?_⟩
   rw [Ji,eu] at hv;rcases Jx.mp hv with hv | hv
   ·exact lh e v hv
   ·have:v=u:=by simpa using hv
    rw [this];exact z
  ·rw [decide_eq_false z];refine bD<|ak rfl<|hN _ _ ⟨rfl,ls++[u],by rw [Gp];rfl,by rw [JG];exact Nat.succ_le_succ ll,fun y=>?_⟩
   exact absurd (congrArg Pg y) (by rw [JG];exact Nat.succ_ne_zero _)
 ·rintro acc h' ⟨rfl,ls,rfl,ll,lh⟩;rw [Bx] at ll lh;rw [K3] at lh;exact q ls lh<|CW ll hl
theorem wO (hx:x∈Ko):(Br x).length<=24:=by
 unfold Ko at hx;simp only [G7,QJ,or_false] at hx;rcases hx with e | e | e | e | e | e | e <;> subst e <;> decide
theorem Zi {a b:List W}(hz:a.length+b.length<=1000)(x:Q (.lst (a++b)) h):dN (.lst a) (.lst b) h Q:=fG.mk (CW hz (by decide:1000<=Dp)) x
theorem Ez {c1 c2 c3:Ar}(ha:Q6 c1)(hp:Qo c3){a2 a3 a4 a6:Option W}{D:bV}(hb:Jd h b)(hn:h.c n=FN (.lst rws))(ne:b≠n)(bl:b<h.nx)(nl:n<h.nx)
  (hr:∀ r∈rws,Ob r) (hl:rws.length<=24) (hx:x∈Ko) (hs:∀ s∈Br x,∃ r∈rws,JT r=s) (k:∀ (ns:List Int) h',(ns.map W.int).map (Pk (rws.map JT))=(Br x).map FN->Jd h' b->Gr b h h'->D.rt (.tup (.str x::ns.map .int)) h') :
  oX c0 c1 c2 c3 E D [FN (.loc b),FN (.loc n),a2,a3,a4,FN (.str x),a6] h:=by
 unfold oX;rfl'
 refine ha hx fun h2 n2=>?_;have hn2:h2.c n=FN (.lst rws):=(n2.1 n (G3 nl)).trans hn;have hb2:Jd h2 b:=n2.bag hb bl;have g2:Gr b h h2:=n2.gr;rfl'
 refine fG.mk (by rw [Bx];exact CW (wO hx) (by decide)) ?_;refine dF (fun i acc h'=>Jd h' b/\Ke b h2 h'/\∃ ns:List Int,acc=ns.map .int/\ns.length=i/\(ns.map W.int).map (Pk<|rws.map JT)=((Br x).take i).map FN) ?_ ?_ ⟨hb2,⟨rfl,fun _ _=>rfl⟩,[],rfl,rfl,rfl⟩
 ·rintro i w acc h' N hN e ⟨hb',o',ns,rfl,el,em⟩;rw [Fv] at e;obtain ⟨u,eu,rfl⟩:=Vu.mp e;refine ⟨[.str u],rfl,bH<|bD<|aB<|aj<|ak rfl<|aj<|ak rfl<|aj<|ak rfl<|aq ?_ ⟩;refine hp hb' ((o'.2 n<|Im ne).trans hn2) ne hr hl (hs u<|K4 eu) fun j h3 jo hb3 o3=>?_;exact hN _ _ ⟨hb3,⟨o3.1.trans o'.1,fun m hm=>(o3.2 m hm).trans (o'.2 m hm)⟩,ns++[(j:Int)],by rw [Gp];rfl,by rw [JG,el];rfl,by rw [Gp,Gp,em,Ji,eu,Gp];show _++[Pk _ _]=_;rw [Mt<|Int.natCast_nonneg _,V6,jo];rfl⟩
 ·rintro acc h' ⟨hb',o',ns,rfl,el,em⟩;have ahK:ns.length<=24:=by rw [el,Bx];exact wO hx
  rfl'
  refine Zi (by rw [Bx];show 1+ns.length<=1000;lia) ?_;exact k ns h' (by rw [em,Bx,K3]) hb'<|g2.trans o'.gr
def ok1 (ss:List Str):W->Bool
 | .tup (.str x::ns)=>decide (x∈Ko)&&decide (ns.map (Pk ss)=(Br x).map FN)
 | _=>false
def aaL:W->Bool
 | .tup (.str x::_)=>decide (x = "free")
 | _=>false
theorem Qd {ns:List W}(hx:x∈Ko)(e:ns.map (Pk ss)=(Br x).map FN):ok1 ss (.tup (.str x::ns))=true:=by
 show (decide (x∈Ko)&&decide (ns.map (Pk ss)=(Br x).map FN))=true;rw [decide_eq_true hx,decide_eq_true e];rfl
def Od:List Str:=["join", "meet", "curve", "about", "pole", "other", "join", "meet", "join", "meet"]
theorem acO:∀ i:Fin Od.length,Od[i]∈Ko:=by decide +kernel
def aaR (c0:Ar):Prop:=∀ {h:Gh} {b n:Nat} {rws:List W} {fr:Int} {Q:WK} {E:Cd},Jd h b->h.c n=FN (.lst rws)->b≠n->b<h.nx->n<h.nx->(∀ r∈rws,Ob r)->rws.length<=23 ->
 ((rws.length:Int)<fr\/∃ r∈rws,JT r = "spot")->(∀ r h',Ob r->((rws.length:Int)<fr->JT r = "spot")->ok1 (rws.map JT) r=true->aaL r=decide ((rws.length:Int)<fr)->Jd h' b->Gr b h h'->Q r h')->c0 [.loc b,.loc n,.int fr] h Q E
theorem Zk {c1 c2 c3:Ar}(hd:nU c0)(ha:Q6 c1)(hs:Cj c2)(hp:Qo c3):aaR (xr c0 c1 c2 c3):=by
 intro h b n rws fr Q E hb hn ne bl nl hr hl hsp k;unfold xr;rfl'
 refine afp hs hn hr (by lia) ?_;rfl'
 refine hd hb (by decide) (by unfold Sm;decide) fun d h1 d0 d1 hb1 o1=>?_;obtain ⟨dn,rfl⟩:=Wj d0;have hdn:dn<Od.length:=by show dn<10;lia
 have hx:Od[dn]∈Ko:=acO ⟨dn,hdn⟩;have nf:("free" : Str)∉Od:=by decide
 generalize ew:Od[dn]=x at hx;have g1:Gr b h h1:=o1.gr;have hn1:h1.c n=FN (.lst rws):=(o1.2 n (Im ne)).trans hn;rfl'
 refine cJ (ws:=Od.map W.str) (w:=.str x) rfl (cL (by rw [Fv,Gz hdn,ew];rfl)) ?_;rfl'
 refine ha hx fun h2 n2=>?_;have nl1:n<h1.nx:=FJ nl g1.1;have bl1:b<h1.nx:=FJ bl g1.1;have hn2:h2.c n=FN (.lst rws):=(n2.1 n (G3 nl1)).trans hn1;have hb2:Jd h2 b:=n2.bag hb1 bl1;have g2:Gr b h h2:=g1.trans n2.gr;have v2:=cZ hn2;rfl'
 refine YS (ss:=rws.map JT) (by rw [JV];rfl) (wO hx) fun ls lh ll=>?_;have nl2:n<h2.nx:=FJ nl g2.1;have bl2:b<h2.nx:=FJ bl g2.1;rfl'
 refine fJ v2 ?_;rfl'
 refine v8 (fun e=>?_)<|fun e=>?_
 ·rfl'
  refine fJ v2 ?_;rfl'
  rw [decide_eq_true e];refine Ez (c0:=c0) (c2:=c2) (x := "free") ha hp hb2 hn2 ne bl2 nl2 hr (by lia) (by decide) (fun s hs=>absurd (show s∈([]:List Str) from hs)<|by simp) fun ns h3 eo hb3 g3=>?_;exact k _ _ ⟨"free",ns,by decide,rfl⟩ (fun _=>rfl) (Qd (by decide) eo) (by rw [decide_eq_true e];rfl) hb3<|g2.trans g3
 ·rfl'
  refine v8 (fun e'=>?_)<|fun e'=>?_
  ·rfl'
   refine fJ v2 ?_;rfl'
   rw [decide_eq_false e];refine Ez (c0:=c0) (c2:=c2) (x := "join") ha hp hb2 hn2 ne bl2 nl2 hr (by lia) (by decide) (fun s hs=>?_) fun ns h3 eo hb3 g3=>?_
   ·have es:s = "spot":=by
     have h0:s∈(["spot", "spot"]:List Str):=hs
     simpa using h0
    rw [es];exact hsp.resolve_left e
   ·exact k _ _ ⟨"join",ns,by decide,rfl⟩ (fun z=>absurd z e) (Qd (by decide) eo) (by rw [decide_eq_false e];rfl) hb3<|g2.trans g3
  ·have el:ls=[]:=by
    rw [Bx] at e';exact List.length_eq_zero_iff.mp<|by lia
   refine Ez (c0:=c0) (c2:=c2) (x:=x) ha hp hb2 hn2 ne bl2 nl2 hr (by lia) hx (fun s hs=>?_) fun ns h3 eo hb3 g3=>?_
   ·obtain ⟨r,h1,h2⟩:=GX.mp (lh el s hs);exact ⟨r,h1,h2⟩
   ·exact k _ _ ⟨x,ns,hx,rfl⟩ (fun z=>absurd z e) (Qd hx eo) (by rw [decide_eq_false e];exact decide_eq_false (fun z=>nf<|z ▸ ew ▸ U7 hdn)) hb3<|g2.trans g3
def N7 (c0:Ar):Prop:=∀ {h:Gh} {a:Int} {Q:WK} {E:Cd},(∀ h',Jd h' h.nx->h'.nx=h.nx+1->(∀ m,m≠h.nx->h'.c m=h.c m)->Q (.loc h.nx) h')->c0 [.int a] h Q E
theorem aac:N7 Ed:=by
 intro h a Q E k;refine And.intro ⟨by decide,by decide,by decide⟩ ?_;refine And.intro (.inr<|.inr ?_) ?_
 ·have g:∀ b:Bool,Sm 64 (if b=true then (1:Int) else 0):=fun b=>by
   cases b
   ·exact Sm.zero
   ·exact .lit rfl
  exact g _
 refine And.intro (show (2147483647:Int)≠0 by decide) ?_;refine k _ ⟨_,_,G8 _ _,?_,?_⟩ rfl fun m hm=>vK hm
 ·rw [dU (by decide)];exact U4 _ (by decide)
 ·rw [dU (by decide)];exact Tf _ (by decide)
theorem pO {a:List Int}:lW (a.map .int) (a.map .int)=true:=by
 induction a with
 | nil=>rfl
 | cons x a ih=>
  show (Dv (.int x) (.int x)&&lW (a.map .int) (a.map .int))=true;rw [ih,jA,beq_self_eq_true];rfl
theorem afF {r:W}(hr:Ob r):Dv r r=true:=by
 obtain ⟨x,ns,_,rfl⟩:=hr;show (Dv (.str x) (.str x)&&lW (ns.map .int) (ns.map .int))=true;rw [pO,wB,beq_self_eq_true];rfl
theorem agb {r:W}(hr:Ob r):Ce (n+2) r=true:=by
 obtain ⟨x,ns,_,rfl⟩:=hr;show ((W.str x::ns.map .int).all (Ce (n+1)))=true;rw [Sq,Nr];refine ⟨rfl,QB.mpr fun w hw=>?_⟩;obtain ⟨y,_,rfl⟩:=GX.mp hw;rfl
theorem Fi:∀ {rws:List W},(∀ r∈rws,Ob r)->lW rws rws=true
 | [],_=>rfl
 | r::rws,h=>by
  show (Dv r r&&lW rws rws)=true;rw [afF (h r JW),Fi fun r hr=>h r (IK _ hr)];rfl
theorem Ly {i:Int}(x:Q (.int (if j>i then j else i)) h):UL [.int i,.int j] h Q:=x
theorem Lj {us:List W}(e:h.c n=FN (.lst us))(k:Q (.lst us) h):uY [.loc n] h Q:=by
 show (match view h (.loc n) with
  | some us=>Q (.lst us) h
  | none=>False)
 rw [cZ e];exact k
def Th7 (L n:Nat)(s:Str)(w:W):Prop:=∃ T:List (List Tm),w=tW T/\T.length=Bb s/\∀ us∈T,Mb L 40 1 n us
def RZ (L n:Nat)(rws thg:List W):Prop:=rws.length=thg.length/\∀ (j:Nat) (s:Str),(rws.map JT)[j]?=FN s->∃ w,thg[j]?=FN w/\Th7 L n s w
theorem En {L b p n:Nat}:∀ {T:List (List Tm)},(∀ us∈T,Mb L b p n us)->EL L b p n (T.map fun us xs=>lin (fun q=>mo q xs L) us) T
 | [],_=>.nil
 | us::T,h=>.cons ⟨h us JW,fun _=>rfl⟩ (En fun u hu=>h u (IK _ hu))
theorem Th7.sp {s:Str}(h:Th7 L n s w)(ne:s ≠ "curve"):∃ (f g k:Fn) (x y z:List Tm),w=tW [x,y,z]/\Sp L n f g k x y z:=by
 obtain ⟨T,rfl,lT,mT⟩:=h;unfold Bb at lT;rw [if_neg ne] at lT;have e:=En mT;match T,lT,e with
 | [x,y,z],_,e=>
  obtain ⟨a,b,c,q,r⟩:=e.e3;cases q;exact ⟨_,_,_,_,_,_,rfl,r⟩
theorem Th7.cv (h:Th7 L n "curve" w):∃ (f0 f1 f2 f3 f4 f5:Fn) (x0 x1 x2 x3 x4 x5:List Tm),w=tW [x0,x1,x2,x3,x4,x5]/\Cv L n f0 f1 f2 f3 f4 f5 x0 x1 x2 x3 x4 x5:=by
 obtain ⟨T,rfl,lT,mT⟩:=h;have e:=En mT;match T,lT,e with
 | [x0,x1,x2,x3,x4,x5],_,e=>exact ⟨_,_,_,_,_,_,_,_,_,_,_,_,rfl,e⟩
variable {thg : List W}
theorem acq {r:W}(f:RZ L n rws thg)(t:Th7 L n (JT r) w):RZ L n (rws++[r]) (thg++[w]):=by
 refine ⟨by rw [JG,JG,f.1];rfl,fun j s e=>?_⟩;rw [Gp] at e;by_cases hj:j<rws.length
 ·rw [Ow (by rw [Bx];exact hj)] at e;obtain ⟨u,eu,tu⟩:=f.2 j s e;exact ⟨u,by rw [Ow (by rw [<-f.1];exact hj)];exact eu,tu⟩
 ·rw [OJ (by rw [Bx];lia),Bx] at e;have hj':j - rws.length=0:=by
   have:=(K5.mp e).1
   have h2:j - rws.length<1:=this;lia
  rw [hj'] at e;cases e;refine ⟨w,?_,t⟩;rw [OJ (by rw [<-f.1];lia),<-f.1,hj'];rfl
def Rt (ss:List Str)(r:W):Prop:=∃ (x:Str) (js:List Nat),r=.tup (.str x::js.map fun j:Nat=>W.int (j:Int))/\x∈Ko/\x ≠ "free"/\js.map (fun j=>ss[j]?)=(Br x).map FN
theorem Rt.app {tt:List Str}{r:W}(h:Rt ss r):Rt (ss++tt) r:=by
 obtain ⟨x,js,e,hx,hf,em⟩:=h;refine ⟨x,js,e,hx,hf,?_⟩;rw [<-em];refine Ut fun j hj=>?_;have:ss[j]?∈(Br x).map FN:=em ▸ GX.mpr ⟨j,hj,rfl⟩
 obtain ⟨s,_,es⟩:=GX.mp this;rw [<-es];rw [Ow (K5.mp es.symm).1];exact es.symm
theorem Mj {ss:List Str}:∀ {ns:List Int} {ls:List Str},(ns.map W.int).map (Pk ss)=ls.map FN->∃ js:List Nat,ns.map W.int=js.map (fun j:Nat=>W.int (j:Int))/\js.map (fun j=>ss[j]?)=ls.map FN
 | [],ls,e=>⟨[],rfl,e⟩
 | v::ns,[],e=>by cases e
 | v::ns,s::ls,e=>by
  obtain ⟨js,e1,e2⟩:=Mj (ns:=ns) (ls:=ls) (congrArg List.tail e);have e0:Pk ss (.int v)=FN s:=Eu (congrArg (fun l=>l[0]?) e);have hv:0<=v:=Int.not_lt.mp fun z=>by rw [agd z] at e0;cases e0
  rw [Mt hv] at e0;refine ⟨v.toNat::js,?_,?_⟩
  ·rw [Bu,Bu,e1,Int.toNat_of_nonneg hv]
  ·rw [Bu,Bu,e0,e2]
theorem X6 {r:W}(rr:Ob r)(h:ok1 ss r=true)(f:aaL r=false):Rt ss r:=by
 obtain ⟨x,ns,hx,rfl⟩:=rr;have h2:(decide (x∈Ko)&&decide ((ns.map W.int).map (Pk ss)=(Br x).map FN))=true:=h;rw [Nr,decide_eq_true_iff,decide_eq_true_iff] at h2;obtain ⟨js,e1,e2⟩:=Mj h2.2;exact ⟨x,js,by rw [e1],hx,of_decide_eq_false f,e2⟩
variable {js : List Nat}
theorem qX {a:Str}(h:js.map (fun j=>ss[j]?)=[a].map FN):∃ i,js=[i]/\ss[i]?=FN a:=by
 cases js with
 | nil=>cases h
 | cons i js=>
  cases js with
  | nil=>exact ⟨i,rfl,Eu (congrArg (fun l=>l[0]?) h)⟩
  | cons j js=>exact absurd (congrArg Pg h) (by simp)
theorem jz {a:Str}{ls:List Str}(h:js.map (fun j=>ss[j]?)=(a::ls).map FN):∃ i is,js=i::is/\ss[i]?=FN a/\is.map (fun j=>ss[j]?)=ls.map FN:=by
 cases js with
 | nil=>cases h
 | cons i js=>exact ⟨i,js,rfl,Eu (congrArg (fun l=>l[0]?) h),congrArg List.tail h⟩
theorem ZP (f:RZ L n rws thg)(hx:x∈Ko)(hf:x ≠ "free")(em:js.map (fun j=>(rws.map JT)[j]?)=(Br x).map FN):∃ (ws:List (List (List Tm))) (fs:List Fn),js.map (fun j=>thg[j]?)=ws.map (fun T=>FN (tW T))/\Rw L n x ws fs/\fs.length=Bb x:=by
 have sp:∀ {i:Nat} {s:Str},(rws.map JT)[i]?=FN s->s ≠ "curve"->∃ (f g k:Fn) (x y z:List Tm),thg[i]?=FN (tW [x,y,z])/\Sp L n f g k x y z:=fun e ne=>by
  obtain ⟨w,ew,t⟩:=f.2 _ _ e;obtain ⟨f,g,k,x,y,z,rfl,h⟩:=t.sp ne;exact ⟨f,g,k,x,y,z,ew,h⟩
 have cv:∀ {i:Nat},(rws.map JT)[i]?=FN "curve"->∃ (f0 f1 f2 f3 f4 f5:Fn) (x0 x1 x2 x3 x4 x5:List Tm),thg[i]?=FN (tW [x0,x1,x2,x3,x4,x5])/\Cv L n f0 f1 f2 f3 f4 f5 x0 x1 x2 x3 x4 x5:=fun e=>by
  obtain ⟨w,ew,t⟩:=f.2 _ _ e;obtain ⟨f0,f1,f2,f3,f4,f5,x0,x1,x2,x3,x4,x5,rfl,h⟩:=t.cv;exact ⟨f0,f1,f2,f3,f4,f5,x0,x1,x2,x3,x4,x5,ew,h⟩
 unfold Ko at hx;simp only [G7,QJ,or_false] at hx;rcases hx with e | e | e | e | e | e | e
 ·exact absurd e hf
 all_goals subst e
 ·obtain ⟨i,_,rfl,h1,em⟩:=jz (a := "spot") (ls:=["spot"]) em;obtain ⟨j,rfl,h2⟩:=qX em;obtain ⟨_,_,_,_,_,_,e1,s1⟩:=sp h1 (by decide);obtain ⟨_,_,_,_,_,_,e2,s2⟩:=sp h2 (by decide);exact ⟨_,_,by simp only [Bu,Jo,e1,e2],.join (.inl rfl) s1 s2,rfl⟩
 ·obtain ⟨i,_,rfl,h1,em⟩:=jz (a := "line") (ls:=["line"]) em;obtain ⟨j,rfl,h2⟩:=qX em;obtain ⟨_,_,_,_,_,_,e1,s1⟩:=sp h1 (by decide);obtain ⟨_,_,_,_,_,_,e2,s2⟩:=sp h2 (by decide);exact ⟨_,_,by simp only [Bu,Jo,e1,e2],.join (.inr rfl) s1 s2,rfl⟩
 ·obtain ⟨i,_,rfl,h1,em⟩:=jz (a := "spot") (ls:=["spot", "spot", "spot", "spot"]) em;obtain ⟨i2,_,rfl,h2,em⟩:=jz (a := "spot") (ls:=["spot", "spot", "spot"]) em;obtain ⟨i3,_,rfl,h3,em⟩:=jz (a := "spot") (ls:=["spot", "spot"]) em;obtain ⟨i4,_,rfl,h4,em⟩:=jz (a := "spot") (ls:=["spot"]) em;obtain ⟨i5,rfl,h5⟩:=qX em;obtain ⟨_,_,_,_,_,_,e1,s1⟩:=sp h1 (by decide);obtain ⟨_,_,_,_,_,_,e2,s2⟩:=sp h2 (by decide);obtain ⟨_,_,_,_,_,_,e3,s3⟩:=sp h3 (by decide);obtain ⟨_,_,_,_,_,_,e4,s4⟩:=sp h4 (by decide);obtain ⟨_,_,_,_,_,_,e5,s5⟩:=sp h5 (by decide);exact ⟨_,_,by simp only [Bu,Jo,e1,e2,e3,e4,e5],.curve s1 s2 s3 s4 s5,rfl⟩
 ·obtain ⟨i,_,rfl,h1,em⟩:=jz (a := "curve") (ls:=["spot"]) em;obtain ⟨j,rfl,h2⟩:=qX em;obtain ⟨_,_,_,_,_,_,_,_,_,_,_,_,e1,s1⟩:=cv h1;obtain ⟨_,_,_,_,_,_,e2,s2⟩:=sp h2 (by decide);exact ⟨_,_,by simp only [Bu,Jo,e1,e2],.about s1 s2,rfl⟩
 ·obtain ⟨i,_,rfl,h1,em⟩:=jz (a := "curve") (ls:=["line"]) em;obtain ⟨j,rfl,h2⟩:=qX em;obtain ⟨_,_,_,_,_,_,_,_,_,_,_,_,e1,s1⟩:=cv h1;obtain ⟨_,_,_,_,_,_,e2,s2⟩:=sp h2 (by decide);exact ⟨_,_,by simp only [Bu,Jo,e1,e2],.pole s1 s2,rfl⟩
 ·obtain ⟨i,_,rfl,h1,em⟩:=jz (a := "curve") (ls:=["spot", "spot"]) em;obtain ⟨i2,_,rfl,h2,em⟩:=jz (a := "spot") (ls:=["spot"]) em;obtain ⟨j,rfl,h3⟩:=qX em;obtain ⟨_,_,_,_,_,_,_,_,_,_,_,_,e1,s1⟩:=cv h1;obtain ⟨_,_,_,_,_,_,e2,s2⟩:=sp h2 (by decide);obtain ⟨_,_,_,_,_,_,e3,s3⟩:=sp h3 (by decide);exact ⟨_,_,by simp only [Bu,Jo,e1,e2,e3],.other s1 s2 s3,rfl⟩
theorem XD (hd:nU dr)(hL:L<=8)(hZ : lg [3,8] Z = [FN (.int (L:Int)),FN (.loc b)])(hb:Jd h b)
  (q:∀ (xss:List (List Int)) h',xss.length=3->(∀ xs∈xss,xs.length=L/\Bd xs)->Ke b h h'->Q (.lst (xss.map fun xs=>.tup (xs.map .int))) h') :
  GK Ik [3,8] (iQ (ao (mC (.int 3)) aL)) jO (Dz cD (ao (GK Ik [2] (iQ (ao (aA 1) aL)) jO (AP yg (aJ dr E (ao (aA 1) (ao (mC (.int 7)) aL))) (mC (.int 3)))) aL)) Z h Q:=by
 refine gn<|mG<|aj<|aU<|aq<|BK (m:=3) (by decide)<|fG.mk (CW (m:=1000) (by rw [sV];decide)<|by decide) ?_
 refine dF (fun i acc g=>Jd g b/\Ke b h g/\∃ xss:List (List Int),acc=xss.map (fun xs=>.tup<|xs.map .int)/\xss.length=i/\∀ xs∈xss,xs.length=L/\Bd xs) ?_ ?_ ⟨hb,⟨rfl,fun _ _=>rfl⟩,[],rfl,rfl,fun _ z=>nomatch z⟩
 ·rintro i w acc g N hN e ⟨hg,og,xss,rfl,lx,ox⟩;refine ⟨[w],rfl,bH<|bD ?_⟩;rw [hZ];refine bL<|aj<|gn<|mG<|aj<|ak rfl<|aq<|BK (m:=L) (by lia)<|fG.mk (CW (m:=1000) (by rw [sV];lia)<|by decide) ?_
  refine dF (fun j acc g2=>Jd g2 b/\Ke b h g2/\∃ xs:List Int,acc=xs.map .int/\xs.length=j/\Bd xs) ?_ ?_ ⟨hg,og,[],rfl,rfl,fun _ z=>nomatch z⟩
  ·rintro j w' acc g2 N2 hN2 e2 ⟨hg2,og2,xs,rfl,lx2,bx⟩;refine ⟨[w'],rfl,bH<|bD<|aD<|aB<|aj<|ak rfl<|aj<|aU<|aq ?_⟩;refine hd hg2 (by decide) (by unfold Sm;decide) fun d g3 d0 d1 hb3 o3=>aU<|eO<|hN2 _ _ ⟨hb3,⟨o3.1.trans og2.1,fun m hm=>(o3.2 m hm).trans (og2.2 m hm)⟩,xs++[d - 3],by rw [Gp];rfl,by simp [lx2],?_⟩
   intro x hx;rcases Jx.mp hx with hx | hx
   ·exact bx x hx
   ·rw [Jr.mp hx];unfold Sm;refine Ot (m:=7) (by lia)<|by decide
  ·rintro acc g2 ⟨hg2,og2,xs,rfl,lx2,bx⟩;rw [sV] at lx2;refine aq<|bW<|hN _ _ ⟨hg2,og2,xss++[xs],by rw [Gp];rfl,by simp [lx],fun ys hy=>?_⟩
   rcases Jx.mp hy with hy | hy
   ·exact ox ys hy
   ·rw [Jr.mp hy];exact ⟨lx2,bx⟩
 ·rintro acc g ⟨hg,og,xss,rfl,lx,ox⟩;rw [sV] at lx;exact q xss g lx ox og
theorem aaN {la:Ar}(hla:AtX la)(hL:L<=8)(hT:T.length<=6)(hm:∀ us∈T,∀ t∈us,t.1.length=L/\Sm 1000 t.2/\Pw t.1)(hx:xs.length=L)(bx:Bd xs)(hZ : lg ix Z = [FN (.tup (xs.map .int))])(q:Q (.lst (T.map fun us=>.int (lin (fun q=>mo q xs L) us))) h):
  lcK Ik ix jO (aJ la E (ao (aA 0) (ao (aA 1) aL))) Z Q ⟨T.map Bt,FX⟩ h:=by
 refine fG.mk (CW (m:=1000) (by rw [Bx];lia)<|by decide) ?_;refine dF (fun i acc g=>g=h/\acc=(T.take i).map fun us=>.int<|lin (fun q=>mo q xs L) us) ?_ ?_ ⟨rfl,rfl⟩
 ·rintro i w acc g N hN e ⟨rfl,rfl⟩;rw [Fv] at e;cases qe:T[i]? with
  | none=>rw [qe] at e;cases e
  | some us=>
   rw [qe] at e;cases e;refine ⟨[Bt us],rfl,bH<|bD ?_⟩;rw [hZ];refine aB<|aj<|ak rfl<|aj<|ak rfl<|aq<|hla hL (hm us<|K4 qe) hx bx<|hN _ _ ⟨rfl,?_⟩
   rw [Ji,qe,Gp,afI];rfl
 ·rintro acc g ⟨rfl,rfl⟩;rw [Bx,K3];exact q
theorem Mb.at (h:Mb L b p n us)(hb:b<=1000)(hp:p<=40):∀ t∈us,t.1.length=L/\Sm 1000 t.2/\Pw t.1:=fun t ht=>by
 obtain ⟨a,_,c,d⟩:=h.2.2 t ht;exact ⟨a,c.mono hb,fun q hq=>by have:=d q hq;lia⟩
theorem EL.mb (e:EL L b p n fs T):∀ us∈T,Mb L b p n us:=fun us hu=>by
 obtain ⟨i,hi,ei⟩:=List.getElem_of_mem hu;obtain ⟨f,_,ev⟩:=e.at (i:=i) (us:=us) (by rw [Gz hi,ei]);exact ev.1
theorem EL.val (e:EL L b p n fs T)(xs:List Int):(T.map fun us=>W.int (lin (fun q=>mo q xs L) us))=fs.map fun f=>.int (f xs):=by
 induction e with
 | nil=>rfl
 | cons a _ ih=>rw [Bu,Bu,ih,a.2]
theorem Ym:Ce (n+5) (tW T)=true:=by
 have g:∀ us:List Tm,Ce (n+4) (Bt us)=true:=fun us=>by
  show ((us.map JR).all (Ce (n+3)))=true;refine QB.mpr fun w hw=>?_;obtain ⟨t,_,rfl⟩:=GX.mp hw;show (([.tup (t.1.map .int),.int t.2]:List W).all (Ce (n+2)))=true;rw [Sq,Sq,List.all_nil,Nr];refine ⟨?_,rfl⟩;show ((t.1.map W.int).all (Ce (n+1)))=true;refine QB.mpr fun w hw=>?_;obtain ⟨y,_,rfl⟩:=GX.mp hw;rfl
 show ((T.map Bt).all (Ce (n+4)))=true;refine QB.mpr fun w hw=>?_;obtain ⟨us,_,rfl⟩:=GX.mp hw;exact g us
theorem j7 (h:∀ w∈ws,Dv w w=true):lW ws ws=true:=by
 induction ws with
 | nil=>rfl
 | cons w ws ih=>
  show (Dv w w&&lW ws ws)=true;rw [h w JW,ih fun u hu=>h u (IK _ hu)];rfl
theorem ZD:Dv (tW T) (tW T)=true:=by
 refine j7 fun w hw=>?_;obtain ⟨us,_,rfl⟩:=GX.mp hw;refine j7 fun w hw=>?_;obtain ⟨t,_,rfl⟩:=GX.mp hw;refine j7 fun w hw=>?_;rw [G7,Jr] at hw;rcases hw with rfl | rfl
 ·exact pO
 ·rw [jA,beq_self_eq_true]
theorem zas {t:Nat}(e1:h.c n=FN (.lst rws))(e2:h.c t=FN (.lst thg))(hr:∀ r∈rws,Ob r)(ht:∀ w∈thg,∃ T,w=tW T)(k:Q (.bl false) h):Wg (.lst [.lst rws,.lst thg]) (.lst [.loc n,.loc t]) h Q:=by
 have d1:Cw h (.loc n)=FN (.lst rws):=by
  show (match h.c n with
   | some (.lst ws)=>FN (W.lst ws)
   | _=>FX)=_
  rw [e1]
 have d2:Cw h (.loc t)=FN (.lst thg):=by
  show (match h.c t with
   | some (.lst ws)=>FN (W.lst ws)
   | _=>FX)=_
  rw [e2]
 have da:sy h (.lst [.loc n,.loc t])=FN (.lst [.lst rws,.lst thg]):=by
  unfold sy;dsimp only;rw [mZ,mZ,mZ,d1,d2]
 have p1:Ce 29 (.lst rws)=true:=by
  show (rws.all (Ce 28))=true;exact QB.mpr fun r hr'=>agb<|hr r hr'
 have p2:Ce 29 (.lst thg)=true:=by
  show (thg.all (Ce 28))=true;exact QB.mpr fun w hw=>by
   obtain ⟨T,rfl⟩:=ht w hw;exact Ym
 have p:Ce 30 (.lst [.lst rws,.lst thg])=true:=by
  show (([W.lst rws,W.lst thg]:List W).all (Ce 29))=true;rw [Sq,Sq,List.all_nil,p1,p2];rfl
 unfold Wg;rw [da];show Hz (Ce 30 (.lst [.lst rws,.lst thg])&&Ce 30 (.lst [.lst rws,.lst thg])) (Q (.bl (!(lW rws rws&&(lW thg thg&&true)))) h) False;rw [p,Fi hr,j7 fun w hw=>by obtain ⟨T,rfl⟩:=ht w hw;exact ZD];exact k
theorem zaZ (f:RZ L n rws thg):∀ w∈thg,∃ T,w=tW T:=by
 intro w hw;obtain ⟨j,hj,e⟩:=List.getElem_of_mem hw;have hj':j<rws.length:=by rw [f.1];exact hj
 obtain ⟨u,eu,T,tu,_⟩:=f.2 j (JT rws[j]) (by rw [Fv,Gz hj'];rfl);rw [Gz hj,e] at eu;cases eu;exact ⟨T,tu⟩
theorem ada (k:Q (.bl false) h):KZ (.tup (ns.map .int)) (.tup (ns.map .int)) h Q:=by
 have p:Ce 30 (.tup (ns.map .int))=true:=by
  show ((ns.map W.int).all (Ce 29))=true;refine QB.mpr fun w hw=>?_;obtain ⟨y,_,rfl⟩:=GX.mp hw;rfl
 unfold KZ;show Hz (Ce 30 (.tup (ns.map .int))&&Ce 30 (.tup (ns.map .int))) (Q (.bl (!(lW (ns.map .int) (ns.map .int)))) h) False;rw [p,pO];exact k
theorem acs {us:List W}(x:Q (.tup us) h):cD [.tup us] h Q:=x
theorem zbB {la du:Ar}(hla:AtX la)(hdu:Xq du){k:Nat}{ws:List (List (List Tm))}{R:List (List Tm)}{xss:List (List Int)}{nn t:Nat}{a0 a1 a2 a3 a4 a8 a10 a12 a13 a14:Option W}{D:bV}
  (hn:h.c nn=FN (.lst rws)) (ht:h.c t=FN (.lst thg)) (hL:L<=8) (cl:Cl L n) (rw':Rw L n x ws fs) (ek:rws[k]?=FN (.tup (.str x::js.map fun j:Nat=>W.int (j:Int)))) (et:js.map (fun j=>thg[j]?)=ws.map (fun T=>FN (tW T))) (mT:∀ T∈ws,T.length<=6/\∀ us∈T,Mb L 40 1 n us) (eR:EL L 1000 40 600 fs R) (lR:R.length<=6) (lw:ws.length<=5) (ox:∀ xs∈xss,xs.length=L/\Bd xs)
  (q:∀ a13 a14,D.nx [a0,a1,a2,a3,a4,FN (.loc nn),FN (.loc t),FN (.int (k:Int)),a8,FN (.lst (xss.map fun xs=>.tup (xs.map .int))),a10,FN (tW R),a12,a13,a14] h) :
  (oN (Hx (aA 9)) (kI 13) (bw (bK (GK Ik [6,13] (Hx (mSl W2 (AP BJ (aA 5) (aA 7)) (Fp (mC (.int 1))) oH)) jO (Dz cD (ao (GK Ik [2] (Hx (AP BJ (aA 1) (aA 0))) jO (aJ la E (ao (aA 0) (ao (aA 1) aL)))) aL))) (kI 14))
  (lq (bM (AP KZ (Dz cD (ao (GK Ik [13] (Hx (aA 11)) jO (aJ la E (ao (aA 0) (ao (aA 1) aL)))) aL)) (Dz cD (ao (aJ du E (ao (AP BJ (AP BJ (aA 5) (aA 7)) (mC (.int 0))) (ao (aA 14) aL))) aL)))) (cF (mC (.bl false))) dB))) D [a0,a1,a2,a3,a4,FN (.loc nn),FN (.loc t),FN (.int (k:Int)),a8,FN (.lst (xss.map fun xs=>.tup (xs.map .int))),a10,FN (tW R),a12,a13,a14] h:=by
 have lj:js.length=ws.length:=by have:=congrArg Pg et;simpa using this
 refine g8<|fY<|ak rfl<|ql (ws:=xss.map fun xs=>.tup<|xs.map .int) (o:=FX) rfl<|iz ?_
 refine cY (fun i Z g=>g=h/\∃ a13 a14,Z = [a0,a1,a2,a3,a4,FN<|.loc nn,FN<|.loc t,FN<|.int (k:Int),a8,FN<|.lst<|xss.map fun xs=>.tup<|xs.map .int,a10,FN<|tW R,a12,a13,a14]) ?_ ?_ ⟨rfl,a13,a14,rfl⟩
 ·rintro i w Z g N hN e ⟨rfl,a13,a14,rfl⟩;rw [Fv] at e;cases qe:xss[i]? with
  | none=>rw [qe] at e;cases e
  | some xs=>
   rw [qe] at e;cases e;obtain ⟨lx,bx⟩:=ox xs (K4 qe);refine nV ?_;refine aH<|aP ?_
   refine gn<|fY<|Nx<|aD<|ak rfl<|ak rfl<|cJ (cZ hn) (cL ek)<|wU<|aU<|Ze<|u5 ?_
   refine aaW (aaC _ _)<|ql (ws:=js.map fun j:Nat=>W.int (j:Int)) (o:=FX) rfl<|fG.mk (CW (m:=1000) (by rw [Bx];lia)<|by decide) ?_
   refine dF (fun i acc g'=>g'=g/\acc=(ws.take i).map (vW xs L)) ?_ ?_ ⟨rfl,rfl⟩
   ·rintro i2 w acc g' N2 hN2 e2 ⟨rfl,rfl⟩;rw [Fv] at e2;cases qj:js[i2]? with
    | none=>rw [qj] at e2;cases e2
    | some j=>
     rw [qj] at e2;cases e2;have hi:=(K5.mp qj).1;have qw:ws[i2]?=FN (ws[i2]'(by lia)):=Gz _;have e3:=congrArg (·[i2]?) et;simp only [Fv,qj,qw,Option.map_some] at e3;obtain ⟨l6,mb⟩:=mT _ (K4 qw);refine ⟨[.int (j:Int)],rfl,bH<|bD<|bL<|aj<|gn<|fY<|aD<|ak rfl<|ak rfl<|cJ (cZ ht) (cL<|Eu e3)<|ql (ws:=(ws[i2]'(by lia)).map Bt) (o:=FX) rfl ?_ ⟩;refine aaN hla hL l6 (fun us hu=>(mb us hu).at (by decide) (by decide)) lx bx rfl<|aq<|bW<|hN2 _ _ ⟨rfl,?_⟩
     rw [Ji,qw,Gp];rfl
   ·rintro acc g' ⟨rfl,rfl⟩;rw [Bx,lj,K3];refine nV<|aY ?_
    refine aZ<|aN<|aD<|bL<|aj<|gn<|fY<|ak rfl<|ql (ws:=R.map Bt) (o:=FX) rfl ?_
    refine aaN hla hL lR (fun us hu=>(eR.mb us hu).at (by decide) (by decide)) lx bx rfl<|aq<|bW ?_
    rw [eR.val xs];refine bL<|aj<|aB<|aj<|aD<|aD<|ak rfl<|ak rfl<|cJ (cZ hn) (cL ek)<|aU<|cJ (ws:=.str x::js.map fun j:Nat=>W.int (j:Int)) rfl Rr<|aj<|ak rfl<|aq ?_
    refine hdu cl rw' bx hL<|aq<|acs ?_
    have em:(fs.map fun f=>W.int (f xs))=(fs.map fun f=>f xs).map W.int:=by rw [JV];rfl
    rw [em];exact ada<|dD<|wA<|aW<|hN _ _ ⟨rfl,_,_,rfl⟩
 ·rintro Z g ⟨rfl,a13,a14,rfl⟩;exact q _ _
theorem afx {T:List W}(k:Q (.bl true) h):HF [.tup T,.ty "tuple"] h Q:=oR rfl k
theorem aeV {ws:List (List (List Tm))}(r:Rw L n x ws fs):ws.length<=5/\∀ T∈ws,T.length<=6/\∀ us∈T,Mb L 40 1 n us:=by
 have sp:∀ {f g h:Fn} {x y z:List Tm},Sp L n f g h x y z->∀ T∈[[x,y,z]],T.length<=6/\∀ us∈T,Mb L 40 1 n us:=fun e T hT=>by
  rw [Jr.mp hT];exact ⟨by simp,e.l.mb⟩
 have cv:∀ {f0 f1 f2 f3 f4 f5:Fn} {x0 x1 x2 x3 x4 x5:List Tm},Cv L n f0 f1 f2 f3 f4 f5 x0 x1 x2 x3 x4 x5->∀ T∈[[x0,x1,x2,x3,x4,x5]],T.length<=6/\∀ us∈T,Mb L 40 1 n us:=fun e T hT=>by
  rw [Jr.mp hT];exact ⟨by simp,EL.mb e⟩
 have ap:∀ {A B:List (List (List Tm))},(∀ T∈A,T.length<=6/\∀ us∈T,Mb L 40 1 n us)->(∀ T∈B,T.length<=6/\∀ us∈T,Mb L 40 1 n us)->∀ T∈A++B,T.length<=6/\∀ us∈T,Mb L 40 1 n us:=fun a b T hT=>(Jx.mp hT).elim (a T) (b T)
 cases r with
 | join _ a b=>exact ⟨by simp,ap (sp a) (sp b)⟩
 | curve a b c d e=>exact ⟨by simp,ap (sp a) (ap (sp b) (ap (sp c) (ap (sp d) (sp e))))⟩
 | about a b=>exact ⟨by simp,ap (cv a) (sp b)⟩
 | pole a b=>exact ⟨by simp,ap (cv a) (sp b)⟩
 | other a b c=>exact ⟨by simp,ap (cv a) (ap (sp b) (sp c))⟩
theorem agh {go:Ar}(hgo:GoX go){R:List (List Tm)}(hL:L<=8)(lR:R.length<=6)(hm:∀ us∈R,Mb L 1000 40 600 us)(hZ : lg [3] Z = [FN (.int (L:Int))])(q:Q (.lst []) h):
  lcK Ik [3] (Ii (Cg (aJ go E (ao (aA 0) (ao (aA 1) aL))))) (aA 0) Z Q ⟨R.map Bt,FX⟩ h:=by
 refine fG.mk (CW (m:=1000) (by rw [Bx];lia)<|by decide) ?_;refine dF (fun i acc g=>g=h/\acc=[]) ?_ ?_ ⟨rfl,rfl⟩
 ·rintro i w acc g N hN e ⟨rfl,rfl⟩;rw [Fv] at e;cases qe:R[i]? with
  | none=>rw [qe] at e;cases e
  | some us=>
   rw [qe] at e;cases e;have m:=hm us (K4 qe);refine ⟨[Bt us],rfl,?_⟩;rw [hZ];refine mO<|iY<|aB<|aj<|ak rfl<|aj<|ak rfl<|aq<|hgo hL (CW m.1<|by decide) m.2.1 (fun t ht=>?_)<|EY (b:=true) rfl ?_
   ·obtain ⟨a,b,_,d⟩:=m.2.2 t ht;exact ⟨a,b,fun p hp=>(d p hp).1⟩
   ·exact zK<|hN _ _ ⟨rfl,rfl⟩
 ·rintro acc g ⟨rfl,rfl⟩;exact q
theorem agw {ra cl bg so rw' la go th du:Ar}(hra:Xl ra)(hcl:sI cl)(hbg:N7 bg)(hdr:nU dr)(hla:AtX la)(hgo:GoX go)(hdu:Xq du)(ns:List Int){t nn F S:Nat}{a4 a7 a8:Option W}(hn:h.c n=FN (.lst rws))(ht:h.c t=FN (.lst thg))(nl:n<h.nx)(tl:t<h.nx)(hr:∀ r∈rws,Ob r)(hf:RZ L nn rws thg)(hL:L<=8)(c7:Cl L nn)(hS:S<=24)(hF:F<=S)(ls:rws.length=S)(hrt:∀ k r,F<=k->rws[k]?=FN r->Rt (rws.map JT) r):
  xq ra cl bg dr so rw' la go th du EF { nx:=fun _ h'=>(fun w _=>w=W.bl true) W.non h',rt:=fun w _=>w=W.bl true } [FN (.kls (ns.map .int)),FN (.int (F:Int)),FN (.int (S:Int)),FN (.int (L:Int)),a4,FN (.loc n),FN (.loc t),a7,a8,FX,FX,FX,FX,FX,FX] h:=by
 unfold xq;refine aH<|aP<|aB<|aj<|aB<|aj<|ak rfl<|aj<|aU<|aq<|hcl (by decide)<|aq ?_
 refine hbg fun hb bag nxb ob=>?_;have nb:n≠h.nx:=G3 nl;have tb:t≠h.nx:=G3 tl;have hnb:hb.c n=FN (.lst rws):=(ob n nb).trans hn;have htb:hb.c t=FN (.lst thg):=(ob t tb).trans ht;generalize h.nx=b at *;refine nV<|aY ?_
 refine aH<|aP ?_
 refine XD hdr hL rfl bag fun xss g3 l3 ox o3=>?_;have hn3:g3.c n=FN (.lst rws):=(o3.2 n nb).trans hnb;have ht3:g3.c t=FN (.lst thg):=(o3.2 t tb).trans htb;refine nV<|aY ?_
 refine aH ?_;refine g8<|zbI<|aj<|ak rfl<|aj<|ak rfl<|aq<|afn (n:=F) (m:=S) rfl (by lia) (by lia)<|iz ?_
 refine cY (fun i Z g=>g=g3/\∃ a7 a10 a11 a12 a13 a14,Z = [FN<|.kls<|ns.map .int,FN<|.int (F:Int),FN<|.int (S:Int),FN<|.int (L:Int),a4,FN<|.loc n,FN<|.loc t,a7,FN<|.loc b,FN<|.lst<|xss.map fun xs=>.tup<|xs.map .int,a10,a11,a12,a13,a14]) ?_ ?_ ⟨rfl,_,_,_,_,_,_,rfl⟩
 ·rintro i w Z g N hN ew ⟨rfl,a7,a10,a11,a12,a13,a14,rfl⟩;rw [Fv] at ew;obtain ⟨k,ex,rfl⟩:=Vu.mp ew;have e0:=(lF ex).1;have hk:=(lF ex).2;have er:rws[k]?=FN (rws[k]'(by lia)):=Gz _;obtain ⟨x,js,exr,hx,hxf,em⟩:=hrt k _ (by lia) er;rw [exr] at er;obtain ⟨ws,fs,et,r,lf⟩:=ZP hf hx hxf em;obtain ⟨lw,mT⟩:=aeV r;refine nV ?_;refine aH<|aP<|iG<|aj<|bL<|aj<|ak rfl<|aq<|Lj hn3<|aj<|bL<|aj<|ak rfl<|aq<|Lj ht3<|aq<|bC rfl ?_
  refine nV<|aY ?_
  refine aH<|aP<|aB<|aj<|aD<|ak rfl<|aU<|cJ (ws:=[.lst rws,.lst thg]) (w:=.lst rws) rfl rfl<|aj<|aD<|ak rfl<|aU<|cJ (ws:=[.lst rws,.lst thg]) (w:=.lst thg) rfl rfl<|aj<|ak rfl<|aq ?_
  refine hra er et c7 r fun R eR=>?_;have lR:R.length=Bb x:=by rw [<-eR.length];exact lf
  have l6:R.length<=6:=by rw [lR];unfold Bb;split <;> decide
  refine nV<|aY ?_
  refine aH<|aP ?_
  refine aD<|aU<|aD<|aU<|bL<|aj<|aD<|aD<|aD<|ak rfl<|ak rfl<|cJ (cZ hn3) (cL er)<|aU<|cJ (ws:=.str x::js.map fun j:Nat=>W.int (j:Int)) rfl Rr<|aU<|cI<|aq<|Aa<|M5<|fC ?_
  have emn:(3:Int)+3*(if decide (x = "curve") then 1 else 0)=((Bb x:Nat):Int):=by
   unfold Bb;by_cases c:x = "curve"
   ·rw [if_pos c,decide_eq_true c];rfl
   ·rw [if_neg c,decide_eq_false c];rfl
  rw [emn];refine nV<|aY ?_
  refine aH<|aZ ?_
  refine jN<|mO<|iY<|bL<|aj<|ak rfl<|aj<|aU<|aq<|afx<|EY (b:=true) rfl<|wA ?_
  refine jN<|aN<|aD<|bL<|aj<|ak rfl<|aq<|fJ (xs:=R.map Bt) rfl<|ak rfl<|xM<|dD<|gj (decide_eq_false fun z=>z<|by rw [Bx,lR]) ?_
  refine aN<|aD<|ak rfl<|iG<|aj<|ak rfl<|aj<|ak rfl<|aq<|bC rfl<|zas hn3 ht3 hr (zaZ hf)<|dD<|wA<|aW<|aY ?_
  refine aH<|aZ<|aN<|aD<|bL<|aj<|gn<|fY<|ak rfl<|ql (ws:=R.map Bt) (o:=FX) rfl ?_
  refine agh hgo hL l6 eR.mb rfl<|aq<|fJ (xs:=[]) rfl<|aU<|xG<|dD<|gj (by decide)<|aW<|aY ?_
  exact zbB hla hdu hn3 ht3 hL c7 r er et mT eR l6 lw ox fun a13 a14=>hN _ _ ⟨rfl,_,_,_,_,_,_,rfl⟩
 ·rintro Z g ⟨rfl,a7,a10,a11,a12,a13,a14,rfl⟩;unfold yD;exact aY<|aX<|aU rfl
theorem YW {cl:Ar}(hcl:sI cl)(h0:Z[0]?=FN (FN (.kls (ns.map .int))))(h3:Z[3]?=FN (FN (.int (L:Int))))(q:∀ top:Int,0<=top->top<=1000000000->Q (.int top) h):
  mIf (bM (AP J8 (aA 3) (mC (.int 0)))) (AP BJ (lA (ao (mC (.int 4)) (ao (mC (.int 4)) (ao (mC (.int 4)) (ao (AP RT (mC (.int 10)) (mC (.int 9))) aL))))) (AP Bv (aJ cl E (ao (aA 0) (ao (mC (.int 1)) aL))) (mC (.int 4)))) (mC (.int 4)) Z h Q:=by
 refine Il<|aN<|aD<|ak h3<|aU<|uD<|dD<|v8 (fun e=>?_) fun e=>aU<|q 4 (by decide)<|by decide
 refine aD<|iG<|aj<|aU<|aj<|aU<|aj<|aU<|aj<|aD<|aU<|aU<|aew ?_<|aq<|bC rfl ?_
 ·exact ⟨by decide,by decide,by decide⟩
 ·refine aD<|aB<|aj<|ak h0<|aj<|aU<|aq<|hcl (by decide)<|aU<|yV (by decide) ?_
  generalize ns.getD (1:Int).toNat 0=c;have a:=U4 c (show (4:Int)≠0 by decide);have b:=Tf c (show (0:Int)<4 by decide);rw [dU (by decide)];generalize c % 4=z at a b;obtain ⟨k,rfl⟩:=Wj a;have hk:k<4:=by lia
  match k,hk with
  | 0,_=>exact cJ rfl rfl (q 4 (by decide) (by decide))
  | 1,_=>exact cJ rfl rfl (q 4 (by decide) (by decide))
  | 2,_=>exact cJ rfl rfl (q 4 (by decide) (by decide))
  | 3,_=>exact cJ rfl rfl (q _ (by decide) (by decide))
theorem Yn {ra cl bg so rw' la go th du:Ar}(hra:Xl ra)(hcl:sI cl)(hbg:N7 bg)(hdr:nU dr)(hso:Cj so)(hrw:aaR rw')(hla:AtX la)(hgo:GoX go)(hth:ThX th)(hdu:Xq du)(ns:List Int){h':Gh}:N6 ra cl bg dr so rw' la go th du [.kls (ns.map .int)] h' (fun w _=>w=.bl true) EF:=by
 unfold N6;rfl'
 refine hcl (by decide) ?_;generalize ns.getD (0:Int).toNat 0=c;rfl'
 refine yV (by decide) ?_;obtain ⟨F,f1,f7,eF⟩:∃ F:Nat,1<=F/\F<=7/\1+c.fmod 7=(F:Int):=by
  have a:=U4 c (show (7:Int)≠0 by decide);have b:=Tf c (show (0:Int)<7 by decide);rw [dU (by decide)];exact ⟨(1+c % 7).toNat,by lia,by lia,by lia⟩
 refine fC ?_;rw [eF];rfl'
 refine hcl (by decide) ?_;rfl'
 refine Mz ⟨by decide,64,by decide,Sm.lit rfl⟩ ?_;rfl'
 refine yV (by lia) ?_;rfl'
 refine Ly ?_;obtain ⟨S,s1,s2,s3',eS⟩:∃ S:Nat,1<=S/\S<=12/\F<=S/\(if 1+((ns.getD (0:Int).toNat 0).fdiv 7).fmod 12>(F:Int) then 1+((ns.getD (0:Int).toNat 0).fdiv 7).fmod 12 else (F:Int))=(S:Int):=by
  rw [dU (by lia)];have a:=U4 ((ns.getD (0:Int).toNat 0).fdiv 7) (show (12:Int)≠0 by lia);have b:=Tf ((ns.getD (0:Int).toNat 0).fdiv 7) (show (0:Int)<12 by lia);generalize (ns.getD (0:Int).toNat 0).fdiv 7 % 12=z at a b;split
  ·exact ⟨(1+z).toNat,by lia,by lia,by lia,by lia⟩
  ·exact ⟨F,by lia,by lia,by lia,rfl⟩
 rw [eS];rfl'
 refine Ly ?_;obtain ⟨L,l6,l1,eL⟩:∃ L:Nat,L<=6/\L≠1/\(2:Int)*(if (F:Int) - 4>0 then (F:Int) - 4 else 0)=(L:Int):=by
  split
  ·exact ⟨2*(F - 4),by lia,by lia,by lia⟩
  ·exact ⟨0,by lia,by lia,by lia⟩
 refine bG (.of (m:=64) (n:=10) (.lit rfl) (by unfold Sm;split <;> lia) (by decide)<|by decide) ?_;rw [eL];refine nV<|aY ?_
 refine aH<|aP ?_
 refine YW hcl rfl rfl fun top t0 t1=>?_;refine nV<|aY ?_
 refine aH<|aP ?_
 refine sU (ws:=[]) (fun R=>rfl) rfl fun g eg og xg=>?_;have nlg:h'.nx<g.nx:=by rw [xg];exact Nat.lt_succ_self _
 generalize h'.nx=n at *;refine nV<|aY ?_
 refine aH<|aP ?_
 refine sU (ws:=[]) (fun R=>rfl) rfl fun g2 eg2 og2 xg2=>?_;have tlg:g.nx<g2.nx:=by rw [xg2];exact Nat.lt_succ_self _
 have nt:n≠g.nx:=G3 nlg;have nlg2:n<g2.nx:=Uc nlg tlg;have eg':g2.c n=FN (.lst []):=(og2 n nt).trans eg;generalize g.nx=t at *;refine nV<|aY ?_
 refine aH ?_;obtain ⟨nn,c7,hnn⟩:∃ nn:Nat,Cl L nn/\(3<=nn\/2<L/\1<=nn):=by
  by_cases z:L<=2
  ·exact ⟨4,.inl ⟨z,rfl⟩,.inl<|by decide⟩
  ·exact ⟨1,.inr ⟨by lia,rfl⟩,.inr ⟨by lia,Bp _⟩⟩
 refine g8<|mG<|aj<|ak rfl<|aq<|BK (m:=S) (by lia)<|iz ?_
 refine cY (fun i Z h=>∃ rws thg a7 a8,Z = [FN<|.kls<|ns.map .int,FN<|.int (F:Int),FN<|.int (S:Int),FN<|.int (L:Int),FN<|.int top,FN<|.loc n,FN<|.loc t,a7,a8,FX,FX,FX,FX,FX,FX]/\h.c n=FN (.lst rws)/\h.c t=FN (.lst thg)/\n<h.nx/\t<h.nx/\(∀ r∈rws,Ob r)/\RZ L nn rws thg/\rws.length=i/\(1<=i->∃ r∈rws,JT r = "spot")/\∀ k r,F<=k->rws[k]?=FN r->Rt (rws.map JT) r) ?_ ?_ ⟨[],[],FX,FX,rfl,eg',eg2,nlg2,tlg,fun r hr=>absurd hr<|by simp,⟨rfl,fun j s e=>by simp at e⟩,rfl,fun z=>absurd z<|by decide,fun k r _ e=>by simp at e⟩
 ·rintro i w Z h N hN ew ⟨rws,thg,a7,a8,rfl,hn,ht,nl,tl,hr,hfit,hl,hspt,hrt⟩;rw [Fv] at ew;obtain ⟨x,ex,rfl⟩:=Vu.mp ew;have e0:=(lF ex).1;have hx:=(lF ex).2;rw [Nat.zero_add] at e0;subst e0;refine nV ?_;refine aH<|aP<|aB<|aj<|aB<|aj<|ak rfl<|aj<|aD<|aU<|ak rfl<|fC<|aq<|hcl (by lia)<|aq ?_
  refine hbg fun hb bag nxb ob=>?_;have nb:n≠h.nx:=G3 nl;have tb:t≠h.nx:=G3 tl;have bb:h.nx<hb.nx:=by rw [nxb];exact Nat.lt_succ_self _
  have nlb:n<hb.nx:=Uc nl bb;have tlb:t<hb.nx:=Uc tl bb;have hnb:hb.c n=FN (.lst rws):=(ob n nb).trans hn;have htb:hb.c t=FN (.lst thg):=(ob t tb).trans ht;generalize h.nx=b at *;refine nV<|aY ?_
  refine aH<|mH<|Ae<|ak rfl<|su hnb<|aj<|aB<|aj<|ak rfl<|aj<|ak rfl<|aj<|ak rfl<|aq ?_
  refine hrw bag hnb (Im nb) bb nlb hr (by lia) ?_ fun r h2 rr hfs ok fr bag2 gr2=>?_
  ·by_cases z:1<=rws.length
   ·exact .inr<|hspt<|by lia
   ·exact .inl<|by lia
  ·have hn2:h2.c n=FN (.lst rws):=(gr2.2 n nlb nb).trans hnb;have ht2:h2.c t=FN (.lst thg):=(gr2.2 t tlb tb).trans htb;refine aq<|Ju hn2 (by lia) fun g3 g3c g3o g3n=>aY ?_
   have bag3:Jd g3 b:=by
    obtain ⟨p,q,e,r⟩:=bag2;exact ⟨p,q,(g3o b<|Im nb).trans e,r⟩
   have bl3:b<g3.nx:=by rw [g3n];exact FJ bb gr2.1
   have nl3:n<g3.nx:=by rw [g3n];exact FJ nlb gr2.1
   have tl3:t<g3.nx:=by rw [g3n];exact FJ tlb gr2.1
   have ht3:g3.c t=FN (.lst thg):=(g3o t (Im nt)).trans ht2;have thl:thg.length<=1000:=by rw [<-hfit.1];lia
   refine mH<|Ae<|ak rfl<|su ht3<|aj<|aB<|aj<|ak rfl<|aj<|ak rfl<|aj<|aB<|aj<|aD<|ak rfl<|ak rfl ?_
   refine cJ (w:=r) (cZ g3c) (cL (by rw [OJ<|by lia,hl,Nat.sub_self];rfl))<|aq<|rr.sort hso<|aj<|ak rfl<|aq ?_
   refine hth bag3 bl3 (by lia) l1 t0 t1 hnn fun T g4 lT mT bag4 gb4=>aq ?_;have hn4:g4.c n=FN (.lst (rws++[r])):=(gb4.2 n nl3 nb).trans g3c;have ht4:g4.c t=FN (.lst thg):=(gb4.2 t tl3 tb).trans ht3;refine Ju ht4 thl fun g5 g5c g5o g5n=>aY<|hN _ _ ⟨rws++[r],thg++[tW T],_,_,rfl,(g5o n nt).trans hn4,g5c,by rw [g5n];exact FJ nl3 gb4.1,by rw [g5n];exact FJ tl3 gb4.1,?_,acq hfit ⟨T,rfl,lT,mT⟩,by rw [JG,hl];rfl,?_,?_⟩
   ·intro u hu;rcases Jx.mp hu with z | z
    ·exact hr u z
    ·rw [Jr.mp z];exact rr
   ·intro _;by_cases z:1<=rws.length
    ·obtain ⟨u,hu,eu⟩:=hspt (by lia);exact ⟨u,Jx.mpr<|.inl hu,eu⟩
    ·exact ⟨r,Jx.mpr<|.inr<|Jr.mpr rfl,hfs<|by lia⟩
   ·intro k u hk eu;rw [Gp];by_cases z:k<rws.length
    ·rw [Ow z] at eu;exact (hrt k u hk eu).app
    ·have hk2:=(K5.mp eu).1;rw [JG] at hk2;have ek:k=rws.length:=by simp at hk2;lia
     rw [ek,OJ (Bp _),Nat.sub_self] at eu;cases eu;exact (X6 rr ok (by rw [fr];exact decide_eq_false (by lia))).app
 ·rintro Z h ⟨rws,thg,a7,a8,rfl,hn,ht,nl,tl,hr,hfit,hl,hspt,hrt⟩;rw [sV] at hl;exact agw hra hcl hbg hdr hla hgo hdu ns hn ht nl tl hr hfit (by lia) c7 (by lia) s3' hl hrt
theorem Tq (ns:List Int)(_:ns.length<=63):PX [.kls (ns.map W.int)] g0 (fun w _=>w=.bl true) EF:=by
 have wt:WhX fH:=abD aeX;have ti:Qu jK:=Xm.e (zcc aea aae (abQ zcu) abF);have px:TV 1 qN:=afz wt;have pl:TX 1 qN:=TV.e (.inl rfl) px;have mi:TX (-1) rZ:=TV.e (.inr rfl) (agq wt);have cr:CrE dR:=zbh (afr mi ti);have dt:DoE gD:=aez pl ti;have st:StE dZ:=zbx ti;have sm:SmE fK:=zaQ mi;have db:DbE jU:=acp px;have ta:TaE eY:=aem db;have rt:RtE d7:=adq dt;have ra:Xl QF:=Xy cr ta rt (adW ti cr dt st sm (acg pl ti)) (Xg st ta (zbz cr) rt (zbM (zcb cr dt))) (adK st sm db ta (ago dt rt));exact Yn ra aev aac yO Ec (Zk yO zcw Ec<|agr yO Ec) X3 afs (adb<|afG yO) (Z8 W0 Rq (Yq W0 Rq) Ub (X5 Rq Ub) Yz) ns
end My
namespace PySem.W.Fast
def tw16720236078749645014:=()
def tw8133909349451073554:=()
def tw8533001286832409467:=()
def tw17991478334811332473:=()
def tw173983593152837550:=()
def tw12535890942534168462:=()
def tw3113910656034468809:=()
def tw1714689055851971829:=()
def tw9938446120691443753:=()
def tw12784547264937017114:=()
def tw458995240559497124:=()
def tw9456357526675026191:=()
def tw14455900869589876274:=()
def tw17207463775231554346:=()
def tw11185562158404417299:=()
def tw12061285711655717067:=()
def tw5868543030873648365:=()
def tw3817735908710403278:=()
def tw7474499351711102266:=()
def tw5968392665761079837:=()
def tw2440102853889387956:=()
def tw15131988745254070246:=()
def tw3890197826499304518:=()
def tw7909713842403938224:=()
def tw7601437254653253569:=()
def tw2091306163132278746:=()
def tw1450076175419418330:=()
def tw1494456107257934886:=()
def tw16470487188693706128:=()
def tw6338061425739423063:=()
def tw2964580857169987947:=()
def tw1060969848345193082:=()
def tw9285175936569862322:=()
def tw11650197778695800297:=()
def tw9282447021938044721:=()
def tw7679913855851449883:=()
def tw7845555579330712285:=()
def tw17313376411683793337:=()
def tw2387437570359735784:=()
def tw5054572583081149209:=()
def tw3477276890244573034:=()
def tw11112575937862652375:=()
def tw8382657529015867010:=()
def tw2159940740812977320:=()
def tw1395711786980443426:=()
def tw5809784095876336154:=()
def tw12574275483058631135:=()
def tw16962341159042583563:=()
def tw9161384539041817888:=()
def tw13412180249772600358:=()
def tw11769473120952248572:=()
def tw12777572504682652627:=()
def tw15570801133037576547:=()
def tw15258151063721899657:=()
def tw18070649943438887533:=()
def tw18136158723056076122:=()
def tw7744453576372488090:=()
def tw8050720996080627445:=()
def tw4984276570912221141:=()
def tw8952687686976626724:=()
def tw3698231916134567611:=()
def tw17646480481562439211:=()
def tw15602252759358374355:=()
def tw11701949191872960494:=()
def tw4831123771187547154:=()
def tw17418541503886675796:=()
def tw15272457778995268952:=()
def tw11657409138466953412:=()
def tw15396209892330393602:=()
def tw5434396716363993040:=()
def tw13408632863856717102:=()
def tw13675676202333732434:=()
def tw18085219576645996084:=()
def tw11149945748071922405:=()
def tw3147774911651385887:=()
def tw16641478397786406333:=()
def tw663731684226381808:=()
def tw2434028184481308082:=()
def tw2900216286602592446:=()
def tw2064646005691654301:=()
def tw14090506277428928385:=()
def tw6231303639562415629:=()
def tw2901415004301348680:=()
def tw3766338780674917:=()
def tw16612895424850787262:=()
def tw3204310376973608395:=()
def tw14465377656199215243:=()
def tw2012534870158157770:=()
def tw1488386179774491897:=()
def tw1106189251786132762:=()
def tw11645758773839698903:=()
def tw4434146943230787102:=()
def tw9422700291216430210:=()
def tw7247803735354732905:=()
def tw178583901898268288:=()
def tw17628848996307893555:=()
def tw3929763903770394680:=()
def tw14099878407296573238:=()
def tw10975022395238402125:=()
def tw17004063350594912280:=()
def tw5149709260730979468:=()
def tw14876236821273712813:=()
def tw12471507430760338028:=()
def tw14469369951881017539:=()
end PySem.W.Fast
open PySem PySem.W PyProof.Rows
theorem PySem.Challenge.cw_easelroom_k71_raws_at_numbers_holds : PySem.Challenge.rw_easelroom_k71_raws_at_numbers.Holds := by
 w_on;o_law;k_head;(case hw=>w_witness2)
 k_fill
 refine My.walk (l:=PySem.Challenge.rw_easelroom_k71_raws_at_numbers) rfl rfl (fun w h Y=>PySem.W.kIn_of Y) ?F
 case F=>
  intro w mg fa h KX G hmg;refine' My.all_mk My.Tq KX G hmg ?h0 ?h1 ?h2 ?h3 ?h4 ?h5 ?h6 ?h7 ?h8 ?h9 ?h10 ?h11 ?h12 ?h13 ?h14 ?h15 ?h16 ?h17 ?h18 ?h19 ?h20 ?h21 ?h22 ?h23 ?h24 ?h25 ?h26 ?h27 ?h28 ?h29 ?h30 ?h31 ?h32 ?h33 ?h34 ?h35 ?h36 ?h37 ?h38 ?h39 ?h40 ?h41 ?h42 ?h43 ?h44 ?z_abs ?z_any ?z_bool ?z_dict ?z_int ?z_isinstance ?z_len ?z_list ?z_max ?z_min ?z_range ?z_reversed ?z_sorted ?z_tuple ?z_zip ?g_MOST_TERMS ?g_MOST_POWER ?g_MOST_PAIRS ?g_FIELD
  (case h0 | h1 | h2 | h3 | h4 | h5 | h6 | h7 | h8 | h9 | h10 | h11 | h12 | h13 | h14=>(apply My.Px <;> k_is))
  (case h15 | h16 | h17 | h18 | h19 | h20 | h21 | h22 | h23 | h24 | h25 | h26 | h27 | h28 | h29=>(apply My.Px <;> k_is))
  (case h30 | h31 | h32 | h33 | h34 | h35 | h36 | h37 | h38 | h39 | h40 | h41 | h42 | h43 | h44=>(apply My.Px <;> k_is))
  (case z_abs | z_any | z_bool | z_dict | z_int | z_isinstance | z_len | z_list | z_max | z_min | z_range | z_reversed | z_sorted | z_tuple | z_zip=>k_is)
  (case g_MOST_TERMS | g_MOST_POWER | g_MOST_PAIRS | g_FIELD=>(apply Exists.intro <;> k_is))
