import PyProof.Rows.All
import Wide.All
import OpenK.AllK
import Wide.FinOn
import Lean
import PyProof.EqAt
import PyProof.EqKinds
import PyProof.TupleCall
import PySem.Challenge.RW_easelroom_k72_ties_and_claims_at_numbers
set_option Elab.async false
set_option linter.all false
set_option maxRecDepth 100000
set_option maxHeartbeats 0
local macro_rules | `(tactic| lia) => `(tactic| first | lia (splits := 9) | omega)
open Option renaming some→FN,none→FX
open PySem renaming wpAny_bind→CN,Value→Mk,Shared→AP,wpAny_pure→Cz,Spec→adB,sizeLine→FP,Program→Ei,starEach→Fo,model→Cp,wpAny→Cu,Around→FZ,Builtin→RG,mainGlobals→Jk,NameKind→Ld,boot_len→LR,World→Dq,wpAny_newObj_type→NP,cellsFrom→KQ,wpAny_holding→NK,wpAny_callSpecial?_slot→T7,compareOp→Ku,mem_of_lookup→Rn,assignEach→Li,wpAny_field→M9,PassesOwn→afm,wpAny_mono→M6,sysModules→M5,wpAny_call_entry→R7,Paired→LQ,wpAny_rule→Nj,binaryOp→Lj,FuncData→Mi,wpAny_typeOf→Qn,foldedSetIterable→Tj,backTo→K5,wpAny_seqItems→Sq,codeAny_builtin→Tg,bootBuiltins→Rf,wpAny_typeNameOfWhole_keyiter→X5,cLine→JQ,DictEntry→QW,wpAny_setField_rec→Vo,wpAny_Call_Name_kw→Vn,behindInMarks→Tn,SetTable→XM,Keyword→Mv,wpAny_typeNameOf_keyiter→Wy,wpAny_ite_split→V8,plainId_quiet→Uj,keywordEach→TY,firstArgMember→Va,wpAny_attempt→VP,attributeBase→VN,wpAny_passesOwn→WL,sliceBounds→Uk,codeAny→QV,pyNext→Nh,IsPair→Ng,sizeLine_eq→V2,rawInt→Q0,intKind→RV
open PySem.W renaming Frag→CT,mg_none_of→Nx,nsIn→Kz,keepIn→Rp,findIn→Ro,mg_of→Tq,fnOf→Tp,codeIn→WT
open List renaming length_map→DX,map_cons→DY,getElem?_eq_getElem→HD,getElem?_map→GP,mem_cons_of_mem→Jo,mem_cons→Ge,map_append→Hl,length_append→Jt,size_toArray→Jl,mem_of_getElem?→KH,getElem?_eq_some_iff→Lk,mem_cons_self→KD,replicate→Ja,length_cons→K7,mem_map→Hj,getD_eq_getElem?_getD→MF,mem_singleton→Kp,take_length→Kl,take_succ→KN,getElem?_append_right→QD,getElem?_append_left→QC,eq_nil_of_length_eq_zero→Qo,mem_append→La,map_map→KC,lookup_cons→Lp,map_nil→KJ,not_mem_nil→M7,mem_append_right→Qs,append_assoc→QJ,cons_lt_cons_iff→RJ,all_eq_true→QG,pairwise_cons→Qq,length_take→Qh,find?_cons→QF,mem_append_left→Rx,replicate_succ→Rh,getElem_mem→Qm,drop_eq_getElem_cons→Ut,nodup_cons→R6,range→Ma,pairwise_append→Tw,pairwise_map→T6,map_congr_left→U9,append_nil→Rr,zip_cons_cons→U7,length_range'→U6,any_eq_true→T3,flatten_cons→U5,length→QZ,take_of_length_le→Vw,pairwise_iff_getElem→Wd,mem_of_mem_take→Vb,all_cons→Sh,filter_cons→Ul,take_append_drop→Wk,mem_iff_getElem→Wi,lt_irrefl→Ur,extract_eq_drop_take→XN,getElem?_replicate→XJ,Pairwise→aha,reverse_cons→W5,length_singleton→Wq,cons_append→W0,any_cons→VR,nil_append→Wa,length_nil→WX,getElem_of_mem→Wz,forIn_cons→WW,mem_range→WR,forIn_nil→WM
open PySem.Heap renaming get?_push_of_some→GD,lt_size→G9,get?_push_size→K4,get?_update_other→Sy,size_push→RD,SameBut→U8,get?_update_self→Vc,DictOfH→Ui,get?_none_of_le→X4,ExtBut→VH
open Nat renaming le_trans→Dk,le_refl→Dg,lt_of_lt_of_le→HB,ne_of_lt→Gq,le_of_ble_eq_true→Qj,zero_le→Ko,lt_of_le_of_lt→QK,lt_of_le_of_ne→Qi,le_of_lt→Lx,ne_of_gt→Ml,lt_irrefl→Nv,pow_add→QB,le_succ→QX,eq_zero_of_not_pos→Vu,lt_trans→Rg,beq→M4,eq_of_beq_eq_true→Wj,pow_le_pow_right→Wg,lt_succ_self→Vi,le_add_right→Ve,sub_le→SQ,pow_pos→Tc,add_comm→Ug,succ_le_succ→Vy,mul_le_mul_right→X3,zero_add→VJ,mul_le_mul→WD,add_le_add→W7,ble→RW
open Option.some renaming inj→Gz
open PyProof.Rows renaming wpS_pure→Dy,wpS_bind→Dv,SortSt→Ez,Keyed→DW,arrOf→DP,pendingOf→K6,slot_tuple_getitem→Vs,wpS_forRange→Ni,callWith_type1→Vq,boot_tuple→N7,kindOf→Ke,wpS_mono→N5,SortKind→Sg,boot_sorted→XO,setArr→Ky,IntsAre→N6,wpS_modify→RX,boot_isinstance→V7,pairsOf→Q5,seqObj→Mz,boot_abs→Ra,boot_list→Td,wpS_get→Qy,AllBare→RT
open Option renaming map_eq_some_iff→N8
open Bool renaming false_ne_true→Lw,and_eq_true→Nk,false_eq_true→R8,not_eq_true→Vk,eq_iff_iff→VB
open PySem.PassesOwn renaming never→Le
open PySem.Builtin.SmallTypes renaming nextOf→Ry,ownedTupleIsFree→XQ
open PySem.SeqAt renaming EqAt→T8,ne_of_list_tuple→Wv
open PySem.Builtin.Tuple renaming tupleExact→Ue
open Array renaming getElem?_eq_getElem→Uc,toList_append→Rj,getElem?_toList→U4,length_toList→Ua,toList_extract→Wn
open Ne renaming symm→Ji
open Lean renaming maxHeartbeats→afo
open List.cons renaming inj→Q7
open PySem.Around renaming under_plainId→V0
open PySem.F renaming slot_dict_keyiterator_next→Wm,slot_tuple_iterator_next→XH,slot_zip_next→Wu,slot_dict_get→Ws
open Decidable renaming byContradiction→Wf
open Int renaming emod_lt_of_pos→Um,natAbs_mul→Ss,mul_le_mul_of_nonneg_right→XF,eq_ofNat_of_zero_le→Wb,emod_nonneg→Us,toNat_natCast→Vl
open PySem.Builtin.List renaming listExtendWith→X8
open PySem.PyData renaming keyHash→Te
open PySem.Builtin.Slice renaming slicePlaces→X7
open PySem.Str renaming ofString→Sx
open False renaming elim→Qz
open PySem.SetTable renaming bits→Uq
open PySem.Obj renaming data_mapFields→W6,mapSeq→SX
open PySem.Heap.SameBut renaming update→Wr
open Function renaming comp→V4
open PySem.Paired renaming length→V3
namespace L2
open PySem PySem.Spec PyProof.Rows
abbrev Key:=Sum Int Str
def Df:Key->Mk->Bool
 | .inl k,v=>Value.isInt k v
 | .inr x,v=>Value.isStrOf x v
def acD (w:Dq):Key->Int
 | .inl k=>hashInt k
 | .inr x=>hashStr w x
theorem bV:∀ {k:Key} {v:Mk},Df k v=true->(∃ i t,k=Sum.inl i/\v=Value.int i t)\/(∃ x t,k=Sum.inr x/\v=Value.str x t)
 | .inl i,v,h=>by
  obtain ⟨t,e⟩:=Value.isInt_shape (k:=i) (v:=v) h;exact .inl ⟨i,t,rfl,e⟩
 | .inr x,v,h=>by
  obtain ⟨t,e⟩:=Value.isStrOf_shape (x:=x) (v:=v) h;exact .inr ⟨x,t,rfl,e⟩
theorem aen (i:Int)(t:Tok):Df (.inl i) (.int i t)=true:=by simp [Df,Value.isInt]
theorem adL (x:Str)(t:Tok):Df (.inr x) (.str x t)=true:=by simp [Df,Value.isStrOf]
theorem ahi (a b:Int):decide ((Sum.inl a:Key)=Sum.inl b)=(a==b):=by
 by_cases e:a=b
 ·subst e;simp
 ·have h:¬ (Sum.inl a:Key)=Sum.inl b:=fun q=>e (Sum.inl.inj q)
  rw [decide_eq_false h];exact (beq_eq_false_iff_ne.mpr e).symm
theorem afv (a b:Str):decide ((Sum.inr a:Key)=Sum.inr b)=decide (a=b):=by
 by_cases e:a=b
 ·subst e;simp
 ·have h:¬ (Sum.inr a:Key)=Sum.inr b:=fun q=>e (Sum.inr.inj q)
  rw [decide_eq_false h,decide_eq_false e]
theorem agb (a:Int)(b:Str):decide ((Sum.inl a:Key)=Sum.inr b)=false:=decide_eq_false (fun q=>nomatch q)
theorem ahD (a:Str)(b:Int):decide ((Sum.inr a:Key)=Sum.inl b)=false:=decide_eq_false (fun q=>nomatch q)
def cG (prog:Ei)(w:Dq):PySem.KeyKind prog w Key where
 is:=Df
 hash:=acD w
 inj:=fun v a b ha hb=>by
  rcases bV ha with ⟨i,t,rfl,rfl⟩ | ⟨x,t,rfl,rfl⟩
  ·rcases bV hb with ⟨j,u,rfl,e⟩ | ⟨y,u,rfl,e⟩
   ·injection e with e1 _;rw [e1]
   ·exact nomatch e
  ·rcases bV hb with ⟨j,u,rfl,e⟩ | ⟨y,u,rfl,e⟩
   ·exact nomatch e
   ·injection e with e1 _;rw [e1]
 byValue:=fun k v h=>by
  rcases bV h with ⟨i,t,rfl,rfl⟩ | ⟨x,t,rfl,rfl⟩ <;> rfl
 pyHash:=fun hv h=>by
  rcases bV hv with ⟨i,t,rfl,rfl⟩ | ⟨x,t,rfl,rfl⟩
  ·exact wpAny_pyHash_int h
  ·exact wpAny_pyHash_str h
 eqBool:=fun hu hv h=>by
  rcases bV hu with ⟨i,t,rfl,rfl⟩ | ⟨x,t,rfl,rfl⟩
  ·rcases bV hv with ⟨j,u,rfl,rfl⟩ | ⟨y,u,rfl,rfl⟩
   ·rw [ahi] at h;exact wpAny_eqBool_int h
   ·rw [agb] at h;exact SeqAt.EqAt.int_str i t y u _ _ _ _ h
  ·rcases bV hv with ⟨j,u,rfl,rfl⟩ | ⟨y,u,rfl,rfl⟩
   ·rw [ahD] at h;exact SeqAt.EqAt.str_int x t j u _ _ _ _ h
   ·rw [afv] at h;exact wpAny_eqBool_str h
 «strs»:=fun k x t v h=>by
  rcases bV h with ⟨i,u,rfl,e⟩ | ⟨y,u,rfl,e⟩
  ·exact nomatch e
  ·injection e with e1 _
   subst e1;cases v <;> rfl
theorem yw (prog:Ei)(w:Dq)(i:Int)(t:Tok):(cG prog w).is (.inl i) (.int i t)=true:=aen i t
theorem yx (prog:Ei)(w:Dq)(x:Str)(t:Tok):(cG prog w).is (.inr x) (.str x t)=true:=adL x t
inductive V where
 | non | bl (b:Bool) | int (i:Int) | str (x:Str) | byt (b:Array UInt8) | flt (b:UInt64) | ref (a:Addr) | ty (n:String)
 deriving DecidableEq
def RelV:V->Mk->Prop
 | .non,u=>u=Value.none
 | .bl b,u=>u=Value.bool b
 | .int i,u=>∃ t,u=Value.int i t
 | .str x,u=>∃ t,u=Value.str x t
 | .byt b,u=>∃ t,u=Value.bytes b t
 | .flt b,u=>∃ t,u=Value.float b t
 | .ref a,u=>u=Value.ref a
 | .ty n,u=>u=Value.type n
abbrev CR:List V->List Mk->Prop:=LQ RelV
variable {xs : List V}{us : List Mk}
theorem CR.length {xs:List V}{us:List Mk}(r:CR xs us):xs.length=us.length:=V3 r
theorem CR.get:∀ {xs:List V} {us:List Mk} {i:Nat} {x:V},CR xs us->xs[i]?=FN x->∃ u,us[i]?=FN u/\RelV x u
 | _,_,_,_,.nil,e=>by simp at e
 | _,_,0,_,.cons r _,e=>by simp at e;subst e;exact ⟨_,rfl,r⟩
 | _,_,i+1,x,.cons _ t,e=>by
  obtain ⟨u,h1,h2⟩:=CR.get (i:=i) (x:=x) t (by simpa using e);exact ⟨u,by simpa using h1,h2⟩
variable {u : Mk}
theorem CR.set {x:V}{u:Mk}(r:RelV x u):∀ {xs:List V} {us:List Mk} (i:Nat),CR xs us->CR (xs.set i x) (us.set i u)
 | _,_,_,.nil=>.nil
 | _,_,0,.cons _ t=>.cons r t
 | _,_,i+1,.cons q t=>.cons q (CR.set r i t)
theorem CR.append:∀ {xs ys:List V} {us ws:List Mk},CR xs us->CR ys ws->CR (xs++ys) (us++ws)
 | _,_,_,_,.nil,s=>s
 | _,_,_,_,.cons r t,s=>.cons r (CR.append t s)
theorem CR.take:∀ {xs:List V} {us:List Mk} (n:Nat),CR xs us->CR (xs.take n) (us.take n)
 | _,_,0,_=>.nil
 | _,_,_+1,.nil=>.nil
 | _,_,n+1,.cons r t=>.cons r (CR.take n t)
theorem CR.drop:∀ {xs:List V} {us:List Mk} (n:Nat),CR xs us->CR (xs.drop n) (us.drop n)
 | _,_,0,r=>r
 | _,_,_+1,.nil=>.nil
 | _,_,n+1,.cons _ t=>CR.drop n t
def J8:Option V->Option Mk->Prop
 | some v,FN u=>RelV v u
 | none,FX=>True
 | _,_=>False
variable {κ : Type}
def KV:List (κ×V)->List (κ×Mk)->Prop:=LQ fun (p:κ×V) (q:κ×Mk)=>p.1=q.1/\RelV p.2 q.2
def kV:Key->V
 | .inl i=>.int i
 | .inr x=>.str x
inductive HO where
 | lst (xs:List V)
 | tup (xs:List V)
 | dK (kvs:List (Key×V)) | dT (kvs:List (List Key×V))
 | set (S:Int->Bool) (n:Nat)
 | ins (C dx:Addr) (fs:List (Str×V))
 | own (x:Addr)
 | xd (fs:List (Str×V))
 | met (f x:Addr)
 | rng (lo hi:Int)
 | frz (o:Obj) (u:HO)
 | tbl (ps:Array Mk)
 | ext (φ : Heap->Prop)
abbrev Hp:=Addr->Option HO
def FQ (H:Hp)(a:Addr)(o:HO):Hp:=fun b=>if b=a then FN o else H b
variable {H : Hp}
theorem bF {a:Addr}{o:HO}:FQ H a o a=FN o:=by unfold FQ;rw [if_pos rfl]
theorem aO {a b:Addr}{o:HO}(h:b≠a):FQ H a o b=H b:=by unfold FQ;rw [if_neg h]
theorem aR {a b:Addr}{o:HO}(h:H a=FN o)(h':H b=FX):a≠b:=by
 intro e;subst e;rw [h] at h';cases h'
section
variable (P:Ei)(w:Dq)
def Gn (h:Heap)(a:Addr)(items:Array Mk):Prop:=∃ o,h.get? a=FN o/\o.cls=.type "tuple"/\(∃ n,o.data=.seq items n)/\o.dict=FX
theorem Gn.tup {h:Heap}{a:Addr}{items:Array Mk}(x:Gn h a items):IsTup h a items:=let ⟨o,ho,hc,hd,_⟩:=x;⟨o,ho,hc,hd⟩
theorem Gn.new (h:Heap)(items:Array Mk):Gn (h.push { cls:=.type "tuple",data:=.seq items }) h.objs.size items:=⟨_,K4 _ rfl,rfl,⟨_,rfl⟩,rfl⟩
def eE (H:Hp)(h:Heap)(a:Addr):HO->Prop
 | .lst xs=>xs.length<=FP/\∃ (its:List Mk) (n:Nat),CR xs its/\h.get? a=FN { cls:=.type "list",data:=.seq its.toArray n }
 | .tup xs=>xs.length<=FP/\∃ its:List Mk,CR xs its/\Gn h a its.toArray
 | .dK kvs=>kvs.length<=FP/\(a==M5)=false/\∃ vs,KV kvs vs/\h.DictOf (cG P w) a vs
 | .dT kvs=>kvs.length<=FP/\(a==M5)=false/\∃ xs:List (List Key×Addr×Mk),
   LQ (fun (p:List Key×V) (q:List Key×Addr×Mk)=>p.1=q.1/\H q.2.1=FN (.tup (p.1.map kV))/\RelV p.2 q.2.2) kvs xs /\
   ∃ o es ep,h.get? a=FN o/\o.ExactDict/\o.data=.dict es ep/\es.toList=xs.map (entryOfKey (tupleKind (cG P w)))/\(xs.map (·.1)).Nodup
 | .set S n=>h.SetOf (RV P w) a S n
 | .ins C dx fs=>H dx=FN (.own a)/\fs.length<=1000/\dx≠a/\h.get? a=FN (PySem.W.instObj C dx) /\
   ∃ mA,h.Ns1 dx mA/\(∀ f,J8 (fs.lookup f) (mA f))/\PySem.Within mA (fs.map (·.1))
 | .own _=>∃ o,h.get? a=FN o
 | .xd fs=>∃ mA,h.Ns1 a mA/\∀ f,J8 (fs.lookup f) (mA f)
 | .rng lo hi=>∃ t u v,h.get? a=FN { cls:=.type "range",data:=.fields #[.int lo t,.int hi u,.int 1 v] }
 | .frz o u=>h.get? a=FN o/\eE H h a u
 | .tbl ps=>h.get? a=FN { cls:=.none,data:=.fields ps }
 | .met f x=>h.get? a=FN (PySem.W.methodObj (.ref f) (.ref x))
 | .ext φ=>φ h/\(∃ o,h.get? a=FN o)/\∀ h1 h2:Heap,φ h1->(∀ o,h1.get? a=FN o->h2.get? a=FN o)->φ h2
def KR (H:Hp)(h:Heap):Prop:=∀ a o,H a=FN o->eE P w H h a o
end
variable {h : Heap}
section
variable {P:Ei}{w:Dq}{H':Hp}{h':Heap}{a:Addr}{o:HO}
theorem eE.lt (x:eE P w H h a o):a<h.objs.size:=by
 cases o with
 | lst xs=>obtain ⟨_,_,_,_,e⟩:=x;exact G9 e
 | tup xs=>obtain ⟨_,_,_,p⟩:=x;exact p.tup.lt
 | dK kvs=>obtain ⟨_,_,_,_,o,_,_,e,_⟩:=x;exact G9 e
 | dT kvs=>obtain ⟨_,_,_,_,o,_,_,e,_⟩:=x;exact G9 e
 | set S n=>obtain ⟨o,_,_,_,e,_⟩:=x;exact G9 e
 | ins C dx fs=>obtain ⟨_,_,_,e,_⟩:=x;exact G9 e
 | own y=>obtain ⟨_,e⟩:=x;exact G9 e
 | xd fs=>obtain ⟨_,⟨_,_,_,e,_⟩,_⟩:=x;exact G9 e
 | rng lo hi=>obtain ⟨_,_,_,e⟩:=x;exact G9 e
 | frz ob u=>obtain ⟨e,_⟩:=x;exact G9 e
 | tbl ps=>exact G9 (show h.get? a=FN _ from x)
 | met f y=>exact G9 (show h.get? a=FN _ from x)
 | ext φ=>obtain ⟨_,⟨_,e⟩,_⟩:=x;exact G9 e
theorem Paired.mapP {α β : Type}{F G:α->β->Prop}:∀ {l₁ : List α} {l₂ : List β},LQ F l₁ l₂->(∀ a b,F a b->G a b)->LQ G l₁ l₂
 | _,_,.nil,_=>.nil
 | _,_,.cons r t,f=>.cons (f _ _ r) (Paired.mapP t f)
theorem eE.stay (x:eE P w H h a o)(k:∀ b u,(b=a\/H b=FN (.own a))->h.get? b=FN u->h'.get? b=FN u)
  (ho:∀ b,H b=FN (.own a)->H' b=FN (.own a)) (ht:∀ b xs,H b=FN (.tup xs)->H' b=FN (.tup xs)):eE P w H' h' a o:=by
 induction o with
 | lst xs=>obtain ⟨z,its,n,r,e⟩:=x;exact ⟨z,its,n,r,k _ _ (.inl rfl) e⟩
 | tup xs=>obtain ⟨z,its,r,ob,e,c⟩:=x;exact ⟨z,its,r,ob,k _ _ (.inl rfl) e,c⟩
 | dK kvs=>obtain ⟨z,y,vs,r,ob,es,ep,e,c⟩:=x;exact ⟨z,y,vs,r,ob,es,ep,k _ _ (.inl rfl) e,c⟩
 | dT kvs=>
  obtain ⟨z,y,xs,r,ob,es,ep,e,c⟩:=x;exact ⟨z,y,xs,Paired.mapP r fun p q z=>⟨z.1,ht _ _ z.2.1,z.2.2⟩,ob,es,ep,k _ _ (.inl rfl) e,c⟩
 | set S n=>obtain ⟨ob,es,ep,t,e,c⟩:=x;exact ⟨ob,es,ep,t,k _ _ (.inl rfl) e,c⟩
 | ins C dx fs=>
  obtain ⟨d,z,ne,e,mA,⟨od,es,ep,e2,c⟩,r⟩:=x;exact ⟨ho _ d,z,ne,k _ _ (.inl rfl) e,mA,⟨od,es,ep,k _ _ (.inr d) e2,c⟩,r⟩
 | own y=>obtain ⟨ob,e⟩:=x;exact ⟨ob,k _ _ (.inl rfl) e⟩
 | xd fs=>obtain ⟨mA,⟨od,es,ep,e,c⟩,r⟩:=x;exact ⟨mA,⟨od,es,ep,k _ _ (.inl rfl) e,c⟩,r⟩
 | rng lo hi=>obtain ⟨t,u,v,e⟩:=x;exact ⟨t,u,v,k _ _ (.inl rfl) e⟩
 | frz ob u ih=>obtain ⟨e,q⟩:=x;exact ⟨k _ _ (.inl rfl) e,ih q⟩
 | tbl ps=>
  have e:h.get? a=FN { cls:=.none,data:=.fields ps }:=x;show h'.get? a=FN { cls:=.none,data:=.fields ps };exact k a _ (.inl rfl) e
 | met f y=>
  have e:h.get? a=FN (PySem.W.methodObj (.ref f) (.ref y)):=x;show h'.get? a=FN (PySem.W.methodObj (.ref f) (.ref y));exact k a _ (.inl rfl) e
 | ext φ=>obtain ⟨p,⟨o,e⟩,st⟩:=x;exact ⟨st _ _ p fun o q=>k _ _ (.inl rfl) q,⟨o,k _ _ (.inl rfl) e⟩,st⟩
theorem KR.lt (x:KR P w H h)(e:H a=FN o):a<h.objs.size:=(x a o e).lt
theorem KR.fresh (x:KR P w H h)(e:h.objs.size<=a):H a=FX:=by
 cases q:H a with
 | none=>rfl
 | some u=>exact absurd (HB (x.lt q) e) (Nv _)
theorem KR.kept (x:KR P w H h)(k:∀ b u,h.get? b=FN u->h'.get? b=FN u):KR P w H h':=fun a o e=>
 (x a o e).stay (fun b u _ q=>k b u q) (fun _ q=>q) fun _ _ q=>q
theorem KR.laid (x:KR P w H h)(k:∀ b u,h.get? b=FN u->h'.get? b=FN u)(hp:h.objs.size<=a)(new:eE P w (FQ H a o) h' a o):KR P w (FQ H a o) h':=fun b u e=>by
 have hn:=x.fresh hp;by_cases hb:b=a
 ·subst hb;rw [bF] at e;cases e;exact new
 ·rw [aO hb] at e;exact (x b u e).stay (fun c v _ q=>k c v q) (fun c q=>by rw [aO (aR q hn)];exact q) fun c xs q=>by rw [aO (aR q hn)];exact q
end
variable {h' : Heap}{H' : Hp}{P : Ei}{w : Dq}
def Rd (H:Hp)(a:Addr)(u:HO):Prop:=H a=FN u\/∃ o,H a=FN (.frz o u)
theorem Rd.ok {a:Addr}{u:HO}(r:Rd H a u)(x:KR P w H h):eE P w H h a u:=by
 rcases r with r | ⟨o,r⟩
 ·exact x a u r
 ·obtain ⟨_,q⟩:=x a _ r;exact q
def Mut:Option HO->Prop
 | some (.lst _)=>True
 | some (.dK _)=>True
 | some (.dT _)=>True
 | some (.set _ _)=>True
 | some (.ins _ _ _)=>True
 | some (.ext _)=>True
 | _=>False
section
variable {x e:Addr}{o':HO}
theorem KR.write (ok:KR P w H h)(mu:Mut (H x))(he:e=x\/H e=FN (.own x))(k:∀ b u,b≠e->h.get? b=FN u->h'.get? b=FN u)(heo:∃ u,h'.get? e=FN u)
  (new:eE P w (FQ H x o') h' x o'):KR P w (FQ H x o') h':=fun b u q=>by
 have nown:∀ c y,H c=FN (.own y)->c≠x:=fun c y r z=>by subst z;rw [r] at mu;exact mu
 have ntup:∀ c xs,H c=FN (.tup xs)->c≠x:=fun c xs r z=>by subst z;rw [r] at mu;exact mu
 by_cases hb:b=x
 ·subst hb;rw [bF] at q;cases q;exact new
 ·rw [aO hb] at q;by_cases hbe:b=e
  ·have q':H b=FN (.own x):=by
    rcases he with z | z
    ·exact absurd (hbe.trans z) hb
    ·rw [hbe];exact z
   rw [q] at q';cases q';obtain ⟨v,hv⟩:=heo;exact ⟨v,by rw [hbe];exact hv⟩
  ·refine (ok b u q).stay (fun c v hc r=>k c v ?_ r) (fun c r=>by rw [aO (nown c b r)];exact r) fun c xs r=>by rw [aO (ntup c xs r)];exact r
   rcases hc with rfl | hc
   ·exact hbe
   ·rintro rfl;rcases he with z | z
    ·exact nown c b hc z
    ·rw [hc] at z;cases z;exact hb rfl
end
structure Un (fs ex:List Addr) (H H':Hp) (h h':Heap):Prop where
 keep:∀ b o,h.get? b=FN o->H b=FX->b∉fs->b∉ex->h'.get? b=FN o
 slot:∀ b o,h.get? b=FN o->H b=FX->b∈fs->b∉ex->∃ sl,h'.get? b=FN { o with slots:=sl }
 free:∀ b o,h.get? b=FN o->H b=FX->b∉ex->H' b=FX
 there:∀ b o,h.get? b=FN o->b∉ex->∃ o',h'.get? b=FN o'
 tups:∀ b xs,H b=FN (.tup xs)->H' b=FN (.tup xs)
 frzs:∀ b o u,H b=FN (.frz o u)->H' b=FN (.frz o u)
 tbls:∀ b ps,H b=FN (.tbl ps)->∃ more,H' b=FN (.tbl (ps++more))
section
variable {fs fs' ex ex':List Addr}{H1 H2:Hp}{h1 h2:Heap}{a x e:Addr}{o:HO}
theorem Un.any (u:Un fs ex H H1 h h1){b:Addr}{ob:Obj}(q:h.get? b=FN ob)(n:H b=FX)(hx:b∉ex):∃ sl,h1.get? b=FN { ob with slots:=sl }:=by
 by_cases hb:b∈fs
 ·exact u.slot b ob q n hb hx
 ·exact ⟨ob.slots,u.keep b ob q n hb hx⟩
theorem Un.kept (k:∀ b u,h.get? b=FN u->h'.get? b=FN u):Un fs ex H H h h':=
 ⟨fun b ob q _ _ _=>k b ob q,fun b ob q _ _ _=>⟨ob.slots,k b ob q⟩,fun _ _ _ n _=>n,fun b ob q _=>⟨ob,k b ob q⟩,fun _ _ q=>q,fun _ _ _ q=>q,fun _ ps q=>⟨#[],by rw [q];simp⟩⟩
theorem Un.refl:Un fs ex H H h h:=Un.kept fun _ _ q=>q
theorem Un.laid (k:∀ b u,h.get? b=FN u->h'.get? b=FN u)(hp:h.objs.size<=a)(hn:H a=FX):Un fs ex H (FQ H a o) h h' where
 keep:=fun b u q _ _ _=>k b u q
 slot:=fun b u q _ _ _=>⟨u.slots,k b u q⟩
 free:=fun b u q n _=>by rw [aO (Gq (HB (G9 q) hp))];exact n
 there:=fun b u q _=>⟨u,k b u q⟩
 tups:=fun b xs q=>by rw [aO (aR q hn)];exact q
 frzs:=fun b u xs q=>by rw [aO (aR q hn)];exact q
 tbls:=fun b ps q=>⟨#[],by rw [aO (aR q hn),q];simp⟩
theorem Un.write (mu:Mut (H x))(he:e=x\/H e=FN (.own x))(k:∀ b u,b≠e->h.get? b=FN u->h'.get? b=FN u)(heo:∃ u,h'.get? e=FN u):Un fs ex H (FQ H x o) h h':=by
 have hx:∀ b,H b=FX->b≠x:=fun b n z=>by subst z;rw [n] at mu;exact mu
 have hb:∀ b,H b=FX->b≠e:=fun b n z=>by
  subst z;rcases he with r | r
  ·exact hx b n r
  ·rw [n] at r;cases r
 have hm:∀ b u,H b=FN u->¬ Mut (FN u)->b≠x:=fun b u q nm z=>by subst z;rw [q] at mu;exact nm mu
 refine ⟨fun b u q n _ _=>k b u (hb b n) q,fun b u q n _ _=>⟨u.slots,k b u (hb b n) q⟩,fun b u q n _=>by rw [aO (hx b n)];exact n,fun b u q _=>?_,
  fun b xs q=>by rw [aO (hm b _ q fun z=>z)];exact q,fun b u xs q=>by rw [aO (hm b _ q fun z=>z)];exact q,fun b ps q=>⟨#[],by rw [aO (hm b _ q fun z=>z),q];simp⟩⟩
 by_cases hbe:b=e
 ·subst hbe;exact heo
 ·exact ⟨u,k b u hbe q⟩
end
def trk (h:Heap)(H:Hp):List Addr:=(Ma h.objs.size).filter fun a=>(H a).isSome
def Lq (h:Heap)(H:Hp):Heap:=PySem.W.hideAll h (trk h H)
theorem adF (h:Heap)(H:Hp):(Lq h H).objs.size=h.objs.size:=PySem.W.hideAll_size _ _
theorem zaW {b:Addr}{o:Obj}(e:h.get? b=FN o)(n:H b=FX):(Lq h H).get? b=FN o:=
 PySem.W.hideAll_get _ e fun hm=>by
  have q:(H b).isSome=true:=(List.mem_filter.mp hm).2;rw [n] at q;simp at q
theorem aga {b:Addr}{o:Obj}(e:(Lq h H).get? b=FN o):h.get? b=FN o/\H b=FX:=by
 have e':h.get? b=FN o:=PySem.W.of_hideAll (trk h H) e;refine ⟨e',?_⟩;cases q:H b with
 | none=>rfl
 | some x=>
  have hm:b∈trk h H:=List.mem_filter.mpr ⟨WR.mpr (G9 e'),by simp [q]⟩;have z:(Lq h H).get? b=FX:=PySem.W.hideAll_none (trk h H) hm;rw [z] at e;cases e
def aeL (g h:Heap)(L:Addr):List (Addr×Obj):=(Ma h.objs.size).filterMap fun a=>if a=L\/(g.get? a).isSome=true then FX else (h.get? a).map fun o=>(a,o)
def rest (g h:Heap)(L d:Addr):List (Addr×Obj):=(aeL g h L).filter fun p=>decide (p.1≠d)
structure Mod (K:CT) (mg:Str->Option Mk) (base:Heap):Prop where
 kin:K.In base
 glob:base.Ns Jk mg
 blt:∃ mb,base.Ns builtinsNs mb/\∀ x:Str,x ≠ "__name__"->mb x=Rf x
 nolimit:base.NoLimit
structure Cx where
 prog:Ei
 w:Dq
 K:CT
 mg:Str->Option Mk
 base:Heap
 A:FZ
 N:List Str
 s₀ : AP
 H₀ : Hp
 env:Env
 outer:List Env
 stack:List Env
 ex:List Addr
 fn:Str->Bool
 calm:Bool
 pn:List (Addr×Obj)
 xe:Mk->AP->Prop
def frs (l:List Env):List Addr:=l.filterMap (·.frame)
abbrev Cx.fs (X:Cx):List Addr:=frs X.outer
def Vis (sc:Scope)(x:Str):Prop:=sc.names.lookup x=FN .local\/sc.names.lookup x=FN .cell\/sc.names.lookup x=FN .free
def Loc (sc:Scope)(x:Str):Prop:=sc.names.lookup x=FN .local\/sc.names.lookup x=FN .cell
def Look (env:Env)(h:Heap)(m:Str->Option Mk)(x:Str)(u:Mk):Prop:=
 (env.kindOf x=FN .local/\m x=FN u)\/((env.kindOf x=FN .cell\/env.kindOf x=FN .free)/\∃ c,env.cells.lookup x=FN c/\h.IsCell c (FN u))
def Still (H:Hp)(v:Mk):Prop:=∃ (a:Addr) (o:Obj) (u:HO) (vs:Array Mk),v=.ref a/\H a=FN (.frz o u)/\o.data=.fields vs/\vs[2]?=FN .none
def Quiet (A:FZ)(H:Hp):Prop:=∀ v,A.handled=FN v->Still H v
structure Cx.Ok (X:Cx):Prop where
 mod:Mod X.K X.mg X.base
 kind:X.env.scope.kind=.function
 glob:X.env.globals=Jk
 blt:X.env.builtins=builtinsNs
 above:X.s₀.heap.objs.size<=X.env.locals
 inj:∀ x y c,X.env.cells.lookup x=FN c->X.env.cells.lookup y=FN c->x=y
 has:∀ x,(X.env.kindOf x=FN .cell\/X.env.kindOf x=FN .free)->∃ c,X.env.cells.lookup x=FN c
 cab:∀ x c,X.fn x=true->X.env.cells.lookup x=FN c->X.s₀.heap.objs.size<=c
 hd:X.calm=true->X.A.handled=FX
 qt:Quiet X.A X.H₀
 frames:X.A.frames=FN X.stack
 stk:X.stack=X.outer\/(X.stack=X.env::X.outer/\X.env.frame=FN X.env.locals)
 exf:∀ b∈X.ex,b≠X.env.locals/\∀ x c,X.env.cells.lookup x=FN c->c≠b
 bs:∀ b o,X.base.get? b=FN o->X.s₀.heap.get? b=FN o/\X.H₀ b=FX
 bsz:X.base.objs.size<=X.s₀.heap.objs.size
 noex:∀ b o,X.base.get? b=FN o->b∉X.ex
 exfs:∀ b∈X.ex,b∉X.fs
 funs:X.s₀.heap.FunFrames X.base X.outer
 frf:∀ b∈X.fs,X.H₀ b=FX
structure CQ (X:Cx) (ajd:List (Addr×Obj)) (Z : List (Option V)) (H:Hp) (s:AP):Prop where
 ok:X.Ok
 os:s.os=X.s₀.os
 bare:RT s.gens
 base:Un X.fs X.ex X.H₀ H X.s₀.heap s.heap
 loc:∃ m,s.heap.Ns X.env.locals m/\∀ (i:Nat) (x:Str) (v:V),X.N[i]?=FN x->Z[i]?=FN (FN v)->Vis X.env.scope x->∃ u,RelV v u/\Look X.env s.heap m x u
 cell:∀ x c,X.env.cells.lookup x=FN c->∃ v,s.heap.IsCell c v
 free:H X.env.locals=FX
 freeC:∀ x c,X.env.cells.lookup x=FN c->H c=FX
 pin:∀ p∈X.pn++ajd,s.heap.get? p.1=FN p.2/\H p.1=FX/\p.1≠X.env.locals/\p.1∉X.fs/\∀ v,p.2.data≠.cell v
 hok:KR X.prog X.w H s.heap
 len:Z.length=X.N.length
section
variable {X:Cx}{ajd:List (Addr×Obj)}{Z : List (Option V)}{s:AP}
theorem Cx.Ok.nofr (ok:X.Ok){b:Addr}{o:Obj}(e:X.base.get? b=FN o):b∉X.fs:=fun hb=>by
 have:=(ok.funs.mem hb).1
 rw [e] at this;cases this
theorem CQ.bs (I:CQ X ajd Z H s):∀ b o,X.base.get? b=FN o->s.heap.get? b=FN o/\H b=FX:=fun b o e=>
 ⟨I.base.keep b o (I.ok.bs b o e).1 (I.ok.bs b o e).2 (I.ok.nofr e) (I.ok.noex b o e),I.base.free b o (I.ok.bs b o e).1 (I.ok.bs b o e).2 (I.ok.noex b o e)⟩
theorem CQ.qt0 (I:CQ X ajd Z H s):Quiet X.A H:=fun v e=>let ⟨a,o,u,vs,h1,h2,h3⟩:=I.ok.qt v e;⟨a,o,u,vs,h1,I.base.frzs a o u h2,h3⟩
theorem CQ.bk (I:CQ X ajd Z H s):∀ b o,X.base.get? b=FN o->s.heap.get? b=FN o:=fun b o e=>(I.bs b o e).1
theorem CQ.mod (I:CQ X ajd Z H s):Mod X.K X.mg X.base:=I.ok.mod
theorem CQ.kIn (I:CQ X ajd Z H s):X.K.In s.heap:=I.ok.mod.kin.keeps I.bk
theorem CQ.lt (I:CQ X ajd Z H s):X.env.locals<s.heap.objs.size:=let ⟨_,hn,_⟩:=I.loc;hn.lt
theorem CQ.sz (I:CQ X ajd Z H s):X.s₀.heap.objs.size<=s.heap.objs.size:=Dk I.ok.above (Lx I.lt)
theorem CQ.nofs (I:CQ X ajd Z H s){a:Addr}(h:s.heap.objs.size<=a):a∉X.fs:=fun hb=>by
 obtain ⟨_,o,ho,_⟩:=I.ok.funs.mem hb;exact absurd (HB (G9 ho)<|Dk I.sz h)<|Nv _
theorem CQ.cne (I:CQ X ajd Z H s):∀ x c,X.env.cells.lookup x=FN c->c≠X.env.locals:=fun x c e z=>by
 obtain ⟨v,o,ho,hd⟩:=I.cell x c e;obtain ⟨m,⟨o',es,ep,ho',hd',_⟩,_⟩:=I.loc;rw [z,ho'] at ho;cases ho;rw [hd'] at hd;cases hd
theorem CQ.funs (I:CQ X ajd Z H s):s.heap.FunFrames X.base X.outer:=by
 have all:∀ (l:List Env),(∀ b∈frs l,b∈X.fs)->X.s₀.heap.FunFrames X.base l->s.heap.FunFrames X.base l:=by
  intro l;induction l with
  | nil=>intro _ _;trivial
  | cons env r ih=>
   intro hs hl;obtain ⟨hk,⟨L,o,hf,hn,ho,hd⟩,hr⟩:=hl;have hL:L∈X.fs:=hs L (by unfold frs;rw [List.filterMap_cons,hf];exact KD);obtain ⟨sl,e⟩:=I.base.slot L o ho (I.ok.frf L hL) hL fun z=>I.ok.exfs L z hL
   exact ⟨hk,⟨L,_,hf,hn,e,hd⟩,ih (fun b hb=>hs b (by unfold frs;rw [List.filterMap_cons,hf];exact Jo _ hb)) hr⟩
 exact all X.outer (fun _ hb=>hb) I.ok.funs
theorem CQ.stack (I:CQ X ajd Z H s):s.heap.FunFrames X.base X.stack:=by
 rcases I.ok.stk with e | ⟨e,hf⟩
 ·rw [e];exact I.funs
 ·rw [e];obtain ⟨m,hn,_⟩:=I.loc;refine .cons (by rw [I.ok.kind];decide) hf hn ?_ I.funs;exact X4<|Dk I.ok.bsz I.ok.above
theorem CQ.stkSub (I:CQ X ajd Z H s):∀ b∈frs X.stack,b∈X.env.locals::X.fs:=fun b hb=>by
 rcases I.ok.stk with e | ⟨e,hf⟩
 ·rw [e] at hb;exact Jo _ hb
 ·rw [e] at hb;unfold frs at hb;rw [List.filterMap_cons,hf] at hb;exact hb
theorem CQ.stkFree (I:CQ X ajd Z H s):∀ b∈frs X.stack,H b=FX:=fun b hb=>by
 rcases Ge.mp (I.stkSub b hb) with e | hb
 ·rw [e];exact I.free
 ·obtain ⟨_,o,ho,_⟩:=I.ok.funs.mem hb;exact I.base.free b o ho (I.ok.frf b hb) fun z=>I.ok.exfs b z hb
theorem CQ.stepG {g':Array GenState}{t':Nat}{d':Drawn}{ch:List Addr}(I:CQ X ajd Z H s)
  (hch:∀ b∈ch,(b∈X.ex\/X.s₀.heap.get? b=FX)/\b≠X.env.locals/\(∀ x c,X.env.cells.lookup x=FN c->c≠b)/\∀ p∈X.pn++ajd,p.1≠b)
  (keep:∀ b o,b≠X.env.locals->b∉X.fs->b∉ch->s.heap.get? b=FN o->H b=FX->h'.get? b=FN o)
  (slot:∀ b o,b≠X.env.locals->b∈X.fs->b∉ch->s.heap.get? b=FN o->H b=FX->∃ sl,h'.get? b=FN { o with slots:=sl }) (free:∀ b o,b∉ch->s.heap.get? b=FN o->H b=FX->H' b=FX)
  (there:∀ b o,b∉ch->s.heap.get? b=FN o->∃ o',h'.get? b=FN o')
  (tups:∀ b xs,H b=FN (.tup xs)->H' b=FN (.tup xs)) (frzs:∀ b o u,H b=FN (.frz o u)->H' b=FN (.frz o u)) (tbls:∀ b ps,H b=FN (.tbl ps)->∃ more,H' b=FN (.tbl (ps++more)))
  (ns:∀ m,s.heap.Ns X.env.locals m->h'.Ns X.env.locals m) (hok:KR X.prog X.w H' h') (hg:RT g') :
  CQ X ajd Z H' { s with heap:=h',gens:=g',drawn:=d',toks:=t' }:=by
 have neL:∀ b o,X.s₀.heap.get? b=FN o->b≠X.env.locals:=fun b o e=>Gq (HB (G9 e) I.ok.above)
 have neC:∀ b o,X.s₀.heap.get? b=FN o->b∉X.ex->b∉ch:=fun b o e hx hb=>by
  rcases (hch b hb).1 with z | z
  ·exact hx z
  ·rw [z] at e;cases e
 have cellK:∀ x c,X.env.cells.lookup x=FN c->∀ v,s.heap.IsCell c v->h'.IsCell c v:=fun x c e v ⟨o,ho,hd⟩=>by
  have nch:c∉ch:=fun z=>(hch c z).2.2.1 x c e rfl
  by_cases hc:c∈X.fs
  ·obtain ⟨sl,q⟩:=slot c o (I.cne x c e) hc nch ho (I.freeC x c e);exact ⟨_,q,hd⟩
  ·exact ⟨o,keep c o (I.cne x c e) hc nch ho<|I.freeC x c e,hd⟩
 refine ⟨I.ok,I.os,hg,⟨fun b o e n hb hx=>?_,fun b o e n hb hx=>?_,fun b o e n hx=>?_,fun b o e hx=>?_,fun b xs e=>tups b xs<|I.base.tups b xs e,fun b o xs e=>frzs b o xs<|I.base.frzs b o xs e,fun b ps e=>?_⟩,?_,fun x c e=>?_,?_,fun x c e=>?_,fun p hp=>?_,hok,I.len⟩
 ·exact keep b o (neL b o e) hb (neC b o e hx) (I.base.keep b o e n hb hx)<|I.base.free b o e n hx
 ·obtain ⟨sl,e1⟩:=I.base.slot b o e n hb hx;obtain ⟨sl',e2⟩:=slot b _ (neL b o e) hb (neC b o e hx) e1 (I.base.free b o e n hx);exact ⟨sl',e2⟩
 ·obtain ⟨o',e1⟩:=I.base.there b o e hx;exact free b o' (neC b o e hx) e1<|I.base.free b o e n hx
 ·obtain ⟨o',e1⟩:=I.base.there b o e hx;exact there b o' (neC b o e hx) e1
 ·obtain ⟨m1,e1⟩:=I.base.tbls b ps e;obtain ⟨m2,e2⟩:=tbls b _ e1;exact ⟨m1++m2,by rw [e2,Array.append_assoc]⟩
 ·obtain ⟨m,hn,hl⟩:=I.loc;refine ⟨m,ns m hn,fun i x v e1 e2 e3=>?_⟩;obtain ⟨u,r,l⟩:=hl i x v e1 e2 e3;refine ⟨u,r,?_⟩;rcases l with l | ⟨k,c,e,z⟩
  ·exact .inl l
  ·exact .inr ⟨k,c,e,cellK x c e _ z⟩
 ·obtain ⟨v,z⟩:=I.cell x c e;exact ⟨v,cellK x c e v z⟩
 ·obtain ⟨m,⟨o,_,_,ho,_⟩,_⟩:=I.loc;exact free _ o (fun z=>(hch _ z).2.1 rfl) ho I.free
 ·obtain ⟨v,o,ho,hd⟩:=I.cell x c e;exact free c o (fun z=>(hch c z).2.2.1 x c e rfl) ho<|I.freeC x c e
 ·obtain ⟨e,n,ne,nf,d⟩:=I.pin p hp;have nch:p.1∉ch:=fun z=>(hch p.1 z).2.2.2 p hp rfl
  exact ⟨keep p.1 p.2 ne nf nch e n,free p.1 p.2 nch e n,ne,nf,d⟩
theorem CQ.step {g':Array GenState}{t':Nat}{d':Drawn}{ch:List Addr}(I:CQ X ajd Z H s)
  (hch:∀ b∈ch,(b∈X.ex\/X.s₀.heap.objs.size<=b)/\b≠X.env.locals/\(∀ x c,X.env.cells.lookup x=FN c->c≠b)/\∀ p∈X.pn++ajd,p.1≠b)
  (keep:∀ b o,b≠X.env.locals->b∉X.fs->b∉ch->s.heap.get? b=FN o->H b=FX->h'.get? b=FN o)
  (slot:∀ b o,b≠X.env.locals->b∈X.fs->b∉ch->s.heap.get? b=FN o->H b=FX->∃ sl,h'.get? b=FN { o with slots:=sl }) (free:∀ b o,b∉ch->s.heap.get? b=FN o->H b=FX->H' b=FX)
  (there:∀ b o,b∉ch->s.heap.get? b=FN o->∃ o',h'.get? b=FN o')
  (tups:∀ b xs,H b=FN (.tup xs)->H' b=FN (.tup xs)) (frzs:∀ b o u,H b=FN (.frz o u)->H' b=FN (.frz o u)) (tbls:∀ b ps,H b=FN (.tbl ps)->∃ more,H' b=FN (.tbl (ps++more)))
  (ns:∀ m,s.heap.Ns X.env.locals m->h'.Ns X.env.locals m) (hok:KR X.prog X.w H' h') (hg:RT g') :
  CQ X ajd Z H' { s with heap:=h',gens:=g',drawn:=d',toks:=t' }:=
 I.stepG (ch:=ch) (fun b z=>⟨(hch b z).1.imp id fun q=>X4 q,(hch b z).2⟩) keep slot free there tups frzs tbls ns hok hg
theorem CQ.un {t':Nat}(I:CQ X ajd Z H s)(u:Un X.fs [] H H' s.heap h')(hok:KR X.prog X.w H' h'):CQ X ajd Z H' { s with heap:=h',toks:=t' }:=by
 obtain ⟨m,⟨o,es,ep,ho,r⟩,_⟩:=id I.loc;obtain ⟨sl,hL⟩:=u.any ho I.free (by simp);exact I.step (g':=s.gens) (d':=s.drawn) (ch:=[]) (fun _ z=>nomatch z) (fun b o _ hb _ e n=>u.keep b o e n hb (by simp)) (fun b o _ hb _ e n=>u.slot b o e n hb (by simp)) (fun b o _ e n=>u.free b o e n (by simp)) (fun b o _ e=>u.there b o e (by simp)) u.tups u.frzs u.tbls (fun m' hm=>by
  obtain ⟨o',es',ep',ho',r'⟩:=hm;rw [ho] at ho';cases ho';exact ⟨_,es',ep',hL,r'⟩) hok I.bare
theorem CQ.call {g':Array GenState}{t':Nat}{d':Drawn}{ch:List Addr}(I:CQ X ajd Z H s)(u:Un (frs X.stack) ch H H' s.heap h')(hok:KR X.prog X.w H' h')(hg:RT g')
  (hch:∀ b∈ch,(b∈X.ex\/X.s₀.heap.objs.size<=b)/\b≠X.env.locals/\(∀ x c,X.env.cells.lookup x=FN c->c≠b)/\∀ p∈X.pn++ajd,p.1≠b) :
  CQ X ajd Z H' { s with heap:=h',gens:=g',drawn:=d',toks:=t' }:=by
 obtain ⟨m,⟨o,es,ep,ho,r⟩,_⟩:=id I.loc;obtain ⟨sl,hL⟩:=u.any ho I.free fun z=>(hch _ z).2.1 rfl
 exact I.step (ch:=ch) hch (fun b o hL hb hc e n=>u.keep b o e n (fun z=>(Ge.mp (I.stkSub b z)).elim hL hb) hc) (fun b o _ _ hc e n=>u.any e n hc) (fun b o hc e n=>u.free b o e n hc) (fun b o hc e=>u.there b o e hc) u.tups u.frzs u.tbls (fun m' hm=>by
  obtain ⟨o',es',ep',ho',r'⟩:=hm;rw [ho] at ho';cases ho';exact ⟨_,es',ep',hL,r'⟩) hok hg
theorem CQ.turned {t':Nat}{it:Addr}(I:CQ X ajd Z H s)(k:∀ b o,b≠it->s.heap.get? b=FN o->h'.get? b=FN o)(hn:H it=FX)(hL:it≠X.env.locals)
  (h1:it∈X.ex\/X.s₀.heap.objs.size<=it) (h2:∀ x c,X.env.cells.lookup x=FN c->c≠it) (h3:∀ p∈X.pn++ajd,p.1≠it):CQ X ajd Z H { s with heap:=h',toks:=t' }:=by
 have nit:∀ b u,H b=FN u->b≠it:=fun b u e z=>by rw [z,hn] at e;cases e
 refine I.step (g':=s.gens) (d':=s.drawn) (ch:=[it]) (fun b hb=>?_) (fun b o _ _ hc e _=>k b o (fun z=>hc<|by simp [z]) e) (fun b o _ _ hc e _=>⟨o.slots,k b o (fun z=>hc<|by simp [z]) e⟩) (fun _ _ _ _ n=>n)
  (fun b o hc e=>⟨o,k b o (fun z=>hc (by simp [z])) e⟩) (fun _ _ e=>e) (fun _ _ _ e=>e) (fun b ps e=>⟨#[],by rw [e];simp⟩) (fun m hm=>?_) (fun b u e=>?_) I.bare
 ·have e:b=it:=by simpa using hb
  subst e;exact ⟨h1,hL,h2,h3⟩
 ·obtain ⟨o,es,ep,ho,r⟩:=hm;exact ⟨o,es,ep,k _ o (Ji hL) ho,r⟩
 ·refine (I.hok b u e).stay (fun c v hc q=>k c v ?_ q) (fun _ q=>q) fun _ _ q=>q;rcases hc with z | z
  ·rw [z];exact nit b u e
  ·exact nit c _ z
theorem CQ.tok (I:CQ X ajd Z H s)(t:Nat):CQ X ajd Z H { s with toks:=t }:=I.un (h':=s.heap) (t':=t) Un.refl I.hok
theorem CQ.kept {t':Nat}(I:CQ X ajd Z H s)(k:∀ b u,s.heap.get? b=FN u->h'.get? b=FN u):CQ X ajd Z H { s with heap:=h',toks:=t' }:=I.un (Un.kept k) (I.hok.kept k)
theorem CQ.laid {a:Addr}{o:HO}{t':Nat}(I:CQ X ajd Z H s)(k:∀ b u,s.heap.get? b=FN u->h'.get? b=FN u)(hp:s.heap.objs.size<=a)(new:eE X.prog X.w (FQ H a o) h' a o) :
  CQ X ajd Z (FQ H a o) { s with heap:=h',toks:=t' }:=I.un (Un.laid k hp (I.hok.fresh hp)) (I.hok.laid k hp new)
theorem CQ.write {x e:Addr}{o:HO}{t':Nat}(I:CQ X ajd Z H s)(mu:Mut (H x))(he:e=x\/H e=FN (.own x))(k:∀ b u,b≠e->s.heap.get? b=FN u->h'.get? b=FN u)(heo:∃ u,h'.get? e=FN u)
  (new:eE X.prog X.w (FQ H x o) h' x o):CQ X ajd Z (FQ H x o) { s with heap:=h',toks:=t' }:=I.un (Un.write mu he k heo) (I.hok.write mu he k heo new)
theorem CQ.weak {Z':List (Option V)}(I:CQ X ajd Z H s)(hl:Z'.length = Z.length)(w:∀ (i:Nat) v,Z'[i]?=FN (FN v)->Z[i]?=FN (FN v)):CQ X ajd Z' H s:=
 ⟨I.ok,I.os,I.bare,I.base,let ⟨m,hn,hl'⟩:=I.loc;⟨m,hn,fun i x v e1 e2 e3=>hl' i x v e1 (w i v e2) e3⟩,I.cell,I.free,I.freeC,I.pin,I.hok,hl.trans I.len⟩
theorem CQ.pins_of {pins':List (Addr×Obj)}(I:CQ X ajd Z H s)(h:∀ p∈pins',s.heap.get? p.1=FN p.2/\H p.1=FX/\p.1≠X.env.locals/\p.1∉X.fs/\∀ v,p.2.data≠.cell v):CQ X pins' Z H s:=
 ⟨I.ok,I.os,I.bare,I.base,I.loc,I.cell,I.free,I.freeC,fun p hp=>(La.mp hp).elim (fun z=>I.pin p (Rx _ z)) (h p),I.hok,I.len⟩
theorem Cg {N:List Str}(hN:N.Nodup){i j:Nat}{x:Str}(a:N[i]?=FN x)(b:N[j]?=FN x):i=j:=by
 obtain ⟨h1,e1⟩:=Lk.mp a;obtain ⟨h2,e2⟩:=Lk.mp b;exact (List.getElem_inj hN).mp (e1.trans e2.symm)
theorem wC {M:Model}{A:FZ}{E:Mk->AP->Prop}{i:Nat}{x:Str}{v:V}{Q:Unit->AP->Prop}(I:CQ X ajd Z H s)(hN:X.N.Nodup)(hi:X.N[i]?=FN x)(hx:Loc X.env.scope x)(r:RelV v u)
  (h:∀ s',CQ X ajd (Z.set i (FN v)) H s'->(∃ a,U8 a s.heap s'.heap/\(a=X.env.locals\/X.env.cells.lookup x=FN a))->Q () s') (hf:X.fn x=true\/X.env.scope.names.lookup x=FN .local:=by first | exact .inl rfl | exact .inr rfl | assumption):Cu M A (storeName X.env x u) Q E s:=by
 obtain ⟨m,hn,hl⟩:=id I.loc;have hcls:(X.env.scope.kind==.class||(X.env.scope.kind==.module&&X.env.locals != X.env.globals))=false:=by rw [I.ok.kind];rfl
 have hiZ : i < Z.length:=by rw [I.len];exact (Lk.mp hi).1
 have cne:=I.cne;have tracked:∀ {a:Addr} {h':Heap},(∃ o,s.heap.get? a=FN o/\H a=FX)->U8 a s.heap h'->KR X.prog X.w H h':=fun {a h'} ha hs b ob e=>by
  obtain ⟨_,_,hfree⟩:=ha;refine (I.hok b ob e).stay (fun c w' hc q=>(hs.2 c ?_).trans q) (fun _ q=>q) fun _ _ q=>q;rintro rfl;rcases hc with rfl | hc
  ·rw [hfree] at e;cases e
  ·rw [hfree] at hc;cases hc
 rcases hx with hk | hk
 ·refine wpAny_storeName_local hk hn (fun h' hn' hs=>?_) hcls;obtain ⟨oL,_,_,hoL,_⟩:=id hn;refine h _ ⟨I.ok,I.os,I.bare,⟨fun b o e n hb hx=>?_,fun b o e n hb hx=>?_,I.base.free,fun b o e hx=>?_,I.base.tups,I.base.frzs,I.base.tbls⟩,⟨_,hn',fun j y v' e1 e2 e3=>?_⟩,fun y c e=>?_,I.free,I.freeC,fun p hp=>?_,tracked ⟨oL,hoL,I.free⟩ hs,by simpa using I.len⟩ ⟨_,hs,.inl rfl⟩
  ·exact (hs.2 b<|Gq<|HB (G9 e) I.ok.above).trans (I.base.keep b o e n hb hx)
  ·obtain ⟨sl,e1⟩:=I.base.slot b o e n hb hx;exact ⟨sl,(hs.2 b<|Gq<|HB (G9 e) I.ok.above).trans e1⟩
  ·obtain ⟨o',e1⟩:=I.base.there b o e hx;exact ⟨o',(hs.2 b<|Gq<|HB (G9 e) I.ok.above).trans e1⟩
  ·by_cases hj:j=i
   ·subst hj;rw [hi] at e1;cases e1;rw [List.getElem?_set_self hiZ] at e2;cases e2;exact ⟨u,r,.inl ⟨hk,by simp⟩⟩
   ·rw [List.getElem?_set_ne (Ji hj)] at e2;obtain ⟨u',r',q⟩:=hl j y v' e1 e2 e3;refine ⟨u',r',?_⟩;rcases q with ⟨k,e⟩ | ⟨k,c,e,z⟩
    ·refine .inl ⟨k,?_⟩;have:y≠x:=fun e=>hj (Cg hN e1 (e ▸ hi))
     simp [this,e]
    ·exact .inr ⟨k,c,e,z.sameBut hs<|cne y c e⟩
  ·obtain ⟨w',z⟩:=I.cell y c e;exact ⟨w',z.sameBut hs<|cne y c e⟩
  ·obtain ⟨e,n,ne,nf,d⟩:=I.pin p hp;exact ⟨(hs.2 p.1 ne).trans e,n,ne,nf,d⟩
 ·have hfn:X.fn x=true:=by
   rcases hf with z | z
   ·exact z
   ·rw [z] at hk;cases hk
  obtain ⟨c,hc⟩:=I.ok.has x (.inl hk);obtain ⟨w',z⟩:=I.cell x c hc;refine wpAny_storeName_cell I.ok.kind hk hc z<|fun h' hc' hs=>?_
  obtain ⟨oc,hoc,hocd⟩:=id z;refine h { s with heap:=h' } ⟨I.ok,I.os,I.bare,⟨fun b o e n hb hx=>?_,fun b o e n hb hx=>?_,I.base.free,fun b o e hx=>?_,I.base.tups,I.base.frzs,I.base.tbls⟩,⟨m,hn.sameBut hs<|Ji<|cne x c hc,fun j y v' e1 e2 e3=>?_⟩,fun y c' e=>?_,I.free,I.freeC,fun p hp=>?_,tracked ⟨oc,hoc,I.freeC x c hc⟩ hs,by simpa using I.len⟩ ⟨c,hs,.inr hc⟩
  ·exact (hs.2 b<|Gq<|HB (G9 e)<|I.ok.cab x c hfn hc).trans (I.base.keep b o e n hb hx)
  ·obtain ⟨sl,e1⟩:=I.base.slot b o e n hb hx;exact ⟨sl,(hs.2 b<|Gq<|HB (G9 e)<|I.ok.cab x c hfn hc).trans e1⟩
  ·obtain ⟨o',e1⟩:=I.base.there b o e hx;exact ⟨o',(hs.2 b<|Gq<|HB (G9 e)<|I.ok.cab x c hfn hc).trans e1⟩
  ·by_cases hj:j=i
   ·subst hj;rw [hi] at e1;cases e1;rw [List.getElem?_set_self hiZ] at e2;cases e2;exact ⟨u,r,.inr ⟨.inl hk,c,hc,hc'⟩⟩
   ·rw [List.getElem?_set_ne (Ji hj)] at e2;obtain ⟨u',r',q⟩:=hl j y v' e1 e2 e3;refine ⟨u',r',?_⟩;rcases q with q | ⟨k,c',e,z'⟩
    ·exact .inl q
    ·refine .inr ⟨k,c',e,z'.sameBut hs ?_⟩;rintro rfl;exact hj<|Cg hN e1<|I.ok.inj _ _ _ e hc ▸ hi
  ·by_cases hcc:c'=c
   ·subst hcc;exact ⟨_,hc'⟩
   ·obtain ⟨w2,z2⟩:=I.cell y c' e;exact ⟨w2,z2.sameBut hs hcc⟩
  ·obtain ⟨e,n,ne,nf,d⟩:=I.pin p hp;refine ⟨(hs.2 p.1 ?_).trans e,n,ne,nf,d⟩;intro q;rw [q,hoc] at e;have q':oc=p.2:=Gz e;exact d w' (by rw [<-q'];exact hocd)
theorem Bp {M:Model}{A:FZ}{E:Mk->AP->Prop}{i:Nat}{x:Str}{v:V}{Q:Unit->AP->Prop}(I:CQ X ajd Z H s)(hN:X.N.Nodup)(hi:X.N[i]?=FN x)(hx:Loc X.env.scope x)(r:RelV v u)
  (h:∀ s',CQ X ajd (Z.set i (FN v)) H s'->Q () s') (hf:X.fn x=true\/X.env.scope.names.lookup x=FN .local:=by first | exact .inl rfl | exact .inr rfl | assumption):Cu M A (storeName X.env x u) Q E s:=
 wC I hN hi hx r (fun s' I' _=>h s' I') hf
theorem CQ.call' {s':AP}{ch:List Addr}(I:CQ X ajd Z H s)(ho:s'.os=s.os)(u:Un (frs X.stack) ch H H' s.heap s'.heap)(hok:KR X.prog X.w H' s'.heap)(hg:RT s'.gens)
  (hch:∀ b∈ch,(b∈X.ex\/X.s₀.heap.objs.size<=b)/\b≠X.env.locals/\(∀ x c,X.env.cells.lookup x=FN c->c≠b)/\∀ p∈X.pn++ajd,p.1≠b):CQ X ajd Z H' s':=by
 obtain ⟨h',g',d',t',o'⟩:=s';have e:o'=s.os:=ho;subst e;exact I.call (g':=g') (t':=t') (d':=d') u hok hg hch
end
variable {X : Cx}{ajd : List (Addr×Obj)}{N : List Str}{M : Model}{i j : Nat}{E : Mk->AP->Prop}{s' : AP}{A : FZ}
abbrev XK:=Mk->Option Addr->Hp->Prop
abbrev St:=List (Option V)
abbrev VK:=V->Hp->Prop
abbrev TE:=St->Hp->VK->Prop
abbrev TT:=St->Hp->(Bool->Hp->Prop)->Prop
abbrev TA:=St->Hp->(List V->Hp->Prop)->Prop
structure Ends where
 nx:St->Hp->Prop
 rt:VK
 bk:St->Hp->Prop:=fun _ _=>False
 ct:St->Hp->Prop:=fun _ _=>False
abbrev TS:=Ends->St->Hp->Prop
def EP (X:Cx)(ajd:List (Addr×Obj))(Z : St)(Q:VK)(u:Mk)(s':AP):Prop:=∃ v H',CQ X ajd Z H' s'/\RelV v u/\Q v H'
def TP (X:Cx)(ajd:List (Addr×Obj))(Z : St)(Q:Bool->Hp->Prop)(b:Bool)(s':AP):Prop:=∃ H',CQ X ajd Z H' s'/\Q b H'
def adx (X:Cx)(ajd:List (Addr×Obj))(Z : St)(Q:List V->Hp->Prop)(us:List Mk)(s':AP):Prop:=∃ vs H',CQ X ajd Z H' s'/\CR vs us/\Q vs H'
def SP (X:Cx)(ajd:List (Addr×Obj))(D:Ends)(f:Flow)(s':AP):Prop:=
 match f with
 | .next=>∃ Z' H',CQ X ajd Z' H' s'/\D.nx Z' H'
 | .brk=>∃ Z' H',CQ X ajd Z' H' s'/\D.bk Z' H'
 | .cont=>∃ Z' H',CQ X ajd Z' H' s'/\D.ct Z' H'
 | .ret u=>∃ v Z' H',CQ X ajd Z' H' s'/\RelV v u/\D.rt v H'
def PE (X:Cx)(e:Expr)(t:TE):Prop:=
 ∀ (ajd:List (Addr×Obj)) (s:AP) (Z : St) (H:Hp) (Q:VK),CQ X ajd Z H s->t Z H Q->Cu (Cp X.prog X.w) X.A (eval e X.env) (EP X ajd Z Q) X.xe s
def PT (X:Cx)(e:Expr)(t:TT):Prop:=
 ∀ (ajd:List (Addr×Obj)) (s:AP) (Z : St) (H:Hp) (Q:Bool->Hp->Prop),CQ X ajd Z H s->t Z H Q->Cu (Cp X.prog X.w) X.A (isTrue e X.env (eval e X.env)) (TP X ajd Z Q) X.xe s
def PW (X:Cx)(e:Expr)(t:TT):Prop:=
 ∀ (whole:Sem Mk) (ajd:List (Addr×Obj)) (s:AP) (Z : St) (H:Hp) (Q:Bool->Hp->Prop),CQ X ajd Z H s->t Z H Q->Cu (Cp X.prog X.w) X.A (isTrue e X.env whole) (TP X ajd Z Q) X.xe s
variable {e : Expr}
theorem PW.pt {t:TT}(h:PW X e t):PT X e t:=h _
def PA (X:Cx)(es:List Expr)(t:TA):Prop:=
 ∀ (pos:Pos) (ajd:List (Addr×Obj)) (s:AP) (Z : St) (H:Hp) (Q:List V->Hp->Prop),CQ X ajd Z H s->t Z H Q->Cu (Cp X.prog X.w) X.A (spliced (K5 pos (Fo es X.env))) (adx X ajd Z Q) X.xe s
def PS (X:Cx)(st:Stmt)(t:TS):Prop:=
 ∀ (ajd:List (Addr×Obj)) (s:AP) (Z : St) (H:Hp) (D:Ends),CQ X ajd Z H s->t D Z H->Cu (Cp X.prog X.w) X.A (exec st X.env) (SP X ajd D) X.xe s
def NQ (X:Cx)(st:List Stmt)(t:TS):Prop:=
 ∀ (ajd:List (Addr×Obj)) (s:AP) (Z : St) (H:Hp) (D:Ends),CQ X ajd Z H s->t D Z H->Cu (Cp X.prog X.w) X.A (execs st X.env) (SP X ajd D) X.xe s
theorem Fz {α : Type}{t:Sem α}{Q Q':α->AP->Prop}{s:AP}(h:Cu M A t Q E s)(hQ:∀ a s,Q a s->Q' a s):Cu M A t Q' E s:=M6 h hQ fun _ _ x=>x
section
def abf (i:Nat):TE:=fun Z H Q=>∃ v,Z[i]?=FN (FN v)/\Q v H
def tC (v:V):TE:=fun _ H Q=>Q v H
theorem agW {x:Str}{pos:Pos}(hN:X.N[i]?=FN x)(hv:Vis X.env.scope x)(hd:(x==("__debug__" : Str))=false:=by decide)(hcd:(x==("__classdict__" : Str))=false:=by decide):PE X (.Name x pos) (abf i):=by
 intro ajd s Z H Q I h;obtain ⟨v,e,h⟩:=h;obtain ⟨m,hn,hl⟩:=I.loc;obtain ⟨u,r,l⟩:=hl i x v hN e hv;have fin:EP X ajd Z Q u s:=⟨v,H,I,r,h⟩
 rcases l with ⟨hk,hm⟩ | ⟨hk,c,hc,hcell⟩
 ·exact wpAny_Name (wpAny_loadName_local I.ok.kind hk hn hm fin) hd
 ·rcases hk with hk | hk
  ·exact wpAny_Name (wpAny_loadName_cell I.ok.kind hk hc hcell fin) hd
  ·exact wpAny_Name (wpAny_loadName_free I.ok.kind hk hc hcell fin hcd) hd
theorem aht {i j pos}:PE X (.Constant (.int i) j pos) (tC (.int i)):=fun _ _ _ H _ I h=>wpAny_Constant_int ⟨.int i,H,I.tok _,⟨_,rfl⟩,h⟩
theorem aag {b j pos}:PE X (.Constant (.bool b) j pos) (tC (.bl b)):=fun _ _ _ H _ I h=>Constant_bool ⟨.bl b,H,I,rfl,h⟩
theorem ahz {j pos}:PE X (.Constant .none j pos) (tC .non):=fun _ _ _ H _ I h=>Constant_none ⟨.non,H,I,rfl,h⟩
theorem OD {x j pos}:PE X (.Constant (.str x) j pos) (tC (.str x)):=fun _ _ _ H _ I h=>Calls.Constant_str ⟨.str x,H,I.tok _,⟨_,rfl⟩,h⟩
def Gl (X:Cx)(x:Str):Prop:=X.env.kindOf x=FN .globalImplicit
theorem IV {s:AP}{Z : St}{x:Str}{pos:Pos}{Q:Mk->AP->Prop}(I:CQ X ajd Z H s)(hg:Gl X x)(hm:X.mg x=FN u)(h:Q u s)
  (hd:(x==("__debug__" : Str))=false:=by decide):Cu (Cp X.prog X.w) X.A (eval (.Name x pos) X.env) Q E s:=
 Calls.Name_function_global I.ok.kind hg (Calls.loadGlobal_global (by rw [I.ok.glob];exact I.mod.glob.keeps I.bk) hm h) hd
theorem ou {s:AP}{Z : St}{x:Str}{pos:Pos}{Q:Mk->AP->Prop}(I:CQ X ajd Z H s)(hg:Gl X x)(hm:X.mg x=FX)(hv:Rf x=FN u)(h:Q u s)
  (hn:x ≠ "__name__":=by decide) (hd:(x==("__debug__" : Str))=false:=by decide):Cu (Cp X.prog X.w) X.A (eval (.Name x pos) X.env) Q E s:=by
 obtain ⟨mb,h1,h2⟩:=I.mod.blt;exact Calls.Name_function_global I.ok.kind hg (Calls.loadGlobal_builtin (by rw [I.ok.glob];exact I.mod.glob.keeps I.bk) hm (by rw [I.ok.blt];exact h1.keeps I.bk) ((h2 x hn).trans hv) h) hd
theorem kj {x:Str}{v:V}{pos:Pos}(hg:Gl X x)(hm:X.mg x=FN u)(r:RelV v u)(hd:(x==("__debug__" : Str))=false:=by decide):PE X (.Name x pos) (tC v):=
 fun _ _ _ H _ I h=>IV I hg hm ⟨v,H,I,r,h⟩ hd
theorem m7 {x:Str}{v:V}{pos:Pos}(hg:Gl X x)(hm:X.mg x=FX)(hv:Rf x=FN u)(r:RelV v u)(hn:x ≠ "__name__":=by decide)(hd:(x==("__debug__" : Str))=false:=by decide):PE X (.Name x pos) (tC v):=
 fun _ _ _ H _ I h=>ou I hg hm hv ⟨v,H,I,r,h⟩ hn hd
variable {a b:Expr}{ta tb:TE}{pos:Pos}
variable {tA tB':TT}{rest:List Expr}
def acN (t u:TT):TT:=fun Z H Q=>t Z H fun c H1=>if c=true then u Z H1 Q else Q false H1
def tOr (t u:TT):TT:=fun Z H Q=>t Z H fun c H1=>if c=true then Q true H1 else u Z H1 Q
def ac7 (t:TT):TT:=fun Z H Q=>t Z H fun c H1=>Q (!c) H1
theorem aeH (ha:PT X a tA):PW X (.BoolOp .And [a] pos) tA:=by
 intro wh ajd s Z H Q I h;refine isTrue_and<|Fz (ha ajd s Z H Q I h) fun c s1 e=>?_
 cases c with
 | true=>exact isTrue_and_nil e
 | false=>exact e
theorem ahf (ha:PT X a tA):PW X (.BoolOp .Or [a] pos) tA:=by
 intro wh ajd s Z H Q I h;refine isTrue_or<|Fz (ha ajd s Z H Q I h) fun c s1 e=>?_
 cases c with
 | false=>exact isTrue_or_nil e
 | true=>exact e
theorem afF (ha:PT X a tA)(hb:PW X (.BoolOp .And (b::rest) pos) tB'):PW X (.BoolOp .And (a::b::rest) pos) (acN tA tB'):=by
 intro wh ajd s Z H Q I h;refine isTrue_and<|Fz (ha ajd s Z H _ I h) fun c s1 ⟨H1,I1,q1⟩=>?_
 cases c with
 | true=>exact hb wh ajd s1 Z H1 Q I1 q1
 | false=>exact ⟨H1,I1,q1⟩
theorem aaP (ha:PT X a tA)(hb:PW X (.BoolOp .Or (b::rest) pos) tB'):PW X (.BoolOp .Or (a::b::rest) pos) (tOr tA tB'):=by
 intro wh ajd s Z H Q I h;refine isTrue_or<|Fz (ha ajd s Z H _ I h) fun c s1 ⟨H1,I1,q1⟩=>?_
 cases c with
 | true=>exact ⟨H1,I1,q1⟩
 | false=>exact hb wh ajd s1 Z H1 Q I1 q1
theorem Yc (ha:PT X a tA):PT X (.UnaryOp .Not a pos) (ac7 tA):=by
 intro ajd s Z H Q I h;exact isTrue_not<|ha ajd s Z H (fun c H1=>Q (!c) H1) I h
def tIf (t:TT)(ta tb:TE):TE:=fun Z H Q=>t Z H fun c H1=>if c=true then ta Z H1 Q else tb Z H1 Q
theorem aep {c:Expr}(hc:PT X c tA)(ha:PE X a ta)(hb:PE X b tb):PE X (.IfExp c a b pos) (tIf tA ta tb):=by
 intro ajd s Z H Q I h;refine wpAny_IfExp<|Fz (hc ajd s Z H _ I h) fun d s1 ⟨H1,I1,q1⟩=>?_
 cases d with
 | true=>exact ha ajd s1 Z H1 Q I1 q1
 | false=>exact hb ajd s1 Z H1 Q I1 q1
end
variable {pos : Pos}{Z : St}{ta : TE}{Q : Mk->AP->Prop}
def Jy (K:CT)(H:Hp)(a:Addr)(xs:List V):Prop:=
 Rd H a (.lst xs) \/
  ∃ (o:Obj) (its:Array Mk) (n:Nat),K.lookup a=FN o/\o.cls=.type "list"/\o.dict=FX/\o.data=.seq its n/\its.size<=FP/\CR xs its.toList
def HJ (K:CT)(H:Hp)(a:Addr)(xs:List V):Prop:=
 Rd H a (.tup xs) \/
  ∃ (o:Obj) (its:Array Mk) (n:Nat),K.lookup a=FN o/\o.cls=.type "tuple"/\o.data=.seq its n/\its.size<=FP/\CR xs its.toList/\o.dict=FX
def adg:Mk->Option V
 | .none=>FN .non
 | .bool b=>FN (.bl b)
 | .int i _=>FN (.int i)
 | .str x _=>FN (.str x)
 | .bytes b _=>FN (.byt b)
 | .float b _=>FN (.flt b)
 | .ref a=>FN (.ref a)
 | .type n=>FN (.ty n)
 | _=>FX
theorem RelV.abs {x:V}(r:RelV x u):adg u=FN x:=by
 cases x with
 | non=>cases r;rfl
 | bl _=>cases r;rfl
 | int _=>obtain ⟨t,rfl⟩:=r;rfl
 | str _=>obtain ⟨t,rfl⟩:=r;rfl
 | byt _=>obtain ⟨t,rfl⟩:=r;rfl
 | flt _=>obtain ⟨t,rfl⟩:=r;rfl
 | ref _=>cases r;rfl
 | ty _=>cases r;rfl
theorem RelV.inj {x y:V}(r:RelV x u)(q:RelV y u):x=y:=Gz (r.abs.symm.trans q.abs)
theorem CR.inj:∀ {xs ys:List V} {us:List Mk},CR xs us->CR ys us->xs=ys
 | _,_,_,.nil,.nil=>rfl
 | _,_,_,.cons r t,.cons r' t'=>by rw [r.inj r',CR.inj t t']
section
variable {s:AP}{a:Addr}{ys:List V}
theorem Jy.of {K:CT}(h:H a=FN (.lst xs)):Jy K H a xs:=.inl (.inl h)
theorem HJ.of {K:CT}(h:H a=FN (.tup xs)):HJ K H a xs:=.inl (.inl h)
theorem CQ.list (I:CQ X ajd Z H s)(h:Jy X.K H a xs):∃ its:List Mk,CR xs its/\PlainL s.heap a its.toArray/\xs.length<=FP:=by
 rcases h with h | ⟨o,its,n,hk,hc,hd,hs,hz,r⟩
 ·obtain ⟨z,its,n,r,e⟩:=h.ok I.hok;exact ⟨its,r,⟨_,n,e,rfl,rfl,rfl⟩,z⟩
 ·refine ⟨its.toList,r,⟨o,n,I.kIn a o hk,hc,hd,by simpa using hs⟩,?_⟩;have e:=r.length;simp only [Ua] at e;lia
theorem CQ.tupO (I:CQ X ajd Z H s)(h:HJ X.K H a xs):∃ its:List Mk,CR xs its/\Gn s.heap a its.toArray/\xs.length<=FP:=by
 rcases h with h | ⟨o,its,n,hk,hc,hs,hz,r,hd⟩
 ·obtain ⟨z,its,r,p⟩:=h.ok I.hok;exact ⟨its,r,p,z⟩
 ·refine ⟨its.toList,r,⟨o,I.kIn a o hk,hc,⟨n,by simpa using hs⟩,hd⟩,?_⟩;have e:=r.length;simp only [Ua] at e;lia
theorem CQ.tuple (I:CQ X ajd Z H s)(h:HJ X.K H a xs):∃ its:List Mk,CR xs its/\IsTup s.heap a its.toArray/\xs.length<=FP:=let ⟨its,r,p,z⟩:=I.tupO h;⟨its,r,p.tup,z⟩
theorem CQ.list_inj (I:CQ X ajd Z H s)(h:Jy X.K H a xs)(h':Jy X.K H a ys):xs=ys:=by
 obtain ⟨its,r,⟨o,n,e,_,_,d⟩,_⟩:=I.list h;obtain ⟨its',r',⟨o',n',e',_,_,d'⟩,_⟩:=I.list h';rw [e] at e';cases e';rw [d] at d';injection d' with d1 _
 have:its=its':=by simpa using congrArg Array.toList d1
 subst this;exact r.inj r'
theorem CQ.tuple_inj (I:CQ X ajd Z H s)(h:HJ X.K H a xs)(h':HJ X.K H a ys):xs=ys:=by
 obtain ⟨its,r,⟨o,e,_,n,d⟩,_⟩:=I.tuple h;obtain ⟨its',r',⟨o',e',_,n',d'⟩,_⟩:=I.tuple h';rw [e] at e';cases e';rw [d] at d';injection d' with d1 _
 have:its=its':=by simpa using congrArg Array.toList d1
 subst this;exact r.inj r'
end
variable {K : CT}
abbrev Cx.wish (X:Cx)(E:Mk->AP->Prop):Cx:={ X with xe:=E }
abbrev Cx.nox (X:Cx):Cx:=X.wish fun _ _=>False
theorem Cx.Ok.wish {X:Cx}(ok:X.Ok)(E:Mk->AP->Prop):(X.wish E).Ok:=
 ⟨ok.mod,ok.kind,ok.glob,ok.blt,ok.above,ok.inj,ok.has,ok.cab,ok.hd,ok.qt,ok.frames,ok.stk,ok.exf,ok.bs,ok.bsz,ok.noex,ok.exfs,ok.funs,ok.frf⟩
theorem Cx.Ok.unwish (ok:(X.wish E).Ok):X.Ok:=
 ⟨ok.mod,ok.kind,ok.glob,ok.blt,ok.above,ok.inj,ok.has,ok.cab,ok.hd,ok.qt,ok.frames,ok.stk,ok.exf,ok.bs,ok.bsz,ok.noex,ok.exfs,ok.funs,ok.frf⟩
section
variable {s:AP}
theorem CQ.wish (I:CQ X ajd Z H s)(E:Mk->AP->Prop):CQ (X.wish E) ajd Z H s:=⟨I.ok.wish E,I.os,I.bare,I.base,I.loc,I.cell,I.free,I.freeC,I.pin,I.hok,I.len⟩
theorem CQ.unwish (I:CQ (X.wish E) ajd Z H s):CQ X ajd Z H s:=⟨I.ok.unwish,I.os,I.bare,I.base,I.loc,I.cell,I.free,I.freeC,I.pin,I.hok,I.len⟩
theorem SP.unwish {D:Ends}{f:Flow}{s':AP}(h:SP (X.wish E) ajd D f s'):SP X ajd D f s':=by
 cases f with
 | next=>obtain ⟨Z',H',I,q⟩:=h;exact ⟨Z',H',I.unwish,q⟩
 | brk=>obtain ⟨Z',H',I,q⟩:=h;exact ⟨Z',H',I.unwish,q⟩
 | cont=>obtain ⟨Z',H',I,q⟩:=h;exact ⟨Z',H',I.unwish,q⟩
 | ret u=>obtain ⟨v,Z',H',I,r,q⟩:=h;exact ⟨v,Z',H',I.unwish,r,q⟩
theorem NQ.nox {st:List Stmt}{t:TS}(h:NQ X.nox st t):NQ X st t:=fun ajd s Z H D I hw=>
 M6 (h ajd s Z H D (I.wish _) hw) (fun _ _ q=>q.unwish) fun _ _ z=>Qz z
end
variable {D : Ends}
section
variable {st:Stmt}{rest:List Stmt}{t u:TS}{te:TE}
def aaD:TS:=fun D Z H=>D.nx Z H
def adi (t u:TS):TS:=fun D Z H=>t { D with nx:=u D } Z H
theorem aeM:NQ X [] aaD:=fun _ _ Z H _ I h=>wpAny_execs_nil ⟨Z,H,I,h⟩
theorem adT (h1:PS X st t)(h2:NQ X rest u):NQ X (st::rest) (adi t u):=by
 intro ajd s Z H D I h;refine wpAny_execs_cons<|Fz (h1 ajd s Z H { D with nx:=u D } I h) fun f s1 q=>?_
 cases f with
 | next=>
  obtain ⟨Z',H',I',q⟩:=q;exact h2 ajd s1 Z' H' D I' q
 | ret v=>exact q
 | brk=>exact q
 | cont=>exact q
theorem agp (h1:PS X st t):NQ X [st] t:=by
 intro ajd s Z H D I h;refine wpAny_execs_cons<|Fz (h1 ajd s Z H D I h) fun f s1 q=>?_
 cases f with
 | next=>exact wpAny_execs_nil q
 | ret v=>exact q
 | brk=>exact q
 | cont=>exact q
theorem CQ.quiet {s:AP}(I:CQ X ajd Z H s):interactive X.env=false:=by simp [interactive,I.ok.kind]
def aaC (te:TE):TS:=fun D Z H=>te Z H fun _ H1=>D.nx Z H1
theorem afq (he:PE X e te)(hs:swapsWith e FX pos.line X.env=pure false:=by rfl):PS X (.Expr e pos) (aaC te):=by
 intro ajd s Z H D I h;exact wpAny_Expr_any (Fz (he ajd s Z H _ I h) fun v s1 ⟨x,H1,I1,r1,q1⟩=>⟨Z,H1,I1,q1⟩) I.quiet hs
def ac9 (te:TE):TS:=fun D Z H=>te Z H D.rt
theorem Y4 (he:PE X e te):PS X (.Return (FN e) pos) (ac9 te):=by
 intro ajd s Z H D I h;exact wpAny_Return_some<|Fz (he ajd s Z H _ I h) fun v s1 ⟨x,H1,I1,r1,q1⟩=>⟨x,Z,H1,I1,r1,q1⟩
def acw (c:TT)(t u:TS):TS:=fun D Z H=>c Z H fun b H1=>if b=true then t D Z H1 else u D Z H1
theorem Zu {c:Expr}{a b:List Stmt}{tc:TT}(hc:PT X c tc)(ha:NQ X a t)(hb:NQ X b u):PS X (.If c a b pos) (acw tc t u):=by
 intro ajd s Z H D I h;refine wpAny_If<|Fz (hc ajd s Z H _ I h) fun d s1 ⟨H1,I1,q1⟩=>?_
 cases d with
 | true=>exact ha ajd s1 Z H1 D I1 q1
 | false=>exact hb ajd s1 Z H1 D I1 q1
def Xu:TS:=fun _ _ _=>False
theorem zbm:PS X st Xu:=fun _ _ _ _ _ _ h=>h.elim
end
abbrev TG:=V->St->Hp->(St->Hp->Prop)->Prop
abbrev RK:=List V->St->Hp->(St->Hp->Prop)->Prop
def PG (X:Cx)(target:Expr)(t:TG):Prop:=
 ∀ (ajd:List (Addr×Obj)) (s:AP) (Z : St) (H:Hp) (v:V) (u:Mk) (Q:St->Hp->Prop),CQ X ajd Z H s->RelV v u->t v Z H Q ->
  Cu (Cp X.prog X.w) X.A (assign target X.env u) (fun _ s'=>∃ Z' H',CQ X ajd Z' H' s'/\Q Z' H') X.xe s
def S5 (X:Cx)(ts:List Expr)(t:RK):Prop:=
 ∀ (ajd:List (Addr×Obj)) (s:AP) (Z : St) (H:Hp) (vs:List V) (us:List Mk) (Q:St->Hp->Prop),CQ X ajd Z H s->CR vs us->t vs Z H Q ->
  Cu (Cp X.prog X.w) X.A (assignInOrder ((Li ts X.env).map (·.2)) us) (fun _ s'=>∃ Z' H',CQ X ajd Z' H' s'/\Q Z' H') X.xe s
abbrev Ql:=V->V->V->Hp->(Hp->Prop)->Prop
def VL (X:Cx)(t:Ql):Prop:=
 ∀ (ajd:List (Addr×Obj)) (s:AP) (Z : St) (H:Hp) (o i v:V) (ov iv u:Mk) (Q:Hp->Prop),CQ X ajd Z H s->RelV o ov->RelV i iv->RelV v u->t o i v H Q ->
  Cu (Cp X.prog X.w) X.A (setItem ov iv u) (fun _ s'=>∃ H',CQ X ajd Z H' s'/\Q H') X.xe s
section
def G8 (i:Nat):TG:=fun v Z H Q=>Q (Z.set i (FN v)) H
theorem uf {x:Str}(hN:X.N.Nodup)(hi:X.N[i]?=FN x)(hx:Loc X.env.scope x)(hf:X.fn x=true\/X.env.scope.names.lookup x=FN .local:=by first | exact .inl rfl | exact .inr rfl | assumption):PG X (.Name x pos) (G8 i):=by
 intro ajd s Z H v u Q I r h;exact wpAny_assign_Name<|Bp I hN hi hx r (fun s' I'=>⟨_,H,I',h⟩) hf
def acC:RK:=fun vs Z H Q=>vs=[]/\Q Z H
def ZQ (t:TG)(u:RK):RK:=fun vs Z H Q=>∃ v r,vs=v::r/\t v Z H fun Z' H'=>u r Z' H' Q
theorem Jf:S5 X [] acC:=by
 intro ajd s Z H vs us Q I r h;obtain ⟨e,h⟩:=h;subst e;cases r;exact assignInOrder_nil ⟨Z,H,I,h⟩
theorem uH {es:List Expr}{t:TG}{u:RK}(h1:PG X e t)(h2:S5 X es u)
  (hs:(Li (e::es) X.env).map (·.2)=assign e X.env::(Li es X.env).map (·.2):=by rfl):S5 X (e::es) (ZQ t u):=by
 intro ajd s Z H vs us Q I r h;obtain ⟨v,vr,e1,h⟩:=h;subst e1;cases r with
 | cons r rr=>
  rw [hs];refine assignInOrder_cons<|Fz (h1 ajd s Z H _ _ _ I r h) fun _ s1 ⟨Z1,H1,I1,q1⟩=>?_
  exact h2 ajd s1 Z1 H1 _ _ Q I1 rr q1
def acH (K:CT)(n:Nat)(t:RK):TG:=fun v Z H Q=>∃ a xs,v=.ref a/\HJ K H a xs/\xs.length=n/\t xs Z H Q
theorem YT {es:List Expr}{k:Nat}{t:RK}{n:Nat}(hc:X.calm=true)(h:S5 X es t)
  (hn:(Li es X.env).length=n:=by rfl) (hst:(Li es X.env).findIdx? (·.1)=FX:=by rfl):PG X (.Tuple es k pos) (acH X.K n t):=by
 intro ajd s Z H v u Q I r hw;obtain ⟨a,xs,e1,hq,hl,hw⟩:=hw;subst e1;cases r;obtain ⟨its,rv,ht,hz⟩:=I.tuple hq;refine assign_Tuple_tuple (I.ok.hd hc) ht (by simp [hn,<-hl,rv.length]) hst fun h' hx=>?_;have I1:CQ X ajd Z H { s with heap:=h' }:=I.kept (t':=s.toks) fun b o e=>hx b o (Gq (G9 e)) e
 exact h ajd _ Z H xs _ Q I1 (by simpa using rv) hw
def ac0 (to ti:TE)(t:Ql):TG:=fun v Z H Q=>to Z H fun o H1=>ti Z H1 fun i H2=>t o i v H2 fun H3=>Q Z H3
theorem YX {o i:Expr}{to ti:TE}{t:Ql}(ho:PE X o to)(hi:PE X i ti)(hs:VL X t)
  (ha:∀ v,assign (.Subscript o i pos) X.env v=(do
   let ov <-holding [v] (eval o X.env)
   let iv <-holding [v,ov] (eval i X.env)
   standAt pos
   holding [v,ov,iv] (setItem ov iv v)
   release [v,ov,iv] []):=by intro _;rfl):PG X (.Subscript o i pos) (ac0 to ti t):=by
 intro ajd s Z H v u Q I r h;rw [ha];refine CN<|NK<|Fz (ho ajd s Z H _ I h) fun ov s1 ⟨x,H1,I1,r1,q1⟩=>?_
 refine CN<|NK<|Fz (hi ajd s1 Z H1 _ I1 q1) fun iv s2 ⟨y,H2,I2,r2,q2⟩=>?_
 refine CN<|wpAny_standAt<|CN<|NK<|Fz (hs ajd s2 Z H2 x y v ov iv u _ I2 r1 r2 r q2) fun _ s3 ⟨H3,I3,q3⟩=>?_
 exact wpAny_release ⟨Z,H3,I3,q3⟩
def Yi (te:TE)(g:TG):TS:=fun D Z H=>te Z H fun x H1=>g x Z H1 D.nx
theorem Ys {tg:Expr}{te:TE}{g:TG}(he:PE X e te)(hg:PG X tg g)(hs:swapsWithSole [tg] e pos.line X.env=pure false:=by rfl)(hw:swappedStores [tg] e X.env=pure FX:=by rfl)
  (h1:(Li [tg] X.env).map (·.2)=[assign tg X.env]:=by rfl):PS X (.Assign [tg] e pos) (Yi te g):=by
 intro ajd s Z H D I h;refine wpAny_Assign_stores (Fz (he ajd s Z H _ I h) fun v s1 ⟨x,H1,I1,r1,q1⟩=>?_) hs hw;rw [h1];exact Fz (hg ajd s1 Z H1 x v _ I1 r1 q1) fun _ s2 q=>q
theorem ahb {x:Str}{te:TE}{pos':Pos}(hN:X.N.Nodup)(hi:X.N[i]?=FN x)(hx:Loc X.env.scope x)(he:PE X e te)(hs:swapsWith e (FN (.Name x pos')) pos.line X.env=pure false:=by rfl)(hf:X.fn x=true\/X.env.scope.names.lookup x=FN .local:=by first | exact .inl rfl | exact .inr rfl | assumption):
  PS X (.Assign [.Name x pos'] e pos) (Yi te (G8 i)):=by
 intro ajd s Z H D I h;refine wpAny_Assign_Name (Fz (he ajd s Z H _ I h) fun v s1 ⟨y,H1,I1,r1,q1⟩=>?_) hs;exact Bp I1 hN hi hx r1 (fun s2 I2=>⟨_,H1,I2,q1⟩) hf
end
variable {o tg : Expr}{es : List Expr}{n : Nat}{pos' : Pos}
section
end
theorem tL:entryFor table "proto.unchain" = FN RG.«proto.unchain»:=entryFor_of_tree (by kernel_rfl)
def yE (A:FZ)(h:Heap):Prop:=∀ v,A.handled=FN v->∃ (a:Addr) (o:Obj) (vs:Array Mk),v=.ref a/\h.get? a=FN o/\o.data=.fields vs/\vs[2]?=FN .none
theorem adX (q:Quiet A H)(x:KR P w H h):yE A h:=fun v e=>by
 obtain ⟨a,o,u,vs,h1,h2,h3,h4⟩:=q v e;exact ⟨a,o,vs,h1,(x a _ h2).1,h3,h4⟩
variable {prog : Ei}
theorem adz {α : Type}{s:AP}{e:Addr}{oe:Obj}{ws:Array Mk}{Q:α->AP->Prop}(hq:yE A s.heap)(he:s.heap.get? e=FN oe)(hd:oe.data=.fields ws)(hz:2<ws.size)(hne:∀ v,A.handled=FN v->v≠.ref e)
  (h:∀ h',(∀ b,b≠e->h'.get? b=s.heap.get? b)->(∃ o',h'.get? e=FN o'/\o'.cls=oe.cls)->E (.ref e) { s with heap:=h' }):Cu (Cp prog w) A (raiseNew (.ref e):Sem α) Q E s:=by
 unfold raiseNew;refine CN<|wpAny_handled ?_
 cases hh:A.handled with
 | none=>
  dsimp only;refine CN<|Cz<|wpAny_throw ?_
  exact h s.heap (fun _ _=>rfl) ⟨oe,he,rfl⟩
 | some v=>
  obtain ⟨a,o,vs,rfl,ho,hdo,h2⟩:=hq v hh;dsimp only;have ne:(Value.ref a != Value.ref e)=true:=by
   have:=hne _ hh
   simp only [bne_iff_ne,ne_eq];exact this
  rw [if_pos ne];refine CN<|NK<|wpAny_runValue<|Tg tL ?_
  unfold RG.«proto.unchain»;dsimp only;refine CN<|M9 ho hdo h2 ?_
  rw [if_pos (show (Value.none==Value.none)=true from rfl)];refine CN<|Cz<|Cz ?_
  dsimp only;refine CN ?_;unfold updateField;refine CN<|wpAny_load he ?_
  rw [hd];dsimp only;rw [if_pos hz];refine wpAny_update he<|wpAny_throw ?_
  have hd3:=W6 hd (·.setIfInBounds 2 (Value.ref a));exact h _ (fun b hb=>Sy _ _<|Ji hb) ⟨_,Vc _ he<|Obj.isFreed_of_fields hd3,Obj.cls_mapFields _ _⟩
theorem zaM {s:AP}{it:Addr}{x left step:Int}{Q:Option Mk->AP->Prop}(hh:yE A s.heap)(hit:IsRangeIter s.heap it x left step)(hleft:left<=0)
  (hQ:∀ h',VH it s.heap h'->Q FX { s with heap:=h' }):Cu (Cp prog w) A (Nh (.ref it)) Q E s:=by
 have hT:s.TypeIs (.ref it) "range_iterator":=⟨_,hit,rfl⟩
 unfold Nh;refine CN (VP (T7 (name:=Sx "__next__") hT F.slot_range_iterator_next
  (R7 F.slot_range_iterator_next hT F.entry_range_iterator_next ?_ (F.args_range_iterator_next_1 _))))
 show Cu _ _ (field (.ref it) 0 >>= _) _ _ s;refine CN<|M9 hit rfl (x:=Q0 x) rfl ?_
 show Cu _ _ (field (.ref it) 1 >>= _) _ _ s;refine CN<|M9 hit rfl (x:=Q0 left) rfl ?_
 show Cu _ _ (field (.ref it) 2 >>= _) _ _ s;refine CN<|M9 hit rfl (x:=Q0 step) rfl ?_
 show Cu _ _ (if left<=0 then _ else _) _ _ s;rw [if_pos hleft];refine CN<|Nj ?_
 refine CN ?_;show Cu _ _ (newExc (.type "StopIteration") [] >>= _) _ _ _;refine CN ?_;simp only [newExc,newTuple];refine CN<|NP ?_<|by size_fits
 refine CN (m:=Va _ _)<|wpAny_of_eq (a:=Value.none) (by first | rfl | (simp only [Va];rfl)) ?_
 refine NP ?_<|by size_fits
 refine adz (A:=A.in1) (fun v e=>?_) (K4 _ rfl) rfl (by simp;lia) (fun v e=>?_) fun h' h1 ⟨o',h2,h3⟩=>?_
 ·obtain ⟨a,o,vs,r1,r2,r3⟩:=hh v e;exact ⟨a,o,vs,r1,GD _<|GD _ r2,r3⟩
 ·obtain ⟨a,o,vs,r1,r2,r3⟩:=hh v e;rw [r1];intro q;have q:a=_:=Value.ref.inj q;have:=G9 r2
  rw [q] at this;exact absurd this<|Nat.not_lt.mpr<|by simp [Heap.push]
 refine CN<|wpAny_isInstance (T := "StopIteration") (b:=true) ⟨_,h2,h3⟩ isSubtype_stop ?_
 refine Cz<|hQ _ fun b o hb e=>?_
 rw [h1 b ?_]
 ·exact GD _<|GD _ e
 ·have:=G9 e
  exact Gq<|HB this<|by simp [Heap.push]
structure It where
 go:Nat->Hp->Prop
 yld:Nat->Hp->V->Hp->Prop
 stop:Nat->Hp->Prop
 cm:Bool
def Er (X:Cx)(ajd:List (Addr×Obj))(H:Hp)(b:Addr):Prop:=
 H b=FX/\b≠X.env.locals/\b∉X.fs/\(b∈X.ex\/X.s₀.heap.objs.size<=b)/\(∀ x c,X.env.cells.lookup x=FN c->c≠b)/\∀ p∈X.pn++ajd,p.1≠b
theorem CQ.fpOk {s:AP}{b:Addr}(I:CQ X ajd Z H s)(hb:s.heap.objs.size<=b)(hn:H' b=FX):Er X ajd H' b:=by
 refine ⟨hn,Ml<|HB I.lt hb,I.nofs hb,.inr<|Dk I.sz hb,fun x c e z=>?_,fun p hp z=>?_⟩
 ·obtain ⟨v,q⟩:=I.cell x c e;exact absurd (HB q.lt (by rw [z];exact hb))<|Nv _
 ·exact absurd (HB (G9 (I.pin p hp).1) (by rw [z];exact hb))<|Nv _
structure Turn (P:Ei) (w:Dq) (K:CT) (tg:Expr) (J:It) (fp:List Addr) (it:Addr) (tn:Nat->Heap->Prop):Prop where
 mem:it∈fp
 obj:∀ i h,tn i h->∀ b∈fp,∃ o,h.get? b=FN o/\∀ v,o.data≠.cell v
 keep:∀ i h h',tn i h->(∀ b∈fp,∀ o,h.get? b=FN o->h'.get? b=FN o)->tn i h'
 item:∀ (X:Cx),X.prog=P->X.w=w->X.K=K->(J.cm=true->X.calm=true)->∀ (i:Nat) (ajd:List (Addr×Obj)) (s:AP) (Z : St) (H:Hp) (E:Mk->AP->Prop),CQ X ajd Z H s->(∀ b∈fp,Er X ajd H b)->tn i s.heap->J.go i H ->
  Cu (Cp P w) X.A (Nh (.ref it)) (fun r s1=>∃ u,r=FN u /\
   Cu (Cp P w) X.A (letOwnedTupleGo tg (.ref it) u) (fun _ s2=>∃ x H',CQ X ajd Z H' s2/\RelV x u/\J.yld i H x H'/\tn (i+1) s2.heap/\∀ b∈fp,H' b=FX) E s1) E s
 done:∀ (X:Cx),X.prog=P->X.w=w->X.K=K->(J.cm=true->X.calm=true)->∀ (i:Nat) (ajd:List (Addr×Obj)) (s:AP) (Z : St) (H:Hp) (E:Mk->AP->Prop),CQ X ajd Z H s->(∀ b∈fp,Er X ajd H b)->tn i s.heap->J.stop i H ->
  Cu (Cp P w) X.A (Nh (.ref it)) (fun r s1=>r=FX/\CQ X ajd Z H s1) E s
 self:∀ (A:FZ) (i:Nat) (s:AP) (Q:Mk->AP->Prop) (E:Mk->AP->Prop),tn i s.heap->Q (.ref it) s->Cu (Cp P w) A (pyIter (.ref it)) Q E s
abbrev TI:=St->Hp->(It->Hp->Prop)->Prop
def PIE (X:Cx)(ajd:List (Addr×Obj))(Z : St)(tg:Expr)(R:It->Hp->Prop)(itv:Mk)(s2:AP):Prop:=
 ∃ (it:Addr) (fp:List Addr) (tn:Nat->Heap->Prop) (J:It) (H':Hp),itv=.ref it/\CQ X ajd Z H' s2/\Turn X.prog X.w X.K tg J fp it tn/\tn 0 s2.heap/\(∀ b∈fp,Er X ajd H' b)/\R J H'
def PI (X:Cx)(tg iter:Expr)(wi:TI):Prop:=
 ∀ (ajd:List (Addr×Obj)) (s:AP) (Z : St) (H:Hp) (R:It->Hp->Prop),CQ X ajd Z H s->wi Z H R ->
  Cu (Cp X.prog X.w) X.A (eval iter X.env) (fun v s1=>Cu (Cp X.prog X.w) X.A (pyIter v) (PIE X ajd Z tg R) X.xe s1) X.xe s
theorem QT {s:AP}{it:Addr}{o:Obj}{n:String}{vs:Array Mk}{Q:Unit->AP->Prop}(ho:s.heap.get? it=FN o)(hc:o.cls=.type n)(hd:o.data=.fields vs)
    (hn:["enumerate", "zip", "dict_itemiterator", "dict_reverseitemiterator", "odict_iterator", "itertools.zip_longest", "itertools.pairwise"].contains n=false) (hQ:Q () s):Cu M A (letOwnedTupleGo tg (.ref it) u) Q E s:=by
  unfold letOwnedTupleGo;cases tg <;> first
    | exact Cz hQ
    | (cases u <;> first
        | exact Cz hQ
        | (refine CN (wpAny_load ho ?_)
           rw [hc,hd];show Cu M A (if (["enumerate", "zip", "dict_itemiterator", "dict_reverseitemiterator", "odict_iterator", "itertools.zip_longest", "itertools.pairwise"].contains n&&vs[0]?==FN (Q0 _))=true then _ else _) Q E s;rw [if_neg (by intro h;rw [hn,Bool.false_and] at h;cases h)];exact Cz hQ))
def Itl (K:CT)(a:Addr):It:=
 ⟨fun i H=>∃ xs x,Jy K H a xs/\xs[i]?=FN x,fun i H x H'=>H'=H/\∀ xs,Jy K H a xs->xs[i]?=FN x,fun i H=>∃ xs,Jy K H a xs/\xs.length<=i,true⟩
def Itt (K:CT)(a:Addr):It:=
 ⟨fun i H=>∃ xs x,HJ K H a xs/\xs[i]?=FN x,fun i H x H'=>H'=H/\∀ xs,HJ K H a xs->xs[i]?=FN x,fun i H=>∃ xs,HJ K H a xs/\xs.length<=i,true⟩
def Itr (lo:Int)(n:Nat):It:=⟨fun i _=>i<n,fun i H x H'=>H'=H/\x=.int (lo+i),fun i _=>n<=i,false⟩
theorem adY (a it:Addr):Turn P w K tg (Itl K a) [it] it (fun i h=>h.IsListIter it a i) where
 mem:=by simp
 obj:=fun i h st b hb=>by
  have e:b=it:=by simpa using hb
  subst e;obtain ⟨o,e,c,d⟩:=st;exact ⟨o,e,fun v z=>by rw [d] at z;cases z⟩
 keep:=fun i h h' st k=>st.at fun o e=>k it (by simp) o e
 item:=by
  intro X hP hw hK hc i ajd s Z H E I hf st hg;subst hP hw hK;obtain ⟨xs,x,hq,hx⟩:=hg;obtain ⟨its,rv,p,hz⟩:=I.list hq;obtain ⟨u,hu,ru⟩:=rv.get hx;obtain ⟨f0,f1,f2,f3,f4,f5⟩:=hf it (by simp);refine wpAny_pyNext_list_item st p.isList (x:=u) (by simpa using hu) fun h' st' sb=>?_;have I1:CQ X ajd Z H { s with heap:=h' }:=I.turned (t':=s.toks) (fun b o hb e=>(sb.2 b hb).trans e) f0 f1 f3 f4 f5;obtain ⟨o,e,c,d⟩:=id st';exact ⟨u,rfl,QT (s:={ s with heap:=h' }) e c d (by decide) ⟨x,H,I1,ru,⟨rfl,fun ys hy=>by rw [I.list_inj hy hq];exact hx⟩,st',fun b hb=>(hf b hb).1⟩⟩
 done:=by
  intro X hP hw hK hc i ajd s Z H E I hf st hg;subst hP hw hK;obtain ⟨xs,hq,hx⟩:=hg;obtain ⟨its,rv,p,hz⟩:=I.list hq;obtain ⟨f0,f1,f2,f3,f4,f5⟩:=hf it (by simp);have hl:=rv.length;exact wpAny_pyNext_list_end (I.ok.hd<|hc rfl) st p.isList (by simp;lia) fun h' eb=>⟨rfl,I.turned (t':=s.toks) (fun b o hb e=>eb b o hb e) f0 f1 f3 f4 f5⟩
 self:=fun _ _ _ _ _ st h=>wpAny_pyIter_listiter st h
theorem zak (a it:Addr):Turn P w K tg (Itt K a) [it] it (fun i h=>h.IsTupleIter it a i) where
 mem:=by simp
 obj:=fun i h st b hb=>by
  have e:b=it:=by simpa using hb
  subst e;obtain ⟨o,e,c,d⟩:=st;exact ⟨o,e,fun v z=>by rw [d] at z;cases z⟩
 keep:=fun i h h' st k=>st.at fun o e=>k it (by simp) o e
 item:=by
  intro X hP hw hK hc i ajd s Z H E I hf st hg;subst hP hw hK;obtain ⟨xs,x,hq,hx⟩:=hg;obtain ⟨its,rv,p,hz⟩:=I.tuple hq;obtain ⟨u,hu,ru⟩:=rv.get hx;obtain ⟨f0,f1,f2,f3,f4,f5⟩:=hf it (by simp);refine wpAny_pyNext_tuple_item st (show s.heap.IsTuple a its.toArray from p) (x:=u) (by simpa using hu) fun h' st' sb=>?_;have I1:CQ X ajd Z H { s with heap:=h' }:=I.turned (t':=s.toks) (fun b o hb e=>(sb.2 b hb).trans e) f0 f1 f3 f4 f5;obtain ⟨o,e,c,d⟩:=id st';exact ⟨u,rfl,QT (s:={ s with heap:=h' }) e c d (by decide) ⟨x,H,I1,ru,⟨rfl,fun ys hy=>by rw [I.tuple_inj hy hq];exact hx⟩,st',fun b hb=>(hf b hb).1⟩⟩
 done:=by
  intro X hP hw hK hc i ajd s Z H E I hf st hg;subst hP hw hK;obtain ⟨xs,hq,hx⟩:=hg;obtain ⟨its,rv,p,hz⟩:=I.tuple hq;obtain ⟨f0,f1,f2,f3,f4,f5⟩:=hf it (by simp);have hl:=rv.length;exact wpAny_pyNext_tuple_end (I.ok.hd<|hc rfl) st (show s.heap.IsTuple a its.toArray from p) (by simp;lia) fun h' eb=>⟨rfl,I.turned (t':=s.toks) (fun b o hb e=>eb b o hb e) f0 f1 f3 f4 f5⟩
 self:=fun _ _ _ _ _ st h=>wpAny_pyIter_tupleiter st h
theorem zae (it:Addr)(lo:Int)(n:Nat):Turn P w K tg (Itr lo n) [it] it (fun i h=>IsRangeIter h it (lo+(i:Nat)*1) ((n:Int) - (i:Nat)) 1) where
 mem:=by simp
 obj:=fun i h st b hb=>by
  have e:b=it:=by simpa using hb
  subst e;exact ⟨_,st,fun v z=>by
   have z':Data.fields _=Data.cell v:=z;cases z'⟩
 keep:=fun i h h' st k=>k it (by simp) _ st
 item:=by
  intro X hP hw hK hc i ajd s Z H E I hf st hg;subst hP hw hK;obtain ⟨f0,f1,f2,f3,f4,f5⟩:=hf it (by simp);refine wpAny_pyNext_range_item st (by have:i<n:=hg;lia) fun h' st' kk=>?_;have I1:CQ X ajd Z H { s with heap:=h',toks:=s.toks+1 }:=I.turned (fun b o hb e=>(kk.2 b hb).trans e) f0 f1 f3 f4 f5;have st2:IsRangeIter h' it (lo+((i+1:Nat):Int)*1) ((n:Int) - ((i+1:Nat):Int)) 1:=by
   have e1:lo+((i+1:Nat):Int)*1=lo+((i:Nat):Int)*1+1:=by lia
   have e2:(n:Int) - ((i+1:Nat):Int)=(n:Int) - ((i:Nat):Int) - 1:=by lia
   rw [e1,e2];exact st'
  refine ⟨_,rfl,QT (s:={ s with heap:=h',toks:=s.toks+1 }) (n := "range_iterator") st' rfl rfl (by decide) ⟨.int<|lo+i,H,I1,⟨s.toks,?_⟩,⟨rfl,rfl⟩,st2,fun b hb=>(hf b hb).1⟩⟩;rw [Int.mul_one]
 done:=by
  intro X hP hw hK hc i ajd s Z H E I hf st hg;subst hP hw hK;obtain ⟨f0,f1,f2,f3,f4,f5⟩:=hf it (by simp);exact zaM (adX I.qt0 I.hok) st (by have:n<=i:=hg;lia) fun h' eb=>⟨rfl,I.turned (t':=s.toks) (fun b o hb e=>eb b o hb e) f0 f1 f3 f4 f5⟩
 self:=fun _ _ _ _ _ st h=>wpAny_pyIter_rangeiter st h
section
theorem zP {s:AP}{R:It->Hp->Prop}{lo hi:Int}{t u v:Tok}{tk:Nat}(I:CQ X ajd Z H s)(h1:-(2^62)<=lo)(h2:lo<2^62)(h3:-(2^62)<=hi)(h4:hi<2^62)
  (q:R (Itr lo (hi - lo).toNat) H):Cu (Cp X.prog X.w) X.A (pyIter (.ref s.heap.objs.size)) (PIE X ajd Z tg R) E { s with heap:=s.heap.push { cls:=.type "range",data:=.fields #[.int lo t,.int hi u,.int 1 v] },toks:=tk }:=by
 refine wpAny_pyIter_range (IsRange.new ..) (small_one h1 h2 h3 h4) ?_;have I1:CQ X ajd Z H { s with heap:=s.heap.push { cls:=.type "range",data:=.fields #[.int lo t,.int hi u,.int 1 v] },toks:=tk }:=I.kept fun b o e=>GD _ e
 refine ⟨(s.heap.push { cls:=.type "range",data:=.fields #[.int lo t,.int hi u,.int 1 v] }).objs.size,[(s.heap.push { cls:=.type "range",data:=.fields #[.int lo t,.int hi u,.int 1 v] }).objs.size],_,_,H,rfl,
  I1.kept (t':=tk) fun b o e=>GD _ e,zae _ lo (hi - lo).toNat,?_,fun b hb=>?_,q⟩
 ·have e1:lo+((0:Nat):Int)*1=lo:=by simp
  have e2:(((hi - lo).toNat:Nat):Int) - ((0:Nat):Int)=Builtin.Range.rangeSize lo hi 1:=by rw [rangeSize_one];split <;> lia
  show IsRangeIter _ _ (lo+((0:Nat):Int)*1) ((((hi - lo).toNat:Nat):Int) - ((0:Nat):Int)) 1;rw [e1,e2];exact K4 _ rfl
 ·have e:b=(s.heap.push { cls:=.type "range",data:=.fields #[.int lo t,.int hi u,.int 1 v] }).objs.size:=by simpa using hb
  subst e;exact I1.fpOk (Dg _)<|I1.hok.fresh<|Dg _
def ZJ (ta:TA):TI:=fun Z H R=>ta Z H fun vs H1=>∃ j:Int,vs=[.int j]/\-(2^62)<=j/\j<2^62/\R (Itr 0 j.toNat) H1
def aax (ta:TA):TI:=fun Z H R=>ta Z H fun vs H1=>∃ i j:Int,vs=[.int i,.int j]/\(-(2^62)<=i/\i<2^62/\-(2^62)<=j/\j<2^62)/\R (Itr i (j - i).toNat) H1
theorem zar {a:Expr}{ta:TA}{p:Pos}(hg:Gl X "range")(hm:X.mg "range" = FX)(ha:PA X [a] ta)(hs:Fo [a] X.env=[(false,eval a X.env)]:=by rfl):PI X tg (.Call (.Name "range" p) [a] [] pos) (ZJ ta):=by
 intro ajd s Z H R I h;refine Call_<|ou I hg hm boot_range<|Vq (Fz (ha pos ajd s Z H _ I h) fun us s1 ⟨vs,H1,I1,r1,q1⟩=>?_) hs rfl
 obtain ⟨j,e,q1,q2,q⟩:=q1;subst e;cases r1 with
 | cons r rr=>
  cases rr;obtain ⟨t,rfl⟩:=r;exact call_range_1<|zP I1 (by lia) (by lia) q1 q2<|by simpa using q
theorem adW {a b:Expr}{ta:TA}{p:Pos}(hg:Gl X "range")(hm:X.mg "range" = FX)(ha:PA X [a,b] ta)(hs:Fo [a,b] X.env=[(false,eval a X.env),(false,eval b X.env)]:=by rfl)(hs2:Fo [b] X.env=[(false,eval b X.env)]:=by rfl):
  PI X tg (.Call (.Name "range" p) [a,b] [] pos) (aax ta):=by
 intro ajd s Z H R I h;refine Call_<|ou I hg hm boot_range<|Vq (Fz (ha pos ajd s Z H _ I h) fun us s1 ⟨vs,H1,I1,r1,q1⟩=>?_) (by rw [hs,hs2]) (by rw [hs2];rfl)
 obtain ⟨i,j,e,⟨q1,q2,q3,q4⟩,q⟩:=q1;subst e;cases r1 with
 | cons r rr=>
  cases rr with
  | cons r' rr=>
   cases rr;obtain ⟨t,rfl⟩:=r;obtain ⟨t',rfl⟩:=r';exact call_range_2<|zP I1 q1 q2 q3 q4 q
def acv (wi:TI)(g:TG)(tb:TS):TS:=fun D Z H=>wi Z H fun J H1=>∃ W:Nat->Nat->St->Hp->Prop,(∃ m,W 0 m Z H1)/\∀ i m Z H,W i m Z H ->
 (J.stop i H/\D.nx Z H)\/(J.go i H/\∃ N:St->Hp->Prop,(∀ Z' H',N Z' H'->∃ m',m'<m/\W (i+1) m' Z' H')/\∀ x H',J.yld i H x H'->g x Z H' fun Z2 H2=>tb { D with nx:=N,ct:=N,bk:=D.nx } Z2 H2)
def vL (fp:List Addr)(h:Heap):List (Addr×Obj):=fp.filterMap fun b=>(h.get? b).map fun o=>(b,o)
theorem jF {fp:List Addr}{b:Addr}{o:Obj}(hb:b∈fp)(e:h.get? b=FN o):(b,o)∈vL fp h:=List.mem_filterMap.mpr ⟨b,hb,by rw [e];rfl⟩
theorem zaE {fp:List Addr}{p:Addr×Obj}(hp:p∈vL fp h):p.1∈fp/\h.get? p.1=FN p.2:=by
 obtain ⟨b,hb,e⟩:=List.mem_filterMap.mp hp;cases q:h.get? b with
 | none=>rw [q] at e;cases e
 | some o=>
  rw [q] at e;have e':(b,o)=p:=Gz e;subst e';exact ⟨hb,q⟩
theorem CQ.pinned {s:AP}{fp:List Addr}(I:CQ X ajd Z H s)(hf:∀ b∈fp,Er X ajd H b)(ho:∀ b∈fp,∃ o,s.heap.get? b=FN o/\∀ v,o.data≠.cell v):CQ X (ajd++vL fp s.heap) Z H s:=
 I.pins_of fun p hp=>(La.mp hp).elim (fun z=>I.pin p (Qs _ z)) fun z=>by
  obtain ⟨hb,e⟩:=zaE z;obtain ⟨f0,f1,f2,_⟩:=hf p.1 hb;obtain ⟨o,e',d⟩:=ho p.1 hb;rw [e] at e';cases e';exact ⟨e,f0,f1,f2,d⟩
theorem CQ.unpinned {pl:List (Addr×Obj)}{s:AP}(I:CQ X (ajd++pl) Z H s):CQ X ajd Z H s:=I.pins_of fun p hp=>I.pin p (Qs _ (Rx _ hp))
theorem agd {iter:Expr}{body:List Stmt}{wi:TI}{g:TG}{tb:TS}(hp:afm (Cp X.prog X.w) X.A X.env X.xe)(hc:X.calm=true)(hi:PI X tg iter wi)(hg:PG X tg g)(hb:NQ X body tb)
  (hs:∀ x,Tj iter X.env x=pure x:=by intro _;rfl):PS X (.For tg iter body [] pos) (acv wi g tb):=by
 intro ajd s Z H D I h;refine wpAny_For (Fz (hi ajd s Z H _ I h) fun v s1 h1=>Fz h1 fun itv s2 h2=>?_) hs;obtain ⟨it,fp,tn,J,H2,e,I2,T,st2,f2,W,⟨m0,w0⟩,turn⟩:=h2;subst e
 -- what stays true of the iterator's objects through the loop
 have stat:∀ {H':Hp},(∀ b∈fp,H' b=FX)->∀ b∈fp,Er X ajd H' b:=fun hn b hb=>⟨hn b hb,(f2 b hb).2⟩
 refine codeAny_forLoop_any (fun n s'=>∃ i Z' H',CQ X ajd Z' H' s'/\tn i s'.heap/\(∀ b∈fp,H' b=FX)/\W i n Z' H') ?_ m0 ⟨0,Z,H2,I2,st2,fun b hb=>(f2 b hb).1,w0⟩;rintro n s3 ⟨i,Z3,H3,I3,st3,fr3,w3⟩;rcases turn i n Z3 H3 w3 with ⟨stop,qn⟩ | ⟨go,N,hN,step⟩
 ·refine WL hp<|Fz (T.done X rfl rfl rfl (fun _=>hc) i ajd s3 Z3 H3 X.xe I3 (stat fr3) st3 stop) fun r s4 ⟨hr,I4⟩=>?_
  subst hr;exact wpAny_execs_nil ⟨Z3,H3,I4,qn⟩
 ·refine WL hp<|Fz (T.item X rfl rfl rfl (fun _=>hc) i ajd s3 Z3 H3 X.xe I3 (stat fr3) st3 go) fun r s4 ⟨u,hr,h4⟩=>?_
  subst hr;refine WL hp<|Fz h4 fun _ s5 ⟨x,H5,I5,r5,y5,st5,fr5⟩=>?_
  have I5':=I5.pinned (stat fr5) (T.obj _ _ st5);refine WL hp<|Fz (hg _ s5 Z3 H5 x u _ I5' r5<|step x H5 y5) fun _ s6 ⟨Z6,H6,I6,q6⟩=>?_
  refine WL hp<|Fz (hb _ s6 Z6 H6 _ I6 q6) fun f s7 q7=>?_
  have again:∀ {Z7:St} {H7:Hp},CQ X (ajd++vL fp s5.heap) Z7 H7 s7->N Z7 H7->∃ m,m<n/\∃ i Z' H',CQ X ajd Z' H' s7/\tn i s7.heap/\(∀ b∈fp,H' b=FX)/\W i m Z' H':=fun {Z7 H7} I7 n7=>by
   obtain ⟨m',hm,w7⟩:=hN Z7 H7 n7;refine ⟨m',hm,i+1,Z7,H7,I7.unpinned,T.keep _ _ _ st5 fun b hb o e=>(I7.pin (b,o)<|Qs _<|Qs _<|jF hb e).1,fun b hb=>?_,w7⟩;obtain ⟨o,e,d⟩:=T.obj _ _ st5 b hb;exact (I7.pin (b,o)<|Qs _<|Qs _<|jF hb e).2.1
  cases f with
  | next=>obtain ⟨Z7,H7,I7,n7⟩:=q7;exact again I7 n7
  | cont=>obtain ⟨Z7,H7,I7,n7⟩:=q7;exact again I7 n7
  | brk=>obtain ⟨Z7,H7,I7,q7⟩:=q7;exact ⟨Z7,H7,I7.unpinned,q7⟩
  | ret v=>obtain ⟨x7,Z7,H7,I7,r7,q7⟩:=q7;exact ⟨x7,Z7,H7,I7.unpinned,r7,q7⟩
end
variable {body : List Stmt}
theorem mX {a:Addr}{g:TG}{tb:TS}(Pv:Nat->St->Hp->Prop)(h0:Pv 0 Z H)(hl:∀ i Z H,i<=xs.length->Pv i Z H->HJ K H a xs)
  (hs:∀ i x Z H,xs[i]?=FN x->Pv i Z H->g x Z H fun Z2 H2=>tb { D with nx:=Pv (i+1),ct:=Pv (i+1),bk:=D.nx } Z2 H2) (hd:∀ Z H,Pv xs.length Z H->D.nx Z H) :
  ∃ W:Nat->Nat->St->Hp->Prop,(∃ m,W 0 m Z H)/\∀ i m Z H,W i m Z H ->
   ((Itt K a).stop i H/\D.nx Z H)\/((Itt K a).go i H/\∃ N:St->Hp->Prop,(∀ Z' H',N Z' H'->∃ m',m'<m/\W (i+1) m' Z' H')/\∀ x H',(Itt K a).yld i H x H'->g x Z H' fun Z2 H2=>tb { D with nx:=N,ct:=N,bk:=D.nx } Z2 H2):=by
 refine ⟨fun i m Z H=>m=xs.length - i/\i<=xs.length/\Pv i Z H,⟨xs.length,by simp,Ko _,h0⟩,?_⟩;rintro i m Z H ⟨rfl,hi,p⟩;have q:=hl i Z H hi p;by_cases hlt:i<xs.length
 ·refine .inr ⟨⟨xs,xs[i],q,by simp [hlt]⟩,Pv<|i+1,fun Z' H' p'=>⟨xs.length - (i+1),by lia,rfl,hlt,p'⟩,fun x H' y=>?_⟩;obtain ⟨e,y⟩:=y;subst e;exact hs i x Z _ (y xs q) p
 ·have e:i=xs.length:=by lia
  subst e;exact .inl ⟨⟨xs,q,Dg _⟩,hd Z H p⟩
abbrev R2:=V->V->Hp->VK->Prop
def K8 (X:Cx)(f:Mk->Mk->Sem Mk)(r:R2):Prop:=
 ∀ (ajd:List (Addr×Obj)) (s:AP) (Z : St) (H:Hp) (x y:V) (v u:Mk) (Q:VK),CQ X ajd Z H s->RelV x v->RelV y u->r x y H Q ->
  Cu (Cp X.prog X.w) X.A (f v u) (EP X ajd Z Q) X.xe s
def UnR (X:Cx)(f:Mk->Sem Mk)(r:V->Hp->VK->Prop):Prop:=
 ∀ (ajd:List (Addr×Obj)) (s:AP) (Z : St) (H:Hp) (x:V) (v:Mk) (Q:VK),CQ X ajd Z H s->RelV x v->r x H Q ->
  Cu (Cp X.prog X.w) X.A (f v) (EP X ajd Z Q) X.xe s
def fX (X:Cx)(f:Mk)(r:List V->Hp->VK->Prop):Prop:=
 ∀ (ajd:List (Addr×Obj)) (s:AP) (Z : St) (H:Hp) (xs:List V) (us:List Mk) (Q:VK),CQ X ajd Z H s->CR xs us->r xs H Q ->
  Cu (Cp X.prog X.w) X.A (call f us) (EP X ajd Z Q) X.xe s
def acr (X:Cx)(r:V->Hp->(Bool->Hp->Prop)->Prop):Prop:=
 ∀ (ajd:List (Addr×Obj)) (s:AP) (Z : St) (H:Hp) (x:V) (v:Mk) (Q:Bool->Hp->Prop),CQ X ajd Z H s->RelV x v->r x H Q ->
  Cu (Cp X.prog X.w) X.A (truthy v) (TP X ajd Z Q) X.xe s
def tOp (r:R2)(ta tb:TE):TE:=fun Z H Q=>ta Z H fun x H1=>tb Z H1 fun y H2=>r x y H2 Q
def tUn (r:V->Hp->VK->Prop)(ta:TE):TE:=fun Z H Q=>ta Z H fun x H1=>r x H1 Q
def rI (C:Int->Int->Prop)(g:Int->Int->V):R2:=fun x y H Q=>∃ i j,x=.int i/\y=.int j/\C i j/\Q (g i j) H
def rI0 (g:Int->Int->V):R2:=fun x y H Q=>∃ i j,x=.int i/\y=.int j/\Q (g i j) H
def rU (g:Int->V):V->Hp->VK->Prop:=fun x H Q=>∃ i,x=.int i/\Q (g i) H
section
variable {a b c:Expr}{tb tc:TE}
theorem aaU (ha:PE X a ta)(hb:PE X b tb){s:AP}{R:V->V->Hp->Prop}(I:CQ X ajd Z H s)
  (h:ta Z H fun x H1=>tb Z H1 fun y H2=>R x y H2) {Q:Mk->AP->Prop} {f:Mk->Mk->Sem Mk}
  (hf:∀ v u s2 x y H2,CQ X ajd Z H2 s2->RelV x v->RelV y u->R x y H2->Cu (Cp X.prog X.w) X.A (f v u) Q X.xe s2) :
  Cu (Cp X.prog X.w) X.A (eval a X.env) (fun v s₁=>Cu (Cp X.prog X.w) X.A (eval b X.env) (fun u s₂=>Cu (Cp X.prog X.w) X.A (f v u) Q X.xe s₂) X.xe s₁) X.xe s:=by
 refine Fz (ha ajd s Z H _ I h) fun v s1 ⟨x,H1,I1,r1,q1⟩=>?_;refine Fz (hb ajd s1 Z H1 _ I1 q1) fun u s2 ⟨y,H2,I2,r2,q2⟩=>?_;exact hf v u s2 x y H2 I2 r1 r2 q2
theorem ZL {op:Operator}{r:R2}(ho:K8 X (Lj op) r)(ha:PE X a ta)(hb:PE X b tb):PE X (.BinOp a op b pos) (tOp r ta tb):=by
 intro ajd s Z H Q I h;exact wpAny_BinOp<|aaU ha hb I h fun v u s2 x y H2 I2 rx ry q=>ho ajd s2 Z H2 x y v u Q I2 rx ry q
theorem aay {op:UnaryOp}{r:V->Hp->VK->Prop}(ho:UnR X (unaryOp op) r)(ha:PE X a ta):PE X (.UnaryOp op a pos) (tUn r ta):=by
 intro ajd s Z H Q I h;exact UnaryOp_<|Fz (ha ajd s Z H _ I h) fun v s1 ⟨x,H1,I1,r1,q1⟩=>ho ajd s1 Z H1 x v Q I1 r1 q1
theorem opI {f:Mk->Mk->Sem Mk}{C:Int->Int->Prop}{g:Int->Int->Int}
  (rule:∀ (i j:Int) (t u:Tok) (s:AP) (Q:Mk->AP->Prop) (E:Mk->AP->Prop),C i j->Q (.int (g i j) s.toks) { s with toks:=s.toks+1 }->Cu (Cp X.prog X.w) X.A (f (.int i t) (.int j u)) Q E s) :
  K8 X f (rI C fun i j=>.int (g i j)):=by
 intro ajd s Z H x y v u Q I rx ry h;obtain ⟨i,j,rfl,rfl,hc,q⟩:=h;obtain ⟨t,rfl⟩:=rx;obtain ⟨t',rfl⟩:=ry;exact rule i j t t' s _ _ hc ⟨.int<|g i j,H,I.tok _,⟨_,rfl⟩,q⟩
theorem abX {f:Mk->Mk->Sem Mk}{g:Int->Int->Int}
  (rule:∀ (i j:Int) (t u:Tok) (s:AP) (Q:Mk->AP->Prop) (E:Mk->AP->Prop),Q (.int (g i j) s.toks) { s with toks:=s.toks+1 }->Cu (Cp X.prog X.w) X.A (f (.int i t) (.int j u)) Q E s) :
  K8 X f (rI0 fun i j=>.int (g i j)):=by
 intro ajd s Z H x y v u Q I rx ry h;obtain ⟨i,j,rfl,rfl,q⟩:=h;obtain ⟨t,rfl⟩:=rx;obtain ⟨t',rfl⟩:=ry;exact rule i j t t' s _ _ ⟨.int<|g i j,H,I.tok _,⟨_,rfl⟩,q⟩
theorem abg {f:Mk->Mk->Sem Mk}{g:Int->Int->Bool}
  (rule:∀ (i j:Int) (t u:Tok) (s:AP) (Q:Mk->AP->Prop) (E:Mk->AP->Prop),Q (.bool (g i j)) s->Cu (Cp X.prog X.w) X.A (f (.int i t) (.int j u)) Q E s) :
  K8 X f (rI0 fun i j=>.bl (g i j)):=by
 intro ajd s Z H x y v u Q I rx ry h;obtain ⟨i,j,rfl,rfl,q⟩:=h;obtain ⟨t,rfl⟩:=rx;obtain ⟨t',rfl⟩:=ry;exact rule i j t t' s _ _ ⟨.bl<|g i j,H,I,rfl,q⟩
def Zx (i j:Int):Prop:=0<=j/\j<=1000000/\i.natAbs<2^64
theorem Xg:K8 X (Lj .Add) (rI0 fun i j=>.int (i+j)):=abX fun _ _ _ _ _ _ _ q=>add_int q
theorem ahE:K8 X (Lj .Sub) (rI0 fun i j=>.int (i - j)):=abX fun _ _ _ _ _ _ _ q=>sub_int q
theorem aho:K8 X (Lj .Mod) (rI (fun _ j=>j≠0) fun i j=>.int (i.fmod j)):=opI fun _ _ _ _ _ _ _ hc q=>mod_int' hc q
theorem afc:K8 X (Lj .Pow) (rI Zx fun i j=>.int (i^j.toNat)):=opI fun _ _ _ _ _ _ _ hc q=>pow_int_small hc.1 hc.2.1 hc.2.2 q
theorem unI {f:Mk->Sem Mk}{g:Int->Int}
  (rule:∀ (i:Int) (t:Tok) (s:AP) (Q:Mk->AP->Prop) (E:Mk->AP->Prop),Q (.int (g i) s.toks) { s with toks:=s.toks+1 }->Cu (Cp X.prog X.w) X.A (f (.int i t)) Q E s) :
  UnR X f (rU fun i=>.int (g i)):=by
 intro ajd s Z H x v Q I rx h;obtain ⟨i,rfl,q⟩:=h;obtain ⟨t,rfl⟩:=rx;exact rule i t s _ _ ⟨.int<|g i,H,I.tok _,⟨_,rfl⟩,q⟩
theorem YZ:UnR X (unaryOp .USub) (rU fun i=>.int (-i)):=unI fun _ _ _ _ _ q=>neg_int q
theorem Ba {s:AP}{Q:VK}{k k':Bool}(I:CQ X ajd Z H s)(q:Q (.bl k) H)(e:k=k'):EP X ajd Z Q (.bool k') s:=by
 subst e;exact ⟨.bl k,H,I,rfl,q⟩
theorem Z5:K8 X (Ku .Lt) (rI0 fun i j=>.bl (decide (i<j))):=abg fun _ _ _ _ _ _ _ q=>lt_int q
theorem aa5:K8 X (Ku .Gt) (rI0 fun i j=>.bl (decide (j<i))):=abg fun _ _ _ _ _ _ _ q=>gt_int q
theorem aaz:K8 X (Ku .GtE) (rI0 fun i j=>.bl (decide (j<=i))):=abg fun _ _ _ _ _ _ _ q=>ge_int q
theorem afU:K8 X (Ku .IsNot) (fun x y H Q=>y=.non/\Q (.bl (!decide (x=.non))) H):=by
 intro ajd s Z H x y v u Q I rx ry h;obtain ⟨rfl,q⟩:=h;cases ry;refine isnot_none_gen<|Ba I q ?_
 cases x <;> first
  | (cases rx;rfl)
  | (obtain ⟨t,rfl⟩:=rx;rfl)
theorem K8.or {f:Mk->Mk->Sem Mk}{r r':R2}(h:K8 X f r)(h':K8 X f r'):K8 X f (fun x y H Q=>r x y H Q\/r' x y H Q):=by
 intro ajd s Z H x y v u Q I rx ry q;rcases q with q | q
 ·exact h ajd s Z H x y v u Q I rx ry q
 ·exact h' ajd s Z H x y v u Q I rx ry q
theorem Oi (b:Expr){op:CmpOp}(h:op≠.In:=by decide)(h2:op≠.NotIn:=by decide):Tn op b=false:=by
 have e1:(op==CmpOp.In)=false:=by cases op <;> first | rfl | exact absurd rfl h
 have e2:(op==CmpOp.NotIn)=false:=by cases op <;> first | rfl | exact absurd rfl h2
 cases b <;> simp [Tn,e1,e2]
theorem agl {op:CmpOp}{r:R2}(ho:K8 X (Ku op) r)(ha:PE X a ta)(hb:PE X b tb)(hm:Tn op b=false):PE X (.Compare a [op] [b] pos) (tOp r ta tb):=by
 intro ajd s Z H Q I h;exact wpAny_Compare1 (aaU ha hb I h fun v u s2 x y H2 I2 rx ry q=>ho ajd s2 Z H2 x y v u Q I2 rx ry q) hm
def aby (t:TE):TT:=fun Z H Q=>t Z H fun x H'=>∃ k,x=.bl k/\Q k H'
theorem aeP {op:CmpOp}{r:R2}(ho:K8 X (Ku op) r)(ha:PE X a ta)(hb:PE X b tb)(hm:Tn op b=false):PT X (.Compare a [op] [b] pos) (aby (tOp r ta tb)):=by
 intro ajd s Z H Q I h;refine wpAny_isTrue_Compare1 (Fz (ha ajd s Z H _ I h) fun v s1 ⟨x,H1,I1,r1,q1⟩=>Fz (hb ajd s1 Z H1 _ I1 q1) fun u s2 ⟨y,H2,I2,r2,q2⟩=>
  Fz (ho ajd s2 Z H2 x y v u _ I2 r1 r2 q2) fun c s3 ⟨z,H3,I3,r3,k,e,q3⟩=>?_) hm
 subst e;cases r3;exact wpAny_truthy_bool ⟨H3,I3,q3⟩
def abK (K:CT)(x:V)(H:Hp)(k:Bool):Prop:=
 match x with
 | .non=>k=false
 | .bl b=>k=b
 | .int i=>k=(i != 0)
 | .str y=>y.length<=FP/\k=((y.length:Int) != 0)
 | .byt y=>y.size<=FP/\k=((y.size:Int) != 0)
 | .ref p=>(∃ xs,Jy K H p xs/\k = !xs.isEmpty)\/(∃ xs,HJ K H p xs/\k = !xs.isEmpty)\/∃ kvs,H p=FN (.dK kvs)/\k = !kvs.isEmpty
 | _=>False
theorem zag {kvs:List (κ×V)}{vs:List (κ×Mk)}(r:KV kvs vs):(!vs.isEmpty) = !kvs.isEmpty:=by
 cases r <;> rfl
theorem sJ {its:List Mk}(r:CR xs its):(!its.toArray.isEmpty) = !xs.isEmpty:=by
 cases r <;> simp
theorem sG:(FP:Nat)<2^63:=by rw [V2];decide
theorem ahl:acr X (fun x H Q=>∃ k,abK X.K x H k/\Q k H):=by
 intro ajd s Z H x v Q I rx h;obtain ⟨k,e,q⟩:=h;have hl:=sG;have hs:FP=16777216:=V2;cases x with
 | non=>
  cases rx;have e':k=false:=e;subst e';exact truthy_none ⟨H,I,q⟩
 | bl b=>
  cases rx;have e':k=b:=e;subst e';exact wpAny_truthy_bool ⟨H,I,q⟩
 | int i=>
  obtain ⟨t,rfl⟩:=rx;have e':k=(i != 0):=e;subst e';exact PySem.P.truthy_int ⟨H,I,q⟩
 | str y=>
  obtain ⟨t,rfl⟩:=rx;obtain ⟨hy,e'⟩:y.length<=FP/\k=((y.length:Int) != 0):=e;subst e';exact PySem.P.truthy_str (by lia) ⟨H,I.tok _,q⟩
 | byt y=>
  obtain ⟨t,rfl⟩:=rx;obtain ⟨hy,e'⟩:y.size<=FP/\k=((y.size:Int) != 0):=e;subst e';exact PySem.W.truthy_bytes (by lia) ⟨H,I.tok _,q⟩
 | ref p=>
  cases rx;have e':(∃ xs,Jy X.K H p xs/\k = !xs.isEmpty)\/(∃ xs,HJ X.K H p xs/\k = !xs.isEmpty)\/∃ kvs,H p=FN (.dK kvs)/\k = !kvs.isEmpty:=e
  rcases e' with ⟨xs,hx,e'⟩ | ⟨xs,hx,e'⟩ | ⟨kvs,hx,e'⟩
  ·subst e';obtain ⟨its,r,pl,hz⟩:=I.list hx;have aje:=r.length;exact wpAny_truthy_list pl.isList (by simp only [Jl];lia) ⟨H,I.tok _,by rw [sJ r];exact q⟩
  ·subst e';obtain ⟨its,r,pl,hz⟩:=I.tuple hx;have aje:=r.length;exact truthy_tuple pl (by simp only [Jl];lia) ⟨H,I.tok _,by rw [sJ r];exact q⟩
  ·subst e';obtain ⟨hz,hS,vs,r,m⟩:kvs.length<=FP/\(p==M5)=false/\∃ vs,KV kvs vs/\s.heap.DictOf (cG X.prog X.w) p vs:=I.hok p _ hx
   have aje:kvs.length=vs.length:=V3 r;exact wpAny_truthy_dict hS m (by lia) ⟨H,I.tok _,by rw [zag r];exact q⟩
 | _=>exact (show False from e).elim
theorem zbg (ha:PE X a ta)(he:∀ whole,isTrue a X.env whole=(do let v <-whole;standAt a.pos;holding [v] (truthy v))):
  PT X a (fun Z H Q=>ta Z H fun x H'=>∃ k,abK X.K x H' k/\Q k H'):=by
 intro ajd s Z H Q I h;exact isTrue_plain (Fz (ha ajd s Z H _ I h) fun v s1 ⟨x,H1,I1,r1,q1⟩=>ahl ajd s1 Z H1 x v Q I1 r1 q1)<|he _
theorem vals1 {x:V}(r:CR [x] us):∃ u,us=[u]/\RelV x u:=by
 cases r with
 | cons r1 r2=>cases r2;exact ⟨_,rfl,r1⟩
theorem vals2 {x y:V}(r:CR [x,y] us):∃ u w',us=[u,w']/\RelV x u/\RelV y w':=by
 cases r with
 | cons r1 r2=>
  cases r2 with
  | cons r3 r4=>cases r4;exact ⟨_,_,rfl,r1,r3⟩
theorem aei:fX X (.builtin "abs") (fun xs H Q=>∃ i,xs=[.int i]/\Q (.int (if i<0 then -i else i)) H):=by
 intro ajd s Z H xs us Q I r h;obtain ⟨i,rfl,q⟩:=h;obtain ⟨u,rfl,t,rfl⟩:=vals1 r;exact call_abs_int fun u tk=>⟨.int<|if i<0 then -i else i,H,I.tok _,⟨_,rfl⟩,q⟩
theorem zaz (hc:X.calm=true):fX X (.builtin "max") (fun xs H Q=>∃ i j,xs=[.int i,.int j]/\Q (.int (if j>i then j else i)) H):=by
 intro ajd s Z H xs us Q I r h;obtain ⟨i,j,rfl,q⟩:=h;obtain ⟨u,w',rfl,⟨t,rfl⟩,⟨t',rfl⟩⟩:=vals2 r;refine max_two_ints (I.ok.hd hc) fun h' tk k=>⟨_,H,I.kept k,?_,q⟩;by_cases hj:j>i
 ·rw [if_pos hj,if_pos hj];exact ⟨_,rfl⟩
 ·rw [if_neg hj,if_neg hj];exact ⟨_,rfl⟩
theorem zaq:fX X (.type "int") (fun xs H Q=>(∃ i,xs=[.int i]/\Q (.int i) H)\/∃ k,xs=[.bl k]/\Q (.int (if k then 1 else 0)) H):=by
 intro ajd s Z H xs us Q I r h;rcases h with ⟨i,rfl,q⟩ | ⟨k,rfl,q⟩
 ·obtain ⟨u,rfl,t,rfl⟩:=vals1 r;exact call_int_int ⟨.int i,H,I,⟨_,rfl⟩,q⟩
 ·obtain ⟨u,rfl,r1⟩:=vals1 r;cases r1;exact call_int_bool ⟨.int<|if k then 1 else 0,H,I.tok _,⟨_,rfl⟩,q⟩
end
structure aaN (h:Heap) (x dx C:Addr) (mA:Str->Option Mk):Prop where
 obj:h.get? x=FN (PySem.W.instObj C dx)
 ns:h.Ns1 dx mA
 ne:dx≠x
variable {dx : Addr}{mA : Str->Option Mk}
theorem zaF (n:h.Ns1 dx mA):∃ od,h.get? dx=FN od/\∀ name,PySem.W.lookIn name od=FN (mA name):=by
 obtain ⟨o,es,ep,ho,hd,hk,_,hm⟩:=n;refine ⟨o,ho,fun name=>?_⟩;have e:=hm name;unfold nsFind findBy at e;rw [<-Array.find?_toList] at e;unfold PySem.W.lookIn;rw [hd];dsimp only;split
 ·rename_i y q;rw [q] at e;exact congrArg FN e
 ·rename_i q;rw [q] at e;have a:es.toList.any (·.refKey)=false:=by
   rw [List.any_eq_false];intro y hy;obtain ⟨z,t,hkey⟩:=hk y (Array.mem_toList_iff.mp hy);simp [DictEntry.refKey,hkey]
  have a':¬ es.toList.any (·.refKey)=true:=by rw [a];exact Lw
  rw [if_neg a'];exact congrArg FN e
variable {C : Addr}
theorem aaN.look {x:Addr}(I:aaN h x dx C mA):∃ od,PySem.W.InstAt h x (PySem.W.instObj C dx) C (FN od)/\∀ name,PySem.W.lookIn name od=FN (mA name):=
 let ⟨od,ho,hl⟩:=zaF I.ns
 ⟨od,⟨I.obj,rfl,rfl,ho⟩,hl⟩
section
variable {s:AP}{x f:Addr}{name:Str}{v:Mk}
theorem get_map {expr:Bool}(X:K.In s.heap)(I:aaN s.heap x dx C mA)(hg:PySem.W.plainGet K C name=true)(hh:PySem.W.hasDictIn K C=true)
  (ha:Ro K (.ref C) name=FN FX) (hv:mA name=FN v) (hv':PySem.W.handedIn v=true) (h:Q v { s with toks:=s.toks+1 }) :
  Cu (Cp prog w) A (getAttr (.ref x) name expr) Q E s:=by
 obtain ⟨od,J,hl⟩:=I.look;exact PySem.W.get_value X J (PySem.W.plainGet_of hg).1 (PySem.W.findObj_own hh ha rfl<|by rw [hl,hv]) hv' h
end
variable {name : Str}
theorem J8.some_of {v:V}{o:Option Mk}(r:J8 (FN v) o):∃ u,o=FN u/\RelV v u:=by
 cases o with
 | none=>exact (show False from r).elim
 | some u=>exact ⟨u,rfl,r⟩
section
variable {a:Addr}{fs fs':List (Str×V)}
end
variable {fs : List (Str×V)}
structure Cls (K:CT) (C:Addr):Prop where
 pg:PySem.W.plainGet K C Str.empty=true
 hd:PySem.W.hasDictIn K C=true
 po:PySem.W.plainOver K C=true
 sa:Ro K (.ref C) "__setattr__" = FN (FN (.builtin "object.__setattr__"))
structure Con (K:CT) (C:Addr) (f:Str) (v:V) (u:Mk):Prop where
 at_:Ro K (.ref C) f=FN (FN u)
 rel:RelV v u
 get:PySem.W.specialIn K u "__get__" = FN FX
 cp:PySem.W.copiedNames.contains f=false
structure Meth (K:CT) (C:Addr) (m:Str) (f:Addr):Prop where
 at_:Ro K (.ref C) m=FN (FN (.ref f))
 fn:PySem.W.isFn K (.ref f)=true
 kp:Rp K (.ref f)=true
section
variable {s:AP}{a:Addr}{f:Str}{v:V}
end
section
variable {value:Expr}{f:Str}{tpos:Pos}{tv:TE}
end
section
variable {s:AP}{c:Mk}{b:Bool}
inductive GJ (K:CT) (H:Hp):V->Mk->Prop where
 | non:GJ K H .non (.type "NoneType")
 | bl (x:Bool):GJ K H (.bl x) (.type "bool")
 | int (i:Int):GJ K H (.int i) (.type "int")
 | str (x:Str):GJ K H (.str x) (.type "str")
 | flt (x:UInt64):GJ K H (.flt x) (.type "float")
 | lst {a:Addr} {xs:List V} (e:H a=FN (.lst xs)):GJ K H (.ref a) (.type "list")
 | frz {a:Addr} {o:Obj} {xs:List V} (e:H a=FN (.frz o (.lst xs))):GJ K H (.ref a) (.type "list")
 | tup {a:Addr} {xs:List V} (e:H a=FN (.tup xs)):GJ K H (.ref a) (.type "tuple")
 | dK {a:Addr} {kvs:List (Key×V)} (e:H a=FN (.dK kvs)):GJ K H (.ref a) (.type "dict")
 | dT {a:Addr} {kvs:List (List Key×V)} (e:H a=FN (.dT kvs)):GJ K H (.ref a) (.type "dict")
 | ins {a C dx:Addr} {fs:List (Str×V)} (e:H a=FN (.ins C dx fs)) (cl:Cls K C) (ha:Ro K (.ref C) "__class__" = FN (FN (.builtin "object.__class__")))
   (hn:PySem.W.specialIn K (.builtin "object.__class__") "__get__" = FN (FN (.builtin "getset_descriptor.__get__"))) (htk:PySem.W.takesIn K (.builtin "object.__class__")=FN true)
   (hm:PySem.W.mroIn K C (.type "object")=FN true):GJ K H (.ref a) (.ref C)
end
structure o7 (k:Nat) (A:FZ):Prop where
 hd:9<=k->A.handled=FX
 dp:A.depth+3*k+5<recursionLimit
 un:A.units+16*k+200<JQ
theorem o7.mono {k:Nat}(r:o7 k A)(h:j<=k):o7 j A:=⟨fun z=>r.hd (Dk z h),by have:=r.dp;lia,by have:=r.un;lia⟩
theorem o7.deeper {k:Nat}{A:FZ}(r:o7 (k+1) A)(env:Env):o7 k (A.deeper env):=
 ⟨fun z=>r.hd (Nat.le_succ_of_le z),by have:=r.dp;show A.depth+1+3*k+5<_;lia,by have:=r.un;show A.units+3+16*k+200<_;lia⟩
theorem o7.calm {k:Nat}(r:o7 k A)(h:9<=k):A.handled.isNone=true:=by rw [r.hd h];rfl
theorem o7.depth {k:Nat}{A:FZ}(r:o7 k A):A.depth<recursionLimit:=by have:=r.dp;lia
theorem o7.units {k:Nat}{A:FZ}(r:o7 k A):A.units+64<JQ:=by have:=r.un;lia
def acS:TA:=fun _ H Q=>Q [] H
def aar (ta:TE)(tr:TA):TA:=fun Z H Q=>ta Z H fun x H1=>tr Z H1 fun xs H2=>Q (x::xs) H2
section
variable {te:TE}{t:TA}
theorem agy:PA X [] acS:=fun _ _ _ _ H Q I h=>Calls.spliced_nil ⟨[],H,I,.nil,h⟩
theorem zbJ (ha:PE X e te)(hr:PA X es t)(hs:Fo (e::es) X.env=(false,eval e X.env)::Fo es X.env:=by rfl):PA X (e::es) (aar te t):=by
 intro pos ajd s Z H Q I h;rw [hs];show Cu _ _ (spliced ((false,eval e X.env)::K5 pos (Fo es X.env))) _ _ s;refine Calls.spliced_cons<|Fz (ha ajd s Z H _ I h) fun u s1 ⟨x,H1,I1,r1,q1⟩=>?_
 exact Fz (hr pos ajd s1 Z H1 _ I1 q1) fun us s2 ⟨xs,H2,I2,r2,q2⟩=>⟨x::xs,H2,I2,.cons r1 r2,q2⟩
def ac2 (t:TA):TE:=fun Z H Q=>t Z H fun xs H1=>xs.length<=FP/\∀ p,H1 p=FX->Q (.ref p) (FQ H1 p (.tup xs))
def ac8 (t:TA):TE:=fun Z H Q=>t Z H fun xs H1=>xs.length<=FP/\∀ p,H1 p=FX->Q (.ref p) (FQ H1 p (.lst xs))
theorem Xl {x1}(h:PA X es t):PE X (.Tuple es x1 pos) (ac2 t):=by
 intro ajd s Z H Q I hq;refine wpAny_Tuple_spliced<|Fz (h pos ajd s Z H _ I hq) fun us s1 ⟨xs,H1,I1,r,z,q⟩=>⟨by rw [<-r.length];exact z,?_⟩
 have hf:H1 s1.heap.objs.size=FX:=I1.hok.fresh (Dg _);refine ⟨.ref s1.heap.objs.size,FQ H1 s1.heap.objs.size<|.tup xs,I1.laid (t':=s1.toks) (fun b u e=>GD _ e) (Dg _) ?_,rfl,q _ hf⟩;exact ⟨z,us,r,⟨_,K4 _ rfl,rfl,⟨_,rfl⟩,rfl⟩⟩
theorem Px (h:PA X es t):PE X (.List es pos) (ac8 t):=by
 intro ajd s Z H Q I hq;refine wpAny_List_spliced<|Fz (h pos ajd s Z H _ I hq) fun us s1 ⟨xs,H1,I1,r,z,q⟩=>⟨by rw [<-r.length];exact z,?_⟩
 have hf:H1 s1.heap.objs.size=FX:=I1.hok.fresh (Dg _);refine ⟨.ref s1.heap.objs.size,FQ H1 s1.heap.objs.size<|.lst xs,I1.laid (t':=s1.toks) (fun b u e=>GD _ e) (Dg _) ?_,rfl,q _ hf⟩;exact ⟨z,us,0,r,K4 _ rfl⟩
end
abbrev Sp:=List V->Hp->VK->XK->Prop
abbrev S9:=List Env->Hp->AP->XK->Mk->AP->Prop
structure Zg (P:Ei) (w:Dq) (K:CT) (mg:Str->Option Mk) (base:Heap) (A:FZ) (outer:List Env) (s:AP) (H:Hp):Prop where
 frames:A.frames=FN outer
 mod:Mod K mg base
 bs:∀ b o,base.get? b=FN o->s.heap.get? b=FN o/\H b=FX
 bsz:base.objs.size<=s.heap.objs.size
 funs:s.heap.FunFrames base outer
 frf:∀ b∈frs outer,H b=FX
 hok:KR P w H s.heap
 bare:RT s.gens
 qt:Quiet A H
def CE (outer:List Env)(P:Ei)(w:Dq)(H:Hp)(s:AP)(Q:VK)(u:Mk)(s':AP):Prop:=
 ∃ v H',s'.os=s.os/\RT s'.gens/\Un (frs outer) [] H H' s.heap s'.heap/\KR P w H' s'.heap/\RelV v u/\Q v H'
def zah (CX:S9)(outer:List Env)(P:Ei)(w:Dq)(H:Hp)(s:AP)(Q:VK)(E:XK)(r:Result)(s':AP):Prop:=
 match r with
 | .ok (.ret u)=>CE outer P w H s Q u s'
 | .ok _=>False
 | .error e=>CX outer H s E e s'
structure rK (P:Ei) (w:Dq) (K:CT) (mg:Str->Option Mk) (base:Heap) (CX:S9) (k:Nat) (f:Addr) (fd:Mi) (ps:List Str) (sp:Sp):Prop where
 len:∀ vs H Q E,sp vs H Q E->vs.length=ps.length
 run:∀ (A:FZ) (outer:List Env) (s:AP) (H:Hp) (args:Args) (us:List Mk) (vs:List V) (Q:VK) (E:XK),o7 k A->Zg P w K mg base A outer s H->BindsTo s fd args (ps.zip us)->CR vs us->sp vs H Q E ->
  QV (Cp P w) A (.call (.ref f) args) (zah CX outer P w H s Q E) s
variable {CX : S9}{base : Heap}{sp : Sp}{mg : Str->Option Mk}{fd : Mi}
theorem rK.mono {P:Ei}{w:Dq}{K:CT}{mg:Str->Option Mk}{base:Heap}{CX:S9}{j k:Nat}{f:Addr}{fd:Mi}{ps:List Str}{sp:Sp}(F:rK P w K mg base CX j f fd ps sp)(h:j<=k) :
  rK P w K mg base CX k f fd ps sp:=⟨F.len,fun A outer s H args us vs Q E hr=>F.run A outer s H args us vs Q E (hr.mono h)⟩
theorem rK.imp {k:Nat}{f:Addr}{ps:List Str}{sp':Sp}(F:rK P w K mg base CX k f fd ps sp)
  (h:∀ vs H Q E,sp' vs H Q E->sp vs H Q E):rK P w K mg base CX k f fd ps sp':=
 ⟨fun vs H Q E q=>F.len vs H Q E (h _ _ _ _ q),fun A outer s H args us vs Q E hr he hb hv hs=>F.run A outer s H args us vs Q E hr he hb hv (h _ _ _ _ hs)⟩
section
variable {s:AP}
theorem CQ.env0 (I:CQ X ajd Z H s):Zg X.prog X.w X.K X.mg X.base X.A X.stack s H:=
 ⟨I.ok.frames,I.ok.mod,I.bs,Dk I.ok.bsz I.sz,I.stack,I.stkFree,I.hok,I.bare,I.qt0⟩
theorem CQ.after {Q:VK}(I:CQ X ajd Z H s)(h:CE X.stack X.prog X.w H s Q u s'):EP X ajd Z Q u s':=by
 obtain ⟨v,H',os,bare,un,hok,r,q⟩:=h;obtain ⟨hh,g,d,t,os'⟩:=s';obtain rfl:os'=s.os:=os;exact ⟨v,H',I.call (h':=hh) (g':=g) (d':=d) (t':=t) (ch:=[]) un hok bare<|fun b z=>absurd z<|by simp,r,q⟩
end
def Wx (sp:Sp)(dvs:List V)(E:XK)(t:TA):TE:=fun Z H Q=>t Z H fun vs H1=>sp (vs++dvs) H1 Q E
def Binds (K:CT)(fd:Mi)(ps:List Str)(ds:List Mk):Prop:=
 ∀ (s:AP) (us:List Mk),K.In s.heap->(us++ds).length=ps.length->BindsTo s fd ⟨us,[]⟩ (ps.zip (us++ds))
theorem Binds.all {ps:List Str}(h:∀ us:List Mk,us.length=ps.length->bindArgs fd ⟨us,[]⟩=pure (ps.zip us)):Binds K fd ps []:=fun s us _ hl=>by
 rw [Rr] at hl |-
 exact .of_eq<|h us hl
def Passes (CX:S9)(X:Cx)(E:XK):Prop:=∀ (ajd:List (Addr×Obj)) (Z : St) (H:Hp) (s:AP) (e:Mk) (s':AP),CQ X ajd Z H s->CX X.stack H s E e s'->X.xe e s'
section
variable {k:Nat}{f:Addr}{ps:List Str}{dvs:List V}{ds:List Mk}{E:XK}{x m:Str}{p apos:Pos}{t:TA}
theorem ahk {s:AP}{Q:VK}{vs:List V}(F:rK X.prog X.w X.K X.mg X.base CX k f fd ps sp)(hr:o7 k X.A)(hb:Binds X.K fd ps ds)(hd:CR dvs ds)(hx:Passes CX X E)
  (I:CQ X ajd Z H s) (r:CR vs us) (h:sp (vs++dvs) H Q E):Cu (Cp X.prog X.w) X.A (call (.ref f) us) (EP X ajd Z Q) X.xe s:=by
 have r2:CR (vs++dvs) (us++ds):=r.append hd;have hl:(us++ds).length=ps.length:=by rw [<-r2.length];exact F.len _ _ _ _ h
 refine wpAny_call<|codeAny_mono (F.run X.A X.stack s H ⟨us,[]⟩ (us++ds) (vs++dvs) Q E hr I.env0 (hb s us I.kIn hl) r2 h) fun r s' hq=>?_
 cases r with
 | error e=>exact hx ajd Z H s e s' I hq
 | ok fl=>
  cases fl with
  | ret u=>exact I.after hq
  | next=>exact Qz hq
  | brk=>exact Qz hq
  | cont=>exact Qz hq
theorem afB (F:rK X.prog X.w X.K X.mg X.base CX k f fd ps sp)(hr:o7 k X.A)(hg:Gl X x)(hm:X.mg x=FN (.ref f))(hk:Rp X.K (.ref f)=true)(hb:Binds X.K fd ps ds)(hd:CR dvs ds)(hx:Passes CX X E)
  (ha:PA X (e::es) t) (hdb:(x==("__debug__" : Str))=false:=by decide) (he:Fo (e::es) X.env=(false,eval e X.env)::Fo es X.env:=by rfl) (hpl:(K5 pos (Fo es X.env)).any (·.1)=false:=by rfl) :
  PE X (.Call (.Name x p) (e::es) [] pos) (Wx sp dvs E t):=by
 intro ajd s Z H Q I h;refine Vn<|IV I hg hm ?_ hdb
 refine PySem.W.callWith_K (h₀:=X.base) I.ok.mod.kin hk (Fz (ha pos ajd s Z H _ I h) fun us s1 ⟨vs,H1,I1,r,q⟩=>⟨I1.kIn,?_⟩) he hpl;exact ahk F hr hb hd hx I1 r q
structure adt (K:CT) (C f:Addr):Prop where
 makes:PySem.W.makesIn K C=true
 init:Ro K (.ref C) "__init__" = FN (FN (.ref f))
 fn:PySem.W.isFn K (.ref f)=true
 kp:Rp K (.ref C)=true
end
variable {apos : Pos}
section
variable {k:Nat}{f:Addr}{ps ks:List Str}{E:XK}{x m:Str}{p kpos:Pos}{kws:List Mv}{te:TE}{t tk:TA}{nm:Option Str}
structure abR (K:CT) (fd:Mi) (ps ks:List Str) (g:List Mk->List Mk->List Mk) (gV:List V->List V->List V):Prop where
 to:∀ (s:AP) (us ws:List Mk),K.In s.heap->(g us ws).length=ps.length->BindsTo s fd ⟨us,ks.zip ws⟩ (ps.zip (g us ws))
 rel:∀ {vs:List V} {us:List Mk} {zs:List V} {ws:List Mk},CR vs us->CR zs ws->CR (gV vs zs) (g us ws)
variable {g:List Mk->List Mk->List Mk}{gV:List V->List V->List V}
end
structure mV (N P:List Str) (sc:Scope):Prop where
 kind:sc.kind=.function
 co:sc.isCoroutine=false
 gen:sc.isGenerator=false
 nd:N.Nodup
 pre:N.take P.length=P
 par:∀ x∈P,sc.names.lookup x=FN .local\/sc.names.lookup x=FN .cell
 nofree:∀ y∈sc.names,y.2≠.free
theorem wF {Ke:Str->Option Ld}{x:Str}:∀ {binds:List (Str×Mk)} {m:Str->Option Mk},(∀ v,(x,v)∉binds)->bindL Ke binds m x=m x
 | [],_,_=>rfl
 | (n,v)::r,m,h=>by
  unfold bindL;rw [wF fun w hw=>h w (Jo _ hw)];split
  ·have:x≠n:=by rintro rfl;exact h v KD
   simp [this]
  ·rfl
theorem w6 {Ke:Str->Option Ld}{x:Str}:∀ {binds:List (Str×Mk)} {m:Str->Option Mk},(∀ v,(x,v)∉binds)->bindC Ke binds m x=m x
 | [],_,_=>rfl
 | (n,v)::r,m,h=>by
  unfold bindC;rw [w6 fun w hw=>h w (Jo _ hw)];split
  ·rfl
  ·have:x≠n:=by rintro rfl;exact h v KD
   simp [this]
theorem vI {Ke:Str->Option Ld}{x:Str}{v:Mk}:∀ {P:List Str} {vs:List Mk} {i:Nat} {m:Str->Option Mk},P.Nodup->P[i]?=FN x->vs[i]?=FN v->Ke x=FN .local ->
  bindL Ke (P.zip vs) m x=FN v
 | [],_,_,_,_,h,_,_=>by simp at h
 | _::_,[],_,_,_,_,h,_=>by simp at h
 | p::P,w::vs,0,m,nd,h1,h2,hk=>by
  simp at h1 h2;subst h1;subst h2;show bindL Ke ((p,w)::P.zip vs) m p=_;unfold bindL;rw [wF fun v hv=>(R6.mp nd).1 (List.of_mem_zip hv).1,if_pos hk];simp
 | p::P,w::vs,i+1,m,nd,h1,h2,hk=>by
  show bindL Ke ((p,w)::P.zip vs) m x=_;unfold bindL;exact vI (i:=i) (R6.mp nd).2 (by simpa using h1) (by simpa using h2) hk
theorem xq {Ke:Str->Option Ld}{x:Str}{v:Mk}:∀ {P:List Str} {vs:List Mk} {i:Nat} {m:Str->Option Mk},P.Nodup->P[i]?=FN x->vs[i]?=FN v->Ke x≠FN .local ->
  bindC Ke (P.zip vs) m x=FN v
 | [],_,_,_,_,h,_,_=>by simp at h
 | _::_,[],_,_,_,_,h,_=>by simp at h
 | p::P,w::vs,0,m,nd,h1,h2,hk=>by
  simp at h1 h2;subst h1;subst h2;show bindC Ke ((p,w)::P.zip vs) m p=_;unfold bindC;rw [w6 fun v hv=>(R6.mp nd).1 (List.of_mem_zip hv).1,if_neg hk];simp
 | p::P,w::vs,i+1,m,nd,h1,h2,hk=>by
  show bindC Ke ((p,w)::P.zip vs) m x=_;unfold bindC;exact xq (i:=i) (R6.mp nd).2 (by simpa using h1) (by simpa using h2) hk
def start (N:List Str)(vs:List V):St:=vs.map FN++Ja (N.length - vs.length) FX
def Mq (CX:S9)(P:Ei)(w:Dq)(K:CT)(mg:Str->Option Mk)(base:Heap)(N:List Str)(qual:Str)(scope:Scope)(f:Addr)(cd:Mk)(A:FZ)(outer:List Env)(s:AP)(H:Hp)(E:XK):Cx where
 prog:=P
 w:=w
 K:=K
 mg:=mg
 base:=base
 A:=A.deeper (envOfC qual scope s.heap.objs.size f cd)
 N:=N
 s₀:=s
 H₀:=H
 env:=envOfC qual scope s.heap.objs.size f cd
 outer:=outer
 stack:=envOfC qual scope s.heap.objs.size f cd::outer
 ex:=[]
 calm:=A.handled.isNone
 fn:=fun _=>true
 pn:=[]
 xe:=fun e s'=>Cu (Cp P w) (A.deeper (envOfC qual scope s.heap.objs.size f cd)) (leaving (envOfC qual scope s.heap.objs.size f cd) e) (fun _ s''=>CX outer H s E e s'') (fun e' s''=>CX outer H s E e' s'') s'
theorem Bl {sc:Scope}{x:Str}(h:sc.names.lookup x=FN .cell):∃ c,(KQ n sc.names []).lookup x=FN c:=by
 have q:=PySem.W.cellsFrom_some sc.names n [] (.inl h);exact Option.isSome_iff_exists.mp q
variable {scope : Scope}{qual : Str}
theorem zat {ps:List Str}{f:Addr}{cd:Mk}{outer:List Env}{s s1:AP}{E:XK}{vs:List V}
  (S:mV N ps scope) (e0:Zg P w K mg base A outer s H) (hl:vs.length=ps.length) (r:CR vs us)
  (x:InCallC s s.heap.objs.size (bindL (envOfC qual scope s.heap.objs.size f cd).kindOf (ps.zip us) fun _=>FX) (KQ (s.heap.objs.size+1) scope.names []) (bindC (envOfC qual scope s.heap.objs.size f cd).kindOf (ps.zip us) fun _=>FX) s1) :
  CQ (Mq CX P w K mg base N qual scope f cd A outer s H E) [] (start N vs) H s1:=by
 have hpl:ps.length<=N.length:=by have:=congrArg QZ S.pre;rw [Qh] at this;lia
 obtain ⟨h1,tk,rfl,hk⟩:=x.done;have noA:∀ b:Addr,b∉(Mq CX P w K mg base N qual scope f cd A outer s H E).ex:=fun b z=>absurd (show b∈([]:List Addr) from z) (by simp)
 refine ⟨⟨e0.mod,S.kind,rfl,rfl,Dg _,fun y z c h1 h2=>?_,fun y hy=>?_,fun y c _ h=>?_,fun z=>Option.isNone_iff_eq_none.mp (show A.handled.isNone=true from z),e0.qt,Around.frames_deeper e0.frames,.inr ⟨rfl,rfl⟩,fun b z=>absurd z (noA b),e0.bs,e0.bsz,fun b _ _=>noA b,fun b z=>absurd z (noA b),e0.funs,e0.frf⟩,
  rfl,e0.bare,Un.kept hk,⟨_,x.toInCall.ns,fun i y v h1 h2 h3=>?_⟩,fun y c h=>⟨_,x.cell y c h⟩,e0.hok.fresh (Dg _),fun y c h=>?_,fun p hp=>absurd (show p∈([]:List (Addr×Obj)) from hp) (by simp),e0.hok.kept hk,?_⟩
 ·exact name_of_addr x.apart (Rn h1)<|Rn h2
 ·have hy:scope.names.lookup y=FN .cell\/scope.names.lookup y=FN .free:=hy;rcases hy with hy | hy
  ·exact Bl hy
  ·exact absurd rfl<|S.nofree _<|Rn hy
 ·exact Lx<|x.above y c<|Rn h
 ·have hi:i<vs.length:=by
   unfold start at h2;by_cases hi:i<vs.length
   ·exact hi
   ·rw [QD (by simpa using hi)] at h2;rw [XJ] at h2;split at h2 <;> cases h2
  have ha:vs[i]?=FN v:=by
   unfold start at h2;rw [QC (by simpa using hi),GP] at h2;cases e:vs[i]? with
   | none=>rw [e] at h2;cases h2
   | some a=>rw [e] at h2;cases h2;rfl
  obtain ⟨u,hu,rv⟩:=r.get ha;have hp:ps[i]?=FN y:=by
   rw [<-S.pre,List.getElem?_take_of_lt (by lia)];exact h1
  have ndP:ps.Nodup:=by rw [<-S.pre];exact S.nd.sublist (List.take_sublist _ _)
  refine ⟨u,rv,?_⟩;rcases S.par y (KH hp) with k | k
  ·exact .inl ⟨k,vI ndP hp hu k⟩
  ·obtain ⟨c,e⟩:=Bl (n:=s.heap.objs.size+1) k;refine .inr ⟨.inl k,c,e,?_⟩;have q:=x.cell y c e;rw [xq ndP hp hu (by show scope.names.lookup y≠_;rw [k];decide)] at q;exact q
 ·exact e0.hok.fresh<|Lx<|x.above y c<|Rn h
 ·unfold start;show _=N.length;rw [Jt,DX,List.length_replicate];lia
variable {od : Option Addr}
theorem aad {k:Nat}{f:Addr}{params:Arguments}{dV kV doc pm cdv ct oc:Mk}{an:Option Addr}
  {osl:Array (Option Mk)} {N ps:List Str} {sp:Sp} (lk:K.lookup f=FN ⟨oc,od,.func (Tp name qual params body scope dV kV doc pm an cdv ct),osl⟩) (hcd:WT K cdv qual=true) (S:mV N ps scope)
  (len:∀ vs H Q E,sp vs H Q E->vs.length=ps.length)
  (hbody:∀ (A:FZ) (outer:List Env) (s:AP) (H:Hp) (vs:List V) (Q:VK) (E:XK),o7 k (A.deeper (envOfC qual scope s.heap.objs.size f cdv))->sp vs H Q E ->
   ∃ t,NQ (Mq CX P w K mg base N qual scope f cdv A outer s H E) body t/\t { nx:=fun _ H'=>Q .non H',rt:=Q } (start N vs) H) :
  rK P w K mg base CX (k+1) f (Tp name qual params body scope dV kV doc pm an cdv ct) ps sp:=by
 refine ⟨len,fun A outer s H args us vs Q E hr e0 hb r hsp=>?_⟩;have hl:=len _ _ _ _ hsp;have KX:K.In s.heap:=e0.mod.kin.keeps fun b o e=>(e0.bs b o e).1
 have lim:s.heap.NoLimit:=e0.mod.nolimit.keeps fun b o e=>(e0.bs b o e).1
 have hkind:∀ y∈ps.zip us,scope.names.lookup y.1=FN .local\/(scope.names.lookup y.1=FN .cell/\((KQ (s.heap.objs.size+1) scope.names []).lookup y.1).isSome=true):=fun ⟨n,v⟩ hy=>by
  rcases S.par n (List.of_mem_zip hy).1 with q | q
  ·exact .inl q
  ·exact .inr ⟨q,PySem.W.cellsFrom_some _ _ _<|.inl q⟩
 refine codeAny_call_function hr.depth (KX _ _ lk) rfl S.co S.gen rfl (PySem.W.codeRec_of KX hcd)<|hb _ _ _ _ ?_
 refine wpAny_newFunctionEnv_cells S.kind hkind fun env he s1 x=>?_;subst he;refine ⟨lim.keeps x.toInCall.keep,codeAny_func ?_⟩;obtain ⟨t,ht,hq⟩:=hbody A outer s H vs Q E (hr.deeper _) hsp;have I:CQ (Mq CX P w K mg base N qual scope f cdv A outer s H E) [] (start N vs) H s1:=zat S e0 hl r x;refine M6 (ht [] s1 (start N vs) H _ I hq) (fun fl s' hs=>?_) fun e s' hs=>hs;have fin:∀ {Z':St} {H':Hp} {v:V} {u:Mk},CQ (Mq CX P w K mg base N qual scope f cdv A outer s H E) [] Z' H' s'->RelV v u->Q v H'->CE outer P w H s Q u s':=
  fun {Z' H' v u} J rv q=>⟨v,H',J.os,J.bare,J.base,J.hok,rv,q⟩
 cases fl with
 | ret u=>
  obtain ⟨v,Z',H',J,rv,q⟩:=hs;exact fin J rv q
 | next=>
  obtain ⟨Z',H',J,q⟩:=hs;exact fin (v:=V.non) (u:=Value.none) J rfl q
 | brk=>
  obtain ⟨_,_,_,q⟩:=hs;exact Qz q
 | cont=>
  obtain ⟨_,_,_,q⟩:=hs;exact Qz q
section
variable {x:Str}{p:Pos}{t:TA}{id T:String}{r:List V->Hp->VK->Prop}
def tCB (r:List V->Hp->VK->Prop)(t:TA):TE:=fun Z H Q=>t Z H fun vs H1=>r vs H1 Q
theorem zbp (hc:fX X (.builtin id) r)(hg:Gl X x)(hm:X.mg x=FX)(hv:Rf x=FN (.builtin id))(ha:PA X (e::es) t)(hn:x ≠ "__name__":=by decide)(hdb:(x==("__debug__" : Str))=false:=by decide)
  (he:Fo (e::es) X.env=(false,eval e X.env)::Fo es X.env:=by rfl) (hpl:(K5 pos (Fo es X.env)).any (·.1)=false:=by rfl):PE X (.Call (.Name x p) (e::es) [] pos) (tCB r t):=by
 intro ajd s Z H Q I h;refine Vn<|ou I hg hm hv ?_ hn hdb
 exact PyProof.Rows.callWith_builtin1 (Fz (ha pos ajd s Z H _ I h) fun us s1 ⟨vs,H1,I1,r1,q1⟩=>hc ajd s1 Z H1 vs us Q I1 r1 q1) he hpl
theorem zay (hc:fX X (.type T) r)(hg:Gl X x)(hm:X.mg x=FX)(hv:Rf x=FN (.type T))(ha:PA X (e::es) t)(hn:x ≠ "__name__":=by decide)(hdb:(x==("__debug__" : Str))=false:=by decide)
  (he:Fo (e::es) X.env=(false,eval e X.env)::Fo es X.env:=by rfl) (hpl:(K5 pos (Fo es X.env)).any (·.1)=false:=by rfl):PE X (.Call (.Name x p) (e::es) [] pos) (tCB r t):=by
 intro ajd s Z H Q I h;refine Vn<|ou I hg hm hv ?_ hn hdb
 exact Vq (Fz (ha pos ajd s Z H _ I h) fun us s1 ⟨vs,H1,I1,r1,q1⟩=>hc ajd s1 Z H1 vs us Q I1 r1 q1) he hpl
end
end L2
namespace HT
open PySem PyProof.Rows
def lexLt:List Int->List Int->Bool
 | [],[]=>false
 | [],_::_=>true
 | _::_,[]=>false
 | x::xs,y::ys=>if x=y then lexLt xs ys else decide (x<y)
theorem ady (x y:Int)(xs ys:List Int):lexLt (x::xs) (y::ys)=if x=y then lexLt xs ys else decide (x<y):=rfl
theorem vB:lexLt [] []=false:=rfl
theorem rH (y:Int)(ys:List Int):lexLt [] (y::ys)=true:=rfl
theorem rN (x:Int)(xs:List Int):lexLt (x::xs) []=false:=rfl
theorem aee (A:FZ)(s:AP)(a:Int)(t:Tok)(c:Int)(u:Tok):∃ e,T8 A s (.int a t) (.int c u) e/\(e=true↔a=c):=
 ⟨(a==c),SeqAt.EqAt.int_int a t c u,by simp⟩
theorem afn (A:FZ)(s:AP)(a:Int)(t:Tok)(c:Int)(u:Tok)(prog:Ei)(w:Dq)(E:Mk->AP->Prop)(Q:Mk->AP->Prop)(h:Q (.bool (decide (a<c))) s):
  Cu (Cp prog w) A (richCompare .Lt (.int a t) (.int c u)) Q E s:=
 (PyProof.Rows.lt_int h:Cu (Cp prog w) A (Ku .Lt (.int a t) (.int c u)) Q E s)
section
open PySem.SeqAt
open PySem.AutoSeq1 (wpAny_loadPart')
open PySem.MeetsSeq PySem.MeetsSeq2 PySem.MeetsSeq3
theorem tE (l b:Addr)(items items2:Array Mk)(n n2:Nat)(dd dd2:Option Addr)(sl sl2:Array (Option Mk))(ns ms:List Int)(hi:N6 items.toList ns)(hj:N6 items2.toList ms):
  Meets (RG.«tuple.__lt__» ⟨[.ref l,.ref b],[]⟩)
   (fun _ R s=>s.heap.get? l=FN { cls:=.type "tuple",dict:=dd,data:=.seq items n,slots:=sl }/\s.heap.get? b=FN { cls:=.type "tuple",dict:=dd2,data:=.seq items2 n2,slots:=sl2 } /\
    R (.ok (.ret (.bool (lexLt ns ms)))) s):=
 .of_wp fun prog w A R s h=>by
  obtain ⟨hp,g,d,tk,os⟩:=s;obtain ⟨hl,hb,h⟩:=h;have f2:=AutoSeq1.sub_tuple_tuple;have z1:items.size=ns.length:=by rw [<-hi.length];simp
  have z2:items2.size=ms.length:=by rw [<-hj.length];simp
  wp_walk using wpAny_loadPart' hl,wpAny_loadPart' hb,wpAny_forIn_list _ (fun rest b s'=>b.1=FX/\s'=⟨hp,g,d,tk,os⟩/\∃ (vs ws:List Mk) (ns' ms':List Int),rest=vs.zip ws /\
   N6 vs ns'/\N6 ws ms'/\ns'.length+items2.size=ms'.length+items.size/\R (.ok (.ret (.bool (lexLt ns' ms')))) ⟨hp,g,d,tk,os⟩) _
  case turn=>
   rintro ⟨y,x⟩ rest b s' ⟨hb',rfl,vs,ws,ns',ms',hz,hvi,hwi,aje,hR⟩;cases hvi with
   | nil=>rw [List.zip_nil_left] at hz;cases hz
   | cons a t hvi'=>
    cases hwi with
    | nil=>rw [List.zip_nil_right] at hz;cases hz
    | cons c u hwi'=>
     rw [U7] at hz;injection hz with hyx hrest
     injection hyx with hy hx
     subst hy hx;rw [ady] at hR;simp only [K7] at aje;obtain ⟨e,he,hiff⟩:=aee A.in1 ⟨hp,g,d,tk,os⟩ a t c u;refine CN<|he prog w _ _ ?_
     cases e with
     | true=>
      rw [if_pos (hiff.mp rfl)] at hR
      wp_walk
      exact ⟨rfl,rfl,_,_,_,_,hrest,hvi',hwi',by lia,hR⟩
     | false=>
      rw [if_neg (fun q=>absurd (hiff.mpr q) Lw)] at hR;have hri:=afn A.in1 ⟨hp,g,d,tk,os⟩ a t c u prog w
      wp_walk using hri
      exact ⟨_,rfl,by simpa using hR⟩
  case fin=>
   rintro ⟨b1,b2⟩ s' ⟨hb',rfl,vs,ws,ns',ms',hz,hvi,hwi,aje,hR⟩;simp only at hb';subst hb';have hv:lexLt ns' ms'=decide (items.size<items2.size):=by
    cases hvi with
    | nil=>
     cases hwi with
     | nil=>
      simp only [WX] at aje;rw [vB];exact (decide_eq_false<|by lia).symm
     | cons c u hw=>
      simp only [WX,K7] at aje;rw [rH];exact (decide_eq_true<|by lia).symm
    | cons a t hv=>
     cases hwi with
     | nil=>
      simp only [WX,K7] at aje;rw [rN];exact (decide_eq_false<|by lia).symm
     | cons c u hw=>
      rw [U7] at hz;cases hz
   rw [hv] at hR
   wp_walk
   exact ⟨_,rfl,by simpa [Builtin.Tuple.tupleCompareSizes] using hR⟩
  case h=>
   exact ⟨rfl,rfl,items.toList,items2.toList,ns,ms,rfl,hi,hj,by lia,h⟩
end
section
variable {prog:Ei}{w:Dq}{A:FZ}{E:Mk->AP->Prop}{s:AP}
theorem rZ {l b:Addr}{items items2:Array Mk}{ns ms:List Int}{Q:Mk->AP->Prop}(hl:IsTup s.heap l items)(hb:IsTup s.heap b items2)(hi:N6 items.toList ns)(hj:N6 items2.toList ms)
  (hu:A.units<JQ) (h:Q (.bool (lexLt ns ms)) s):Cu (Cp prog w) A (Ku .Lt (.ref l) (.ref b)) Q E s:=by
 obtain ⟨⟨cls,dd,data,sl⟩,ho,hc,n,hd⟩:=id hl;obtain ⟨⟨cls2,dd2,data2,sl2⟩,ho2,hc2,n2,hd2⟩:=id hb;simp only at hc hd hc2 hd2;subst hc hd hc2 hd2;exact richCompare_meets_room (op:=.Lt) ⟨_,ho,rfl⟩ ⟨_,ho2,rfl⟩ PySem.F.slot_tuple_lt PySem.F.entry_tuple_lt (PySem.F.args_tuple_lt_2 _ _) (tE l b items items2 n n2 dd dd2 sl sl2 ns ms hi hj)
  ⟨ho,ho2,show Value.bool (lexLt ns ms)≠Value.notImplemented/\Q (.bool (lexLt ns ms)) s from ⟨(fun x=>nomatch x),h⟩⟩ hu
theorem Tv {t b:Addr}{vs ws:List Mk}{Q:Mk->AP->Prop}(ht:IsTup s.heap t vs.toArray)(hb:IsTup s.heap b ws.toArray)(hv:vs≠[])
  (h1:ws=[]->Q (.ref t) s) (h2:ws≠[]->Q (.ref s.heap.objs.size) { s with heap:=s.heap.push { cls:=.type "tuple",data:=.seq (vs++ws).toArray } })
  (hsz:vs.length+ws.length<=FP):Cu (Cp prog w) A (Lj .Add (.ref t) (.ref b)) Q E s:=by
 obtain ⟨⟨cls,dd,data,sl⟩,ho,hc,n,hd⟩:=id ht;obtain ⟨⟨cls2,dd2,data2,sl2⟩,ho2,hc2,n2,hd2⟩:=id hb;simp only at hc hd hc2 hd2;subst hc hd hc2 hd2;have e:vs.toArray++ws.toArray=(vs++ws).toArray:=by simp
 by_cases hw:ws=[]
 ·exact concat_meets ⟨_,ho,rfl⟩ ⟨_,ho2,rfl⟩ noFill_tuple_add seq_tuple_add PySem.F.slot_tuple_add PySem.F.entry_tuple_add (PySem.F.args_tuple_add_2 _ _)
   (tuple_addW1 t b vs.toArray ws.toArray n n2 dd dd2 sl sl2 (by simpa using hv) (by simp [hw])) ⟨ho,ho2,h1 hw⟩
 ·refine concat_meets ⟨_,ho,rfl⟩ ⟨_,ho2,rfl⟩ noFill_tuple_add seq_tuple_add PySem.F.slot_tuple_add PySem.F.entry_tuple_add (PySem.F.args_tuple_add_2 _ _)
   (tuple_addW2 t b vs.toArray ws.toArray n n2 dd dd2 sl sl2 (by simpa using hv) (by simpa using hw) (by rw [Jl,Jl];exact hsz)) ⟨ho,ho2,?_⟩
  rw [e];exact h2 hw
def sIx (n d:Nat):Option Int->Nat
 | none=>d
 | some v=>if v<0 then (v+(n:Int)).toNat else min v.toNat n
theorem Kh (n d:Nat):sIx n d FX=d:=rfl
theorem RZ (n d k:Nat):sIx n d (FN (k:Int))=min k n:=by
 show (if (k:Int)<0 then ((k:Int)+(n:Int)).toNat else min (k:Int).toNat n)=min k n;rw [if_neg (by lia),Vl]
theorem afZ (n d:Nat)(hd:d<=n)(o:Option Int):sIx n d o<=n:=by
 cases o with
 | none=>exact hd
 | some v=>
  show (if v<0 then (v+(n:Int)).toNat else min v.toNat n)<=n;by_cases hv:v<0
  ·rw [if_pos hv];lia
  ·rw [if_neg hv];exact Nat.min_le_right _ _
theorem JT (v:Int)(n d:Nat):(if v<0 then max (v+(n:Int)) 0 else min v (n:Int))=((sIx n d (FN v):Nat):Int):=by
 show (if v<0 then max (v+(n:Int)) 0 else min v (n:Int))=(((if v<0 then (v+(n:Int)).toNat else min v.toNat n):Nat):Int);by_cases hv:v<0
 ·simp only [if_pos hv];lia
 ·simp only [if_neg hv];lia
theorem aeb (lo hi:Option Int)(n:Nat):Builtin.Slice.sliceAdjust lo hi 1 (n:Int)=(((sIx n 0 lo:Nat):Int),((sIx n n hi:Nat):Int)):=by
 have h1:¬ ((1:Int)<0):=by lia
 unfold Builtin.Slice.sliceAdjust;simp only [h1,if_false];refine Prod.ext ?_ ?_
 ·cases lo with
  | none=>rfl
  | some v=>exact JT v n 0
 ·cases hi with
  | none=>rfl
  | some v=>exact JT v n n
theorem zaj (i j:Nat):X7 (i:Int) (j:Int) 1=j - i:=by
 unfold X7;have h1:(1:Int)>0:=by lia
 simp only [h1,if_true,Int.ediv_one];split <;> lia
theorem rO {v:Mk}{o:Option Int}{Q:Option Int->AP->Prop}(p:IsPart v o)(h:Q o s):Cu (Cp prog w) A (Builtin.Slice.slicePartIndex v) Q E s:=by
 cases p with
 | none=>exact slicePart_none h
 | int i t=>exact slicePart_int h
theorem iQ {sl:Addr}{vl vu:Mk}{lo hi:Option Int}{n:Nat}{Q:Int×Int×Nat->AP->Prop}(hs:s.heap.IsSliceOf sl vl vu .none)(pl:IsPart vl lo)(pu:IsPart vu hi)
  (h:Q (((sIx n 0 lo:Nat):Int),1,sIx n n hi - sIx n 0 lo) s):Cu (Cp prog w) A (Builtin.Slice.sliceApplied (.ref sl) (pure (n:Int))) Q E s:=by
 obtain ⟨os,hos,hcs,hds⟩:=id hs;unfold Builtin.Slice.sliceApplied Builtin.Slice.sliceFields;refine CN<|CN<|M9 hos hds (x:=vl) rfl<|CN<|M9 hos hds (x:=vu) rfl<|CN<|M9 hos hds (x:=.none) rfl<|Cz ?_
 refine CN<|slicePart_none ?_
 show Cu _ _ (if ((1:Int)==0)=true then _ else _) _ _ s;rw [if_neg (by decide)];refine CN<|rO pl<|CN<|rO pu<|CN<|Cz ?_
 show Cu _ _ (match Builtin.Slice.sliceAdjust lo hi 1 (n:Int) with | (lo,hi)=>pure (lo,(1:Int),X7 lo hi 1)) _ _ s;rw [aeb lo hi n];show Cu _ _ (pure (((sIx n 0 lo:Nat):Int),(1:Int),X7 ((sIx n 0 lo:Nat):Int) ((sIx n n hi:Nat):Int) 1)) _ _ s;rw [zaj];exact Cz h
theorem adR (xs:Array Mk)(i k:Nat):((Ma k).filterMap fun (m:Nat)=>xs[((i:Int)+(m:Int)*1).toNat]?).toArray=((xs.toList.drop i).take k).toArray:=by
 have e:(fun (m:Nat)=>xs[((i:Int)+(m:Int)*1).toNat]?)=fun m=>xs[i+m]?:=by
  funext m;have:((i:Int)+(m:Int)*1).toNat=i+m:=by lia
  rw [this]
 rw [e];have:=pick_run xs i k
 rw [List.filterMap_map] at this;have e2:((fun x=>xs[x]?) ∘ fun x=>i+x)=fun m=>xs[i+m]?:=rfl
 rw [e2] at this;rw [this]
theorem ni {t sl:Addr}{items:Array Mk}{vl vu:Mk}{lo hi:Option Int}{Q:Mk->AP->Prop}(ht:IsTup s.heap t items)(hs:s.heap.IsSliceOf sl vl vu .none)(pl:IsPart vl lo)(pu:IsPart vu hi)
  (hw:¬ (sIx items.size 0 lo=0/\sIx items.size items.size hi=items.size))
  (h:Q (.ref s.heap.objs.size) { s with heap:=s.heap.push { cls:=.type "tuple",data:=.seq ((items.toList.drop (sIx items.size 0 lo)).take (sIx items.size items.size hi - sIx items.size 0 lo)).toArray } })
  (hsz:items.size<=FP):Cu (Cp prog w) A (getItem (.ref t) (.ref sl)) Q E s:=by
 have htake:sizeOk (.seq ((items.toList.drop (sIx items.size 0 lo)).take (sIx items.size items.size hi - sIx items.size 0 lo)).toArray):=by
  show ((items.toList.drop (sIx items.size 0 lo)).take (sIx items.size items.size hi - sIx items.size 0 lo)).toArray.size<=FP;rw [Jl,Qh,List.length_drop,Ua];lia
 have hj:sIx items.size items.size hi<=items.size:=afZ _ _ (Dg _) hi;obtain ⟨os,hos,hcs,hds⟩:=id hs;have hTs:s.TypeIs (.ref sl) "slice":=⟨os,hos,hcs⟩
 unfold getItem;try with_reducible refine NK ?_
 first | refine CN (Cz ?_) | skip
 refine CN<|wpAny_sequenceKey ht.typeIs (by decide) ?_
 refine CN (T7 (name:=Sx "__getitem__") ht.typeIs Vs
  (R7 Vs ht.typeIs entry_tuple_getitem ?_ (args_tuple_getitem _ _)))
 show Cu _ _ (Builtin.Tuple.tupleItemsOf (.ref t) >>= _) _ _ s;refine CN<|tupleItemsOf_ ht ?_
 refine CN<|Qn hTs ?_
 rw [if_pos (by decide)];refine CN<|iQ hs pl pu ?_
 have hno:¬ ((((sIx items.size 0 lo:Nat):Int)==0&&(1:Int)==1&&(sIx items.size items.size hi - sIx items.size 0 lo)==items.size)=true):=by
  intro q;rw [Nk,Nk] at q;have q1:((sIx items.size 0 lo:Nat):Int)=0:=eq_of_beq q.1.1;have q2:sIx items.size items.size hi - sIx items.size 0 lo=items.size:=eq_of_beq q.2;exact hw ⟨by lia,by lia⟩
 show Cu _ _ (if (((sIx items.size 0 lo:Nat):Int)==0&&(1:Int)==1&&(sIx items.size items.size hi - sIx items.size 0 lo)==items.size)=true then _ else _) _ _ s;rw [if_neg hno,adR];first
  | exact CN (m:=Ue _) (NP (Cz ⟨_,rfl,Cz h⟩) htake)
  | exact CN (m:=Ue _) (NP (CN (Cz (Cz ⟨_,rfl,Cz h⟩))) htake)
  | exact CN (CN (m:=Ue _) (NP (Cz (Cz ⟨_,rfl,Cz h⟩)) htake))
  | exact CN (CN (m:=Ue _) (NP (Cz ⟨_,rfl,Cz h⟩) htake))
end
end HT
variable {ns : List Int}
namespace L2
open PySem PySem.Spec PyProof.Rows
abbrev TO:=St->Hp->(Option Int->Hp->Prop)->Prop
def PO (X:Cx)(e:Option Expr)(t:TO):Prop:=
 ∀ (ajd:List (Addr×Obj)) (s:AP) (Z : St) (H:Hp) (Q:Option Int->Hp->Prop),CQ X ajd Z H s->t Z H Q ->
  Cu (Cp X.prog X.w) X.A (evalPart e X.env) (fun u s'=>∃ o H',CQ X ajd Z H' s'/\IsPart u o/\Q o H') X.xe s
def ahp:TO:=fun _ H Q=>Q FX H
def Zv (t:TE):TO:=fun Z H Q=>t Z H fun x H1=>∃ i,x=.int i/\Q (FN i) H1
theorem intsAre_of:∀ {us:List Mk},CR (ns.map V.int) us->N6 us ns:=by
 induction ns with
 | nil=>intro us r;rw [KJ] at r;cases r;exact .nil
 | cons n ns ih=>
  intro us r;rw [DY] at r;cases r with
  | cons r1 r2=>
   obtain ⟨t,e⟩:=r1;subst e;exact .cons n t<|ih r2
section
variable {X:Cx}{e:Expr}{te:TE}{lo hi:Option Expr}{tl th:TO}{pos p2:Pos}
theorem zbK:PO X FX ahp:=by
 intro ajd s Z H Q I h;rw [evalPart_none];exact Cz ⟨FX,H,I,.none,h⟩
theorem agi (h:PE X e te):PO X (FN e) (Zv te):=by
 intro ajd s Z H Q I hw;rw [evalPart_some];refine Fz (h ajd s Z H _ I hw) fun u s1 ⟨x,H1,I1,r1,q1⟩=>?_;obtain ⟨i,rfl,q⟩:=q1;obtain ⟨t,rfl⟩:=r1;exact ⟨FN i,H1,I1,.int i t,q⟩
def RL (X:Cx)(r:V->Option Int->Option Int->Hp->VK->Prop):Prop:=
 ∀ (ajd:List (Addr×Obj)) (s:AP) (Z : St) (H:Hp) (x:V) (v vl vu:Mk) (lo hi:Option Int) (sl:Addr) (Q:VK),CQ X ajd Z H s->RelV x v->s.heap.IsSliceOf sl vl vu .none->IsPart vl lo->IsPart vu hi->r x lo hi H Q ->
  ∃ T id,typeLookup (.type T) "__getitem__" = pure (FN (.builtin id))/\s.TypeIs v T/\Cu (Cp X.prog X.w) X.A (getItem v (.ref sl)) (EP X ajd Z Q) X.xe s
theorem RL.or {r r':V->Option Int->Option Int->Hp->VK->Prop}(h:RL X r)(h':RL X r'):RL X (fun x lo hi H Q=>r x lo hi H Q\/r' x lo hi H Q):=by
 intro ajd s Z H x v vl vu lo hi sl Q I rx hs pl pu q;rcases q with q | q
 ·exact h ajd s Z H x v vl vu lo hi sl Q I rx hs pl pu q
 ·exact h' ajd s Z H x v vl vu lo hi sl Q I rx hs pl pu q
def tSl (r:V->Option Int->Option Int->Hp->VK->Prop)(te:TE)(tl th:TO):TE:=fun Z H Q=>te Z H fun x H1=>tl Z H1 fun l H2=>th Z H2 fun u H3=>r x l u H3 Q
theorem aeK {r:V->Option Int->Option Int->Hp->VK->Prop}(hr:RL X r)(he:PE X e te)(hl:PO X lo tl)(hu:PO X hi th):PE X (.Subscript e (.Slice lo hi FX p2) pos) (tSl r te tl th):=by
 intro ajd s Z H Q I h;refine Subscript_<|Fz (he ajd s Z H _ I h) fun v s1 ⟨x,H1,I1,r1,q1⟩=>?_
 refine wpAny_Slice<|Fz (hl ajd s1 Z H1 _ I1 q1) fun vl s2 ⟨l,H2,I2,pl,q2⟩=>Fz (hu ajd s2 Z H2 _ I2 q2) fun vu s3 ⟨u,H3,I3,pu,q3⟩=>?_
 rw [evalPart_none];refine Cz ?_;have I4:CQ X ajd Z H3 { s3 with heap:=s3.heap.push { cls:=.type "slice",data:=.fields #[vl,vu,.none] } }:=I3.kept (t':=s3.toks) fun b ob q=>GD _ q
 obtain ⟨T,id,hT,ht,hg⟩:=hr ajd { s3 with heap:=s3.heap.push { cls:=.type "slice",data:=.fields #[vl,vu,.none] } } Z H3 x v vl vu l u s3.heap.objs.size Q I4 r1 (Heap.IsSliceOf.new ..) pl pu q3;show Cu (Cp X.prog X.w) X.A (subscriptTail e (.Slice lo hi FX p2) v (.ref s3.heap.objs.size)) (EP X ajd Z Q) X.xe { s3 with heap:=s3.heap.push { cls:=.type "slice",data:=.fields #[vl,vu,.none] } };exact tail_any (ops:=[.ref s3.heap.objs.size,v]) ht hT hg<|by with_unfolding_all rfl
def K3 (xs:List V)(lo hi:Option Int):List V:=(xs.drop (HT.sIx xs.length 0 lo)).take (HT.sIx xs.length xs.length hi - HT.sIx xs.length 0 lo)
theorem pW (xs:List V)(lo hi:Option Int):(K3 xs lo hi).length<=xs.length:=by
 unfold K3;rw [Qh,List.length_drop];lia
def acO (K:CT):V->Option Int->Option Int->Hp->VK->Prop:=fun x lo hi H Q=>∃ a xs,x=.ref a/\HJ K H a xs /\
 ¬ (HT.sIx xs.length 0 lo=0/\HT.sIx xs.length xs.length hi=xs.length)/\∀ p,H p=FX->Q (.ref p) (FQ H p (.tup (K3 xs lo hi)))
theorem ahB:RL X (acO X.K):=by
 intro ajd s Z H x v vl vu lo hi sl Q I rx hs pl pu h;obtain ⟨a,xs,rfl,hx,hw,q⟩:=h;cases rx;obtain ⟨its,r,ht,hz⟩:=I.tuple hx;have aje:its.toArray.size=xs.length:=by rw [Jl];exact r.length.symm
 refine ⟨"tuple",_,Vs.lookup,ht.typeIs,?_⟩;refine HT.ni ht hs pl pu (by rw [aje];exact hw) ?_ (by rw [aje];exact hz);rw [aje];refine ⟨.ref s.heap.objs.size,_,I.laid (t':=s.toks) (o:=.tup (K3 xs lo hi)) (fun b ob q=>GD _ q) (Dg _) ?_,rfl,q _<|I.hok.fresh<|Dg _⟩;exact ⟨Dk (pW xs lo hi) hz,_,(r.drop<|HT.sIx xs.length 0 lo).take (HT.sIx xs.length xs.length hi - HT.sIx xs.length 0 lo),Gn.new _ _⟩
def ac6 (K:CT):R2:=fun x y H Q=>∃ a b ns ms,x=.ref a/\y=.ref b/\HJ K H a (ns.map V.int)/\HJ K H b (ms.map V.int)/\Q (.bl (HT.lexLt ns ms)) H
theorem ahr (hu:X.A.units<JQ):K8 X (Ku .Lt) (ac6 X.K):=by
 intro ajd s Z H x y v u Q I rx ry h;obtain ⟨a,b,ns,ms,rfl,rfl,ha,hb,q⟩:=h;cases rx;cases ry;obtain ⟨its,r1,p1,_⟩:=I.tuple ha;obtain ⟨its2,r2,p2,_⟩:=I.tuple hb;have i1:N6 its.toArray.toList ns:=intsAre_of r1;have i2:N6 its2.toArray.toList ms:=intsAre_of r2;exact HT.rZ p1 p2 i1 i2 hu ⟨.bl<|HT.lexLt ns ms,H,I,rfl,q⟩
def aac (K:CT):R2:=fun x y H Q=>∃ a b xs ys,x=.ref a/\y=.ref b/\HJ K H a xs/\HJ K H b ys/\xs≠[]/\xs.length+ys.length<=FP /\
 (ys=[]->Q (.ref a) H)/\(ys≠[]->∀ p,H p=FX->Q (.ref p) (FQ H p (.tup (xs++ys))))
theorem CR.nil_iff {xs:List V}{us:List Mk}(r:CR xs us):us=[]↔xs=[]:=by
 cases r with
 | nil=>simp
 | cons _ _=>simp
theorem ahu:K8 X (Lj .Add) (aac X.K):=by
 intro ajd s Z H x y v u Q I rx ry h;obtain ⟨a,b,xs,ys,rfl,rfl,ha,hb,hx,hz,q1,q2⟩:=h;cases rx;cases ry;obtain ⟨its,r1,p1,_⟩:=I.tuple ha;obtain ⟨its2,r2,p2,_⟩:=I.tuple hb;refine HT.Tv p1 p2 (fun z=>hx<|r1.nil_iff.mp z) (fun z=>⟨.ref a,H,I,rfl,q1<|r2.nil_iff.mp z⟩) (fun z=>?_) (by rw [<-r1.length,<-r2.length];exact hz);refine ⟨.ref s.heap.objs.size,_,I.laid (t':=s.toks) (o:=.tup (xs++ys)) (fun b ob q=>GD _ q) (Dg _) ?_,rfl,q2 (fun w=>z<|r2.nil_iff.mpr w) _<|I.hok.fresh<|Dg _⟩;exact ⟨by rw [Jt];exact hz,_,r1.append r2,Gn.new _ _⟩
end
def QM (n:Nat)(i:Int):Option Nat:=if 0<=i then (if i<n then FN i.toNat else FX) else if -(n:Int)<=i then FN (i+n).toNat else FX
def Lz {α : Type}(xs:List α)(i:Int):Option α:=(QM xs.length i).bind fun j=>xs[j]?
theorem Jp {n:Nat}{i:Int}{j:Nat}(h:QM n i=FN j):seqIndex? i n=FN j/\j<n/\-(n:Int)<=i/\i<n:=by
 unfold QM at h;by_cases h0:0<=i
 ·rw [if_pos h0] at h;by_cases h1:i<n
  ·rw [if_pos h1] at h;have e:i.toNat=j:=Gz h;exact ⟨by rw [seqIndex_of h0 h1,e],by lia,by lia,h1⟩
  ·rw [if_neg h1] at h;cases h
 ·rw [if_neg h0] at h;by_cases h1:-(n:Int)<=i
  ·rw [if_pos h1] at h;have e:(i+n).toNat=j:=Gz h;exact ⟨by rw [seqIndex_neg (by lia) h1,e],by lia,h1,by lia⟩
  ·rw [if_neg h1] at h;cases h
theorem zF {α : Type}{xs:List α}{i:Int}{v:α}(h:Lz xs i=FN v):∃ j,seqIndex? i xs.length=FN j/\xs[j]?=FN v/\j<xs.length/\-(xs.length:Int)<=i/\i<xs.length:=by
 unfold Lz at h;cases e:QM xs.length i with
 | none=>rw [e] at h;cases h
 | some j=>
  rw [e] at h;obtain ⟨h1,h2,h3,h4⟩:=Jp e;exact ⟨j,h1,h,h2,h3,h4⟩
theorem bK {α : Type}{xs:List α}{j:Nat}{v:α}(h:xs[j]?=FN v):Lz xs (j:Int)=FN v:=by
 have hj:j<xs.length:=(Lk.mp h).1;have e:QM xs.length (j:Int)=FN j:=by
  unfold QM;rw [if_pos (by lia),if_pos (by lia)];simp
 unfold Lz;rw [e];exact h
def yh (b:Expr):Prop:=∀ o i,subscripted b false o i=operate [o,i] (getItem o i)
def S7 (X:Cx)(r:R2):Prop:=
 ∀ (value slice:Expr) (ajd:List (Addr×Obj)) (s:AP) (Z : St) (H:Hp) (x y:V) (v u:Mk) (Q:VK),CQ X ajd Z H s->RelV x v->RelV y u->r x y H Q ->
  subscripted slice false v u=operate [v,u] (getItem v u)->Cu (Cp X.prog X.w) X.A (subscriptTail value slice v u) (EP X ajd Z Q) X.xe s
def MtR (X:Cx)(id:String)(r:V->List V->Hp->VK->Prop):Prop:=
 ∀ (ajd:List (Addr×Obj)) (s:AP) (Z : St) (H:Hp) (x:V) (xs:List V) (v:Mk) (us:List Mk) (Q:VK),CQ X ajd Z H s->RelV x v->CR xs us->r x xs H Q ->
  Cu (Cp X.prog X.w) X.A (call (.builtin id) (v::us)) (EP X ajd Z Q) X.xe s
section
variable {X:Cx}{a b:Expr}{ta tb:TE}{pos:Pos}
theorem S7.or {r r':R2}(h:S7 X r)(h':S7 X r'):S7 X (fun x y H Q=>r x y H Q\/r' x y H Q):=by
 intro value slice ajd s Z H x y v u Q I rx ry q hs;rcases q with q | q
 ·exact h value slice ajd s Z H x y v u Q I rx ry q hs
 ·exact h' value slice ajd s Z H x y v u Q I rx ry q hs
theorem Zy {r:R2}(hr:S7 X r)(ha:PE X a ta)(hb:PE X b tb)(hs:yh b):PE X (.Subscript a b pos) (tOp r ta tb):=by
 intro ajd s Z H Q I h;exact Subscript_<|aaU ha hb I h fun v u s2 x y H2 I2 rx ry q=>hr a b ajd s2 Z H2 x y v u Q I2 rx ry q<|hs _ _
def abI (K:CT):R2:=fun x y H Q=>∃ p xs i v,x=.ref p/\y=.int i/\Jy K H p xs/\Lz xs i=FN v/\Q v H
def abC (K:CT):R2:=fun x y H Q=>∃ p xs i v,x=.ref p/\y=.int i/\HJ K H p xs/\Lz xs i=FN v/\Q v H
def ab4:R2:=fun x y H Q=>∃ z i c,x=.str z/\y=.int i/\z.length<=FP/\Lz z.cps.toList i=FN c/\Q (.str ⟨#[c]⟩) H
theorem zbt:S7 X (abI X.K):=by
 intro value slice ajd s Z H x y v u Q I rx ry h hs;obtain ⟨p,xs,i,z,rfl,rfl,hq,he,q⟩:=h;cases rx;obtain ⟨t,rfl⟩:=ry;obtain ⟨its,r,pl,hz⟩:=I.list hq;obtain ⟨j,h1,h2,h3,h4,h5⟩:=zF he;obtain ⟨w,ew,rw'⟩:=r.get h2;have hl:=r.length;have hn:=sG;have fin:EP X ajd Z Q w s:=⟨z,H,I,rw',q⟩
 by_cases h0:0<=i
 ·have hj:i.toNat=j:=by
   rw [seqIndex_of h0 h5] at h1;exact Gz h1
  exact item_listR pl.isList h0 (by lia) (by rw [hj];simpa using ew) fin hs
 ·have hj:(i+(its.toArray.size:Int)).toNat=j:=by
   rw [seqIndex_neg (by lia) h4] at h1;rw [Jl,<-hl];exact Gz h1
  exact subscriptTail_builtinR (x:=w) pl.isList.typeIs slot_list_getitem.lookup
   (wpAny_getItem_list_neg (Q:=fun r s'=>r=w/\EP X ajd Z Q r s') pl.isList (by lia) (by rw [Jl] <;> lia) (by lia) (by rw [hj];simpa using ew) ⟨rfl,fin⟩) hs
theorem Yl:S7 X (abC X.K):=by
 intro value slice ajd s Z H x y v u Q I rx ry h hs;obtain ⟨p,xs,i,z,rfl,rfl,hq,he,q⟩:=h;cases rx;obtain ⟨t,rfl⟩:=ry;obtain ⟨its,r,pl,hz⟩:=I.tuple hq;obtain ⟨j,h1,h2,h3,h4,h5⟩:=zF he;obtain ⟨w,ew,rw'⟩:=r.get h2;have hl:=r.length;have hn:=sG;have fin:EP X ajd Z Q w s:=⟨z,H,I,rw',q⟩
 exact subscriptTail_builtinR (x:=w) pl.typeIs slot_tuple_getitem.lookup
  (getItem_tuple (j:=j) (Q:=fun r s'=>r=w/\EP X ajd Z Q r s') pl (by lia) (by lia) (by rw [Jl,<-hl];exact h1) (by simpa using ew) ⟨rfl,fin⟩) hs
theorem ahC:S7 X ab4:=by
 intro value slice ajd s Z H x y v u Q I rx ry h hs;obtain ⟨z,i,c,rfl,rfl,hz,he,q⟩:=h;obtain ⟨t,rfl⟩:=rx;obtain ⟨t',rfl⟩:=ry;obtain ⟨j,h1,h2,h3,h4,h5⟩:=zF he;have hl:z.cps.toList.length=z.length:=by simp [Str.length]
 rw [hl] at h1 h4 h5;have hn:=sG;exact tail_any (typeIs_str s z t) slot_str_getitem.lookup (getItem_str (c:=c) (by
  have e1:decide (i < -(2^63:Int))=false:=decide_eq_false (by lia);have e2:decide (i>=2^63)=false:=decide_eq_false (by lia);rw [e1,e2,Bool.or_false]) (by rw [h1];simpa using h2) ⟨.str ⟨#[c]⟩,H,I.tok _,⟨_,rfl⟩,q⟩) hs
def rIx (K:CT):R2:=fun x y H Q=>abI K x y H Q\/abC K x y H Q\/ab4 x y H Q
theorem agr:S7 X (rIx X.K):=zbt.or (Yl.or ahC)
theorem aea (its:List Mk)(n j:Nat)(u:Mk):SX (·.setIfInBounds j u) { cls:=.type "list",data:=.seq its.toArray n } = { cls:=.type "list",data:=.seq (its.set j u).toArray n }:=by
 simp [SX]
theorem CQ.lst {ajd:List (Addr×Obj)}{Z : St}{H:Hp}{s:AP}{p:Addr}{xs:List V}(I:CQ X ajd Z H s)(h:H p=FN (.lst xs)) :
  ∃ (its:List Mk) (n:Nat),CR xs its/\s.heap.get? p=FN { cls:=.type "list",data:=.seq its.toArray n }/\xs.length<=FP:=by
 obtain ⟨z,its,n,r,e⟩:=I.hok p _ h;exact ⟨its,n,r,e,z⟩
theorem CQ.lstUpd {ajd:List (Addr×Obj)}{Z : St}{H:Hp}{s:AP}{p:Addr}{xs ys:List V}{its its':List Mk}{n n':Nat}{f:Obj->Obj}(I:CQ X ajd Z H s)(h:H p=FN (.lst xs))
  (ho:s.heap.get? p=FN { cls:=.type "list",data:=.seq its.toArray n }) (hf:f { cls:=.type "list",data:=.seq its.toArray n } = { cls:=.type "list",data:=.seq its'.toArray n' }) (r:CR ys its') (hz:ys.length<=FP) (t:Nat) :
  CQ X ajd Z (FQ H p (.lst ys)) { s with heap:=s.heap.update p f,toks:=t }:=by
 have e:(s.heap.update p f).get? p=FN { cls:=.type "list",data:=.seq its'.toArray n' }:=by
  rw [Vc f ho (by rw [hf] <;> rfl),hf]
 refine I.write (x:=p) (e:=p) (by rw [h];trivial) (.inl rfl) (fun b u hb q=>(Sy _ _<|Ji hb).trans q) ⟨_,e⟩ ?_;exact ⟨hz,its',n',r,e⟩
def WQ:V->V->V->Hp->(Hp->Prop)->Prop:=fun o i v H Q=>∃ p xs k j,o=.ref p/\i=.int k/\H p=FN (.lst xs)/\QM xs.length k=FN j/\Q (FQ H p (.lst (xs.set j v)))
theorem set_list:VL X WQ:=by
 intro ajd s Z H o i v ov iv u Q I ro ri rv h;obtain ⟨p,xs,k,j,rfl,rfl,hp,hj,q⟩:=h;cases ro;obtain ⟨t,rfl⟩:=ri;obtain ⟨its,n,r,ho,hz⟩:=I.lst hp;obtain ⟨h1,h2,h3,h4⟩:=Jp hj;have hl:=r.length;have hn:=sG;have I':CQ X ajd Z (FQ H p (.lst (xs.set j v))) { s with heap:=s.heap.update p (SX (·.setIfInBounds j u)) }:=
  I.lstUpd hp ho (aea its n j u) (r.set rv j) (by rw [List.length_set];exact hz) s.toks
 by_cases h0:0<=k
 ·have hk:k.toNat=j:=by
   rw [seqIndex_of h0 h4] at h1;exact Gz h1
  exact PySem.W.ki_setAt ho h0 (by lia) (by rw [Jl,<-hl];exact h4) (by rw [hk];exact ⟨_,I',q⟩)
 ·have hk:(k+(its.toArray.size:Int)).toNat=j:=by
   rw [seqIndex_neg (by lia) h3] at h1;rw [Jl,<-hl];exact Gz h1
  exact PySem.W.ki_setBack ho (by lia) (by rw [Jl,<-hl];exact h3) (by lia) (by rw [hk];exact ⟨_,I',q⟩)
theorem wR (lo hi:Option Int)(n:Nat):(Uk lo hi FX n).1=((HT.sIx n 0 lo:Nat):Int)/\(Uk lo hi FX n).2.1=((HT.sIx n n hi:Nat):Int)/\(Uk lo hi FX n).2.2=1:=by
 refine ⟨?_,?_,rfl⟩
 ·cases lo with
  | none=>simp [Uk,HT.sIx]
  | some i=>
   simp only [Uk,HT.sIx,Option.getD_none,show (1:Int)>0 by decide,if_true];by_cases h:i<0
   ·simp only [h,if_true] <;> lia
   ·simp only [h,if_false] <;> lia
 ·cases hi with
  | none=>simp [Uk,HT.sIx]
  | some i=>
   simp only [Uk,HT.sIx,Option.getD_none,show (1:Int)>0 by decide,if_true];by_cases h:i<0
   ·simp only [h,if_true] <;> lia
   ·simp only [h,if_false] <;> lia
theorem tQ (its:List Mk)(lo hi:Option Int):slicePick its.toArray lo hi FX=((its.drop (HT.sIx its.length 0 lo)).take (HT.sIx its.length its.length hi - HT.sIx its.length 0 lo)).toArray:=by
 obtain ⟨h1,h2,h3⟩:=wR lo hi its.toArray.size;unfold slicePick;rw [h1,h2,h3];simp only [sliceRange_one,pick_run,Jl] <;> rfl
def acW (K:CT):V->Option Int->Option Int->Hp->VK->Prop:=fun x lo hi H Q=>∃ a xs,x=.ref a/\Jy K H a xs/\∀ p,H p=FX->Q (.ref p) (FQ H p (.lst (K3 xs lo hi)))
theorem ahe:RL X (acW X.K):=by
 intro ajd s Z H x v vl vu lo hi sl Q I rx hs pl pu h;obtain ⟨a,xs,rfl,hx,q⟩:=h;cases rx;obtain ⟨its,r,ht,hz⟩:=I.list hx;have aje:=r.length;refine ⟨"list",_,slot_list_getitem.lookup,ht.isList.typeIs,?_⟩;refine wpAny_getItem_list_slice ht.isList hs pl pu .none (by simp) ?_ (by rw [Jl] <;> lia);rw [tQ,<-aje];refine ⟨.ref s.heap.objs.size,_,I.laid (t':=s.toks) (o:=.lst (K3 xs lo hi)) (fun b ob q=>GD _ q) (Dg _) ?_,rfl,q _<|I.hok.fresh<|Dg _⟩;exact ⟨Dk (pW xs lo hi) hz,_,0,(r.drop<|HT.sIx xs.length 0 lo).take (HT.sIx xs.length xs.length hi - HT.sIx xs.length 0 lo),K4 _ rfl⟩
def JN:V->Bool
 | .non=>true
 | .bl _=>true
 | .int _=>true
 | .str _=>true
 | _=>false
def eqV:V->V->Bool
 | .non,.non=>true
 | .bl a,.bl b=>a==b
 | .bl a,.int b=>(if a then 1 else 0)==b
 | .int a,.bl b=>a==(if b then 1 else 0)
 | .int a,.int b=>a==b
 | .str a,.str b=>a==b
 | _,_=>false
theorem agO {A:FZ}{s:AP}{y x:V}{u v:Mk}(ry:RelV y u)(rx:RelV x v)(fy:JN y=true)(fx:JN x=true):T8 A s u v (eqV y x):=by
 cases y with
 | non=>
  cases ry;cases x with
  | non=>cases rx;exact SeqAt.EqAt.same _
  | bl b=>cases rx;exact SeqAt.EqAt.none_bool b
  | int b=>obtain ⟨t,rfl⟩:=rx;exact SeqAt.EqAt.none_int b t
  | str b=>obtain ⟨t,rfl⟩:=rx;exact SeqAt.EqAt.none_str b t
  | _=>exact absurd (show false=true from fx) Lw
 | bl a=>
  cases ry;cases x with
  | non=>cases rx;exact SeqAt.EqAt.bool_none a
  | bl b=>cases rx;exact SeqAt.EqAt.bool_bool a b
  | int b=>obtain ⟨t,rfl⟩:=rx;exact SeqAt.EqAt.bool_int a b t
  | str b=>obtain ⟨t,rfl⟩:=rx;exact SeqAt.EqAt.bool_str a b t
  | _=>exact absurd (show false=true from fx) Lw
 | int a=>
  obtain ⟨t',rfl⟩:=ry;cases x with
  | non=>cases rx;exact SeqAt.EqAt.int_none a t'
  | bl b=>cases rx;exact SeqAt.EqAt.int_bool a t' b
  | int b=>obtain ⟨t,rfl⟩:=rx;exact SeqAt.EqAt.int_int a t' b t
  | str b=>obtain ⟨t,rfl⟩:=rx;exact SeqAt.EqAt.int_str a t' b t
  | _=>exact absurd (show false=true from fx) Lw
 | str a=>
  obtain ⟨t',rfl⟩:=ry;cases x with
  | non=>cases rx;exact SeqAt.EqAt.str_none a t'
  | bl b=>cases rx;exact SeqAt.EqAt.str_bool a t' b
  | int b=>obtain ⟨t,rfl⟩:=rx;exact SeqAt.EqAt.str_int a t' b t
  | str b=>obtain ⟨t,rfl⟩:=rx;exact SeqAt.EqAt.str_str a t' b t
  | _=>exact absurd (show false=true from fx) Lw
 | _=>exact absurd (show false=true from fy) Lw
theorem vJ:fX X (.builtin "len") (fun xs H Q=>∃ p ys,xs=[.ref p]/\(Jy X.K H p ys\/HJ X.K H p ys)/\Q (.int ys.length) H):=by
 intro ajd s Z H xs us Q I r h;obtain ⟨p,ys,rfl,hq,q⟩:=h;obtain ⟨u,rfl,rx⟩:=vals1 r;cases rx;have hn:=sG;rcases hq with hq | hq
 ·obtain ⟨its,r',pl,hz⟩:=I.list hq;have aje:=r'.length;exact Calls.call_len_list pl.isList (by simp only [Jl] <;> lia) ⟨.int ys.length,H,I.tok _,⟨s.toks+1,by rw [Jl,aje]⟩,q⟩
 ·obtain ⟨its,r',pl,hz⟩:=I.tuple hq;have aje:=r'.length;exact len_tuple pl (by simp only [Jl] <;> lia) ⟨.int ys.length,H,I.tok _,⟨s.toks+1,by rw [Jl,aje]⟩,q⟩
theorem fX.or {f:Mk}{r r':List V->Hp->VK->Prop}(h:fX X f r)(h':fX X f r'):fX X f (fun xs H Q=>r xs H Q\/r' xs H Q):=by
 intro ajd s Z H xs us Q I rs q;rcases q with q | q
 ·exact h ajd s Z H xs us Q I rs q
 ·exact h' ajd s Z H xs us Q I rs q
theorem xJ:fX X (.type "list") (fun xs H Q=>∃ p ys,xs=[.ref p]/\(Jy X.K H p ys\/HJ X.K H p ys)/\∀ l,H l=FX->Q (.ref l) (FQ H l (.lst ys))):=by
 intro ajd s Z H xs us Q I r h;obtain ⟨p,ys,rfl,hq,q⟩:=h;obtain ⟨u,rfl,rx⟩:=vals1 r;cases rx;have fin:∀ (its:List Mk),CR ys its->ys.length<=FP->∀ (h':Heap) (c':Nat),(∀ b o',s.heap.get? b=FN o'->h'.get? b=FN o') ->
   h'.get? s.heap.objs.size=FN { cls:=.type "list",dict:=FX,data:=.seq its.toArray c',slots:=#[] }->EP X ajd Z Q (.ref s.heap.objs.size) { s with heap:=h' }:=fun its r' hz h' c' kp e=>
  ⟨.ref s.heap.objs.size,_,I.laid (t':=s.toks) kp (Dg _) (show eE X.prog X.w _ h' _ (.lst ys) from ⟨hz,its,c',r',e⟩),rfl,q _ (I.hok.fresh (Dg _))⟩
 rcases hq with hq | hq
 ·obtain ⟨its,r',pl,hz⟩:=I.list hq;have aje:=r'.length;obtain ⟨o,ho,hc,n,hd⟩:=pl.isList;exact call_list_seq p (.inl rfl) ho hc hd (fun h' c' kp e=>fin its r' hz h' c' kp e) (by simp only [Jl] <;> lia)
 ·obtain ⟨its,r',pl,hz⟩:=I.tuple hq;have aje:=r'.length;obtain ⟨o,ho,hc,n,hd⟩:=pl;exact call_list_seq p (.inr rfl) ho hc hd (fun h' c' kp e=>fin its r' hz h' c' kp e) (by simp only [Jl] <;> lia)
theorem uh:fX X (.type "tuple") (fun xs H Q=>∃ p ys,xs=[.ref p]/\((Jy X.K H p ys/\∀ l,H l=FX->Q (.ref l) (FQ H l (.tup ys)))\/(HJ X.K H p ys/\Q (.ref p) H))):=by
 intro ajd s Z H xs us Q I r h;obtain ⟨p,ys,rfl,h⟩:=h;obtain ⟨u,rfl,rx⟩:=vals1 r;cases rx;rcases h with ⟨hq,q⟩ | ⟨hq,q⟩
 ·obtain ⟨its,r',pl,hz⟩:=I.list hq;have aje:=r'.length;refine call_tuple_list pl.isList (fun h' kp=>?_) (by simp only [Jl] <;> lia);have I1:CQ X ajd Z H { s with heap:=h' }:=I.kept (t':=s.toks) kp;have I2:CQ X ajd Z (FQ H h'.objs.size (.tup ys)) { s with heap:=h'.push { cls:=.type "tuple",data:=.seq its.toArray } }:=
   I1.laid (t':=s.toks) (fun b o e=>GD _ e) (Dg _) (show eE X.prog X.w _ _ _ (.tup ys) from ⟨hz,its,r',Gn.new _ _⟩)
  exact ⟨.ref h'.objs.size,_,I2,rfl,q _<|I1.hok.fresh<|Dg _⟩
 ·obtain ⟨its,r',pl,hz⟩:=I.tuple hq;exact call_tuple_same pl ⟨.ref p,H,I,rfl,q⟩
def tyV (K:CT)(T:String)(x:V)(H:Hp):Prop:=match x with
 | .str _=>T = "str"
 | .int _=>T = "int"
 | .ref p=>(T = "list"/\∃ xs,Jy K H p xs)\/(T = "tuple"/\∃ o,K.lookup p=FN o/\o.cls=.type "tuple"/\o.dict=FX) \/
   (T = "dict"/\((∃ kvs,H p=FN (.dK kvs))\/∃ kvs,H p=FN (.dT kvs)))\/(T = "set"/\∃ S n,H p=FN (.set S n))
 | _=>False
theorem afu {ajd:List (Addr×Obj)}{Z : St}{H:Hp}{s:AP}{T:String}{x:V}{v:Mk}(I:CQ X ajd Z H s)(r:RelV x v)(ty:tyV X.K T x H):
  s.TypeIs v T/\∀ a,v=.ref a->∃ ob,s.heap.get? a=FN ob/\ob.dict=FX:=by
 cases x with
 | str z=>
  obtain ⟨t,rfl⟩:=r;cases (show T = "str" from ty)
  exact ⟨typeIs_str s z t,fun _ e=>nomatch e⟩
 | int i=>
  obtain ⟨t,rfl⟩:=r;cases (show T = "int" from ty)
  exact ⟨typeIs_int s i t,fun _ e=>nomatch e⟩
 | ref p=>
  cases r;rcases ty with ⟨rfl,xs,hq⟩ | ⟨rfl,o,hk,hc,hd⟩ | ⟨rfl,hk⟩ | ⟨rfl,S,n,hk⟩
  ·obtain ⟨its,_,pl,_⟩:=I.list hq;refine ⟨pl.isList.typeIs,fun a e=>?_⟩;cases e;obtain ⟨o,n,e,c,hd,_⟩:=pl;exact ⟨o,e,hd⟩
  ·refine ⟨⟨o,I.kIn p o hk,hc⟩,fun a e=>?_⟩;cases e;exact ⟨o,I.kIn _ o hk,hd⟩
  ·have z:∃ o,s.heap.get? p=FN o/\o.ExactDict:=by
    rcases hk with ⟨kvs,hk⟩ | ⟨kvs,hk⟩
    ·obtain ⟨_,_,_,_,o,_,_,e,ex,_⟩:=I.hok p _ hk;exact ⟨o,e,ex⟩
    ·obtain ⟨_,_,_,_,o,_,_,e,ex,_⟩:=I.hok p _ hk;exact ⟨o,e,ex⟩
   obtain ⟨o,e,ex⟩:=z;refine ⟨⟨o,e,ex.1⟩,fun a e2=>?_⟩;cases e2;exact ⟨o,e,ex.2.1⟩
  ·obtain ⟨o,_,_,_,e,ex,_⟩:=I.hok p _ hk;refine ⟨⟨o,e,ex.1⟩,fun a e2=>?_⟩;cases e2;exact ⟨o,e,ex.2.1⟩
 | _=>exact Qz ty
def tBM (K:CT)(T:String)(r:V->List V->Hp->VK->Prop)(to:TE)(t:TA):TE:=fun Z H Q=>to Z H fun x H1=>tyV K T x H1/\t Z H1 fun xs H2=>r x xs H2 Q
variable {o e:Expr}{es:List Expr}{to:TE}{t:TA}{name:Str}{apos ajf:Pos}{T id:String}{r:V->List V->Hp->VK->Prop}
theorem aa0 (pa:PlainAttrs T)(slot:Slot T name id)(hty:typeOf (.builtin id)=pure (.type "method_descriptor"))(hm:MtR X id r)(ho:PE X o to)(ha:PA X (e::es) t)
  (hbase:VN o name X.env (eval o X.env)=eval o X.env:=by rfl)
  (hfew:((K5 ajf (Fo (e::es) X.env)).all (fun x=>!x.1)&&(backToKw ajf (TY [] X.env)).all (fun x=>x.1.isSome)
   && decide ((e::es).length+([]:List Mv).length+(if ([]:List Mv).isEmpty then 0 else 1)<30))=true:=by rfl)
  (hline:(apos.endLine==ajf.line)=true:=by rfl) (hs:Fo (e::es) X.env=(false,eval e X.env)::Fo es X.env:=by rfl) (hplain:(K5 ajf (Fo es X.env)).any (·.1)=false:=by rfl) :
  PE X (.Call (.Attribute o name apos) (e::es) [] ajf) (tBM X.K T r to t):=by
 intro ajd s Z H Q I h;refine wpAny_Call_method_late hbase hfew hline rfl<|Fz (ho ajd s Z H _ I h) fun v s1 ⟨x,H1,I1,r1,ty,q1⟩=>?_
 obtain ⟨h1,h2⟩:=afu I1 r1 ty;refine ⟨T,id,pa,slot,hty,h1,h2,?_⟩;have hA:=ha ajf ajd s1 Z H1 _ I1 q1;rw [hs] at hA |-
 refine Calls.callWith_builtin (by show (false||(K5 ajf<|Fo es X.env).any (·.1))=false;rw [hplain] <;> rfl)<|Calls.evalArgs_plain ?_
 exact Fz hA fun us s2 ⟨vs,H2,I2,r2,q2⟩=>hm ajd s2 Z H2 x vs v us Q I2 r1 r2 q2
/- xs.append(e), list.index on a module's tuple .. are MtR facts of 06m -/
end
def MtM (X:Cx)(id:String)(r:V->List V->Hp->VK->Prop):Prop:=
 ∀ (ajd:List (Addr×Obj)) (s:AP) (Z : St) (H:Hp) (x:V) (xs:List V) (v:Mk) (us:List Mk) (Q:VK),CQ X ajd Z H s->RelV x v->CR xs us->r x xs H Q ->
  Cu (Cp X.prog X.w) X.A (call (.builtin id) (v::us)) (EP X ajd Z Q) X.xe s
theorem CR.one:∀ {x:V} {us:List Mk},CR [x] us->∃ u,us=[u]/\RelV x u
 | _,_,.cons r .nil=>⟨_,rfl,r⟩
theorem CR.rep {xs:List V}{us:List Mk}(h:CR xs us):∀ k:Nat,CR (Ja k xs).flatten (Ja k us).flatten
 | 0=>.nil
 | k+1=>by
  rw [Rh,Rh,U5,U5];exact CR.append h<|CR.rep h k
theorem foldl_rep (its:List Mk):∀ (k:Nat) (acc:List Mk),
  List.foldl (fun x1 x2=>x1++x2) acc.toArray (Ja k its.toArray)=(acc++(Ja k its).flatten).toArray
 | 0,acc=>by simp
 | k+1,acc=>by
  have e:acc.toArray++its.toArray=(acc++its).toArray:=by simp
  have e2:(acc++its)++(Ja k its).flatten=acc++(Ja (k+1) its).flatten:=by
   rw [Rh,U5,QJ]
  rw [<-e2,<-foldl_rep its k (acc++its),<-e,Rh,List.foldl_cons]
section
variable {X:Cx}{ajd:List (Addr×Obj)}{Z : St}{H:Hp}{s:AP}{l b:Addr}{xs ys zs:List V}
theorem CQ.lset {its its':List Mk}{n:Nat}{f:Array Mk->Array Mk}{t':Nat}(I:CQ X ajd Z H s)(hH:H l=FN (.lst xs))
  (e:s.heap.get? l=FN { cls:=.type "list",data:=.seq its.toArray n }) (hf:f its.toArray=its'.toArray) (hv:CR ys its') (hz:ys.length<=FP) :
  CQ X ajd Z (FQ H l (.lst ys)) { s with heap:=s.heap.update l (SX f),toks:=t' }:=by
 have q:=PySem.IsL.update e f;rw [hf] at q;refine I.write (x:=l) (e:=l) (by rw [hH];exact trivial) (.inl rfl) (fun b' u hb hu=>(Sy s.heap (SX f)<|Ji hb).trans hu) ⟨_,q⟩ ?_;exact ⟨hz,its',_,hv,q⟩
theorem CQ.lnew {its:List Mk}{t':Nat}(I:CQ X ajd Z H s)(hv:CR ys its)(hz:ys.length<=FP):
  CQ X ajd Z (FQ H s.heap.objs.size (.lst ys)) { s with heap:=s.heap.push { cls:=.type "list",data:=.seq its.toArray },toks:=t' }:=
 I.laid (fun _ _ q=>GD _ q) (Dg _) ⟨hz,its,0,hv,K4 _ rfl⟩
theorem CQ.fresh (I:CQ X ajd Z H s):H s.heap.objs.size=FX:=I.hok.fresh (Dg _)
theorem CQ.lstM (I:CQ X ajd Z H s)(hH:H l=FN (.lst xs)):xs.length<=FP/\∃ (its:List Mk) (n:Nat),CR xs its/\xs.length=its.length/\s.heap.get? l=FN { cls:=.type "list",data:=.seq its.toArray n }:=by
 obtain ⟨z,its,n,r,e⟩:=I.hok l _ hH;exact ⟨z,its,n,r,r.length,e⟩
theorem agN {n:Nat}(h:n<=FP):Builtin.List.listTooLong n=false:=by
 unfold Builtin.List.listTooLong;exact decide_eq_false<|by lia
end
section
variable {X:Cx}
def G5:V->List V->Hp->VK->Prop:=fun x vs H Q=>∃ l xs y,x=.ref l/\vs=[y]/\H l=FN (.lst xs)/\xs.length<FP/\Q .non (FQ H l (.lst (xs++[y])))
theorem vY:MtM X "list.append" G5:=by
 intro ajd s Z H x vs v us Q I rx rv h;obtain ⟨l,xs,y,rfl,rfl,hH,hz,q⟩:=h;cases rx;obtain ⟨u,rfl,ru⟩:=rv.one;obtain ⟨z,its,n,r,hl,e⟩:=I.lstM hH;refine call_meets F.slot_list_append ⟨_,e,rfl⟩ F.entry_list_append (F.args_list_append_2 _ _) (PySem.list_append l its.toArray n u (by rw [Jl];lia)) ⟨e,?_⟩;refine ⟨.non,_,I.lset (its':=its++[u]) hH e (by simp) (r.append<|.cons ru .nil) ?_,rfl,q⟩;rw [Jt,Wq];lia
def Jq:V->List V->Hp->VK->Prop:=fun x vs H Q=>∃ l b xs zs,x=.ref l/\vs=[.ref b]/\H l=FN (.lst xs)/\H b=FN (.lst zs)/\xs.length+zs.length<=FP/\Q .non (FQ H l (.lst (xs++zs)))
theorem adE:MtM X "list.extend" Jq:=by
 intro ajd s Z H x vs v us Q I rx rv h;obtain ⟨l,b,xs,zs,rfl,rfl,hH,hB,hz,q⟩:=h;cases rx;obtain ⟨u,rfl,ru⟩:=rv.one;cases ru;obtain ⟨z,its,n,r,hl,e⟩:=I.lstM hH;obtain ⟨z2,its2,n2,r2,hl2,e2⟩:=I.lstM hB;have hsz:its.toArray.size+its2.toArray.size<=FP:=by rw [Jl,Jl];lia
 have hlong:¬ (!its.toArray.isEmpty&&Builtin.List.listTooLong (its.toArray.size+its2.toArray.size))=true:=by
  rw [agN hsz,Bool.and_false];exact Lw
 refine call_meets F.slot_list_extend ⟨_,e,rfl⟩ F.entry_list_extend (F.args_list_extend_2 _ _)
  (AutoSeq1.list_extend_list_list_0 l its.toArray n b its2.toArray n2 hlong (by rw [Jl];lia) (by lia)) ⟨e,e2,?_⟩
 refine ⟨.non,_,I.lset (its':=its++its2) hH e (by simp) (r.append r2) ?_,rfl,q⟩;rw [Jt];lia
def adf:R2:=fun x y H Q=>∃ l b xs zs,x=.ref l/\y=.ref b/\H l=FN (.lst xs)/\H b=FN (.lst zs)/\xs.length+zs.length<=FP/\∀ p,H p=FX->Q (.ref p) (FQ H p (.lst (xs++zs)))
theorem YL:K8 X (Lj .Add) adf:=by
 intro ajd s Z H x y v u Q I rx ry h;obtain ⟨l,b,xs,zs,rfl,rfl,hH,hB,hz,q⟩:=h;cases rx;cases ry;obtain ⟨z,its,n,r,hl,e⟩:=I.lstM hH;obtain ⟨z2,its2,n2,r2,hl2,e2⟩:=I.lstM hB;refine PySem.P.add_list e e2 ?_ (by rw [Jl,Jl];lia);have ea:its.toArray++its2.toArray=(its++its2).toArray:=by simp
 rw [ea];exact ⟨.ref _,_,I.lnew (t':=s.toks) (r.append r2) (by rw [Jt];lia),rfl,q _ I.fresh⟩
theorem len_rep {α : Type}(xs:List α)(k:Nat):(Ja k xs).flatten.length=k*xs.length:=by
 induction k with
 | zero=>simp
 | succ k ih=>rw [Rh,U5,Jt,ih,Nat.succ_mul,Ug]
end
section
variable {prog:Ei}{w:Dq}{A:FZ}{E:Mk->AP->Prop}{s:AP}
end
section
variable {X:Cx}
end
end L2
namespace Att
open PySem PySem.W PySem.Calls PyProof.Rows
theorem pR {P:Params}{h:Heap}:∀ (ns:List Int) (vs:List Mk),WellAll P h vs (ns.map WData.int)->N6 vs ns:=by
 intro ns;induction ns with
 | nil=>
  intro vs w;rw [KJ] at w;cases w;exact .nil
 | cons n ns ih=>
  intro vs w;rw [DY] at w;cases w with
  | cons a b=>
   cases a;exact .cons _ _<|ih _ b
theorem adI {l:OpenLaw}{n:Nat}(hn:l.most=FN n){P:Params}{h:Heap}{args:List WData}{vals:List Mk}
  (hpre:l.row.toRowW.claim.pre args=true) (hwl:WellAll P h vals args) :
  ∃ a vs ns,vals=[Value.ref a]/\args=[WData.list (ns.map WData.int)]/\h.get? a=FN { cls:=.type "list",data:=.seq vs.toArray }/\N6 vs ns/\ns.length<=n:=by
 have hsh:WShape.hasAll [] args [.list .int]=true:=(pre_splitW hpre).1;have hc:l.pre.holds [] { args:=args }=true:=(pre_splitW hpre).2;obtain ⟨d,r,rfl,h1,h2⟩:=hasAllW_cons hsh;obtain rfl:=hasAllW_nil h2;obtain ⟨xs,rfl,h3⟩:=hasW_list h1;obtain ⟨ns,rfl⟩:=items_int h3;have aje:ns.length<=n:=by
  unfold OpenLaw.pre at hc;have h4:(WTm.not (.lt (.lit (.int (n:Int))) (.len (.arg 0)))).holds [] { args:=[.list (ns.map .int)] }=true:=by
   have h4:=(holds_andW hc).1;rw [hn] at h4;exact h4
  have h5:=condW_of h4 (w_not (w_lt w_lit (w_len_list (w_arg rfl))));rw [DX] at h5;refine Nat.le_of_not_lt fun q=>?_;have q':(n:Int)<((ns.length:Nat):Int):=by lia
  first
   | (rw [decide_eq_true q'] at h5;exact absurd h5 (by decide))
   | (simp at h5;lia)
 cases hwl with
 | cons w1 w2=>
  cases w2;cases w1 with
  | list ho hall=>exact ⟨_,_,ns,rfl,rfl,ho,pR ns _ hall,aje⟩
theorem zaw (l:OpenLaw)(args:List WData):l.row.toRowW.claim.post args (.bool true) args=true:=
 postW_of (r:=l.row.toRowW) (X:=(true==true))
  (show WShape.has [] (.bool true) .bool=true by first | rfl | decide | simp [WShape.has,WShape.arms,WShape.armsAll])
  (show (WTm.eq .res (.lit (.bool true))).value [] { args:=args,res:=FN (.bool true),after:=args }=FN (.bool (true==true)) from w_eq_bool (w_res rfl) w_lit) rfl
theorem yI {l:OpenLaw}{n:Nat}{q:Ei}{loose:List Str}{XP:(Str->Option Mk)->Heap->Prop}{YP:Dq->Heap->Prop}{d:DefRec}
  (hn:l.most=FN n) (hdf:d.params.defaults=[])
  (call:∀ (w:Dq) (s₀ s₁ : AP) (mg mb:Str->Option Mk) (fa:Addr) (o:Obj) (pm cd doc:Mk) (a:Addr) (vs:List Mk) (ns:List Int),
   Ground q loose [] XP w s₀ mg mb s₁.heap->YP w s₁.heap ->
   s₁.heap.get? fa=FN o->o.data=.func (docDef d.name d.params d.body d.scope pm cd doc)->s₁.heap.CodeRec cd d.name->mg d.name=FN (.ref fa) ->
   s₁.heap.get? a=FN { cls:=.type "list",data:=.seq vs.toArray }->N6 vs ns->ns.length<=n->s₁.gens = #[] ->
   QV (Cp l.prog w) callerA (.call (.ref fa) ⟨[.ref a],[]⟩) (fun r s'=>r=.ok (.ret (.bool true))/\OldK s₁.heap s'.heap/\s'.os=s₁.os/\RT s'.gens) s₁) :
  WalkO q loose XP YP l.row.toRowW d [] (fun f vs=>PySem.call f vs):=by
 intro w s₀ s₁ mg mb G Y fa o pm cd doc dV kV ho hd hcd hD hmg hg args vals as hpre hlay hrd hwl hlo;obtain rfl:dV=.none:=Dflts.none hD hdf;obtain rfl:kV=.none:=Dflts.noKw hD;obtain ⟨a,vs,ns,rfl,rfl,hobj,hints,aje⟩:=adI hn hpre hwl;refine enter_call<|codeAny_mono (call w s₀ s₁ mg mb fa o pm cd doc a vs ns G Y ho (fd_plain hd) hcd hmg hobj hints aje hg) fun r s' hq=>?_
 obtain ⟨rfl,h2,h3,h4⟩:=hq;exact ⟨.inl ⟨.bool true,.bool true,[],rfl,fun _=>rfl,.bool true,zaw l _,fun _=>⟨List.Pairwise.nil,fun _ hm=>(nomatch hm)⟩⟩,h2,h3,h4⟩
section
variable {prog:Ei}{w:Dq}{A:FZ}{E:Mk->AP->Prop}{s:AP}{K:Frag}
def ledger (h:Heap)(L d:Addr):List (Addr×Obj):=(Ma h.objs.size).filterMap fun a=>if a=L\/a=d then FX else (h.get? a).map fun o=>(a,o)
end
end Att
variable {XP : (Str->Option Mk)->Heap->Prop}{loose : List Str}{YP : Dq->Heap->Prop}
namespace L2
open PySem PySem.Spec PyProof.Rows
theorem v7:∀ {vs:List Mk} {ns:List Int},N6 vs ns->CR (ns.map V.int) vs
 | _,_,.nil=>.nil
 | _,_,.cons n t h=>.cons ⟨t,rfl⟩ (v7 h)
def Only (H:Hp):Prop:=∀ b,H b=FX\/∃ o xs,H b=FN (.frz o (.lst xs))
theorem aer {P:Ei}{w:Dq}{K:CT}{mg mb:Str->Option Mk}{CX:S9}{k:Nat}{fa a:Addr}{fd:Mi}{x:Str}{sp:Sp}{s₁ : AP}{vs:List Mk}{ns:List Int}
  (KX:K.In s₁.heap) (hns:s₁.heap.Ns Jk mg) (hb:s₁.heap.Ns builtinsNs mb) (hbb:∀ x:Str,x ≠ "__name__"->mb x=Rf x) (hlim:s₁.heap.NoLimit) (hg:s₁.gens = #[])
  (ha:s₁.heap.get? a=FN { cls:=.type "list",data:=.seq vs.toArray }) (hi:N6 vs ns) (hl:ns.length<=FP) (hr:o7 k callerA)
  (F:∀ base:Heap,K.In base->base.Ns Jk mg->rK P w K mg base CX k fa fd [x] sp) (hbind:∀ (s:AP) (u:Mk),BindsTo s fd ⟨[u],[]⟩ [(x,u)])
  (hsp:∀ H:Hp,Only H->Jy K H a (ns.map V.int)->sp [.ref a] H (fun v _=>v=.bl true) fun _ _ _=>False)
  (hCX:∀ H e s',CX [] H s₁ (fun _ _ _=>False) e s'->False) :
  QV (Cp P w) callerA (.call (.ref fa) ⟨[.ref a],[]⟩) (fun r s'=>r=.ok (.ret (.bool true))/\OldK s₁.heap s'.heap/\s'.os=s₁.os/\RT s'.gens) s₁:=by
 have rv:=v7 hi;have lenV:=hi.length
 -- from an abstract heap in which nothing but the script may be tracked
 have core:∀ H:Hp,Only H->Jy K H a (ns.map V.int)->KR P w H s₁.heap->(∀ b,H b≠FX->b=a)->(H a≠FX->K.lookup a=FX) ->
   QV (Cp P w) callerA (.call (.ref fa) ⟨[.ref a],[]⟩) (fun r s'=>r=.ok (.ret (.bool true))/\OldK s₁.heap s'.heap/\s'.os=s₁.os/\RT s'.gens) s₁:=by
  intro H hO hS hok hA hK;have base_of:∀ {b:Addr} {o:Obj},s₁.heap.get? b=FN o->H b=FX->(Lq s₁.heap H).get? b=FN o:=fun e n=>zaW e n
  have noA:∀ {b:Addr} {o:Obj} {es:Array QW} {ep:Nat},s₁.heap.get? b=FN o->o.data=.dict es ep->H b=FX:=fun {b o es ep} e d=>by
   cases q:H b with
   | none=>rfl
   | some u=>
    have e':b=a:=hA b (by rw [q];simp);subst e';rw [ha] at e;cases e;have d':Data.seq vs.toArray _=Data.dict es ep:=d;cases d'
  have nsK:∀ {b:Addr} {m:Str->Option Mk},s₁.heap.Ns b m->(Lq s₁.heap H).Ns b m:=fun {b m} ⟨o,es,ep,e,d,r⟩=>⟨o,es,ep,base_of e (noA e d),d,r⟩
  have hKb:K.In (Lq s₁.heap H):=fun b o e=>base_of (KX b o e) (by
   cases q:H b with
   | none=>rfl
   | some u=>
    have e':b=a:=hA b (by rw [q];simp);subst e';rw [hK (by rw [q];simp)] at e;cases e)
  have hM:Mod K mg (Lq s₁.heap H):=⟨hKb,nsK hns,⟨mb,nsK hb,hbb⟩,let ⟨mc,h1,h2⟩:=hlim;⟨mc,nsK h1,h2⟩⟩
  have e0:Zg P w K mg (Lq s₁.heap H) callerA [] s₁ H:=⟨rfl,hM,fun b o e=>aga e,Nat.le_of_eq (adF _ _),trivial,fun b hb=>absurd (show b∈([]:List Addr) from hb) (by simp),hok,.of_eq hg,fun v e=>(nomatch e)⟩
  refine codeAny_mono ((F _ hKb<|nsK hns).run callerA [] s₁ H ⟨[.ref a],[]⟩ [.ref a] [.ref a] _ _ hr e0 (hbind s₁<|.ref a) (.cons rfl .nil) (hsp H hO hS)) fun r s' h=>?_;cases r with
  | error e=>exact (hCX H e s' h).elim
  | ok fl=>
   cases fl with
   | next=>exact Qz h
   | brk=>exact Qz h
   | cont=>exact Qz h
   | ret u=>
    obtain ⟨v,H',os,bare,un,hok',r',q⟩:=h;have q':v=.bl true:=q;subst q';obtain rfl:u=Value.bool true:=r';refine ⟨rfl,OldK.of_keep fun b o e=>?_,os,bare⟩;cases q:H b with
    | none=>exact un.keep b o e q (by intro z;exact absurd (show b∈([]:List Addr) from z) (by simp)) (by simp)
    | some u=>
     rcases hO b with z | ⟨ob,xs,z⟩
     ·rw [q] at z;cases z
     ·have z2:=un.frzs b ob _ z;obtain ⟨e1,_⟩:=hok b _ z;obtain ⟨e2,_⟩:=hok' b _ z2;rw [e] at e1;cases e1;exact e2
 cases hk:K.lookup a with
 | some o=>
  -- the script is one of the module's own objects
  have e:=KX a o hk;rw [ha] at e;cases e;refine core (fun _=>FX) (fun _=>.inl rfl) (.inr ⟨_,vs.toArray,_,hk,rfl,rfl,rfl,by rw [Jl,lenV];exact hl,by simpa using rv⟩) (fun b u z=>by have z':(FX:Option HO)=FN u:=z;cases z') (fun b z=>absurd rfl z) fun z=>absurd rfl z
 | none=>
  refine core (fun b=>if b=a then FN (.frz { cls:=.type "list",data:=.seq vs.toArray } (.lst<|ns.map V.int)) else FX) (fun b=>?_) (.inl<|.inr ⟨{ cls:=.type "list",data:=.seq vs.toArray },if_pos rfl⟩) (fun b u z=>?_) (fun b z=>?_) fun _=>hk
  ·by_cases hb:b=a
   ·exact .inr ⟨_,_,if_pos hb⟩
   ·exact .inl<|if_neg hb
  ·by_cases hb:b=a
   ·have z':=(if_pos hb).symm.trans z;cases z'
    subst hb;exact ⟨ha,by rw [DX];exact hl,vs,_,rv,ha⟩
   ·have z':=(if_neg hb).symm.trans z;cases z'
  ·by_cases hb:b=a
   ·exact hb
   ·exact absurd (if_neg hb) z
theorem Ft {l:PySem.W.OpenLaw}{n k:Nat}{q:Ei}{d:DefRec}{K:Params->CT}{CX:Dq->S9}{sp:Dq->Sp}{x:Str}
  (hn:l.most=FN n) (hn2:n<=FP) (hdf:d.params.defaults=[]) (hr:o7 k callerA)
  (hY:∀ (w:Dq) (h:Heap),YP w h->(K w.params).In h)
  (F:∀ (w:Dq) (mg:Str->Option Mk) (fa:Addr) (h:Heap),(K w.params).In h->h.Ns Jk mg->mg d.name=FN (.ref fa) ->
   ∃ fd:Mi,(∀ (s:AP) (u:Mk),BindsTo s fd ⟨[u],[]⟩ [(x,u)]) /\
    ∀ base:Heap,(K w.params).In base->base.Ns Jk mg->rK l.prog w (K w.params) mg base (CX w) k fa fd [x] (sp w))
  (hsp:∀ (w:Dq) (H:Hp) (a:Addr) (ns:List Int),ns.length<=n->Only H->Jy (K w.params) H a (ns.map V.int)->sp w [.ref a] H (fun v _=>v=.bl true) fun _ _ _=>False)
  (hCX:∀ (w:Dq) (H:Hp) (s:AP) (e:Mk) (s':AP),CX w [] H s (fun _ _ _=>False) e s'->False) :
  PySem.W.WalkO q loose XP YP l.row.toRowW d [] (fun f vs=>PySem.call f vs):=by
 refine Att.yI hn hdf fun w s₀ s₁ mg mb fa o pm cd doc a vs ns G Y ho hd hcd hmg hobj hints aje hg=>?_;have KX:=hY w _ Y;obtain ⟨fd,hb,hF⟩:=F w mg fa _ KX G.T.g hmg;exact aer KX G.T.g G.T.b G.T.builtins G.T.nolimit hg hobj hints (Dk aje hn2) hr hF hb (fun H hO hS=>hsp w H a ns aje hO hS) fun H e s'=>hCX w H s₁ e s'
end L2
/- THE LAST THEOREM (shape; LID, My.* are yours):
   My.Adr: a structure of the addresses that your layer names (classes,functions);My.Txt K t: a structure (Prop) of the equations over K;
   My.txt_mk:{K} {implicit addresses ..} (e1:nsIn K Jk "law" = FN (FN (.ref f))) (e2:K.lookup f=FN ⟨oc,od,.func (fnOf "law" "law" params body scope dV kV doc pm an cdv ct),sl⟩) (e3:codeIn K cdv "law" = true) .. : ∃ t,My.Txt K t
theorem PySem.Challenge.cw_LID_holds : PySem.Challenge.rw_LID.Holds := by
 w_on;o_law;k_head;(case hw=>w_witness2)
 k_fill
 refine L2.Ft (l:=PySem.Challenge.rw_LID) (n:=63) (k:=40) (x := "script") (CX:=fun w=>..) (sp:=fun _=>My.sp_law) rfl (by decide) rfl ⟨rfl,by decide,by decide⟩ (fun w h Y=>PySem.W.kIn_of Y) ?F ?S ?C
 case F=>
  intro w mg fa h KX G hmg;have T:∃ t,My.Txt (L2.KOf KX) t:=by
   dsimp only [L2.KOf]                          -- K must stand as «<heap const> w.params» for k_is;refine' My.txt_mk ?e1 ?e2 ?e3 ..
   (case e1=>PySem.W.k_is)                    -- in the order: a name -> its address -> its object -> its parts
   (case e2=>PySem.W.k_is)
   ..
  obtain ⟨t,T⟩:=T;have e0:=hmg.symm.trans (Tq KX G T.law);cases e0                                       -- fa is the law's own address
  exact ⟨_,fun s u=>.of_eq rfl,fun base kb nb=>My.law_fn T kb nb⟩     -- if «.of_eq rfl» comes too early: refine' ⟨_,?b,fun base kb nb=>My.law_fn T kb nb⟩;exact fun s u=>.of_eq rfl
 case S=>exact fun w H a ns hl hO hS=>..
 case C=>exact ..
(the tactic k_is has no namespace: write k_is) -/
namespace L2
open PySem PySem.Spec PyProof.Rows
def nG (s:Stmt):Arguments:=match s with
 | .FunctionDef _ a _ _ _ _ _ _ _ _=>a
 | _=>{ posonlyargs:=[],args:=[],vararg:=FX,kwonlyargs:=[],kw_defaults:=[],kwarg:=FX,defaults:=[] }
def iG (s:Stmt):List Stmt:=match s with
 | .FunctionDef _ _ b _ _ _ _ _ _ _=>b
 | _=>[]
def bT (s:Stmt):Scope:=match s with
 | .FunctionDef _ _ _ _ _ _ sc _ _ _=>sc
 | _=>{ kind:=.function,names:=[],isGenerator:=false,isCoroutine:=false }
abbrev NT:S9:=fun _ _ _ _ _ _=>False
abbrev E0:XK:=fun _ _ _=>False
theorem aaY {X:Cx}:Passes NT X E0:=fun _ _ _ _ _ _ _ h=>h.elim
structure TQ (K:CT) (x qual:Str) (st:Stmt) (f:Addr) (fd:Mi):Prop where
 ex:∃ (oc:Mk) (od:Option Addr) (kV doc pm:Mk) (an:Option Addr) (cdv ct:Mk) (osl:Array (Option Mk)),
  fd=Tp x qual (nG st) (iG st) (bT st) .none kV doc pm an cdv ct/\K.lookup f=FN ⟨oc,od,.func fd,osl⟩/\WT K cdv qual=true
 kp:Rp K (.ref f)=true
section
variable {P:Ei}{w:Dq}{K:CT}{mg:Str->Option Mk}{base:Heap}
theorem TQ.ok {x qual:Str}{st:Stmt}{f:Addr}{fd:Mi}{N ps:List Str}{k:Nat}{sp:Sp}(F:TQ K x qual st f fd)(S:mV N ps (bT st))(len:∀ vs H Q E,sp vs H Q E->vs.length=ps.length)
  (hbody:∀ (cdv:Mk) (A:FZ) (outer:List Env) (s:AP) (H:Hp) (vs:List V) (Q:VK) (E:XK),o7 k (A.deeper (envOfC qual (bT st) s.heap.objs.size f cdv))->sp vs H Q E ->
   ∃ t,NQ (Mq NT P w K mg base N qual (bT st) f cdv A outer s H E).nox (iG st) t/\t { nx:=fun _ H'=>Q .non H',rt:=Q } (start N vs) H):rK P w K mg base NT (k+1) f fd ps sp:=by
 obtain ⟨oc,od,kV,doc,pm,an,cdv,ct,osl,rfl,lk,hcd⟩:=F.ex;refine aad lk hcd S len fun A outer s H vs Q E hr hsp=>?_;obtain ⟨t,h,q⟩:=hbody cdv A outer s H vs Q E hr hsp;exact ⟨t,h.nox,q⟩
theorem TQ.binds {x qual:Str}{st:Stmt}{f:Addr}{fd:Mi}{ps:List Str}(F:TQ K x qual st f fd)
  (h:∀ (kV doc pm:Mk) (an:Option Addr) (cdv ct:Mk) (us:List Mk),us.length=ps.length->bindArgs (Tp x qual (nG st) (iG st) (bT st) .none kV doc pm an cdv ct) ⟨us,[]⟩=pure (ps.zip us)):Binds K fd ps []:=by
 obtain ⟨oc,od,kV,doc,pm,an,cdv,ct,osl,rfl,lk,hcd⟩:=F.ex;exact .all<|h kV doc pm an cdv ct
theorem Gs {x qual:Str}{st:Stmt}{f:Addr}{oc:Mk}{od an:Option Addr}{osl:Array (Option Mk)}{kV doc pm cdv ct:Mk}(l:K.lookup f=FN ⟨oc,od,.func (Tp x qual (nG st) (iG st) (bT st) .none kV doc pm an cdv ct),osl⟩)
  (c:WT K cdv qual=true) (k:Rp K (.ref f)=true):TQ K x qual st f (Tp x qual (nG st) (iG st) (bT st) .none kV doc pm an cdv ct):=⟨⟨oc,od,kV,doc,pm,an,cdv,ct,osl,rfl,l,c⟩,k⟩
end
section
variable {X:Cx}
theorem pv (i:Nat){x:Str}{pos:Pos}(hN:X.N[i]?=FN x:=by rfl)(hv:Vis X.env.scope x:=by first | exact Or.inl rfl | exact Or.inr (Or.inl rfl) | exact Or.inr (Or.inr rfl))(hd:(x==("__debug__" : Str))=false:=by decide)
  (hcd:(x==("__classdict__" : Str))=false:=by decide):PE X (.Name x pos) (abf i):=agW hN hv hd hcd
end
def Sd (env:Env):List (Str×Ld)->List (Str×Addr)->List (Str×Addr)
 | [],cs=>cs
 | (n,k)::r,cs=>Sd env r (if (k==NameKind.free)=true then (n,(env.cells.lookup n).getD 0)::cs else cs)
def Pn (scope:Scope)(env:Env):List (Str×Addr):=Sd env scope.names []
variable {env : Env}
theorem vh {env:Env}{p:Str×Addr}:∀ (l:List (Str×Ld)) (cs:List (Str×Addr)),p∈Sd env l cs->p∈cs\/((p.1,NameKind.free)∈l/\p.2=(env.cells.lookup p.1).getD 0)
 | [],cs,h=>.inl h
 | (n,k)::r,cs,h=>by
  rcases vh r _ h with h | ⟨h1,h2⟩
  ·by_cases hk:(k==NameKind.free)=true
   ·rw [if_pos hk] at h;rcases Ge.mp h with rfl | h
    ·have e:k=NameKind.free:=by simpa using hk
     subst e;exact .inr ⟨KD,rfl⟩
    ·exact .inl h
   ·rw [if_neg hk] at h;exact .inl h
  ·exact .inr ⟨Jo _ h1,h2⟩
theorem Ak {env:Env}{x:Str}:∀ (l:List (Str×Ld)) (cs:List (Str×Addr)),((x,NameKind.free)∈l\/∃ c,(x,c)∈cs)->∃ c,(x,c)∈Sd env l cs
 | [],cs,h=>by
  rcases h with h | h
  ·exact absurd h<|by simp
  ·exact h
 | (n,k)::r,cs,h=>by
  refine Ak r _ ?_;rcases h with h | ⟨c,h⟩
  ·rcases Ge.mp h with e | h
   ·injection e with e1 e2
    subst e1;subst e2;exact .inr ⟨_,by rw [if_pos<|by rfl];exact KD⟩
   ·exact .inl h
  ·refine .inr ⟨c,?_⟩;by_cases hk:(k==NameKind.free)=true
   ·rw [if_pos hk];exact Jo _ h
   ·rw [if_neg hk];exact h
theorem gY {x:Str}{c:Addr}:∀ {l:List (Str×Addr)},(x,c)∈l->∃ c',l.lookup x=FN c'
 | [],h=>absurd h (by simp)
 | (n,d)::r,h=>by
  by_cases e:x=n
  ·subst e;exact ⟨d,by simp [Lp]⟩
  ·rcases Ge.mp h with q | q
   ·injection q with q1 _
    exact absurd q1 e
   ·obtain ⟨c',h'⟩:=gY q;refine ⟨c',?_⟩;have e':(x==n)=false:=beq_eq_false_iff_ne.mpr e;rw [Lp,e'];exact h'
theorem Ih {scope:Scope}(h:∀ y∈scope.names,y.2=NameKind.free->∃ c,env.cells.lookup y.1=FN c):closureFor scope env=pure (Pn scope env):=by
 unfold closureFor Pn;have key:∀ (l:List (Str×Ld)) (cs:List (Str×Addr)),(∀ y∈l,y.2=NameKind.free->∃ c,env.cells.lookup y.1=FN c) ->
   (forIn l cs (fun (x:Str×Ld) (cs:List (Str×Addr))=>(if (x.2==NameKind.free)=true then cellOf env x.1 >>= fun c=>pure (ForInStep.yield ((x.1,c)::cs)) else pure (ForInStep.yield cs):Sem (ForInStep (List (Str×Addr))))))=pure (Sd env l cs):=by
  intro l;induction l with
  | nil=>intro cs _;rfl
  | cons x r ih=>
   intro cs hl;obtain ⟨n,k⟩:=x;rw [WW];have hr:∀ y∈r,y.2=NameKind.free->∃ c,env.cells.lookup y.1=FN c:=fun y hy=>hl y (Jo _ hy)
   by_cases hk:(k==NameKind.free)=true
   ·obtain ⟨c,hc⟩:=hl (n,k) KD (by simpa using hk);have hc':env.cells.lookup n=FN c:=hc;have e1:cellOf env n=pure c:=by unfold cellOf;rw [hc']
    simp only [hk,if_true,e1,pure_bind];rw [ih _ hr];simp only [Sd,hk,if_true,hc',Option.getD_some]
   ·simp only [hk,if_false,pure_bind,R8];rw [ih _ hr];simp only [Sd,hk,if_false,R8]
 have q:=key scope.names [] h
 simpa using q
variable {y : Str}
theorem je {y:Str}{c:Addr}:∀ {names:List (Str×Ld)} {n:Nat} {acc:List (Str×Addr)},(y,c)∈KQ n names acc↔(y,c)∈acc\/(y,c)∈KQ n names []
 | [],n,acc=>by simp [KQ]
 | (name,kind)::r,n,acc=>by
  unfold KQ;split
  ·rw [je (acc:=(name,n)::acc),je (acc:=[(name,n)])];simp only [Ge,M7,or_false];exact ⟨fun h=>h.elim (fun h=>h.elim (fun h=>.inr<|.inl h) .inl) fun h=>.inr<|.inr h,fun h=>h.elim (fun h=>.inl<|.inr h) fun h=>h.elim (fun h=>.inl<|.inl h) .inr⟩
  ·exact je
theorem yU {y:Str}{c:Addr}:∀ {names:List (Str×Ld)} {n:Nat},(y,c)∈KQ n names []->(y,NameKind.cell)∈names
 | [],n,h=>by simp [KQ] at h
 | (name,kind)::r,n,h=>by
  unfold KQ at h;split at h
  ·rename_i hk;rcases je.mp h with q | q
   ·have hk':kind=.cell:=by simpa using hk
    simp only [Ge,M7,or_false,Prod.mk.injEq] at q;rw [q.1,hk'];exact KD
   ·exact Jo _<|yU q
  ·exact Jo _<|yU h
theorem Hu {y:Str}:∀ {names:List (Str×Ld)} {n:Nat},(y,NameKind.cell)∈names->∃ c,(y,c)∈KQ n names []
 | [],n,h=>by simp at h
 | (name,kind)::r,n,h=>by
  unfold KQ;rcases Ge.mp h with q | q
  ·cases q;rw [if_pos (by rfl)];exact ⟨n,je.mpr<|.inl KD⟩
  ·split
   ·obtain ⟨c,hc⟩:=Hu (n:=n+1) q;exact ⟨c,je.mpr<|.inr hc⟩
   ·exact Hu q
variable {names : List (Str×Ld)}
theorem Xq {h:Heap}{c:Addr}(e:(y,c)∈KQ h.objs.size names []):(pushCells h names).IsCell c FX/\h.objs.size<=c:=
 (cellsFrom_ok names h h.objs.size [] ⟨fun _ _ z=>by simp at z,List.Pairwise.nil⟩ (Dg _)).empty y c e
theorem zbe {n:Nat}{z:Str}{c:Addr}(e:(y,c)∈KQ n names [])(e':(z,c)∈KQ n names []):y=z:=by
 have key:∀ (k:Nat),∃ h:Heap,h.objs.size=k:=fun k=>by
  induction k with
  | zero=>exact ⟨{ (default:Heap) with objs:=#[] },rfl⟩
  | succ k ih=>
   obtain ⟨h,e⟩:=ih;exact ⟨h.push { cls:=.type "cell",data:=.cell FX },by rw [RD,e]⟩
 obtain ⟨h,rfl⟩:=key n;exact name_of_addr (cellsFrom_ok names h h.objs.size [] ⟨fun _ _ z=>by simp at z,List.Pairwise.nil⟩<|Dg _).apart e e'
variable {closure : List (Str×Addr)}
theorem zaK {M:Model}{A:FZ}{E:Mk->AP->Prop}{s:AP}{scope:Scope}{globals:Addr}{qual:Str}{func:Option Addr}{code:Mk}{ar:Env}{builtins:Addr}{Q:Env->AP->Prop}
  (hQ:Q { scope:=scope,locals:=s.heap.objs.size,globals:=globals,cells:=KQ (s.heap.objs.size+1) scope.names closure,qual:=qual,func:=func,code:=ar.code,frame:=ar.frame,builtins:=ar.builtins } { s with heap:=pushCells (s.heap.push { cls:=.type "dict",data:=.dict #[] }) scope.names }) :
  Cu M A (newFunctionEnv scope globals closure [] qual func code (FN ar) builtins) Q E s:=by
 simp only [newFunctionEnv,Option.isSome_some,if_true];refine CN<|wpAny_alloc ?_
 refine CN<|wpAny_layCells _ (fun name kind cells=>by cases hkc:kind==NameKind.cell <;> simp [hkc]) _ _ _ _ ?_
 rw [show ({ s with heap:=s.heap.push { cls:=.type "dict",data:=.dict #[] } }:AP).heap.objs.size=s.heap.objs.size+1 from RD ..];rw [WM];exact CN<|Cz<|Cz hQ
def blk (X:Cx)(scope:Scope)(N':List Str)(C:Addr)(s:AP)(H:Hp)(ex:List Addr):Cx where
 prog:=X.prog
 w:=X.w
 K:=X.K
 mg:=X.mg
 base:=X.base
 A:=X.A
 N:=N'
 s₀:=s
 H₀:=H
 env:=compEnvC scope (KQ (C+1) scope.names (Pn scope X.env)) C X.env
 outer:=X.stack
 stack:=X.stack
 ex:=ex
 fn:=fun y=>decide (scope.names.lookup y=FN .cell)
 calm:=X.calm
 pn:=[]
 xe:=fun _ _=>False
structure jc (X:Cx) (scope:Scope) (x:List Str) (ix:List Nat):Prop where
 kind:scope.kind=.function
 own:∀ y∈x,scope.names.lookup y=FN .local\/scope.names.lookup y=FN .cell
 names:∀ y∈scope.names,scope.names.lookup y.1=FN y.2
 free:∀ y∈scope.names,y.2=.free->X.env.scope.names.lookup y.1=FN .cell\/X.env.scope.names.lookup y.1=FN .free
 ixs:∀ i∈ix,scope.names.lookup (X.N.getD i "")=FN .free
 nd:(x++ix.map fun i=>X.N.getD i "").Nodup
def zU:List Str->Bool
 | []=>true
 | x::r=>!(r.contains x)&&zU r
def abJ (sc:Scope)(N:List Str)(scope:Scope)(x:List Str)(ix:List Nat):Bool:=
 decide (scope.kind=.function)&&x.all (fun y=>decide (scope.names.lookup y=FN .local)||decide (scope.names.lookup y=FN .cell)) &&
 scope.names.all (fun y=>decide (scope.names.lookup y.1=FN y.2)) &&
 scope.names.all (fun y=>!decide (y.2=.free)||decide (sc.names.lookup y.1=FN .cell)||decide (sc.names.lookup y.1=FN .free)) &&
 ix.all (fun i=>decide (scope.names.lookup (N.getD i "")=FN .free))&&zU (x++ix.map fun i=>N.getD i "")
theorem vN:∀ {l:List Str},zU l=true->l.Nodup
 | [],_=>List.nodup_nil
 | x::r,h=>by
  unfold zU at h;rw [Nk] at h;refine R6.mpr ⟨fun hm=>?_,vN h.2⟩;have:r.contains x=true:=List.contains_iff_mem.mpr hm
  rw [this] at h;exact absurd h.1<|by decide
variable {ix : List Nat}
theorem dD {X:Cx}{scope:Scope}{x:List Str}(h:abJ X.env.scope X.N scope x ix=true):jc X scope x ix:=by
 unfold abJ at h;simp only [Nk,QG,decide_eq_true_eq,Bool.or_eq_true,Bool.not_eq_true',decide_eq_false_iff_not] at h;obtain ⟨⟨⟨⟨⟨h1,h3⟩,h4⟩,h5⟩,h6⟩,h7⟩:=h;refine ⟨h1,fun y hy=>h3 y hy,fun y hy=>h4 y hy,fun y hy hk=>?_,fun i hi=>h6 i hi,vN h7⟩
 ·rcases h5 y hy with (q | q) | q
  ·exact absurd hk q
  ·exact .inl q
  ·exact .inr q
def Cr (ix:List Nat)(Z : St):St:=ix.map fun i=>(Z[i]?).getD FX
abbrev iI (X:Cx)(x:List Str)(ix:List Nat):List Str:=x++ix.map fun i=>X.N.getD i ""
theorem gK {scope:Scope}{env:Env}{x:Str}:∀ {names:List (Str×Ld)} {k:Ld},
  (names.map fun (p:Str×Ld)=>if (p.2==NameKind.free&&env.scope.kind==.function&&env.kindOf p.1==FN .cell)=true then (p.1,NameKind.cell) else (p.1,p.2)).lookup x=FN k ->
  names.lookup x=FN k\/(k=.cell/\names.lookup x=FN .free)
 | [],k,h=>by simp at h
 | (n,k')::r,k,h=>by
  rw [DY] at h;cases hx:x==n with
  | true=>
   by_cases hc:(k'==NameKind.free&&env.scope.kind==.function&&env.kindOf n==FN .cell)=true
   ·rw [if_pos hc] at h;simp only [Lp,hx] at h;have hk:k'=.free:=by
     have:=(Bool.and_eq_true_iff.mp (Bool.and_eq_true_iff.mp hc).1).1
     simpa using this
    subst hk;cases h;exact .inr ⟨rfl,by simp [Lp,hx]⟩
   ·rw [if_neg hc] at h;simp only [Lp,hx] at h;cases h;exact .inl<|by simp [Lp,hx]
  | false=>
   have h':(r.map fun (p:Str×Ld)=>if (p.2==NameKind.free&&env.scope.kind==.function&&env.kindOf p.1==FN .cell)=true then (p.1,NameKind.cell) else (p.1,p.2)).lookup x=FN k:=by
    by_cases hc:(k'==NameKind.free&&env.scope.kind==.function&&env.kindOf n==FN .cell)=true
    ·rw [if_pos hc] at h;simpa only [Lp,hx] using h
    ·rw [if_neg hc] at h;simpa only [Lp,hx] using h
   rcases gK (scope:=scope) (env:=env) h' with q | ⟨q1,q2⟩
   ·exact .inl<|by simpa only [Lp,hx] using q
   ·exact .inr ⟨q1,by simpa only [Lp,hx] using q2⟩
theorem oA {env:Env}{x:Str}:∀ {names:List (Str×Ld)},names.lookup x=FN .free ->
  (names.map fun (p:Str×Ld)=>if (p.2==NameKind.free&&env.scope.kind==.function&&env.kindOf p.1==FN .cell)=true then (p.1,NameKind.cell) else (p.1,p.2)).lookup x=FN .cell \/
  (names.map fun (p:Str×Ld)=>if (p.2==NameKind.free&&env.scope.kind==.function&&env.kindOf p.1==FN .cell)=true then (p.1,NameKind.cell) else (p.1,p.2)).lookup x=FN .free
 | [],h=>by simp at h
 | (n,k')::r,h=>by
  rw [DY];cases hx:x==n with
  | true=>
   simp only [Lp,hx] at h;cases h;by_cases hc:(NameKind.free==NameKind.free&&env.scope.kind==.function&&env.kindOf n==FN .cell)=true
   ·rw [if_pos hc];exact .inl (by simp [Lp,hx])
   ·rw [if_neg hc];exact .inr (by simp [Lp,hx])
  | false=>
   have h':r.lookup x=FN .free:=by simpa only [Lp,hx] using h
   have ih:=oA (env:=env) h';by_cases hc:(k'==NameKind.free&&env.scope.kind==.function&&env.kindOf n==FN .cell)=true
   ·rw [if_pos hc];simpa only [Lp,hx] using ih
   ·rw [if_neg hc];simpa only [Lp,hx] using ih
theorem n8 {env:Env}{x:Str}:∀ {names:List (Str×Ld)},names.lookup x=FN .cell ->
  (names.map fun (p:Str×Ld)=>if (p.2==NameKind.free&&env.scope.kind==.function&&env.kindOf p.1==FN .cell)=true then (p.1,NameKind.cell) else (p.1,p.2)).lookup x=FN .cell
 | [],h=>by simp at h
 | (n,k')::r,h=>by
  rw [DY];cases hx:x==n with
  | true=>
   simp only [Lp,hx] at h;cases h;rw [if_neg (by simp)];simp [Lp,hx]
  | false=>
   have ih:=n8 (env:=env) (show r.lookup x=FN .cell by simpa only [Lp,hx] using h);split
   ·simpa only [Lp,hx] using ih
   ·simpa only [Lp,hx] using ih
section
variable {X:Cx}{ajd:List (Addr×Obj)}{Z : St}{H:Hp}{s:AP}{scope:Scope}{x:List Str}{C:Addr}{fp:List Addr}
theorem Fl (B:jc X scope x ix)(hy:y∈x):Loc (relabel scope X.env) y/\(decide (scope.names.lookup y=FN .cell)=true\/(relabel scope X.env).names.lookup y=FN .local):=by
 rcases B.own y hy with q | q
 ·have:=lookup_relabel_local (env:=X.env) q
  exact ⟨.inl this,.inr this⟩
 ·exact ⟨.inr<|n8 (env:=X.env) q,.inl<|decide_eq_true q⟩
theorem uO (I:CQ X ajd Z H s)(B:jc X scope x ix):∀ y∈scope.names,y.2=NameKind.free->∃ c,X.env.cells.lookup y.1=FN c:=fun y hy hk=>I.ok.has y.1 (B.free y hy hk)
theorem Yo (I:CQ X ajd Z H s)(B:jc X scope x ix){c:Addr}(h:(y,c)∈Pn scope X.env):X.env.cells.lookup y=FN c:=by
 rcases vh scope.names [] h with q | ⟨q1,q2⟩
 ·exact absurd q<|by simp
 ·obtain ⟨c',e⟩:=uO I B _ q1 rfl;have e':X.env.cells.lookup y=FN c':=e;have q2':c=(X.env.cells.lookup y).getD 0:=q2;rw [e',Option.getD_some] at q2';rw [e',q2']
theorem oG (I:CQ X ajd Z H s)(B:jc X scope x ix){c:Addr}(h:(KQ (C+1) scope.names (Pn scope X.env)).lookup y=FN c):X.env.cells.lookup y=FN c\/(y,c)∈KQ (C+1) scope.names []:=
 (je.mp (Rn h)).imp_left (Yo I B)
theorem Hw {n:Nat}{c:Addr}(e:(y,c)∈KQ n names []):n<=c:=by
 have key:∀ (names:List (Str×Ld)) (n:Nat),(y,c)∈KQ n names []->n<=c:=by
  intro names;induction names with
  | nil=>intro n h;simp [KQ] at h
  | cons a r ih=>
   intro n h;obtain ⟨name,kind⟩:=a;unfold KQ at h;split at h
   ·rcases je.mp h with q | q
    ·simp only [Ge,M7,or_false,Prod.mk.injEq] at q;exact Nat.le_of_eq q.2.symm
    ·exact Dk (QX n)<|ih (n+1) q
   ·exact ih n h
 exact key names n e
theorem agw (B:jc X scope x ix){c:Addr}(hf:scope.names.lookup y=FN .free)(h:(y,c)∈KQ (C+1) scope.names []):False:=by
 have:=B.names _ (yU h)
 simp only at this;rw [hf] at this;cases this
theorem z7 (h:scope.names.lookup y=FN .free\/scope.names.lookup y=FN .cell):∃ c,(KQ (C+1) scope.names (Pn scope X.env)).lookup y=FN c:=by
 rcases h with h | h
 ·obtain ⟨c,hc⟩:=Ak (env:=X.env) scope.names [] (.inl (Rn h));exact gY<|je.mpr<|.inl hc
 ·obtain ⟨c,hc⟩:=Hu (n:=C+1) (Rn h);exact gY<|je.mpr<|.inr hc
theorem Xa (I:CQ X ajd Z H s)(B:jc X scope x ix)(hC:s.heap.objs.size<=C)(hf:∀ b∈fp,Er X ajd H b)(ho:∀ b∈fp,∃ o,s.heap.get? b=FN o):
  (blk X scope (iI X x ix) C s H fp).Ok where
 mod:=I.ok.mod
 kind:=B.kind
 glob:=I.ok.glob
 blt:=I.ok.blt
 above:=hC
 inj:=fun y z c h1 h2=>by
  have far:∀ {y z:Str},X.env.cells.lookup y=FN c->(z,c)∈KQ (C+1) scope.names []->False:=fun {y z} e q=>by
   obtain ⟨v,w⟩:=I.cell y c e;exact absurd (HB w.lt<|Dk (Dk hC<|QX C)<|Hw q)<|Nv _
  rcases oG I B h1 with q1 | q1
  ·rcases oG I B h2 with q2 | q2
   ·exact I.ok.inj y z c q1 q2
   ·exact (far q1 q2).elim
  ·rcases oG I B h2 with q2 | q2
   ·exact (far q2 q1).elim
   ·exact zbe q1 q2
 has:=fun y hy=>by
  have hy':(relabel scope X.env).names.lookup y=FN .cell\/(relabel scope X.env).names.lookup y=FN .free:=hy;rcases hy' with q | q
  ·rcases gK (scope:=scope) (env:=X.env) q with r | ⟨_,r⟩
   ·exact z7<|.inr r
   ·exact z7<|.inl r
  ·rcases gK (scope:=scope) (env:=X.env) q with r | ⟨r,_⟩
   ·exact z7<|.inl r
   ·cases r
 cab:=fun y c hf h=>by
  have hf':scope.names.lookup y=FN .cell:=of_decide_eq_true hf;rcases je.mp (Rn h) with q | q
  ·rcases vh scope.names [] q with q | ⟨q1,_⟩
   ·exact absurd q<|by simp
   ·have:=B.names _ q1
    simp only at this;rw [hf'] at this;cases this
  ·exact Dk (Dk hC<|QX C)<|Hw q
 hd:=I.ok.hd
 qt:=I.qt0
 frames:=I.ok.frames
 stk:=.inl rfl
 exf:=fun b hb=>by
  obtain ⟨o,e⟩:=ho b hb;refine ⟨Gq<|HB (G9 e) hC,fun y c h=>?_⟩;rcases oG I B h with q | q
  ·exact (hf b hb).2.2.2.2.1 y c q
  ·intro z;rw [z] at q;exact absurd (HB (G9 e)<|Dk (Dk hC<|QX C)<|Hw q)<|Nv _
 bs:=I.bs
 bsz:=Dk I.ok.bsz I.sz
 noex:=fun b o e hb=>by
  rcases (hf b hb).2.2.2.1 with q | q
  ·exact I.ok.noex b o e q
  ·exact absurd (HB (G9 e)<|Dk I.ok.bsz q)<|Nv _
 exfs:=fun b hb z=>by
  obtain ⟨_,h1,h2,_⟩:=hf b hb;rcases Ge.mp (I.stkSub b z) with e | e
  ·exact h1 e
  ·exact h2 e
 funs:=I.stack
 frf:=I.stkFree
theorem ael {D:Addr}{h1:Heap}{tk:Nat}{m:Str->Option Mk}(I:CQ X ajd Z H s)(B:jc X scope x ix)(ok:(blk X scope (iI X x ix) C s H fp).Ok)
  (hD:D=s.heap.objs.size) (k:∀ b o,s.heap.get? b=FN o->h1.get? b=FN o) (hl:h1.get? D=FN { cls:=.type "list",data:=.seq #[] }) (hns:h1.Ns C m) (hCD:C≠D) (hC:s.heap.objs.size<=C) (hce:∀ y c,(y,c)∈KQ (C+1) scope.names []->h1.IsCell c FX) :
  CQ (blk X scope (iI X x ix) C s H fp) [] (Ja x.length FX++Cr ix Z) (FQ H D (.lst [])) { s with heap:=h1,toks:=tk } where
 ok:=ok
 os:=rfl
 bare:=I.bare
 base:=Un.laid k (by rw [hD];exact Dg _) (I.hok.fresh (by rw [hD];exact Dg _))
 loc:=by
  refine ⟨m,hns,fun i y v e1 e2 e3=>?_⟩;by_cases hix:i<x.length
  ·rw [QC (by simpa using hix),XJ,if_pos hix] at e2;cases e2
  ·rw [QD (by simpa using hix),List.length_replicate] at e2;have e1':(ix.map fun i=>X.N.getD i "")[i - x.length]?=FN y:=by
    have z:(x++ix.map fun i=>X.N.getD i "")[i]?=FN y:=e1
    rwa [QD (by simpa using hix)] at z
   generalize i - x.length=j at e1' e2;unfold Cr at e2;rw [GP] at e1' e2;cases hj:ix[j]? with
   | none=>rw [hj] at e2;cases e2
   | some i'=>
    rw [hj] at e1' e2;simp only [Option.map_some,Option.some.injEq] at e1' e2;have hi:Z[i']?=FN (FN v):=by
     cases q:Z[i']? with
     | none=>rw [q] at e2;cases e2
     | some z=>rw [q] at e2;exact congrArg FN e2
    have hlt:i'<X.N.length:=by
     have:=(Lk.mp hi).1
     rw [I.len] at this;exact this
    have hn:X.N[i']?=FN y:=by
     rw [MF,HD hlt,Option.getD_some] at e1';rw [HD hlt,e1']
    have hfree:scope.names.lookup y=FN .free:=by
     have:=B.ixs i' (KH hj)
     rw [e1'] at this;exact this
    have kx:=B.free _ (Rn hfree) rfl;have vis:Vis X.env.scope y:=by
     rcases kx with q | q
     ·exact .inr<|.inl q
     ·exact .inr<|.inr q
    obtain ⟨m',_,hl'⟩:=I.loc;obtain ⟨u,r,lk⟩:=hl' i' y v hn hi vis;refine ⟨u,r,?_⟩;rcases lk with ⟨q,_⟩ | ⟨_,c,hc,hcell⟩
    ·have q':X.env.scope.names.lookup y=FN .local:=q;rcases kx with z | z <;> (rw [q'] at z;cases z)
    ·obtain ⟨c',hc'⟩:=z7 (X:=X) (C:=C) (.inl hfree);have e:=(oG I B hc').resolve_right fun z=>agw B hfree z
     rw [hc] at e;cases e;refine .inr ⟨oA (env:=X.env) hfree,c,hc',?_⟩;obtain ⟨o,ho,hd⟩:=hcell;exact ⟨o,k c o ho,hd⟩
 cell:=fun y c h=>by
  rcases oG I B h with q | q
  ·obtain ⟨v,o,ho,hd⟩:=I.cell y c q;exact ⟨v,o,k c o ho,hd⟩
  ·exact ⟨FX,hce y c q⟩
 free:=by
  show FQ H D (.lst []) C=FX;rw [aO hCD];exact I.hok.fresh hC
 freeC:=fun y c h=>by
  show FQ H D (.lst []) c=FX;rcases oG I B h with q | q
  ·obtain ⟨v,o,ho,hd⟩:=I.cell y c q;rw [aO (by rw [hD];exact Gq (G9 ho))];exact I.freeC y c q
  ·have g:s.heap.objs.size<c:=HB (Nat.lt_succ_of_le hC) (Hw q);rw [aO (by rw [hD];exact Ml g)];exact I.hok.fresh<|Lx g
 pin:=fun p hp=>absurd (show p∈([]:List (Addr×Obj)) from hp) (by simp)
 hok:=I.hok.laid k (by rw [hD];exact Dg _) ⟨Ko _,[],0,.nil,hl⟩
 len:=by
  show (Ja x.length FX++Cr ix Z).length=(iI X x ix).length;simp [Cr]
theorem FJ {Z':St}{H':Hp}{s':AP}{h':Heap}{p':List (Addr×Obj)}(I:CQ X ajd Z H s)(hC:s.heap.objs.size<=C)(hf:∀ b∈fp,Er X ajd H b)(J:CQ (blk X scope (iI X x ix) C s H fp) p' Z' H' s')
  (hs:U8 C s'.heap h'):CQ X ajd Z H' { s' with heap:=h' }:=by
 have I1:CQ X ajd Z H' s':=I.call' (ch:=fp) J.os J.base J.hok J.bare fun b hb=>⟨(hf b hb).2.2.2.1,(hf b hb).2.1,(hf b hb).2.2.2.2.1,(hf b hb).2.2.2.2.2⟩
 refine I1.turned (it:=C) (t':=s'.toks) (fun b o hb e=>(hs.2 b hb).trans e) J.free (Ml<|HB I.lt hC) (.inr<|Dk I.sz hC) (fun y c e z=>?_)<|fun p hp z=>?_
 ·obtain ⟨v,q⟩:=I.cell y c e;exact absurd (HB q.lt (by rw [z];exact hC))<|Nv _
 ·exact absurd (HB (G9 (I.pin p hp).1) (by rw [z];exact hC))<|Nv _
end
def Uy (X:Cx)(ifs:List Expr)(t:TT):Prop:=
 ∀ (ajd:List (Addr×Obj)) (s:AP) (Z : St) (H:Hp) (Q:Bool->Hp->Prop),CQ X ajd Z H s->t Z H Q ->
  Cu (Cp X.prog X.w) X.A (forIn ifs true fun c r=>if r=true then do let ok <-isTrue c X.env (eval c X.env);pure (ForInStep.yield ok) else pure (ForInStep.yield r)) (TP X ajd Z Q) X.xe s
def acL:TT:=fun _ H Q=>Q true H
theorem aek {X:Cx}:Uy X [] acL:=fun _ _ _ H _ I h=>Cz ⟨H,I,h⟩
theorem afw {X:Cx}{c:Expr}{t:TT}(h:PT X c t):Uy X [c] t:=fun ajd s Z H Q I hq=>by
 rw [WW];refine CN ?_;rw [if_pos rfl];refine CN<|Fz (h ajd s Z H Q I hq) fun b s1 q=>Cz ?_
 exact Cz q
def aa2 (n:Nat)(own:V->Hp->List V->Prop)(ix:List Nat)(tt:TT)(te:TE)(Z : St)(Q:VK)(J:It)(H1:Hp)(D:Addr):Prop:=∃ W:Nat->Nat->List V->Hp->Prop,(∃ m,W 0 m [] (FQ H1 D (.lst [])))/\∀ i m ys H,W i m ys H->H D=FN (.lst ys) ->
 (J.stop i H/\Q (.ref D) H)\/(J.go i H/\ys.length<FP/\∀ x H',J.yld i H x H'->∃ vs,own x H' vs/\vs.length=n/\tt (vs.map FN++Cr ix Z) H' fun b H2=>
  if b=true then te (vs.map FN++Cr ix Z) H2 (fun v H3=>H3 D=FN (.lst ys)/\∃ m',m'<m/\W (i+1) m' (ys++[v]) (FQ H3 D (.lst (ys++[v]))))
  else H2 D=FN (.lst ys)/\∃ m',m'<m/\W (i+1) m' ys H2)
def wLC (n:Nat)(own:V->Hp->List V->Prop)(ix:List Nat)(tt:TT)(te:TE)(Z : St)(Q:VK)(J:It)(H1:Hp):Prop:=∀ D,H1 D=FX->aa2 n own ix tt te Z Q J H1 D
def tLC (n:Nat)(own:V->Hp->List V->Prop)(ix:List Nat)(wi:TI)(tt:TT)(te:TE):TE:=fun Z H Q=>wi Z H fun J H1=>wLC n own ix tt te Z Q J H1
def QS (n:Nat)(own:V->Hp->List V->Prop):TG:=fun v Z H N=>∃ vs,own v H vs/\vs.length=n/\N (vs.map FN++Z.drop n) H
variable {elt : Expr}{ifs : List Expr}{R : Result->AP->Prop}
theorem adS {P:Ei}{w:Dq}{A:FZ}{s:AP}{target iter:Expr}{scope:Scope}{pos:Pos}{it acc:Mk}(Iv:Nat->AP->Prop)
  (turn:∀ n s,Iv n s->Cu (Cp P w) A (Nh it) (fun r s₁=>match r with
   | none=>R (.ok .next) s₁
   | some v=>Cu (Cp P w) A (letOwnedTupleGo target it v) (fun _ t₁=>Cu (Cp P w) A (assign target env v) (fun _ s₂=>
     Cu (Cp P w) A (forIn ifs true fun c r=>if r=true then do let ok <-isTrue c env (eval c env);pure (ForInStep.yield ok) else pure (ForInStep.yield r)) (fun ok s₃=>
      if ok=true then Cu (Cp P w) A (eval elt env) (fun x s₄=>
       Cu (Cp P w) A (call (.builtin "list.append") [acc,x]) (fun _ s₅=>∃ m,m<n/\Iv m s₅) (notedBy (Cp P w) A env fun e s'=>R (.error e) s') s₄) (notedBy (Cp P w) A env fun e s'=>R (.error e) s') s₃
      else ∃ m,m<n/\Iv m s₃) (notedBy (Cp P w) A env fun e s'=>R (.error e) s') s₂) (notedBy (Cp P w) A env fun e s'=>R (.error e) s') t₁) (notedBy (Cp P w) A env fun e s'=>R (.error e) s') s₁) (notedBy (Cp P w) A env fun e s'=>R (.error e) s') s)
  (n:Nat) (h:Iv n s):QV (Cp P w) A (.compLoop (.ListComp elt [⟨target,iter,ifs,0⟩] scope pos) 0 it acc env) R s:=by
 refine codeAny_loop rfl Iv (fun n s hI=>?_) n h;show Cu _ A ((compTurn (.ListComp elt [⟨target,iter,ifs,0⟩] scope pos) 0 it acc env).onRaise (fun x=>do noteFrame x env;theTreesLotGoes x)) _ _ s;refine wpAny_noted ?_;rw [compTurn_list];refine CN<|wpAny_standAt<|CN<|M6 (turn n s hI) (fun r s₁ k₁=>?_) fun _ _ z=>z
 cases r with
 | none=>exact Cz k₁
 | some v=>
  refine CN<|M6 k₁ (fun _ t₁ k₂=>CN<|M6 k₂ (fun _ s₂ k₃=>CN<|M6 k₃ (fun ok s₃ k₄=>?_) fun _ _ z=>z) fun _ _ z=>z) fun _ _ z=>z
  cases ok with
  | false=>exact Cz ⟨rfl,k₄⟩
  | true=>exact CN (CN (M6 k₄ (fun x s₄ k₅=>CN (M6 k₅ (fun _ s₅ k₆=>Cz (Cz ⟨rfl,k₆⟩)) fun _ _ z=>z)) fun _ _ z=>z))
section
variable {X:Cx}{scope:Scope}{x:List Str}{iter tg:Expr}{px pos:Pos}{wi:TI}{tt:TT}{te:TE}{own:V->Hp->List V->Prop}
theorem JH {ajd:List (Addr×Obj)}{Z : St}{s₂ : AP}{H2:Hp}{it:Addr}{fp:List Addr}{tn:Nat->Heap->Prop}{J:It}{Q:VK}{E:Mk->AP->Prop}{RR:Mk->Addr->Result->AP->Prop}
  (hc:J.cm=true->X.calm=true) (B:jc X scope x ix) (hg:∀ C s H fp,PG (blk X scope (iI X x ix) C s H fp) tg (QS x.length own)) (ht:∀ C s H fp,Uy (blk X scope (iI X x ix) C s H fp) ifs tt) (he:∀ C s H fp,PE (blk X scope (iI X x ix) C s H fp) elt te)
  (I2:CQ X ajd Z H2 s₂) (T:Turn X.prog X.w X.K tg J fp it tn) (st2:tn 0 s₂.heap) (f2:∀ b∈fp,Er X ajd H2 b) (hq:wLC x.length own ix tt te Z Q J H2)
  (hRR:∀ D C s' Z' H' p',s₂.heap.objs.size<=C->CQ (blk X scope (iI X x ix) C s₂ H2 fp) p' Z' H' s'->Q (.ref D) H'->RR (.ref D) C (.ok .next) s') :
  Cu (Cp X.prog X.w) X.A (newList []) (fun acc s₃=>Cu (Cp X.prog X.w) X.A (newFunctionEnv scope X.env.globals (Pn scope X.env) [] X.env.qual FX .none (FN X.env)) (fun cenv s₄=>
   QV (Cp X.prog X.w) X.A (.compStart (.ListComp elt [⟨tg,iter,ifs,0⟩] scope pos) 0 (.ref it) acc { cenv with scope:=relabel scope X.env }) (RR acc cenv.locals) s₄) E s₃) E s₂:=by
 refine NP<|zaK ?_
 dsimp only;generalize hH2:s₂.heap.push { cls:=.type "list",dict:=FX,data:=.seq ([]:List Mk).toArray }=HH;generalize hh1:pushCells (HH.push { cls:=.type "dict",data:=.dict #[] }) scope.names=h₁;have hns₁ : h₁.Ns HH.objs.size (fun _=>FX):=by
  obtain ⟨o,es,ep,ho,r⟩:=Heap.Ns.new HH (.type "dict");exact ⟨o,es,ep,by rw [<-hh1];exact pushCells_keeps _ _ _ _ ho,r⟩
 have hkeep:∀ b o,HH.get? b=FN o->h₁.get? b=FN o:=fun b o e=>by rw [<-hh1];exact pushCells_keeps _ _ _ _ (GD _ e)
 have hce:∀ y c,(y,c)∈KQ (HH.objs.size+1) scope.names []->h₁.IsCell c FX:=fun y c e=>by
  rw [<-hh1];exact (Xq (h:=HH.push { cls:=.type "dict",data:=.dict #[] }) (by rw [RD];exact e)).1
 have hC:HH.objs.size=s₂.heap.objs.size+1:=by rw [<-hH2,RD]
 have hDC:s₂.heap.objs.size≠HH.objs.size:=by rw [hC];exact Gq (Vi _)
 have hCle:s₂.heap.objs.size<=HH.objs.size:=by rw [hC];exact QX _
 have old:∀ b o,s₂.heap.get? b=FN o->h₁.get? b=FN o:=fun b o e=>hkeep b o (hH2 ▸ GD _ e)
 have hacc:h₁.get? s₂.heap.objs.size=FN { cls:=.type "list",data:=.seq #[] }:=hkeep _ _ (hH2 ▸ K4 _ rfl);have hob:∀ b∈fp,∃ o,s₂.heap.get? b=FN o:=fun b hb=>let ⟨o,e,_⟩:=T.obj 0 _ st2 b hb;⟨o,e⟩
 have ok:=Xa (C:=HH.objs.size) I2 B hCle f2 hob;obtain ⟨W,⟨m0,w0⟩,turn⟩:=hq s₂.heap.objs.size (I2.hok.fresh (Dg _))
 -- the iterator's records, in the block
 have stat:∀ {H':Hp},(∀ b∈fp,H' b=FX)->∀ b∈fp,Er (blk X scope (iI X x ix) HH.objs.size s₂ H2 fp) [] H' b:=fun {H'} hn b hb=>by
  obtain ⟨o,e⟩:=hob b hb;obtain ⟨_,g1,g2,g3,g4,g5⟩:=f2 b hb;refine ⟨hn b hb,Gq<|HB (G9 e) hCle,fun z=>?_,.inl hb,fun y c h=>?_,fun p hp=>absurd (show p∈([]:List (Addr×Obj)) from hp)<|by simp⟩
  ·rcases Ge.mp (I2.stkSub b z) with q | q
   ·exact g1 q
   ·exact g2 q
  ·rcases oG I2 B h with q | q
   ·exact g4 y c q
   ·intro z;rw [z] at q;exact absurd (HB (G9 e)<|Dk (Dk hCle<|QX _)<|Hw q)<|Nv _
 have loop:∀ s₃ : AP,s₃ = { s₂ with heap:=h₁ } ->
   QV (Cp X.prog X.w) X.A (.compLoop (.ListComp elt [⟨tg,iter,ifs,0⟩] scope pos) 0 (.ref it) (.ref s₂.heap.objs.size) (compEnvC scope (KQ (HH.objs.size+1) scope.names (Pn scope X.env)) HH.objs.size X.env))
    (RR (.ref s₂.heap.objs.size) HH.objs.size) s₃:=by
  rintro s₃ rfl;have J0:=ael (fp:=fp) (C:=HH.objs.size) (tk:=s₂.toks) I2 B ok rfl old hacc hns₁ (Ji hDC) hCle hce;have fr0:∀ b∈fp,FQ H2 s₂.heap.objs.size (.lst []) b=FX:=fun b hb=>by
   obtain ⟨o,e⟩:=hob b hb;rw [aO (Gq (G9 e))];exact (f2 b hb).1
  refine adS (fun k s'=>∃ i ys H',CQ (blk X scope (iI X x ix) HH.objs.size s₂ H2 fp) [] (Ja x.length FX++Cr ix Z) H' s'/\tn i s'.heap/\(∀ b∈fp,H' b=FX)/\H' s₂.heap.objs.size=FN (.lst ys)/\W i k ys H') ?_ m0
   ⟨0,[],_,J0,T.keep 0 _ _ st2 (fun b _ o e=>old b o e),fr0,bF,w0⟩
  rintro n s₄ ⟨i,ys,H4,I4,st4,fr4,hD4,w4⟩;rcases turn i n ys H4 w4 hD4 with ⟨stop,qn⟩ | ⟨go,hz,step⟩
  ·refine Fz (T.done (blk X scope (iI X x ix) HH.objs.size s₂ H2 fp) rfl rfl rfl hc i [] s₄ _ H4 _ I4 (stat fr4) st4 stop) fun r s5 ⟨hr,I5⟩=>?_;subst hr;exact hRR _ _ s5 _ H4 [] hCle I5 qn
  ·refine Fz (T.item (blk X scope (iI X x ix) HH.objs.size s₂ H2 fp) rfl rfl rfl hc i [] s₄ _ H4 _ I4 (stat fr4) st4 go) fun r s5 ⟨u,hr,h5⟩=>?_;subst hr;refine M6 h5 (fun _ s6 ⟨xv,H6,I6,r6,y6,st6,fr6⟩=>?_) fun _ _ z=>z;have I6':=I6.pinned (stat fr6) (T.obj _ _ st6);obtain ⟨vs,hov,hvl,q7⟩:=step xv H6 y6;have fgt:∀ {Z9:St} {H9:Hp} {s9:AP} {p9:List (Addr×Obj)},Z9.length=x.length->CQ (blk X scope (iI X x ix) HH.objs.size s₂ H2 fp) p9 (Z9++Cr ix Z) H9 s9->CQ (blk X scope (iI X x ix) HH.objs.size s₂ H2 fp) p9 (Ja x.length FX++Cr ix Z) H9 s9:=fun {Z9 H9 s9 p9} hl I9=>
    I9.weak (by simp [hl]) fun k v e=>by
     by_cases hk:k<x.length
     ·rw [QC (by simpa using hk),XJ,if_pos hk] at e;cases e
     ·rw [QD (by simpa using hk),List.length_replicate] at e;rw [QD (by rw [hl];lia),hl];exact e
   refine M6 (hg _ _ _ _ _ s6 _ H6 xv u (fun Z9 H9=>Z9=vs.map FN++(Ja x.length (FX:Option V)++Cr ix Z).drop x.length/\H9=H6) I6' r6 ⟨vs,hov,hvl,rfl,rfl⟩) (fun _ s7 ⟨Z7,H7,I7,e7,e8⟩=>?_) fun _ _ z=>z.elim;subst e7 e8;rw [List.drop_left' (by simp)] at I7;have hml:(vs.map FN).length=x.length:=by rw [DX];exact hvl
   refine M6 (ht _ _ _ _ _ s7 _ H7 _ I7 q7) (fun b s8 ⟨H8,I8,q8⟩=>?_) fun _ _ z=>z.elim;have pinned:∀ {H9:Hp} {s9:AP} {Z9:St},CQ (blk X scope (iI X x ix) HH.objs.size s₂ H2 fp) ([]++vL fp s6.heap) Z9 H9 s9->tn (i+1) s9.heap/\∀ b∈fp,H9 b=FX:=fun {H9 s9 Z9} I9=>by
    refine ⟨T.keep _ _ _ st6 fun b hb o e=>(I9.pin (b,o)<|Qs _<|Qs _<|jF hb e).1,fun b hb=>?_⟩;obtain ⟨o,e,d⟩:=T.obj _ _ st6 b hb;exact (I9.pin (b,o)<|Qs _<|Qs _<|jF hb e).2.1
   cases b with
   | false=>
    rw [if_neg Lw] at q8 |-
    obtain ⟨hD8,m',hm,w8⟩:=q8;obtain ⟨t8,f8⟩:=pinned I8;exact ⟨m',hm,i+1,ys,H8,fgt hml I8.unpinned,t8,f8,hD8,w8⟩
   | true=>
    rw [if_pos rfl] at q8 |-
    refine M6 (he _ _ _ _ _ s8 _ H8 _ I8 q8) (fun u9 s9 ⟨v9,H9,I9,r9,hD9,m',hm,w9⟩=>?_) fun _ _ z=>z.elim;refine M6 (vY (X:=blk X scope (iI X x ix) HH.objs.size s₂ H2 fp) _ s9 _ H9 (.ref s₂.heap.objs.size) [v9] _ [u9] (fun _ H'=>H'=FQ H9 s₂.heap.objs.size (.lst<|ys++[v9])) I9 rfl (.cons r9 .nil) ⟨_,ys,v9,rfl,rfl,hD9,hz,rfl⟩) (fun _ s10 ⟨_,H10,I10,_,e10⟩=>?_) fun _ _ z=>z.elim;subst e10;obtain ⟨t10,f10⟩:=pinned I10;exact ⟨m',hm,i+1,ys++[v9],_,fgt hml I10.unpinned,t10,f10,bF,w9⟩
 exact codeAny_compStart_list (loop _ rfl)<|T.self _ 0 _ _ _ (T.keep 0 _ _ st2<|fun b _ o e=>old b o e)<|loop _ rfl
theorem abv (ix:List Nat)(hc:X.calm=true)(B:jc X scope x ix)(hg:∀ C s H fp,PG (blk X scope (iI X x ix) C s H fp) tg (QS x.length own))(hi:PI X tg iter wi)(ht:∀ C s H fp,Uy (blk X scope (iI X x ix) C s H fp) ifs tt)(he:∀ C s H fp,PE (blk X scope (iI X x ix) C s H fp) elt te)
  (hs:∀ v,Tj iter X.env v=pure v:=by intro _;rfl):PE X (.ListComp elt [⟨tg,iter,ifs,0⟩] scope pos) (tLC x.length own ix wi tt te):=by
 intro ajd s Z H Q I h;rw [eval_ListComp];refine wpAny_comprehension_free (use:=FX) rfl hs (Ih<|uO I B) B.kind (fun y hy hk=>by rw [B.names y hy,hk]) ?_;refine Fz (hi ajd s Z H _ I h) fun v s1 h1=>Fz h1 fun itv s2 h2=>?_;obtain ⟨it,fp,tn,J,H2,e,I2,T,st2,f2,hq⟩:=h2;subst e;refine JH (RR:=fun acc C=>compPost (Cp X.prog X.w) X.A X.xe FX (EP X ajd Z Q) acc C) (fun _=>hc) B hg ht he I2 T st2 f2 hq fun D C s' Z' H' p' hC I' q'=>?_;obtain ⟨m,hn,_⟩:=I'.loc;exact ⟨m,hn,fun h' hs'=>⟨.ref D,H',FJ I2 hC f2 I' hs',rfl,q'⟩⟩
theorem abq (ix:List Nat){i:Nat}{py spos:Pos}(hN:X.N.Nodup)(hi':X.N[i]?=FN y)(hy:Loc X.env.scope y)(hc:X.calm=true)(B:jc X scope x ix)(hg:∀ C s H fp,PG (blk X scope (iI X x ix) C s H fp) tg (QS x.length own))(hi:PI X tg iter wi)
  (ht:∀ C s H fp,Uy (blk X scope (iI X x ix) C s H fp) ifs tt) (he:∀ C s H fp,PE (blk X scope (iI X x ix) C s H fp) elt te)
  (hsw:swapsWith (.ListComp elt [⟨tg,iter,ifs,0⟩] scope pos) (FN (.Name y py)) spos.line X.env=pure true:=by rfl)
  (hf:X.fn y=true\/X.env.scope.names.lookup y=FN .local:=by first | exact .inl rfl | exact .inr rfl | assumption)
  (hs:∀ v,Tj iter X.env v=pure v:=by intro _;rfl):PS X (.Assign [.Name y py] (.ListComp elt [⟨tg,iter,ifs,0⟩] scope pos) spos) (Yi (tLC x.length own ix wi tt te) (G8 i)):=by
 intro ajd s Z H D I h;rw [exec_Assign_Name_used _ _ _ _ hsw];refine CN<|wpAny_standAt<|CN ?_
 show Cu _ X.A (do let _ <-comprehension (.ListComp elt [⟨tg,iter,ifs,0⟩] scope pos) scope X.env _ (newList []) false (eval iter X.env) (FN (assign (.Name y py) X.env))) _ _ s;refine CN<|M6 (wpAny_comprehension_free (use:=FN (assign (.Name y py) X.env)) (Q:=fun _ s'=>SP X ajd D .next s') rfl hs (Ih<|uO I B) B.kind (fun y hy hk=>by rw [B.names y hy,hk]) ?_) (fun _ s' hq=>Cz<|Cz hq) fun _ _ e=>e
 refine Fz (hi ajd s Z H _ I h) fun v s1 h1=>Fz h1 fun itv s2 h2=>?_;obtain ⟨it,fp,tn,J,H2,e,I2,T,st2,f2,hq⟩:=h2;subst e;refine JH (RR:=fun acc C=>compPost (Cp X.prog X.w) X.A X.xe (FN<|assign (.Name y py) X.env) (fun _ s'=>SP X ajd D .next s') acc C) (fun _=>hc) B hg ht he I2 T st2 f2 hq fun D' C s' Z' H' p' hC I' q'=>?_;obtain ⟨m,hn,_⟩:=I'.loc;have I3:CQ X ajd Z H' s':=FJ (h':=s'.heap) I2 hC f2 I' (.refl ..);show Cu _ X.A (assign (.Name y py) X.env (.ref D')) _ _ s';have cneC:∀ z c,X.env.cells.lookup z=FN c->c≠C:=fun z c e q=>by
  obtain ⟨v,w⟩:=I2.cell z c e;exact absurd (HB w.lt (by rw [q];exact hC))<|Nv _
 have lneC:X.env.locals≠C:=Gq (HB I2.lt hC);refine wpAny_assign_Name<|wC (v:=.ref D') I3 hN hi' hy rfl (fun s'' I'' hsb=>?_) hf
 obtain ⟨a,hsb,ha⟩:=hsb;have haC:C≠a:=by
  rcases ha with rfl | ha
  ·exact Ji lneC
  ·exact Ji<|cneC _ _ ha
 refine ⟨m,hn.sameBut hsb haC,fun h' hs'=>⟨_,H',?_,q'⟩⟩;refine I''.turned (it:=C) (t':=s''.toks) (fun b o hb e=>(hs'.2 b hb).trans e) I'.free (Ji lneC) (.inr<|Dk I2.sz hC) cneC<|fun p hp z=>?_
 exact absurd (HB (G9 (I2.pin p hp).1) (by rw [z];exact hC))<|Nv _
end
variable {own : V->Hp->List V->Prop}
def Sm (n:Nat)(i:Int):Prop:=i.natAbs<2^n
theorem Sm.bits {n:Nat}{i:Int}(h:Sm n i):Builtin.Int.intBits i<=n:=by
 unfold Builtin.Int.intBits;by_cases e:i=0
 ·subst e;exact Ko _
 ·have e':(i==0)=false:=beq_eq_false_iff_ne.mpr e;rw [e'];have h0:i.natAbs≠0:=by lia
  have:=(Nat.log2_lt h0).mpr h
  simp only [R8,if_false];lia
variable {m : Nat}
theorem Sm.mono {n:Nat}{i:Int}(h:Sm m i)(hmn:m<=n):Sm n i:=HB h (Wg (by decide) hmn)
theorem Sm.mul {n:Nat}{i j:Int}(h:Sm m i)(h':Sm n j):Sm (m+n) (i*j):=by
 unfold Sm at *;rw [Ss,QB];by_cases e:j.natAbs=0
 ·rw [e,Nat.mul_zero];exact Nat.mul_pos (Tc<|by decide)<|Tc<|by decide
 ·exact HB (Nat.mul_lt_mul_of_pos_right h<|Nat.pos_of_ne_zero e)<|Nat.mul_le_mul_left _<|Lx h'
theorem Sm.add {n:Nat}{i j:Int}(h:Sm m i)(h':Sm n j):Sm (max m n+1) (i+j):=by
 have h1:=h.mono (Nat.le_max_left m n);have h2:=h'.mono (Nat.le_max_right m n);unfold Sm at *;rw [Nat.pow_succ];lia
theorem Sm.neg {n:Nat}{i:Int}(h:Sm n i):Sm n (-i):=by unfold Sm at *;rw [Int.natAbs_neg];exact h
theorem Sm.sub {n:Nat}{i j:Int}(h:Sm m i)(h':Sm n j):Sm (max m n+1) (i - j):=by
 rw [Int.sub_eq_add_neg];exact h.add h'.neg
theorem Sm.zero {n:Nat}:Sm n 0:=Tc (by decide)
theorem CV {n:Nat}{i:Int}(h1:-(2^n:Int)<i)(h2:i<(2^n:Int)):Sm n i:=by
 unfold Sm;have e:((2^n:Nat):Int)=(2:Int)^n:=by simp
 lia
def qM (i j:Int):Prop:=∃ m n,m<=1000000/\n<=1000000/\Sm m i/\Sm n j
theorem qM.ok {i j:Int}(h:qM i j):IntMulOk i j:=by
 obtain ⟨m,n,hm,hn,h1,h2⟩:=h;have e:(2:Nat)^20=1048576:=by decide
 exact .of_bits (by have:=h1.bits;lia) (by have:=h2.bits;lia)
def Iu (_ j:Int):Prop:=j≠0/\∃ n,n<=8000/\Sm n j
theorem ahW {n:Nat}{j:Int}(hn:n<=8000)(h:Sm n j):j.natAbs.log2<9000:=by
 by_cases e:j.natAbs=0
 ·rw [e];decide
 ·have:=(Nat.log2_lt e).mpr h
  lia
section
variable {X:Cx}
theorem Jm:K8 X (Lj .Mult) (rI qM fun i j=>.int (i*j)):=opI fun _ _ _ _ _ _ _ hc q=>mul_int q hc.ok
theorem adN:K8 X (Lj .FloorDiv) (rI Iu fun i j=>.int (i.fdiv j)):=opI fun i j _ _ _ _ _ hc q=>by
 obtain ⟨h1,n,hn,h2⟩:=hc;exact floordiv_int h1 q<|.inl<|PyProof.noPylong_of_log2<|ahW hn h2
theorem xM:∀ {bs:List Bool} {its:List Mk} {i:Nat} {v:Mk},CR (bs.map V.bl) its->its[i]?=FN v->∃ b,bs[i]?=FN b/\v=.bool b
 | [],_,_,_,.nil,e=>by simp at e
 | b::bs,_,0,_,.cons r _,e=>by simp at e;subst e;exact ⟨b,rfl,r⟩
 | _::bs,_,i+1,v,.cons _ t,e=>by
  obtain ⟨b,h1,h2⟩:=xM (i:=i) (v:=v) t (by simpa using e);exact ⟨b,by simpa using h1,h2⟩
def acg (K:CT)(H:Hp):V->String->Bool->Prop
 | .int _,T,b=>(T = "int"/\b=true)\/(T = "bool"/\b=false)\/(T = "tuple"/\b=false)\/(T = "list"/\b=false)
 | .bl _,T,b=>(T = "int"/\b=true)\/(T = "bool"/\b=true)\/(T = "tuple"/\b=false)\/(T = "list"/\b=false)
 | .str _,T,b=>(T = "int"/\b=false)\/(T = "bool"/\b=false)\/(T = "tuple"/\b=false)\/(T = "list"/\b=false)
 | .non,T,b=>(T = "int"/\b=false)\/(T = "bool"/\b=false)\/(T = "tuple"/\b=false)\/(T = "list"/\b=false)
 | .ref p,T,b=>(∃ xs,HJ K H p xs/\((T = "int"/\b=false)\/(T = "bool"/\b=false)\/(T = "tuple"/\b=true)\/(T = "list"/\b=false))) \/
   (∃ xs,Jy K H p xs/\((T = "int"/\b=false)\/(T = "bool"/\b=false)\/(T = "tuple"/\b=false)\/(T = "list"/\b=true)))
 | _,_,_=>False
theorem agc:fX X (.builtin "isinstance") (fun xs H Q=>∃ x T b,xs=[x,.ty T]/\acg X.K H x T b/\Q (.bl b) H):=by
 intro ajd s Z H xs us Q I r h;obtain ⟨x,T,b,rfl,hi,q⟩:=h;obtain ⟨u,w',rfl,rx,ru⟩:=vals2 r;cases ru;have k0:EP X ajd Z Q (.bool b) s:=⟨.bl b,H,I,rfl,q⟩
 have k1:EP X ajd Z Q (.bool b) { s with toks:=s.toks+1 }:=⟨.bl b,H,I.tok _,rfl,q⟩
 cases x with
 | int i=>
  obtain ⟨t,rfl⟩:=rx;rcases hi with ⟨rfl,rfl⟩ | ⟨rfl,rfl⟩ | ⟨rfl,rfl⟩ | ⟨rfl,rfl⟩
  ·exact IsiPair.int_int k0
  ·exact IsiPair.int_bool k1
  ·exact IsiPair.int_tuple k1
  ·exact IsiPair.int_list k1
 | bl i=>
  cases rx;rcases hi with ⟨rfl,rfl⟩ | ⟨rfl,rfl⟩ | ⟨rfl,rfl⟩ | ⟨rfl,rfl⟩
  ·first | exact IsiPair.bool_int k0 | exact IsiPair.bool_int k1
  ·first | exact IsiPair.bool_bool k0 | exact IsiPair.bool_bool k1
  ·exact IsiPair.bool_tuple k1
  ·exact IsiPair.bool_list k1
 | str i=>
  obtain ⟨t,rfl⟩:=rx;rcases hi with ⟨rfl,rfl⟩ | ⟨rfl,rfl⟩ | ⟨rfl,rfl⟩ | ⟨rfl,rfl⟩
  ·exact IsiPair.str_int k1
  ·exact IsiPair.str_bool k1
  ·exact IsiPair.str_tuple k1
  ·exact IsiPair.str_list k1
 | non=>
  cases rx;rcases hi with ⟨rfl,rfl⟩ | ⟨rfl,rfl⟩ | ⟨rfl,rfl⟩ | ⟨rfl,rfl⟩
  ·exact IsiPair.NoneType_int k1
  ·exact IsiPair.NoneType_bool k1
  ·exact IsiPair.NoneType_tuple k1
  ·exact IsiPair.NoneType_list k1
 | ref p=>
  cases rx;rcases hi with ⟨xs,hS,hi⟩ | ⟨xs,hS,hi⟩
  ·obtain ⟨its,_,⟨o,e,c,_⟩,_⟩:=I.tuple hS;rcases hi with ⟨rfl,rfl⟩ | ⟨rfl,rfl⟩ | ⟨rfl,rfl⟩ | ⟨rfl,rfl⟩
   ·exact IsiPair.tuple_int e c k1
   ·exact IsiPair.tuple_bool e c k1
   ·exact IsiPair.tuple_tuple e c k0
   ·exact IsiPair.tuple_list e c k1
  ·obtain ⟨its,_,pl,_⟩:=I.list hS;obtain ⟨o,e,c,_⟩:=pl.isList;rcases hi with ⟨rfl,rfl⟩ | ⟨rfl,rfl⟩ | ⟨rfl,rfl⟩ | ⟨rfl,rfl⟩
   ·exact IsiPair.list_int e c k1
   ·exact IsiPair.list_bool e c k1
   ·exact IsiPair.list_tuple e c k1
   ·exact IsiPair.list_list e c k0
 | _=>exact (show False from hi).elim
end
inductive W where
 | non | bl (b:Bool) | int (i:Int) | str (x:Str) | ty (n:String) | tup (ws:List W) | lst (ws:List W) | loc (n:Nat) | kls (ws:List W) | exc (n:Str)
 | exa (n:Str) (ws:List W)
 | fnv (f:Addr) (i:Nat)
inductive Cell where
 | lst (ws:List W) | obj (C:Addr) (fs:List (Str×W)) | dct (kvs:List (Key×W))
 | dtt (kvs:List (List Int×W))
structure Gh where
 nx:Nat
 c:Nat->Option Cell
structure Mu where
 f:Nat->Option Addr
 hid:Addr->Prop
def acP (K:CT)(p:Addr)(xs:List V):Prop:=
 ∃ (o:Obj) (its:Array Mk) (n:Nat),K.lookup p=FN o/\o.cls=.type "list"/\o.dict=FX/\o.data=.seq its n/\its.size<=FP/\CR xs its.toList
def Frz (H:Hp)(μ : Mu)(p:Addr)(xs:List V):Prop:=H p=FN (.lst xs)/\(∀ n,μ.f n≠FN p)/\¬ μ.hid p
def Frk (K:CT)(H:Hp)(p:Addr)(xs:List V):Prop:=(∃ o,H p=FN (.frz o (.lst xs)))\/acP K p xs
variable {μ : Mu}
theorem Frz.sq {K:CT}{H:Hp}{p:Addr}{xs:List V}(h:Frz H μ p xs):Jy K H p xs:=.inl (.inl h.1)
theorem Frk.sq {K:CT}{H:Hp}{p:Addr}{xs:List V}(h:Frk K H p xs):Jy K H p xs:=by
 rcases h with h | h
 ·exact .inl<|.inr h
 ·exact .inr h
def vmB:List Mk:=[.type "ValueError",.type "Exception",.type "BaseException",.type "object"]
def acq (K:CT)(C:Addr)(n:Str):Bool:=Kz K Jk n==FN (FN (.ref C))&&PySem.W.typeIn K (.ref C)==FN (.type "type")&&match PySem.W.clsIn K C with
 | some cd=>cd.name==n&&cd.mro.contains (.type "BaseException")
 | none=>false
def aak (K:CT)(C:Addr)(n:Str):Bool:=acq K C n&&(match PySem.W.clsIn K C with
 | some cd=>(match cd.mro with
  | [.ref C',.ref R,a,b,c,d]=>C'==C&&[a,b,c,d]==vmB&&Kz K Jk "EaselError"==FN (FN (.ref R))&&(PySem.W.clsIn K R).any (fun c=>c.name==("EaselError" : Str))
  | _=>false)
 | none=>false)&&Ro K (.ref C) "__getattribute__"==FN (FN (.builtin "BaseException.__getattribute__"))&&Ro K (.ref C) "__getattr__"==FN FX&&Ro K (.ref C) "__class__"==FN (FN (.builtin "object.__class__"))&&PySem.W.specialIn K (.builtin "object.__class__") "__get__"==FN (FN (.builtin "getset_descriptor.__get__"))
 && PySem.W.takesIn K (.builtin "object.__class__")==FN true
def ab9 (n:Str):List Str:=if n = "Apart" then ["word", "places"] else ["at"]
def ac1 (K:CT)(C:Addr)(n:Str):Bool:=aak K C n&&PySem.W.hasDictIn K C&&(ab9 n).all fun f=>Ro K (.ref C) f==FN FX
def Xoa (K:CT)(o:Obj)(n:Str)(dd:Addr):Prop:=∃ C,o.cls=.ref C/\o.dict=FN dd/\PySem.W.notCls o=true/\ac1 K C n=true
def Xob (K:CT)(o:Obj)(n:Str):Prop:=∃ C,o.cls=.ref C/\o.dict=FX/\PySem.W.notCls o=true/\aak K C n=true
mutual
def CK (K:CT)(H:Hp)(μ : Mu):W->V->Prop
 | .non,v=>v=.non
 | .bl b,v=>v=.bl b
 | .int i,v=>v=.int i
 | .str x,v=>v=.str x
 | .ty n,v=>v=.ty n
 | .tup ws,v=>∃ p xs,v=.ref p/\HJ K H p xs/\aM K H μ ws xs
 | .lst ws,v=>∃ p xs,v=.ref p/\Frz H μ p xs/\aM K H μ ws xs
 | .kls ws,v=>∃ p xs,v=.ref p/\Frk K H p xs/\aM K H μ ws xs
 | .loc n,v=>∃ p,v=.ref p/\μ.f n=FN p
 | .exc n,v=>∃ p o u,v=.ref p/\H p=FN (.frz o u)/\Xob K o n
 | .exa n ws,v=>∃ p o u dd ns xs,v=.ref p/\H p=FN (.frz o u)/\Xoa K o n dd/\H dd=FN (.xd (List.zip ns xs))/\ns=ab9 n/\ns.length=xs.length/\aM K H μ ws xs
 | .fnv f _,v=>v=.ref f
def aM (K:CT)(H:Hp)(μ : Mu):List W->List V->Prop
 | [],xs=>xs=[]
 | w::ws,xs=>∃ v vs,xs=v::vs/\CK K H μ w v/\aM K H μ ws vs
end
section
variable {K:CT}{H H' H1 H2:Hp}{μ' μ1 μ2 : Mu}{h h':Gh}{w:W}{ws:List W}{v:V}{xs:List V}
theorem aM.len:∀ {ws:List W} {xs:List V},aM K H μ ws xs->ws.length=xs.length
 | [],xs,h=>by
  have e:xs=[]:=by rw [aM] at h;exact h
  rw [e];rfl
 | w::ws,xs,h=>by
  rw [aM] at h;obtain ⟨v,vs,e,_,h⟩:=h;rw [e,K7,K7,aM.len h]
theorem aM.get:∀ {ws:List W} {xs:List V} {i:Nat} {w:W},aM K H μ ws xs->ws[i]?=FN w->∃ v,xs[i]?=FN v/\CK K H μ w v
 | [],_,_,_,_,e=>by simp at e
 | a::ws,xs,0,w,h,e=>by
  rw [aM] at h;obtain ⟨v,vs,e1,r,_⟩:=h;simp at e;subst e;subst e1;exact ⟨v,rfl,r⟩
 | a::ws,xs,i+1,w,h,e=>by
  rw [aM] at h;obtain ⟨v,vs,e1,_,h⟩:=h;subst e1;obtain ⟨u,h1,h2⟩:=aM.get (i:=i) (w:=w) h (by simpa using e);exact ⟨u,by simpa using h1,h2⟩
theorem aM.nil:aM K H μ [] []:=by rw [aM]
theorem aM.cons (r:CK K H μ w v)(h:aM K H μ ws xs):aM K H μ (w::ws) (v::xs):=by
 rw [aM];exact ⟨v,xs,rfl,r,h⟩
theorem aM.append:∀ {ws:List W} {xs:List V} {us:List W} {ys:List V},aM K H μ ws xs->aM K H μ us ys->aM K H μ (ws++us) (xs++ys)
 | [],xs,us,ys,h,g=>by
  rw [aM] at h;subst h;exact g
 | w::ws,xs,us,ys,h,g=>by
  rw [aM] at h;obtain ⟨v,vs,e,r,h⟩:=h;subst e;exact aM.cons r<|aM.append h g
theorem aM.one (r:CK K H μ w v):aM K H μ [w] [v]:=aM.cons r aM.nil
theorem aM.set (r:CK K H μ w v):∀ {ws:List W} {xs:List V} (i:Nat),aM K H μ ws xs->aM K H μ (ws.set i w) (xs.set i v)
 | [],xs,i,h=>by rw [aM] at h;subst h;exact aM.nil
 | a::ws,xs,0,h=>by
  rw [aM] at h;obtain ⟨u,vs,e,_,h⟩:=h;subst e;exact aM.cons r h
 | a::ws,xs,i+1,h=>by
  rw [aM] at h;obtain ⟨u,vs,e,q,h⟩:=h;subst e;exact aM.cons q<|aM.set r i h
theorem aM.take:∀ {ws:List W} {xs:List V} (n:Nat),aM K H μ ws xs->aM K H μ (ws.take n) (xs.take n)
 | _,_,0,_=>by simp only [List.take_zero];exact aM.nil
 | [],xs,n+1,h=>by rw [aM] at h;subst h;exact aM.nil
 | a::ws,xs,n+1,h=>by
  rw [aM] at h;obtain ⟨u,vs,e,q,h⟩:=h;subst e;exact aM.cons q<|aM.take n h
theorem aM.drop:∀ {ws:List W} {xs:List V} (n:Nat),aM K H μ ws xs->aM K H μ (ws.drop n) (xs.drop n)
 | _,_,0,h=>h
 | [],xs,n+1,h=>by rw [aM] at h;subst h;exact aM.nil
 | a::ws,xs,n+1,h=>by
  rw [aM] at h;obtain ⟨u,vs,e,q,h⟩:=h;subst e;exact aM.drop n h
structure Ex0 (K:CT) (H:Hp) (μ : Mu) (H':Hp) (μ':Mu):Prop where
 t:∀ p xs,HJ K H p xs->HJ K H' p xs
 l:∀ p xs,Frz H μ p xs->Frz H' μ' p xs
 k:∀ p xs,Frk K H p xs->Frk K H' p xs
 m:∀ n p,μ.f n=FN p->μ'.f n=FN p
 x:∀ p o u,H p=FN (.frz o u)->H' p=FN (.frz o u)
 y:∀ p fs,H p=FN (.xd fs)->H' p=FN (.xd fs)
structure Ex (K:CT) (H:Hp) (μ : Mu) (H':Hp) (μ':Mu):Prop extends Ex0 K H μ H' μ' where
 o:∀ p u,μ.hid p->H p=FN u->μ'.hid p/\H' p=FN u
mutual
theorem CK.ex (e:Ex0 K H μ H' μ'):∀ {w:W} {v:V},CK K H μ w v->CK K H' μ' w v
 | .non,_,h=>by rw [CK] at h |-;exact h
 | .bl _,_,h=>by rw [CK] at h |-;exact h
 | .int _,_,h=>by rw [CK] at h |-;exact h
 | .str _,_,h=>by rw [CK] at h |-;exact h
 | .ty _,_,h=>by rw [CK] at h |-;exact h
 | .tup ws,_,h=>by
  rw [CK] at h |-
  obtain ⟨p,xs,e1,hs,hr⟩:=h;exact ⟨p,xs,e1,e.t _ _ hs,aM.ex e hr⟩
 | .lst ws,_,h=>by
  rw [CK] at h |-
  obtain ⟨p,xs,e1,hs,hr⟩:=h;exact ⟨p,xs,e1,e.l _ _ hs,aM.ex e hr⟩
 | .kls ws,_,h=>by
  rw [CK] at h |-
  obtain ⟨p,xs,e1,hs,hr⟩:=h;exact ⟨p,xs,e1,e.k _ _ hs,aM.ex e hr⟩
 | .loc n,_,h=>by
  rw [CK] at h |-
  obtain ⟨p,e1,hm⟩:=h;exact ⟨p,e1,e.m _ _ hm⟩
 | .exc n,_,h=>by
  rw [CK] at h |-
  obtain ⟨p,o,u,e1,hm,hx⟩:=h;exact ⟨p,o,u,e1,e.x _ _ _ hm,hx⟩
 | .exa n ws,_,h=>by
  rw [CK] at h |-
  obtain ⟨p,o,u,dd,ns,xs,e1,hm,hx,hd,e2,e3,hr⟩:=h;exact ⟨p,o,u,dd,ns,xs,e1,e.x _ _ _ hm,hx,e.y _ _ hd,e2,e3,aM.ex e hr⟩
 | .fnv _ _,_,h=>by rw [CK] at h |-;exact h
theorem aM.ex (e:Ex0 K H μ H' μ'):∀ {ws:List W} {xs:List V},aM K H μ ws xs->aM K H' μ' ws xs
 | [],_,h=>by rw [aM] at h |-;exact h
 | w::ws,_,h=>by
  rw [aM] at h |-
  obtain ⟨v,vs,e1,r,h⟩:=h;exact ⟨v,vs,e1,CK.ex e r,aM.ex e h⟩
end
structure Ik (K:CT) (H:Hp) (μ : Mu) (H':Hp) (μ':Mu):Prop where
 r:∀ w v,CK K H μ w v->CK K H' μ' w v
 o:∀ p u,μ.hid p->H p=FN u->μ'.hid p/\H' p=FN u
theorem Ik.refl:Ik K H μ H μ:=⟨fun _ _ h=>h,fun _ _ h g=>⟨h,g⟩⟩
theorem Ik.trans (a:Ik K H μ H1 μ1)(b:Ik K H1 μ1 H2 μ2):Ik K H μ H2 μ2:=
 ⟨fun w v h=>b.r w v (a.r w v h),fun p u h g=>let ⟨h1,g1⟩:=a.o p u h g;b.o p u h1 g1⟩
theorem Ex.ext (e:Ex K H μ H' μ'):Ik K H μ H' μ':=⟨fun _ _ h=>CK.ex e.toEx0 h,e.o⟩
theorem Ik.s (e:Ik K H μ H' μ'):∀ {ws:List W} {xs:List V},aM K H μ ws xs->aM K H' μ' ws xs
 | [],_,h=>by rw [aM] at h |-;exact h
 | w::ws,_,h=>by
  rw [aM] at h |-
  obtain ⟨v,vs,e1,r,h⟩:=h;exact ⟨v,vs,e1,e.r _ _ r,Ik.s e h⟩
def Y6:Option HO->Prop
 | some (.lst _)=>True
 | some (.dK _)=>True
 | some (.ins _ _ _)=>True
 | some (.ext _)=>True
 | _=>False
def nW {κ : Type}(K:CT)(H:Hp)(μ : Mu):List (κ×W)->List (κ×V)->Prop:=LQ fun (p:κ×W) (q:κ×V)=>p.1=q.1/\CK K H μ p.2 q.2
def acQ (x:List Int×Addr×Mk):QW:=⟨reduceHash (Builtin.Tuple.tupleHashOf (x.1.map hashInt)),.ref x.2.1,x.2.2⟩
def Ep (a:Addr)(xs:List (List Int×Addr×Mk))(h:Heap):Prop:=xs.length<=FP/\(a==M5)=false/\(xs.map (·.1)).Nodup/\∃ o es ep,h.get? a=FN o/\o.ExactDict/\o.data=.dict es ep/\es.toList=xs.map acQ
def sI (K:CT)(H:Hp)(μ : Mu)(p:Addr):Cell->Prop
 | .lst ws=>∃ xs,H p=FN (.lst xs)/\aM K H μ ws xs
 | .obj C fs=>∃ dx fvs,H p=FN (.ins C dx fvs)/\nW K H μ fs fvs
 | .dct kvs=>∃ kvv,H p=FN (.dK kvv)/\nW K H μ kvs kvv
 | .dtt kvs=>∃ xs vs,H p=FN (.ext (Ep p xs))/\kvs.map (·.1)=xs.map (·.1)/\CR vs (xs.map (·.2.2))/\aM K H μ (kvs.map fun x=>W.tup (x.1.map W.int)) (xs.map fun x=>V.ref x.2.1)/\aM K H μ (kvs.map (·.2)) vs
structure Ej (K:CT) (μ : Mu) (H:Hp) (h:Gh):Prop where
 inj:∀ m n p,μ.f m=FN p->μ.f n=FN p->m=n
 dom:∀ n p,μ.f n=FN p->n<h.nx
 trk:∀ n p,μ.f n=FN p->Y6 (H p)
 cel:∀ n c,h.c n=FN c->∃ p,μ.f n=FN p/\sI K H μ p c
 hd:∀ p,μ.hid p->(∃ xs,H p=FN (.lst xs))/\∀ n,μ.f n≠FN p
theorem sI.ext {p:Addr}{c:Cell}(e:Ik K H μ H' μ')(hp:H' p=H p)(x:sI K H μ p c):sI K H' μ' p c:=by
 cases c with
 | lst ws=>obtain ⟨xs,a,b⟩:=x;exact ⟨xs,hp.trans a,e.s b⟩
 | obj C fs=>obtain ⟨dx,fvs,a,b⟩:=x;exact ⟨dx,fvs,hp.trans a,Paired.mapP b fun _ _ z=>⟨z.1,e.r _ _ z.2⟩⟩
 | dct kvs=>obtain ⟨kvv,a,b⟩:=x;exact ⟨kvv,hp.trans a,Paired.mapP b fun _ _ z=>⟨z.1,e.r _ _ z.2⟩⟩
 | dtt kvs=>obtain ⟨xs,vs,a,b,c,d,f⟩:=x;exact ⟨xs,vs,hp.trans a,b,c,e.s d,e.s f⟩
theorem Rd.laid {p q:Addr}{o u:HO}(hp:H p=FX)(r:Rd H q u):Rd (FQ H p o) q u:=by
 have ne:q≠p:=by
  rcases r with r | ⟨_,r⟩
  ·exact aR r hp
  ·exact aR r hp
 unfold Rd;rw [aO ne];exact r
theorem Ex.laid {p:Addr}{o:HO}(hp:H p=FX):Ex K H μ (FQ H p o) μ where
 t:=fun q xs h=>by
  rcases h with h | h
  ·exact .inl<|h.laid hp
  ·exact .inr h
 l:=fun q xs h=>⟨by rw [aO (aR h.1 hp)];exact h.1,h.2⟩
 k:=fun q xs h=>by
  rcases h with ⟨o',h⟩ | h
  ·exact .inl ⟨o',by rw [aO<|aR h hp];exact h⟩
  ·exact .inr h
 m:=fun _ _ h=>h
 x:=fun q o' u e=>by rw [aO (aR e hp)];exact e
 y:=fun q fs e=>by rw [aO (aR e hp)];exact e
 o:=fun q u z e=>⟨z,by rw [aO (aR e hp)];exact e⟩
theorem Ej.laid {p:Addr}{o:HO}(R:Ej K μ H h)(hp:H p=FX):Ej K μ (FQ H p o) h where
 inj:=R.inj
 dom:=R.dom
 trk:=fun n q e=>by
  have:=R.trk n q e
  have ne:q≠p:=fun z=>by subst z;rw [hp] at this;exact this
  rw [aO ne];exact this
 cel:=fun n c e=>by
  obtain ⟨q,e1,x⟩:=R.cel n c e;have:=R.trk n q e1
  have ne:q≠p:=fun z=>by subst z;rw [hp] at this;exact this
  exact ⟨q,e1,x.ext (Ex.laid hp).ext (aO ne)⟩
 hd:=fun q z=>by
  obtain ⟨⟨xs,e⟩,g⟩:=R.hd q z;exact ⟨⟨xs,by rw [aO<|aR e hp];exact e⟩,g⟩
theorem CK.tupNew {p:Addr}(hp:H p=FX)(r:aM K H μ ws xs):CK K (FQ H p (.tup xs)) μ (.tup ws) (.ref p):=by
 rw [CK];exact ⟨p,xs,rfl,HJ.of bF,(Ex.laid hp).ext.s r⟩
theorem CK.lstNew {p:Addr}(R:Ej K μ H h)(hp:H p=FX)(r:aM K H μ ws xs):CK K (FQ H p (.lst xs)) μ (.lst ws) (.ref p):=by
 rw [CK];refine ⟨p,xs,rfl,⟨bF,fun n e=>?_,fun z=>?_⟩,(Ex.laid hp).ext.s r⟩
 ·have:=R.trk n p e
  rw [hp] at this;exact this
 ·obtain ⟨⟨xs,e⟩,_⟩:=R.hd p z;rw [hp] at e;cases e
def Mu.put (μ : Mu)(n:Nat)(p:Addr):Mu:=⟨fun m=>if m=n then FN p else μ.f m,μ.hid⟩
theorem Mu.put_same {n:Nat}{p:Addr}:(μ.put n p).f n=FN p:=by show (if n=n then FN p else μ.f n)=_;rw [if_pos rfl]
theorem Mu.put_ne {n:Nat}{p:Addr}(e:m≠n):(μ.put n p).f m = μ.f m:=by show (if m=n then FN p else μ.f m)=_;rw [if_neg e]
def Gh.new (h:Gh)(c:Cell):Gh:=⟨h.nx+1,fun m=>if m=h.nx then FN c else h.c m⟩
def Gh.set (h:Gh)(n:Nat)(c:Cell):Gh:=⟨h.nx,fun m=>if m=n then FN c else h.c m⟩
theorem Ej.dead (R:Ej K μ H h){n:Nat}(hn:h.nx<=n):μ.f n=FX:=by
 cases e:μ.f n with
 | none=>rfl
 | some p=>exact absurd (R.dom n p e) (by lia)
theorem Ex.newCell {p:Addr}{o:HO}(R:Ej K μ H h)(hp:H p=FX):Ex K H μ (FQ H p o) (μ.put h.nx p) where
 t:=fun q xs z=>(Ex.laid (μ:=μ) hp).t q xs z
 l:=fun q xs z=>by
  have nq:=aR z.1 hp;refine ⟨by rw [aO nq];exact z.1,fun n e=>?_,z.2.2⟩;by_cases hn:n=h.nx
  ·subst hn;rw [Mu.put_same] at e;exact nq (Gz e).symm
  ·rw [Mu.put_ne hn] at e;exact z.2.1 n e
 k:=fun q xs z=>(Ex.laid (μ:=μ) hp).k q xs z
 m:=fun n q e=>by
  have hn:n≠h.nx:=fun z=>by subst z;rw [R.dead (Dg _)] at e;cases e
  rw [Mu.put_ne hn];exact e
 x:=fun q o' u e=>by rw [aO (aR e hp)];exact e
 y:=fun q fs e=>by rw [aO (aR e hp)];exact e
 o:=fun q u z e=>⟨z,by rw [aO (aR e hp)];exact e⟩
theorem Ej.newCell {p:Addr}{o:HO}{c:Cell}(R:Ej K μ H h)(hp:H p=FX)(mo:Y6 (FN o))(ck:sI K (FQ H p o) (μ.put h.nx p) p c):Ej K (μ.put h.nx p) (FQ H p o) (h.new c) where
 inj:=fun m n q em en=>by
  by_cases hm:m=h.nx
  ·by_cases hn:n=h.nx
   ·rw [hm,hn]
   ·rw [hm,Mu.put_same] at em;rw [Mu.put_ne hn] at en;have e:p=q:=Gz em;subst e;have:=R.trk n _ en
    rw [hp] at this;exact this.elim
  ·rw [Mu.put_ne hm] at em;by_cases hn:n=h.nx
   ·rw [hn,Mu.put_same] at en;have e:p=q:=Gz en;subst e;have:=R.trk m _ em
    rw [hp] at this;exact this.elim
   ·rw [Mu.put_ne hn] at en;exact R.inj m n q em en
 dom:=fun n q e=>by
  show n<h.nx+1;by_cases hn:n=h.nx
  ·lia
  ·rw [Mu.put_ne hn] at e;have:=R.dom n q e
   lia
 trk:=fun n q e=>by
  by_cases hn:n=h.nx
  ·rw [hn,Mu.put_same] at e;have e:p=q:=Gz e;subst e;rw [bF];exact mo
  ·rw [Mu.put_ne hn] at e;have:=R.trk n q e
   have ne:q≠p:=fun z=>by subst z;rw [hp] at this;exact this
   rw [aO ne];exact this
 cel:=fun n d e=>by
  have e:(if n=h.nx then FN c else h.c n)=FN d:=e;by_cases hn:n=h.nx
  ·rw [if_pos hn] at e;have e:c=d:=Gz e;subst e;exact ⟨p,by rw [hn,Mu.put_same],ck⟩
  ·rw [if_neg hn] at e;obtain ⟨q,e1,x⟩:=R.cel n d e;have:=R.trk n q e1
   have ne:q≠p:=fun z=>by subst z;rw [hp] at this;exact this
   exact ⟨q,by rw [Mu.put_ne hn];exact e1,x.ext (Ex.newCell R hp).ext (aO ne)⟩
 hd:=fun q z=>by
  obtain ⟨⟨xs,e⟩,g⟩:=R.hd q z;have ne:=aR e hp;refine ⟨⟨xs,by rw [aO ne];exact e⟩,fun n en=>?_⟩;by_cases hn:n=h.nx
  ·rw [hn,Mu.put_same] at en;exact ne (Gz en).symm
  ·rw [Mu.put_ne hn] at en;exact g n en
theorem Rd.kept {p q:Addr}{o u:HO}(mo:Y6 (H p))(r:Rd H q u)(hn:q≠p):Rd (FQ H p o) q u:=by
 unfold Rd;rw [aO hn];exact r
theorem Ex.write {n:Nat}{p:Addr}{o:HO}(R:Ej K μ H h)(hn:μ.f n=FN p):Ex K H μ (FQ H p o) μ where
 t:=fun q xs z=>by
  rcases z with z | z
  ·refine .inl<|z.kept (R.trk n p hn) fun e=>?_
   subst e;have:=R.trk n q hn
   rcases z with r | ⟨_,r⟩ <;> rw [r] at this <;> exact this
  ·exact .inr z
 l:=fun q xs z=>⟨by rw [aO (fun e=>z.2.1 n (by rw [e];exact hn))];exact z.1,z.2⟩
 k:=fun q xs z=>by
  rcases z with ⟨o',z⟩ | z
  ·refine .inl ⟨o',?_⟩;rw [aO (fun e=>?_)]
   ·exact z
   ·subst e;have:=R.trk n q hn
    rw [z] at this;exact this
  ·exact .inr z
 m:=fun _ _ e=>e
 x:=fun q o' u e=>by
  rw [aO (fun y=>?_)]
  ·exact e
  ·subst y;have:=R.trk n q hn
   rw [e] at this;exact this
 y:=fun q fs e=>by
  rw [aO (fun y=>?_)]
  ·exact e
  ·subst y;have:=R.trk n q hn
   rw [e] at this;exact this
 o:=fun q u z e=>⟨z,by rw [aO (fun y=>(R.hd q z).2 n (by rw [y];exact hn))];exact e⟩
theorem Ej.write {n:Nat}{p:Addr}{o:HO}{c:Cell}(R:Ej K μ H h)(hn:μ.f n=FN p)(mo:Y6 (FN o))(ck:sI K (FQ H p o) μ p c):Ej K μ (FQ H p o) (h.set n c) where
 inj:=R.inj
 dom:=R.dom
 trk:=fun m q e=>by
  by_cases z:q=p
  ·subst z;rw [bF];exact mo
  ·rw [aO z];exact R.trk m q e
 cel:=fun m d e=>by
  have e:(if m=n then FN c else h.c m)=FN d:=e;by_cases hm:m=n
  ·rw [if_pos hm] at e;have e:c=d:=Gz e;subst e;exact ⟨p,by rw [hm];exact hn,ck⟩
  ·rw [if_neg hm] at e;obtain ⟨q,e1,x⟩:=R.cel m d e;have ne:q≠p:=fun z=>by subst z;exact hm (R.inj m n q e1 hn)
   exact ⟨q,e1,x.ext (Ex.write R hn).ext (aO ne)⟩
 hd:=fun q z=>by
  obtain ⟨⟨xs,e⟩,g⟩:=R.hd q z;exact ⟨⟨xs,by rw [aO<|fun y=>g n (by rw [y];exact hn)];exact e⟩,g⟩
mutual
def Lo (k:Nat):W->Prop
 | .tup ws=>K9 k ws
 | .lst ws=>K9 k ws
 | .kls ws=>K9 k ws
 | .exa _ ws=>K9 k ws
 | .loc n=>n<k
 | _=>True
def K9 (k:Nat):List W->Prop
 | []=>True
 | w::ws=>Lo k w/\K9 k ws
end
mutual
theorem CK.lo {k:Nat}(hd:∀ n p,μ.f n=FN p->n<k):∀ {w:W} {v:V},CK K H μ w v->Lo k w
 | .non,_,_=>by rw [Lo] <;> first | trivial | (intros;contradiction)
 | .bl _,_,_=>by rw [Lo] <;> first | trivial | (intros;contradiction)
 | .int _,_,_=>by rw [Lo] <;> first | trivial | (intros;contradiction)
 | .str _,_,_=>by rw [Lo] <;> first | trivial | (intros;contradiction)
 | .ty _,_,_=>by rw [Lo] <;> first | trivial | (intros;contradiction)
 | .exc _,_,_=>by rw [Lo] <;> first | trivial | (intros;contradiction)
 | .fnv _ _,_,_=>by rw [Lo] <;> first | trivial | (intros;contradiction)
 | .exa _ ws,_,h=>by
  rw [CK] at h;obtain ⟨_,_,_,_,_,_,_,_,_,_,_,_,hr⟩:=h;rw [Lo];exact aM.lo hd hr
 | .tup ws,_,h=>by
  rw [CK] at h;obtain ⟨p,xs,_,_,hr⟩:=h;rw [Lo];exact aM.lo hd hr
 | .lst ws,_,h=>by
  rw [CK] at h;obtain ⟨p,xs,_,_,hr⟩:=h;rw [Lo];exact aM.lo hd hr
 | .kls ws,_,h=>by
  rw [CK] at h;obtain ⟨p,xs,_,_,hr⟩:=h;rw [Lo];exact aM.lo hd hr
 | .loc n,_,h=>by
  rw [CK] at h;obtain ⟨p,_,hm⟩:=h;rw [Lo];exact hd n p hm
theorem aM.lo {k:Nat}(hd:∀ n p,μ.f n=FN p->n<k):∀ {ws:List W} {xs:List V},aM K H μ ws xs->K9 k ws
 | [],_,_=>by rw [K9];trivial
 | w::ws,_,h=>by
  rw [aM] at h;obtain ⟨v,vs,_,r,h⟩:=h;rw [K9];exact ⟨CK.lo hd r,aM.lo hd h⟩
end
def Mu.cut (μ : Mu)(k:Nat):Mu:=⟨fun n=>if n<k then μ.f n else FX,μ.hid⟩
theorem Mu.cut_some {k n:Nat}{p:Addr}(e:(μ.cut k).f n=FN p):n<k/\μ.f n=FN p:=by
 have e:(if n<k then μ.f n else FX)=FN p:=e;by_cases hn:n<k
 ·rw [if_pos hn] at e;exact ⟨hn,e⟩
 ·rw [if_neg hn] at e;cases e
mutual
theorem CK.cut {k:Nat}:∀ {w:W} {v:V},CK K H μ w v->Lo k w->CK K H (μ.cut k) w v
 | .non,_,h,_=>by rw [CK] at h |-;exact h
 | .bl _,_,h,_=>by rw [CK] at h |-;exact h
 | .int _,_,h,_=>by rw [CK] at h |-;exact h
 | .str _,_,h,_=>by rw [CK] at h |-;exact h
 | .ty _,_,h,_=>by rw [CK] at h |-;exact h
 | .exc _,_,h,_=>by rw [CK] at h |-;exact h
 | .fnv _ _,_,h,_=>by rw [CK] at h |-;exact h
 | .exa _ ws,_,h,l=>by
  rw [CK] at h |-
  rw [Lo] at l;obtain ⟨p,o,u,dd,ns,xs,e1,hm,hx,hd,e2,e3,hr⟩:=h;exact ⟨p,o,u,dd,ns,xs,e1,hm,hx,hd,e2,e3,aM.cut hr l⟩
 | .tup ws,_,h,l=>by
  rw [CK] at h |-
  rw [Lo] at l;obtain ⟨p,xs,e1,hs,hr⟩:=h;exact ⟨p,xs,e1,hs,aM.cut hr l⟩
 | .lst ws,_,h,l=>by
  rw [CK] at h |-
  rw [Lo] at l;obtain ⟨p,xs,e1,hs,hr⟩:=h;exact ⟨p,xs,e1,⟨hs.1,fun n e=>hs.2.1 n (Mu.cut_some e).2,hs.2.2⟩,aM.cut hr l⟩
 | .kls ws,_,h,l=>by
  rw [CK] at h |-
  rw [Lo] at l;obtain ⟨p,xs,e1,hs,hr⟩:=h;exact ⟨p,xs,e1,hs,aM.cut hr l⟩
 | .loc n,_,h,l=>by
  rw [CK] at h |-
  rw [Lo] at l;obtain ⟨p,e1,hm⟩:=h;refine ⟨p,e1,?_⟩;show (if n<k then μ.f n else FX)=FN p;rw [if_pos l];exact hm
theorem aM.cut {k:Nat}:∀ {ws:List W} {xs:List V},aM K H μ ws xs->K9 k ws->aM K H (μ.cut k) ws xs
 | [],_,h,_=>by rw [aM] at h |-;exact h
 | w::ws,_,h,l=>by
  rw [aM] at h |-
  rw [K9] at l;obtain ⟨v,vs,e1,r,h⟩:=h;exact ⟨v,vs,e1,CK.cut r l.1,aM.cut h l.2⟩
end
end
variable {ws : List W}{μ' : Mu}
section
variable {K:CT}{H H' H1 H2:Hp}{μ1 μ2 : Mu}{h h':Gh}{w:W}{v:V}{xs ys:List V}{p:Addr}
def Mu.hide (μ : Mu)(p:Addr):Mu:=⟨μ.f,fun q=>q=p\/μ.hid q⟩
def Mu.unhide (μ : Mu)(p:Addr):Mu:=⟨μ.f,fun q=>q≠p/\μ.hid q⟩
structure UJ (p:Addr) (K:CT) (H:Hp) (μ : Mu) (H':Hp) (μ':Mu):Prop where
 r:∀ w v,CK K H μ w v->CK K H' μ' w v
 o:∀ q u,q≠p->μ.hid q->H q=FN u->μ'.hid q/\H' q=FN u
theorem Ik.x (a:Ik K H μ H1 μ1)(hp:¬ μ.hid p)(b:UJ p K H1 μ1 H2 μ2):Ik K H μ H2 μ2:=
 ⟨fun w v z=>b.r w v (a.r w v z),fun q u z e=>let ⟨z1,e1⟩:=a.o q u z e;b.o q u (fun y=>hp (by rw [<-y];exact z)) z1 e1⟩
theorem Ik.hide {o:HO}(hp:H p=FX):Ik K H μ (FQ H p o) (μ.hide p):=Ex.ext {
 t:=fun q xs z=>(Ex.laid (μ:=μ) hp).t q xs z
 l:=fun q xs z=>by
  have nq:=aR z.1 hp;refine ⟨by rw [aO nq];exact z.1,z.2.1,fun y=>?_⟩;rcases y with y | y
  ·exact nq y
  ·exact z.2.2 y
 k:=fun q xs z=>(Ex.laid (μ:=μ) hp).k q xs z
 m:=fun _ _ e=>e
 x:=fun q o' u e=>by rw [aO (aR e hp)];exact e
 y:=fun q fs e=>by rw [aO (aR e hp)];exact e
 o:=fun q u z e=>⟨.inr z,by rw [aO (aR e hp)];exact e⟩ }
theorem Ej.nohid (R:Ej K μ H h)(hp:H p=FX):¬ μ.hid p:=fun z=>by
 obtain ⟨⟨xs,e⟩,_⟩:=R.hd p z;rw [hp] at e;cases e
theorem Ej.hide (R:Ej K μ H h)(hp:H p=FX):Ej K (μ.hide p) (FQ H p (.lst xs)) h where
 inj:=R.inj
 dom:=R.dom
 trk:=(R.laid hp).trk
 cel:=fun n c e=>by
  obtain ⟨q,e1,x⟩:=R.cel n c e;have:=R.trk n q e1
  have ne:q≠p:=fun z=>by subst z;rw [hp] at this;exact this
  exact ⟨q,e1,x.ext (Ik.hide hp)<|aO ne⟩
 hd:=fun q z=>by
  rcases z with z | z
  ·subst z;refine ⟨⟨xs,bF⟩,fun n e=>?_⟩;have:=R.trk n q e
   rw [hp] at this;exact this
  ·exact (R.laid (o:=.lst xs) hp).hd q z
theorem Ex0.grow (R:Ej K μ H h)(hp:μ.hid p):Ex0 K H μ (FQ H p (.lst ys)) μ where
 t:=fun q xs z=>by
  rcases z with z | z
  ·refine .inl ?_;unfold Rd;rw [aO (fun y=>?_)]
   ·exact z
   ·subst y;obtain ⟨⟨xs',e⟩,_⟩:=R.hd q hp;rcases z with r | ⟨_,r⟩ <;> rw [e] at r <;> cases r
  ·exact .inr z
 l:=fun q xs z=>⟨by rw [aO (fun y=>z.2.2 (by rw [y];exact hp))];exact z.1,z.2⟩
 k:=fun q xs z=>by
  rcases z with ⟨o',z⟩ | z
  ·refine .inl ⟨o',?_⟩;rw [aO (fun y=>?_)]
   ·exact z
   ·subst y;obtain ⟨⟨xs',e⟩,_⟩:=R.hd q hp;rw [e] at z;cases z
  ·exact .inr z
 m:=fun _ _ e=>e
 x:=fun q o' u e=>by
  rw [aO (fun y=>?_)]
  ·exact e
  ·subst y;obtain ⟨⟨xs',e'⟩,_⟩:=R.hd q hp;rw [e'] at e;cases e
 y:=fun q fs e=>by
  rw [aO (fun y=>?_)]
  ·exact e
  ·subst y;obtain ⟨⟨xs',e'⟩,_⟩:=R.hd q hp;rw [e'] at e;cases e
theorem UJ.grow (R:Ej K μ H h)(hp:μ.hid p):UJ p K H μ (FQ H p (.lst ys)) μ:=
 ⟨fun _ _ z=>CK.ex (Ex0.grow R hp) z,fun q u ne z e=>⟨z,by rw [aO ne];exact e⟩⟩
theorem Ej.grow (R:Ej K μ H h)(hp:μ.hid p):Ej K μ (FQ H p (.lst ys)) h where
 inj:=R.inj
 dom:=R.dom
 trk:=fun n q e=>by
  have ne:q≠p:=fun z=>(R.hd p hp).2 n (by rw [<-z];exact e)
  rw [aO ne];exact R.trk n q e
 cel:=fun n c e=>by
  obtain ⟨q,e1,x⟩:=R.cel n c e;have ne:q≠p:=fun z=>(R.hd p hp).2 n (by rw [<-z];exact e1)
  refine ⟨q,e1,?_⟩;cases c with
  | lst ws=>obtain ⟨xs,a,b⟩:=x;exact ⟨xs,(aO ne).trans a,aM.ex (Ex0.grow R hp) b⟩
  | obj C fs=>obtain ⟨dx,fvs,a,b⟩:=x;exact ⟨dx,fvs,(aO ne).trans a,Paired.mapP b fun _ _ z=>⟨z.1,CK.ex (Ex0.grow R hp) z.2⟩⟩
  | dct kvs=>obtain ⟨kvv,a,b⟩:=x;exact ⟨kvv,(aO ne).trans a,Paired.mapP b fun _ _ z=>⟨z.1,CK.ex (Ex0.grow R hp) z.2⟩⟩
  | dtt kvs=>obtain ⟨xs,vs,a,b,c,d,f⟩:=x;exact ⟨xs,vs,(aO ne).trans a,b,c,aM.ex (Ex0.grow R hp) d,aM.ex (Ex0.grow R hp) f⟩
 hd:=fun q z=>by
  by_cases e:q=p
  ·subst e;exact ⟨⟨ys,bF⟩,(R.hd q hp).2⟩
  ·rw [aO e];exact R.hd q z
theorem Ex0.unhide:Ex0 K H μ H (μ.unhide p) where
 t:=fun _ _ z=>z
 l:=fun q xs z=>⟨z.1,z.2.1,fun y=>z.2.2 y.2⟩
 k:=fun _ _ z=>z
 m:=fun _ _ e=>e
 x:=fun _ _ _ e=>e
 y:=fun _ _ e=>e
theorem UJ.unhide:UJ p K H μ H (μ.unhide p):=⟨fun _ _ z=>CK.ex Ex0.unhide z,fun q u ne z e=>⟨⟨ne,z⟩,e⟩⟩
theorem Ej.unhide (R:Ej K μ H h):Ej K (μ.unhide p) H h where
 inj:=R.inj
 dom:=R.dom
 trk:=R.trk
 cel:=fun n c e=>by
  obtain ⟨q,e1,x⟩:=R.cel n c e;refine ⟨q,e1,?_⟩;cases c with
  | lst ws=>obtain ⟨xs,a,b⟩:=x;exact ⟨xs,a,aM.ex Ex0.unhide b⟩
  | obj C fs=>obtain ⟨dx,fvs,a,b⟩:=x;exact ⟨dx,fvs,a,Paired.mapP b fun _ _ z=>⟨z.1,CK.ex Ex0.unhide z.2⟩⟩
  | dct kvs=>obtain ⟨kvv,a,b⟩:=x;exact ⟨kvv,a,Paired.mapP b fun _ _ z=>⟨z.1,CK.ex Ex0.unhide z.2⟩⟩
  | dtt kvs=>obtain ⟨xs,vs,a,b,c,d,f⟩:=x;exact ⟨xs,vs,a,b,c,aM.ex Ex0.unhide d,aM.ex Ex0.unhide f⟩
 hd:=fun q z=>R.hd q z.2
theorem CK.built (R:Ej K μ H h)(hp:μ.hid p)(e:H p=FN (.lst xs))(r:aM K H μ ws xs):CK K H (μ.unhide p) (.lst ws) (.ref p):=by
 rw [CK];exact ⟨p,xs,rfl,⟨e,(R.hd p hp).2,fun z=>z.1 rfl⟩,aM.ex Ex0.unhide r⟩
end
abbrev Sw:=List (Option W)
abbrev WK:=W->Gh->Prop
abbrev ME:=Sw->Gh->WK->Prop
abbrev MT:=Sw->Gh->(Bool->Gh->Prop)->Prop
abbrev MA:=Sw->Gh->(List W->Gh->Prop)->Prop
structure bO where
 nx:Sw->Gh->Prop
 rt:WK
 bk:Sw->Gh->Prop:=fun _ _=>False
 ct:Sw->Gh->Prop:=fun _ _=>False
abbrev MS:=bO->Sw->Gh->Prop
abbrev MG:=W->Sw->Gh->(Sw->Gh->Prop)->Prop
abbrev QL:=List W->Sw->Gh->(Sw->Gh->Prop)->Prop
structure Xw where
 cls:Str
 fs:List (Str×W)
abbrev Dm:=Xw->Gh->Prop
abbrev CP:=List W->Gh->WK->Dm->Prop
def EF:Dm:=fun _ _=>False
structure Slots (K:CT) (H:Hp) (μ : Mu) (Zw:Sw) (Z : St):Prop where
 len:Zw.length = Z.length
 get:∀ (i:Nat) (w:W),Zw[i]?=FN (FN w)->∃ v,Z[i]?=FN (FN v)/\CK K H μ w v
inductive DQ (K:CT) (H:Hp) (μ : Mu) (Q:WK) (v:V) (H':Hp):Prop where
 | mk (μ':Mu) (w:W) (h':Gh) (e:Ik K H μ H' μ') (R:Ej K μ' H' h') (r:CK K H' μ' w v) (q:Q w h'):DQ K H μ Q v H'
inductive DB (K:CT) (H:Hp) (μ : Mu) (Q:Bool->Gh->Prop) (b:Bool) (H':Hp):Prop where
 | mk (μ':Mu) (h':Gh) (e:Ik K H μ H' μ') (R:Ej K μ' H' h') (q:Q b h'):DB K H μ Q b H'
inductive DA (K:CT) (H:Hp) (μ : Mu) (Q:List W->Gh->Prop) (vs:List V) (H':Hp):Prop where
 | mk (μ':Mu) (ws:List W) (h':Gh) (e:Ik K H μ H' μ') (R:Ej K μ' H' h') (r:aM K H' μ' ws vs) (q:Q ws h'):DA K H μ Q vs H'
inductive DN (K:CT) (H:Hp) (μ : Mu) (N:Sw->Gh->Prop) (Z':St) (H':Hp):Prop where
 | mk (μ':Mu) (Zw':Sw) (h':Gh) (e:Ik K H μ H' μ') (R:Ej K μ' H' h') (S:Slots K H' μ' Zw' Z') (q:N Zw' h'):DN K H μ N Z' H'
section
variable {K:CT}{H H' H1 H2:Hp}{μ1 μ2 : Mu}{h h' h1:Gh}{w:W}{v:V}{Z : St}{Zw:Sw}
theorem Slots.ext (S:Slots K H μ Zw Z)(e:Ik K H μ H' μ'):Slots K H' μ' Zw Z:=⟨S.len,fun i w q=>let ⟨v,a,b⟩:=S.get i w q;⟨v,a,e.r _ _ b⟩⟩
theorem Slots.set (S:Slots K H μ Zw Z)(r:CK K H μ w v)(i:Nat):Slots K H μ (Zw.set i (FN w)) (Z.set i (FN v)):=by
 refine ⟨by rw [List.length_set,List.length_set,S.len],fun j u q=>?_⟩;rw [List.getElem?_set] at q |-
 by_cases hij:i=j
 ·rw [if_pos hij] at q |-
  by_cases hl:i < Zw.length
  ·rw [if_pos hl] at q;rw [if_pos (by rw [<-S.len];exact hl)];have e:w=u:=by injection q with q;injection q
   subst e;exact ⟨v,rfl,r⟩
  ·rw [if_neg hl] at q;cases q
 ·rw [if_neg hij] at q |-
  exact S.get j u q
theorem DQ.trans {Q:WK}(e:Ik K H μ H1 μ1)(q:DQ K H1 μ1 Q v H'):DQ K H μ Q v H':=let ⟨μ',w,h',a,b,c,d⟩:=q;⟨μ',w,h',e.trans a,b,c,d⟩
theorem DB.trans {Q:Bool->Gh->Prop}{b:Bool}(e:Ik K H μ H1 μ1)(q:DB K H1 μ1 Q b H'):DB K H μ Q b H':=let ⟨μ',h',a,b,c⟩:=q;⟨μ',h',e.trans a,b,c⟩
theorem DN.trans {N:Sw->Gh->Prop}{Z':St}(e:Ik K H μ H1 μ1)(q:DN K H1 μ1 N Z' H'):DN K H μ N Z' H':=let ⟨μ',w,h',a,b,c,d⟩:=q;⟨μ',w,h',e.trans a,b,c,d⟩
end
inductive tD (K:CT) (m:ME) (Z : St) (H:Hp) (Q:VK):Prop where
 | mk (μ : Mu) (h:Gh) (Zw:Sw) (Qw:WK) (R:Ej K μ H h) (S:Slots K H μ Zw Z) (x:m Zw h Qw) (k:∀ v H',DQ K H μ Qw v H'->Q v H'):tD K m Z H Q
inductive tDT (K:CT) (m:MT) (Z : St) (H:Hp) (Q:Bool->Hp->Prop):Prop where
 | mk (μ : Mu) (h:Gh) (Zw:Sw) (Qw:Bool->Gh->Prop) (R:Ej K μ H h) (S:Slots K H μ Zw Z) (x:m Zw h Qw) (k:∀ b H',DB K H μ Qw b H'->Q b H'):tDT K m Z H Q
inductive tDA (K:CT) (m:MA) (Z : St) (H:Hp) (Q:List V->Hp->Prop):Prop where
 | mk (μ : Mu) (h:Gh) (Zw:Sw) (Qw:List W->Gh->Prop) (R:Ej K μ H h) (S:Slots K H μ Zw Z) (x:m Zw h Qw) (k:∀ vs H',DA K H μ Qw vs H'->Q vs H'):tDA K m Z H Q
inductive tDG (K:CT) (g:MG) (v:V) (Z : St) (H:Hp) (N:St->Hp->Prop):Prop where
 | mk (μ : Mu) (h:Gh) (Zw:Sw) (w:W) (Nw:Sw->Gh->Prop) (R:Ej K μ H h) (S:Slots K H μ Zw Z) (r:CK K H μ w v) (x:g w Zw h Nw) (k:∀ Z' H',DN K H μ Nw Z' H'->N Z' H'):tDG K g v Z H N
inductive ace (K:CT) (g:QL) (vs:List V) (Z : St) (H:Hp) (N:St->Hp->Prop):Prop where
 | mk (μ : Mu) (h:Gh) (Zw:Sw) (ws:List W) (Nw:Sw->Gh->Prop) (R:Ej K μ H h) (S:Slots K H μ Zw Z) (r:aM K H μ ws vs) (x:g ws Zw h Nw) (k:∀ Z' H',DN K H μ Nw Z' H'->N Z' H'):ace K g vs Z H N
structure Ai (K:CT) (H:Hp) (μ : Mu) (Dw:bO) (D:Ends):Prop where
 nx:∀ Z' H',DN K H μ Dw.nx Z' H'->D.nx Z' H'
 rt:∀ v H',DQ K H μ Dw.rt v H'->D.rt v H'
 bk:∀ Z' H',DN K H μ Dw.bk Z' H'->D.bk Z' H'
 ct:∀ Z' H',DN K H μ Dw.ct Z' H'->D.ct Z' H'
inductive tDS (K:CT) (m:MS) (D:Ends) (Z : St) (H:Hp):Prop where
 | mk (μ : Mu) (h:Gh) (Zw:Sw) (Dw:bO) (R:Ej K μ H h) (S:Slots K H μ Zw Z) (x:m Dw Zw h) (k:Ai K H μ Dw D):tDS K m D Z H
theorem Ai.trans {K:CT}{H H1:Hp}{μ μ1:Mu}{Dw:bO}{D:Ends}(k:Ai K H μ Dw D)(e:Ik K H μ H1 μ1):Ai K H1 μ1 Dw D:=
 ⟨fun _ _ q=>k.nx _ _ (q.trans e),fun _ _ q=>k.rt _ _ (q.trans e),fun _ _ q=>k.bk _ _ (q.trans e),fun _ _ q=>k.ct _ _ (q.trans e)⟩
section
variable {X:Cx}{e:Expr}{es:List Expr}{st:Stmt}{sts:List Stmt}
theorem PE.of {t t':TE}(h:PE X e t)(k:∀ Z H Q,t' Z H Q->t Z H Q):PE X e t':=fun ajd s Z H Q I q=>h ajd s Z H Q I (k Z H Q q)
theorem PT.of {t t':TT}(h:PT X e t)(k:∀ Z H Q,t' Z H Q->t Z H Q):PT X e t':=fun ajd s Z H Q I q=>h ajd s Z H Q I (k Z H Q q)
theorem PW.of {t t':TT}(h:PW X e t)(k:∀ Z H Q,t' Z H Q->t Z H Q):PW X e t':=fun wh ajd s Z H Q I q=>h wh ajd s Z H Q I (k Z H Q q)
theorem PA.of {t t':TA}(h:PA X es t)(k:∀ Z H Q,t' Z H Q->t Z H Q):PA X es t':=fun pos ajd s Z H Q I q=>h pos ajd s Z H Q I (k Z H Q q)
theorem PG.of {t t':TG}(h:PG X e t)(k:∀ v Z H Q,t' v Z H Q->t v Z H Q):PG X e t':=fun ajd s Z H v u Q I r q=>h ajd s Z H v u Q I r (k v Z H Q q)
theorem S5.of {t t':RK}(h:S5 X es t)(k:∀ v Z H Q,t' v Z H Q->t v Z H Q):S5 X es t':=fun ajd s Z H v u Q I r q=>h ajd s Z H v u Q I r (k v Z H Q q)
theorem PS.of {t t':TS}(h:PS X st t)(k:∀ D Z H,t' D Z H->t D Z H):PS X st t':=fun ajd s Z H D I q=>h ajd s Z H D I (k D Z H q)
theorem NQ.of {t t':TS}(h:NQ X sts t)(k:∀ D Z H,t' D Z H->t D Z H):NQ X sts t':=fun ajd s Z H D I q=>h ajd s Z H D I (k D Z H q)
end
abbrev DE (X:Cx)(e:Expr)(m:ME):Prop:=PE X e (tD X.K m)
abbrev DT (X:Cx)(e:Expr)(m:MT):Prop:=PT X e (tDT X.K m)
abbrev DWt (X:Cx)(e:Expr)(m:MT):Prop:=PW X e (tDT X.K m)
abbrev Kq (X:Cx)(es:List Expr)(m:MA):Prop:=PA X es (tDA X.K m)
abbrev DG (X:Cx)(e:Expr)(m:MG):Prop:=PG X e (tDG X.K m)
abbrev Zn (X:Cx)(es:List Expr)(m:QL):Prop:=S5 X es (ace X.K m)
abbrev DS (X:Cx)(st:Stmt)(m:MS):Prop:=PS X st (tDS X.K m)
abbrev S8 (X:Cx)(st:List Stmt)(m:MS):Prop:=NQ X st (tDS X.K m)
section
variable {X:Cx}{e a b c:Expr}{ma mb mc:ME}{pos:Pos}
def aA (i:Nat):ME:=fun Z h Q=>match Z[i]? with
 | some (FN w)=>Q w h
 | _=>False
def mC (w:W):ME:=fun _ h Q=>Q w h
theorem dv (i:Nat)(he:PE X e (abf i)):DE X e (aA i):=he.of fun Z H Q ⟨μ,h,Zw,Qw,R,S,m,k⟩=>by
 unfold aA at m;cases q:Zw[i]? with
 | none=>rw [q] at m;exact m.elim
 | some o=>
  rw [q] at m;cases o with
  | none=>exact m.elim
  | some w=>
   obtain ⟨v,h1,h2⟩:=S.get i w q;exact ⟨v,h1,k _ _ ⟨μ,w,h,.refl,R,h2,m⟩⟩
theorem dc {w:W}{v:V}(he:PE X e (tC v))(r:∀ H μ,CK X.K H μ w v):DE X e (mC w):=he.of fun Z H Q ⟨μ,h,Zw,Qw,R,S,m,k⟩=>k _ _ ⟨μ,w,h,.refl,R,r H μ,m⟩
theorem aF {i:Int}{j pos}:DE X (.Constant (.int i) j pos) (mC (.int i)):=dc aht fun _ _=>by rw [CK]
theorem Dr {i:Bool}{j pos}:DE X (.Constant (.bool i) j pos) (mC (.bl i)):=dc aag fun _ _=>by rw [CK]
theorem Vj {j pos}:DE X (.Constant .none j pos) (mC .non):=dc ahz fun _ _=>by rw [CK]
theorem aX {i:Str}{j pos}:DE X (.Constant (.str i) j pos) (mC (.str i)):=dc OD fun _ _=>by rw [CK]
abbrev M2:=W->W->Gh->WK->Prop
def CG (r:M2)(ma mb:ME):ME:=fun Z h Q=>ma Z h fun x h1=>mb Z h1 fun y h2=>r x y h2 Q
def abD (K:CT)(r:R2)(mr:M2):Prop:=∀ {H:Hp} {μ : Mu} {h:Gh} {x y:V} {wx wy:W} {Qw:WK} {Q:VK},Ej K μ H h->CK K H μ wx x->CK K H μ wy y->mr wx wy h Qw ->
 (∀ v H',DQ K H μ Qw v H'->Q v H')->r x y H Q
theorem two {K:CT}{Z : St}{H:Hp}{Q:VK}{mr:M2}{R2':V->V->Hp->Prop}(h:tD K (CG mr ma mb) Z H Q)
  (k:∀ {H2:Hp} {μ2:Mu} {h2:Gh} {x y:V} {wx wy:W} {Qw:WK},Ej K μ2 H2 h2->CK K H2 μ2 wx x->CK K H2 μ2 wy y->mr wx wy h2 Qw->(∀ v H',DQ K H2 μ2 Qw v H'->Q v H')->R2' x y H2) :
  tD K ma Z H fun x H1=>tD K mb Z H1 fun y H2=>R2' x y H2:=by
 obtain ⟨μ,g,Zw,Qw,R,S,m,q⟩:=h;refine ⟨μ,g,Zw,_,R,S,m,fun x H1 ⟨μ1,wx,h1,e1,R1,r1,m1⟩=>?_⟩;refine ⟨μ1,h1,Zw,_,R1,S.ext e1,m1,fun y H2 ⟨μ2,wy,h2,e2,R2,r2,m2⟩=>?_⟩;exact k R2 (e2.r _ _ r1) r2 m2 fun v H' z=>q _ _<|(z.trans e2).trans e1
def Lf (X:Cx)(f:Mk->Mk->Sem Mk)(mr:M2):Prop:=∃ r,K8 X f r/\abD X.K r mr
theorem cB {op:Operator}{mr:M2}(ho:Lf X (Lj op) mr)(ha:DE X a ma)(hb:DE X b mb):DE X (.BinOp a op b pos) (CG mr ma mb):=by
 obtain ⟨r,o,s⟩:=ho;exact (ZL o ha hb).of fun Z H Q h=>two h fun R r1 r2 m k=>s R r1 r2 m k
theorem Zr {op:CmpOp}{mr:M2}(ho:Lf X (Ku op) mr)(ha:DE X a ma)(hb:DE X b mb)(hm:Tn op b=false):DE X (.Compare a [op] [b] pos) (CG mr ma mb):=by
 obtain ⟨r,o,s⟩:=ho;exact (agl o ha hb hm).of fun Z H Q h=>two h fun R r1 r2 m k=>s R r1 r2 m k
def bG (m:ME):MT:=fun Z h Q=>m Z h fun w h1=>match w with
 | .bl c=>Q c h1
 | _=>False
theorem agm {K:CT}{Z : St}{H:Hp}{m:ME}{Q:Bool->Hp->Prop}(h:tDT K (bG m) Z H Q):tD K m Z H fun x H'=>∃ k,x=.bl k/\Q k H':=by
 obtain ⟨μ,g,Zw,Qw,R,S,mm,q⟩:=h;refine ⟨μ,g,Zw,_,R,S,mm,fun v H' ⟨μ1,w,h1,e1,R1,r1,m1⟩=>?_⟩;cases w with
 | bl c=>rw [CK] at r1;exact ⟨c,r1,q _ _ ⟨μ1,h1,e1,R1,m1⟩⟩
 | _=>exact m1.elim
theorem ahv {op:CmpOp}{mr:M2}(ho:Lf X (Ku op) mr)(ha:DE X a ma)(hb:DE X b mb)(hm:Tn op b=false):DT X (.Compare a [op] [b] pos) (bG (CG mr ma mb)):=by
 obtain ⟨r,o,s⟩:=ho;exact (aeP o ha hb hm).of fun Z H Q h=>two (agm h) fun R r1 r2 m k=>s R r1 r2 m k
def Jr (c:Bool)(a b:Prop):Prop:=match c with
 | true=>a
 | false=>b
def br (c:Bool)(a b:Prop):Prop:=(c=true->a)/\(c=false->b)
theorem Cy {c:Bool}{a b:Prop}(e:c=true)(x:a):br c a b:=⟨fun _=>x,fun z=>by rw [e] at z;cases z⟩
theorem iT {c:Bool}{a b:Prop}(e:c=false)(x:b):br c a b:=⟨fun z=>(by rw [e] at z;cases z),fun _=>x⟩
theorem su {c:Prop}[Decidable c]{a b:Prop}(x:c->a)(y:¬ c->b):br (decide c) a b:=⟨fun e=>x (of_decide_eq_true e),fun e=>y (of_decide_eq_false e)⟩
def WY (t u:MT):MT:=fun Z h Q=>t Z h fun c h1=>br c (u Z h1 Q) (Q false h1)
def Nr (t u:MT):MT:=fun Z h Q=>t Z h fun c h1=>br c (Q true h1) (u Z h1 Q)
def Eo (t:MT):MT:=fun Z h Q=>t Z h fun c h1=>Q (!c) h1
variable {tA tB':MT}{rest:List Expr}
theorem zM (ha:DT X a tA):DWt X (.BoolOp .And [a] pos) tA:=aeH ha
theorem mH (ha:DT X a tA):DWt X (.BoolOp .Or [a] pos) tA:=ahf ha
theorem Ip (ha:DT X a tA)(hb:DWt X (.BoolOp .And (b::rest) pos) tB'):DWt X (.BoolOp .And (a::b::rest) pos) (WY tA tB'):=(afF ha hb).of fun Z H Q ⟨μ,g,Zw,Qw,R,S,m,q⟩=>by
 refine ⟨μ,g,Zw,_,R,S,m,fun c H1 ⟨μ1,h1,e1,R1,m1⟩=>?_⟩;cases c with
 | true=>
  rw [if_pos rfl];exact ⟨μ1,h1,Zw,_,R1,S.ext e1,m1.1 rfl,fun b H' z=>q _ _<|z.trans e1⟩
 | false=>
  rw [if_neg Lw];exact q _ _ ⟨μ1,h1,e1,R1,m1.2 rfl⟩
theorem pA (ha:DT X a tA)(hb:DWt X (.BoolOp .Or (b::rest) pos) tB'):DWt X (.BoolOp .Or (a::b::rest) pos) (Nr tA tB'):=(aaP ha hb).of fun Z H Q ⟨μ,g,Zw,Qw,R,S,m,q⟩=>by
 refine ⟨μ,g,Zw,_,R,S,m,fun c H1 ⟨μ1,h1,e1,R1,m1⟩=>?_⟩;cases c with
 | true=>
  rw [if_pos rfl];exact q _ _ ⟨μ1,h1,e1,R1,m1.1 rfl⟩
 | false=>
  rw [if_neg Lw];exact ⟨μ1,h1,Zw,_,R1,S.ext e1,m1.2 rfl,fun b H' z=>q _ _<|z.trans e1⟩
theorem mL (ha:DT X a tA):DT X (.UnaryOp .Not a pos) (Eo tA):=(Yc ha).of fun Z H Q ⟨μ,g,Zw,Qw,R,S,m,q⟩=>
 ⟨μ,g,Zw,_,R,S,m,fun c H1 ⟨μ1,h1,e1,R1,m1⟩=>q _ _ ⟨μ1,h1,e1,R1,m1⟩⟩
def aaB (a b:ME):ME:=fun Z h Q=>a Z h fun x h1=>match x with
 | .bl true=>b Z h1 Q
 | .bl false=>Q (.bl false) h1
 | _=>False
def acU (a b:ME):ME:=fun Z h Q=>a Z h fun x h1=>match x with
 | .bl false=>b Z h1 Q
 | .bl true=>Q (.bl true) h1
 | _=>False
def Z0 (a:ME):ME:=fun Z h Q=>a Z h fun x h1=>match x with
 | .bl c=>Q (.bl (!c)) h1
 | _=>False
def mIf (t:MT)(a b:ME):ME:=fun Z h Q=>t Z h fun c h1=>br c (a Z h1 Q) (b Z h1 Q)
theorem acj (hc:DT X c tA)(ha:DE X a ma)(hb:DE X b mb):DE X (.IfExp c a b pos) (mIf tA ma mb):=(aep hc ha hb).of fun Z H Q ⟨μ,g,Zw,Qw,R,S,m,q⟩=>by
 refine ⟨μ,g,Zw,_,R,S,m,fun c H1 ⟨μ1,h1,e1,R1,m1⟩=>?_⟩;cases c with
 | true=>
  rw [if_pos rfl];exact ⟨μ1,h1,Zw,_,R1,S.ext e1,m1.1 rfl,fun b H' z=>q _ _<|z.trans e1⟩
 | false=>
  rw [if_neg Lw];exact ⟨μ1,h1,Zw,_,R1,S.ext e1,m1.2 rfl,fun b H' z=>q _ _<|z.trans e1⟩
def mUn (r:W->Gh->WK->Prop)(a:ME):ME:=fun Z h Q=>a Z h fun x h1=>r x h1 Q
def Zi:W->Gh->WK->Prop:=fun x h Q=>match x with
 | .int i=>Q (.int (-i)) h
 | _=>False
theorem Ww (ha:DE X a ma):DE X (.UnaryOp .USub a pos) (mUn Zi ma):=(aay YZ ha).of fun Z H Q ⟨μ,g,Zw,Qw,R,S,m,q⟩=>by
 refine ⟨μ,g,Zw,_,R,S,m,fun v H1 ⟨μ1,w,h1,e1,R1,r1,m1⟩=>?_⟩;cases w with
 | int i=>rw [CK] at r1;exact ⟨i,r1,q _ _ ⟨μ1,.int (-i),h1,e1,R1,by rw [CK],m1⟩⟩
 | _=>exact m1.elim
def aJ:MA:=fun _ h Q=>Q [] h
def ao (a:ME)(r:MA):MA:=fun Z h Q=>a Z h fun x h1=>r Z h1 fun xs h2=>Q (x::xs) h2
variable {es:List Expr}{mr:MA}
theorem jX:Kq X [] aJ:=agy.of fun Z H Q ⟨μ,g,Zw,Qw,R,S,m,q⟩=>q _ _ ⟨μ,[],g,.refl,R,.nil,m⟩
theorem zby (ha:DE X e ma)(hr:Kq X es mr)(hs:Fo (e::es) X.env=(false,eval e X.env)::Fo es X.env:=by rfl):Kq X (e::es) (ao ma mr):=(zbJ ha hr hs).of fun Z H Q ⟨μ,g,Zw,Qw,R,S,m,q⟩=>by
 refine ⟨μ,g,Zw,_,R,S,m,fun v H1 ⟨μ1,w,h1,e1,R1,r1,m1⟩=>?_⟩;refine ⟨μ1,h1,Zw,_,R1,S.ext e1,m1,fun vs H2 ⟨μ2,ws,h2,e2,R2,r2,m2⟩=>?_⟩;exact q _ _ ⟨μ2,w::ws,h2,e1.trans e2,R2,.cons (e2.r _ _ r1) r2,m2⟩
def eG (n:Nat)(P:Prop):Prop:=Jr (RW n 1000) P (n<=FP/\P)
theorem eG.ok {n:Nat}{P:Prop}(h:eG n P):n<=FP/\P:=by
 unfold eG at h;cases e:RW n 1000 with
 | true=>rw [e] at h;exact ⟨Dk (Qj e) (by decide),h⟩
 | false=>rw [e] at h;exact h
theorem eG.mk {n:Nat}{P:Prop}(hn:n<=FP)(h:P):eG n P:=by
 unfold eG;cases e:RW n 1000 with
 | true=>exact h
 | false=>exact ⟨hn,h⟩
def iR (t:MA):ME:=fun Z h Q=>t Z h fun ws h1=>eG ws.length (Q (.tup ws) h1)
def fW (t:MA):ME:=fun Z h Q=>t Z h fun ws h1=>eG ws.length (Q (.lst ws) h1)
def rF (t:MA):ME:=fun Z h Q=>t Z h fun ws h1=>eG ws.length (Q (.loc h1.nx) (h1.new (.lst ws)))
theorem dX {x1}(h:Kq X es mr):DE X (.Tuple es x1 pos) (iR mr):=(Xl h).of fun Z H Q ⟨μ,g,Zw,Qw,R,S,m,q⟩=>
 ⟨μ,g,Zw,_,R,S,m,fun vs H1 ⟨μ1,ws,h1,e1,R1,r1,sz⟩=>⟨by rw [<-r1.len];exact sz.ok.1,fun p hp=>q _ _ ⟨μ1,.tup ws,h1,e1.trans (Ex.laid hp).ext,R1.laid hp,.tupNew hp r1,sz.ok.2⟩⟩⟩
theorem cu (h:Kq X es mr):DE X (.List es pos) (fW mr):=(Px h).of fun Z H Q ⟨μ,g,Zw,Qw,R,S,m,q⟩=>
 ⟨μ,g,Zw,_,R,S,m,fun vs H1 ⟨μ1,ws,h1,e1,R1,r1,sz⟩=>⟨by rw [<-r1.len];exact sz.ok.1,fun p hp=>q _ _ ⟨μ1,.lst ws,h1,e1.trans (Ex.laid hp).ext,R1.laid hp,.lstNew R1 hp r1,sz.ok.2⟩⟩⟩
theorem agz {K:CT}{H:Hp}{h:Gh}{p:Addr}{xs:List V}(R:Ej K μ H h)(hp:H p=FX)(r:aM K H μ ws xs):
  Ej K (μ.put h.nx p) (FQ H p (.lst xs)) (h.new (.lst ws)):=R.newCell hp trivial ⟨xs,bF,(Ex.newCell R hp).ext.s r⟩
theorem qO (h:Kq X es mr):DE X (.List es pos) (rF mr):=(Px h).of fun Z H Q ⟨μ,g,Zw,Qw,R,S,m,q⟩=>
 ⟨μ,g,Zw,_,R,S,m,fun vs H1 ⟨μ1,ws,h1,e1,R1,r1,sz⟩=>⟨by rw [<-r1.len];exact sz.ok.1,fun p hp=>q _ _ ⟨μ1.put h1.nx p,.loc h1.nx,h1.new (.lst ws),e1.trans (Ex.newCell R1 hp).ext,agz R1 hp r1,by rw [CK];exact ⟨p,rfl,Mu.put_same⟩,sz.ok.2⟩⟩⟩
inductive lift (K:CT) (ms:CP) (vs:List V) (H:Hp) (Q:VK) (E:XK):Prop where
 | mk (μ : Mu) (h:Gh) (ws:List W) (Qw:WK) (R:Ej K μ H h) (r:aM K H μ ws vs) (x:ms ws h Qw EF) (k:∀ v H',DQ K H μ Qw v H'->Q v H'):lift K ms vs H Q E
def aL (ms:CP)(E:Dm)(ma:MA):ME:=fun Z h Q=>ma Z h fun ws h1=>ms ws h1 Q E
theorem call_of {K:CT}{Z : St}{H:Hp}{Q:VK}{E:XK}{ms:CP}{ma:MA}(h:tD K (aL ms EF ma) Z H Q):Wx (lift K ms) [] E (tDA K ma) Z H Q:=by
 obtain ⟨μ,g,Zw,Qw,R,S,m,q⟩:=h;refine ⟨μ,g,Zw,_,R,S,m,fun vs H1 ⟨μ1,ws,h1,e1,R1,r1,m1⟩=>?_⟩;show lift K ms (vs++[]) H1 Q E;rw [Rr];exact ⟨μ1,h1,ws,Qw,R1,r1,m1,fun v H' z=>q _ _<|z.trans e1⟩
theorem agM {k:Nat}{f:Addr}{fd:Mi}{ps:List Str}{ms:CP}{x:Str}{p:Pos}(F:rK X.prog X.w X.K X.mg X.base NT k f fd ps (lift X.K ms))(hr:o7 k X.A)(hg:Gl X x)(hm:X.mg x=FN (.ref f))(hk:Rp X.K (.ref f)=true)
  (hb:Binds X.K fd ps []) (ha:Kq X (e::es) mr) (hdb:(x==("__debug__" : Str))=false:=by decide) (he:Fo (e::es) X.env=(false,eval e X.env)::Fo es X.env:=by rfl) (hpl:(K5 pos (Fo es X.env)).any (·.1)=false:=by rfl) :
  DE X (.Call (.Name x p) (e::es) [] pos) (aL ms EF mr):=(afB F hr hg hm hk hb .nil aaY ha hdb he hpl).of fun _ _ _ h=>call_of h
def Zd (h:Gh)(w:W):Option Bool:=match w with
 | .non=>FN false
 | .bl b=>FN b
 | .int i=>FN (i != 0)
 | .tup ws=>FN (!ws.isEmpty)
 | .lst ws=>FN (!ws.isEmpty)
 | .kls ws=>FN (!ws.isEmpty)
 | .loc n=>(match h.c n with
  | some (.lst ws)=>FN (!ws.isEmpty)
  | _=>FX)
 | _=>FX
def yZ (m:ME):MT:=fun Z h Q=>m Z h fun w h1=>match Zd h1 w with
 | some b=>Q b h1
 | none=>False
theorem aM.emp {K:CT}{H:Hp}{xs:List V}(r:aM K H μ ws xs):ws.isEmpty=xs.isEmpty:=by
 have:=r.len
 cases ws <;> cases xs <;> first | rfl | cases this
theorem ji (he:DE X e ma)(h:∀ whole,isTrue e X.env whole=(do let v <-whole;standAt e.pos;holding [v] (truthy v)):=by intro _;rfl):DT X e (yZ ma):=(zbg he h).of fun Z H Q ⟨μ,g,Zw,Qw,R,S,m,q⟩=>by
 refine ⟨μ,g,Zw,_,R,S,m,fun v H1 ⟨μ1,w,h1,e1,R1,r1,m1⟩=>?_⟩;split at m1
 ·rename_i b eb;refine ⟨b,?_,q _ _ ⟨μ1,h1,e1,R1,m1⟩⟩;cases w with
  | non=>rw [CK] at r1;subst r1;cases eb;rfl
  | bl c=>rw [CK] at r1;subst r1;cases eb;rfl
  | int c=>rw [CK] at r1;subst r1;cases eb;rfl
  | tup ws=>
   rw [CK] at r1;obtain ⟨p,xs,ev,hs,rs⟩:=r1;subst ev;cases eb;exact .inr<|.inl ⟨xs,hs,by rw [rs.emp]⟩
  | lst ws=>
   rw [CK] at r1;obtain ⟨p,xs,ev,hs,rs⟩:=r1;subst ev;cases eb;exact .inl ⟨xs,hs.sq,by rw [rs.emp]⟩
  | kls ws=>
   rw [CK] at r1;obtain ⟨p,xs,ev,hs,rs⟩:=r1;subst ev;cases eb;exact .inl ⟨xs,hs.sq,by rw [rs.emp]⟩
  | loc n=>
   rw [CK] at r1;obtain ⟨p,ev,hm⟩:=r1;subst ev;unfold Zd at eb;dsimp only at eb;cases ec:h1.c n with
   | none=>rw [ec] at eb;cases eb
   | some cl=>
    rw [ec] at eb;cases cl with
    | lst ws=>
     cases eb;obtain ⟨p',hm',xs,hx,rs⟩:=R1.cel n _ ec;have ep:p'=p:=by rw [hm] at hm';exact (Gz hm').symm
     subst ep;exact .inl ⟨xs,.of hx,by rw [rs.emp]⟩
    | _=>cases eb
  | _=>cases eb
 ·exact m1.elim
abbrev MC:=List W->Gh->WK->Prop
def Eu (r:MC)(ma:MA):ME:=fun Z h Q=>ma Z h fun ws h1=>r ws h1 Q
def abF (K:CT)(r:List V->Hp->VK->Prop)(mr:MC):Prop:=∀ {H:Hp} {μ : Mu} {h:Gh} {vs:List V} {ws:List W} {Qw:WK} {Q:VK},Ej K μ H h->aM K H μ ws vs->mr ws h Qw->(∀ v H',DQ K H μ Qw v H'->Q v H')->r vs H Q
def fG (X:Cx)(f:Mk)(mr:MC):Prop:=∃ r,fX X f r/\abF X.K r mr
theorem YM {K:CT}{Z : St}{H:Hp}{Q:VK}{r:List V->Hp->VK->Prop}{mc:MC}{ma:MA}(s:abF K r mc)(h:tD K (Eu mc ma) Z H Q):tCB r (tDA K ma) Z H Q:=by
 obtain ⟨μ,g,Zw,Qw,R,S,m,q⟩:=h;exact ⟨μ,g,Zw,_,R,S,m,fun vs H1 ⟨μ1,ws,h1,e1,R1,r1,m1⟩=>s R1 r1 m1 fun v H' z=>q _ _<|z.trans e1⟩
theorem afN {x:Str}{p:Pos}{id:String}{mc:MC}(hc:fG X (.builtin id) mc)(hg:Gl X x)(hm:X.mg x=FX)(hv:Rf x=FN (.builtin id))(ha:Kq X (e::es) mr)(hn:x ≠ "__name__":=by decide)(hdb:(x==("__debug__" : Str))=false:=by decide)
  (he:Fo (e::es) X.env=(false,eval e X.env)::Fo es X.env:=by rfl) (hpl:(K5 pos (Fo es X.env)).any (·.1)=false:=by rfl):DE X (.Call (.Name x p) (e::es) [] pos) (Eu mc mr):=by
 obtain ⟨r,c,s⟩:=hc;exact (zbp c hg hm hv ha hn hdb he hpl).of fun _ _ _ h=>YM s h
theorem afI {x:Str}{p:Pos}{T:String}{mc:MC}(hc:fG X (.type T) mc)(hg:Gl X x)(hm:X.mg x=FX)(hv:Rf x=FN (.type T))(ha:Kq X (e::es) mr)(hn:x ≠ "__name__":=by decide)(hdb:(x==("__debug__" : Str))=false:=by decide)
  (he:Fo (e::es) X.env=(false,eval e X.env)::Fo es X.env:=by rfl) (hpl:(K5 pos (Fo es X.env)).any (·.1)=false:=by rfl):DE X (.Call (.Name x p) (e::es) [] pos) (Eu mc mr):=by
 obtain ⟨r,c,s⟩:=hc;exact (zay c hg hm hv ha hn hdb he hpl).of fun _ _ _ h=>YM s h
end
variable {mr : MA}{ma mb : ME}{ms : CP}{c : Prop}
section
variable {X:Cx}{e a b c tg:Expr}{mc:ME}{pos:Pos}{es:List Expr}
def kI (i:Nat):MG:=fun w Z h N=>N (Z.set i (FN w)) h
theorem agq {i:Nat}(hg:PG X e (G8 i)):DG X e (kI i):=hg.of fun v Z H N ⟨μ,h,Zw,w,Nw,R,S,r,m,k⟩=>k _ _ ⟨μ,Zw.set i (FN w),h,.refl,R,S.set r i,m⟩
def Ag:QL:=fun ws Z h N=>match ws with
 | []=>N Z h
 | _=>False
def cX (g:MG)(r:QL):QL:=fun ws Z h N=>match ws with
 | w::ws'=>g w Z h fun Z1 h1=>r ws' Z1 h1 N
 | []=>False
theorem fJ:Zn X [] Ag:=Jf.of fun vs Z H N ⟨μ,h,Zw,ws,Nw,R,S,r,m,k⟩=>by
 cases ws with
 | nil=>rw [aM] at r;exact ⟨r,k _ _ ⟨μ,Zw,h,.refl,R,S,m⟩⟩
 | cons w ws=>exact m.elim
theorem aY {g:MG}{u:QL}(h1:DG X e g)(h2:Zn X es u)(hs:(Li (e::es) X.env).map (·.2)=assign e X.env::(Li es X.env).map (·.2):=by rfl):Zn X (e::es) (cX g u):=(uH h1 h2 hs).of fun vs Z H N ⟨μ,h,Zw,ws,Nw,R,S,r,m,k⟩=>by
 cases ws with
 | nil=>exact m.elim
 | cons w ws=>
  rw [aM] at r;obtain ⟨v,vr,ev,r1,r2⟩:=r;refine ⟨v,vr,ev,μ,h,Zw,w,_,R,S,r1,m,fun Z1 H1 ⟨μ1,Zw1,h1,e1,R1,S1,m1⟩=>?_⟩;exact ⟨μ1,h1,Zw1,ws,_,R1,S1,e1.s r2,m1,fun Z2 H2 z=>k _ _<|z.trans e1⟩
def abY (n:Nat)(g:QL):MG:=fun w Z h N=>match w with
 | .tup ws=>Jr (M4 ws.length n) (g ws Z h N) False
 | _=>False
abbrev Uo:=W->W->W->Gh->(Gh->Prop)->Prop
def Aa (K:CT)(t:Ql)(ms:Uo):Prop:=∀ {H:Hp} {μ : Mu} {h:Gh} {o i v:V} {wo wi w:W} {Nw:Gh->Prop} {N:Hp->Prop},Ej K μ H h->CK K H μ wo o->CK K H μ wi i->CK K H μ w v->ms wo wi w h Nw ->
 (∀ H',(∃ μ' h',Ik K H μ H' μ'/\Ej K μ' H' h'/\Nw h')->N H')->t o i v H N
def En (mo mi:ME)(ms:Uo):MG:=fun w Z h N=>mo Z h fun o h1=>mi Z h1 fun i h2=>ms o i w h2 fun h3=>N Z h3
theorem jT {o i:Expr}{mo mi:ME}{t:Ql}{ms:Uo}(ho:DE X o mo)(hi:DE X i mi)(hs:VL X t)(hm:Aa X.K t ms)
  (ha:∀ v,assign (.Subscript o i pos) X.env v=(do
   let ov <-holding [v] (eval o X.env)
   let iv <-holding [v,ov] (eval i X.env)
   standAt pos
   holding [v,ov,iv] (setItem ov iv v)
   release [v,ov,iv] []):=by intro _;rfl):DG X (.Subscript o i pos) (En mo mi ms):=
 (YX ho hi hs ha).of fun v Z H N ⟨μ,h,Zw,w,Nw,R,S,r,m,k⟩=>by
  refine ⟨μ,h,Zw,_,R,S,m,fun o H1 ⟨μ1,wo,h1,e1,R1,r1,m1⟩=>?_⟩;refine ⟨μ1,h1,Zw,_,R1,S.ext e1,m1,fun i H2 ⟨μ2,wi,h2,e2,R2,r2,m2⟩=>?_⟩;refine hm R2 (e2.r _ _ r1) r2 (e2.r _ _<|e1.r _ _ r) m2 fun H3 ⟨μ3,h3,e3,R3,m3⟩=>?_;exact k _ _ ⟨μ3,Zw,h3,(e1.trans e2).trans e3,R3,S.ext<|(e1.trans e2).trans e3,m3⟩
def Mj:Uo:=fun o i w h N=>match o,i with
 | .loc n,.int k=>(match h.c n with
  | some (.lst ws)=>(match QM ws.length k with
   | some j=>N (h.set n (.lst (ws.set j w)))
   | none=>False)
  | _=>False)
 | _,_=>False
theorem Ej.lstAt {K:CT}{H:Hp}{h:Gh}{n:Nat}(R:Ej K μ H h)(e:h.c n=FN (.lst ws)):∃ p xs,μ.f n=FN p/\H p=FN (.lst xs)/\aM K H μ ws xs:=by
 obtain ⟨p,e1,xs,e2,r⟩:=R.cel n _ e;exact ⟨p,xs,e1,e2,r⟩
theorem Bg {K:CT}:Aa K WQ Mj:=by
 intro H μ h o i v wo wi w Nw N R ro ri r m k;cases wo with
 | loc n=>
  cases wi with
  | int z=>
   rw [CK] at ro;rw [CK] at ri;obtain ⟨p,eo,hp⟩:=ro;unfold Mj at m;dsimp only at m;cases ec:h.c n with
   | none=>rw [ec] at m;exact m.elim
   | some cl=>
    rw [ec] at m;cases cl with
    | lst ws=>
     dsimp only at m;obtain ⟨p',xs,hp',hx,rs⟩:=R.lstAt ec;have ep:p'=p:=by rw [hp] at hp';exact (Gz hp').symm
     subst ep;cases ej:QM ws.length z with
     | none=>rw [ej] at m;exact m.elim
     | some j=>
      rw [ej] at m;refine ⟨p',xs,z,j,eo,ri,hx,by rw [<-rs.len];exact ej,k _ ⟨μ,_,(Ex.write R hp).ext,R.write hp trivial ?_,m⟩⟩;exact ⟨_,bF,aM.set ((Ex.write R hp).ext.r _ _ r) j<|(Ex.write R hp).ext.s rs⟩
    | _=>exact m.elim
  | _=>exact m.elim
 | _=>exact m.elim
variable {st:Stmt}{rest body:List Stmt}{m1 m2:MS}{t:MT}
def cH:MS:=fun D Z h=>D.nx Z h
def bD (m u:MS):MS:=fun D Z h=>m { D with nx:=u D } Z h
theorem bA:S8 X [] cH:=aeM.of fun D Z H ⟨μ,h,Zw,Dw,R,S,m,k⟩=>k.nx _ _ ⟨μ,Zw,h,.refl,R,S,m⟩
theorem aD (h1:DS X st m1):S8 X [st] m1:=agp h1
theorem au (h1:DS X st m1)(h2:S8 X rest m2):S8 X (st::rest) (bD m1 m2):=(adT h1 h2).of fun D Z H ⟨μ,h,Zw,Dw,R,S,m,k⟩=>by
 refine ⟨μ,h,Zw,_,R,S,m,?_,k.rt,k.bk,k.ct⟩;intro Z' H' ⟨μ1,Zw1,h1,e1,R1,S1,m1⟩;exact ⟨μ1,h1,Zw1,Dw,R1,S1,m1,k.trans e1⟩
def oV (m:ME):MS:=fun D Z h=>m Z h fun _ h1=>D.nx Z h1
theorem jD (he:DE X e ma)(hs:swapsWith e FX pos.line X.env=pure false:=by rfl):DS X (.Expr e pos) (oV ma):=(afq he hs).of fun D Z H ⟨μ,h,Zw,Dw,R,S,m,k⟩=>
 ⟨μ,h,Zw,_,R,S,m,fun v H1 ⟨μ1,w,h1,e1,R1,_,m1⟩=>k.nx _ _ ⟨μ1,Zw,h1,e1,R1,S.ext e1,m1⟩⟩
def cC (m:ME):MS:=fun D Z h=>m Z h D.rt
theorem aN (he:DE X e ma):DS X (.Return (FN e) pos) (cC ma):=(Y4 he).of fun D Z H ⟨μ,h,Zw,Dw,R,S,m,k⟩=>⟨μ,h,Zw,_,R,S,m,k.rt⟩
def iY (t:MT)(a b:MS):MS:=fun D Z h=>t Z h fun c h1=>br c (a D Z h1) (b D Z h1)
theorem cU {a b:List Stmt}(hc:DT X c t)(ha:S8 X a m1)(hb:S8 X b m2):DS X (.If c a b pos) (iY t m1 m2):=(Zu hc ha hb).of fun D Z H ⟨μ,h,Zw,Dw,R,S,m,k⟩=>by
 refine ⟨μ,h,Zw,_,R,S,m,fun b H1 ⟨μ1,h1,e1,R1,q⟩=>?_⟩;cases b with
 | true=>rw [if_pos rfl];exact ⟨μ1,h1,Zw,Dw,R1,S.ext e1,q.1 rfl,k.trans e1⟩
 | false=>rw [if_neg Lw];exact ⟨μ1,h1,Zw,Dw,R1,S.ext e1,q.2 rfl,k.trans e1⟩
def vP (x:Str)(E:Dm):MS:=fun _ _ h=>E ⟨x,[]⟩ h
theorem uZ {x:Str}:DS X st (vP x EF):=zbm.of fun _ _ _ ⟨_,_,_,_,_,_,m,_⟩=>m.elim
def bY (m:ME)(g:MG):MS:=fun D Z h=>m Z h fun w h1=>g w Z h1 D.nx
theorem Yx {K:CT}{Z : St}{H:Hp}{D:Ends}{m:ME}{g:MG}(q:tDS K (bY m g) D Z H):Yi (tD K m) (tDG K g) D Z H:=by
 obtain ⟨μ,h,Zw,Dw,R,S,m,k⟩:=q;exact ⟨μ,h,Zw,_,R,S,m,fun v H1 ⟨μ1,w,h1,e1,R1,r1,m1⟩=>⟨μ1,h1,Zw,w,_,R1,S.ext e1,r1,m1,fun Z' H' z=>k.nx _ _<|z.trans e1⟩⟩
theorem gj {g:MG}(he:DE X e ma)(hg:DG X tg g)(hs:swapsWithSole [tg] e pos.line X.env=pure false:=by rfl)(hw:swappedStores [tg] e X.env=pure FX:=by rfl)
  (h1:(Li [tg] X.env).map (·.2)=[assign tg X.env]:=by rfl):DS X (.Assign [tg] e pos) (bY ma g):=(Ys he hg hs hw h1).of fun _ _ _ q=>Yx q
theorem O7 {K:CT}{Z : St}{H:Hp}{D:Ends}{m:ME}{t:TE}{i:Nat}(ht:∀ Z H Q,tD K m Z H Q->t Z H Q)(q:tDS K (bY m (kI i)) D Z H):Yi t (G8 i) D Z H:=by
 obtain ⟨μ,h,Zw,Dw,R,S,m,k⟩:=q;exact ht _ _ _ ⟨μ,h,Zw,_,R,S,m,fun v H1 ⟨μ1,w,h1,e1,R1,r1,m1⟩=>k.nx _ _ ⟨μ1,Zw.set i<|some w,h1,e1,R1,(S.ext e1).set r1 i,m1⟩⟩
theorem ahJ {i:Nat}{x:Str}{pos':Pos}(hN:X.N.Nodup)(hi:X.N[i]?=FN x)(hx:Loc X.env.scope x)(he:DE X e ma)(hs:swapsWith e (FN (.Name x pos')) pos.line X.env=pure false:=by rfl)
  (hf:X.fn x=true\/X.env.scope.names.lookup x=FN .local:=by first | exact .inl rfl | exact .inr rfl | assumption) :
  DS X (.Assign [.Name x pos'] e pos) (bY ma (kI i)):=(ahb hN hi hx he hs hf).of fun _ _ _ q=>O7 (fun _ _ _ z=>z) q
def adl (i j:Nat)(ta:MA):MS:=fun D Z h=>ta Z h fun ws h1=>match ws with
 | [v,w]=>D.nx ((Z.set i (FN v)).set j (FN w)) h1
 | _=>False
structure Src where
 ws:List W
 cell:Option (Nat×List W)
def Src.chk (s:Src)(h:Gh):Prop:=match s.cell with
 | none=>True
 | some n=>h.c n.1=FN (.lst n.2)
abbrev MI:=Sw->Gh->(Src->Gh->Prop)->Prop
def UG (K:CT)(J:It)(src:Src)(H:Hp)(μ : Mu):Prop:=∀ {H2:Hp} {μ2:Mu} {h2:Gh} {i:Nat},Ik K H μ H2 μ2->Ej K μ2 H2 h2->src.chk h2 ->
 (∀ w,src.ws[i]?=FN w->J.go i H2/\∀ x H3,J.yld i H2 x H3->∃ μ3,Ik K H2 μ2 H3 μ3/\Ej K μ3 H3 h2/\CK K H3 μ3 w x)/\(src.ws.length<=i->J.stop i H2)
inductive DI (K:CT) (H:Hp) (μ : Mu) (Rw:Src->Gh->Prop) (J:It) (H':Hp):Prop where
 | mk (μ':Mu) (src:Src) (h':Gh) (e:Ik K H μ H' μ') (R:Ej K μ' H' h') (o:UG K J src H' μ') (q:Rw src h'):DI K H μ Rw J H'
inductive tDI (K:CT) (mi:MI) (Z : St) (H:Hp) (R:It->Hp->Prop):Prop where
 | mk (μ : Mu) (h:Gh) (Zw:Sw) (Rw:Src->Gh->Prop) (q:Ej K μ H h) (S:Slots K H μ Zw Z) (x:mi Zw h Rw) (k:∀ J H',DI K H μ Rw J H'->R J H'):tDI K mi Z H R
abbrev RM (X:Cx)(tg iter:Expr)(mi:MI):Prop:=PI X tg iter (tDI X.K mi)
theorem PI.of {iter:Expr}{t t':TI}(h:PI X tg iter t)(k:∀ Z H R,t' Z H R->t Z H R):PI X tg iter t':=fun ajd s Z H R I q=>h ajd s Z H R I (k Z H R q)
def dM (h:Gh):W->Option (List W)
 | .lst ws=>FN ws
 | .kls ws=>FN ws
 | .loc n=>(match h.c n with
  | some (.lst ws)=>FN ws
  | _=>FX)
 | _=>FX
def view (h:Gh):W->Option (List W)
 | .tup ws=>FN ws
 | .lst ws=>FN ws
 | .kls ws=>FN ws
 | .loc n=>dM h (.loc n)
 | _=>FX
def Pu (h:Gh):W->Option Src
 | .tup ws=>FN ⟨ws,FX⟩
 | .lst ws=>FN ⟨ws,FX⟩
 | .kls ws=>FN ⟨ws,FX⟩
 | .loc n=>(match h.c n with
  | some (.lst ws)=>FN ⟨ws,FN (n,ws)⟩
  | _=>FX)
 | _=>FX
theorem zbI {K:CT}{H:Hp}{p:Addr}(r:CK K H μ (.lst ws) (.ref p)):UG K (Itl K p) ⟨ws,FX⟩ H μ:=by
 intro H2 μ2 h2 i e R2 _;have r2:=e.r _ _ r;rw [CK] at r2;obtain ⟨q,xs,eq,hf,rs⟩:=r2;cases eq;refine ⟨fun w ew=>?_,fun hl=>⟨xs,hf.sq,by rw [<-rs.len];exact hl⟩⟩;obtain ⟨v,ev,rv⟩:=rs.get ew;refine ⟨⟨xs,v,hf.sq,ev⟩,fun x H3 ⟨e3,y⟩=>?_⟩;subst e3;have:=y xs hf.sq
 rw [ev] at this;cases this;exact ⟨μ2,.refl,R2,rv⟩
theorem zbB {K:CT}{H:Hp}{p:Addr}(r:CK K H μ (.kls ws) (.ref p)):UG K (Itl K p) ⟨ws,FX⟩ H μ:=by
 intro H2 μ2 h2 i e R2 _;have r2:=e.r _ _ r;rw [CK] at r2;obtain ⟨q,xs,eq,hf,rs⟩:=r2;cases eq;refine ⟨fun w ew=>?_,fun hl=>⟨xs,hf.sq,by rw [<-rs.len];exact hl⟩⟩;obtain ⟨v,ev,rv⟩:=rs.get ew;refine ⟨⟨xs,v,hf.sq,ev⟩,fun x H3 ⟨e3,y⟩=>?_⟩;subst e3;have:=y xs hf.sq
 rw [ev] at this;cases this;exact ⟨μ2,.refl,R2,rv⟩
theorem afy {K:CT}{H:Hp}{p:Addr}{n:Nat}(r:CK K H μ (.loc n) (.ref p)):UG K (Itl K p) ⟨ws,FN (n,ws)⟩ H μ:=by
 intro H2 μ2 h2 i e R2 ck;have r2:=e.r _ _ r;rw [CK] at r2;obtain ⟨q,eq,hm⟩:=r2;cases eq;obtain ⟨p',xs,hm',hx,rs⟩:=R2.lstAt (show h2.c n=FN (.lst ws) from ck);have ep:p'=p:=by rw [hm] at hm';exact (Gz hm').symm
 subst ep;refine ⟨fun w ew=>?_,fun hl=>⟨xs,.of hx,by rw [<-rs.len];exact hl⟩⟩;obtain ⟨v,ev,rv⟩:=rs.get ew;refine ⟨⟨xs,v,.of hx,ev⟩,fun x H3 ⟨e3,y⟩=>?_⟩;subst e3;have:=y xs (.of hx)
 rw [ev] at this;cases this;exact ⟨μ2,.refl,R2,rv⟩
theorem ahq {K:CT}{H:Hp}{p:Addr}(r:CK K H μ (.tup ws) (.ref p)):UG K (Itt K p) ⟨ws,FX⟩ H μ:=by
 intro H2 μ2 h2 i e R2 _;have r2:=e.r _ _ r;rw [CK] at r2;obtain ⟨q,xs,eq,hf,rs⟩:=r2;cases eq;refine ⟨fun w ew=>?_,fun hl=>⟨xs,hf,by rw [<-rs.len];exact hl⟩⟩;obtain ⟨v,ev,rv⟩:=rs.get ew;refine ⟨⟨xs,v,hf,ev⟩,fun x H3 ⟨e3,y⟩=>?_⟩;subst e3;have:=y xs hf
 rw [ev] at this;cases this;exact ⟨μ2,.refl,R2,rv⟩
def acG (K:CT)(tl:TE):TI:=fun Z H R=>tl Z H fun x H1=>(∃ a,x=.ref a/\(∃ xs,Jy K H1 a xs)/\R (Itl K a) H1)\/(∃ a,x=.ref a/\(∃ xs,HJ K H1 a xs)/\R (Itt K a) H1)
theorem Xi {l:Expr}{tl:TE}(hl:PE X l tl):PI X tg l (acG X.K tl):=by
 intro ajd s Z H R I h;refine Fz (hl ajd s Z H _ I h) fun v s1 ⟨x,H1,I1,r1,q1⟩=>?_;rcases q1 with ⟨a,e,⟨xs,hq⟩,q⟩ | ⟨a,e,⟨xs,hq⟩,q⟩
 ·subst e;cases r1;obtain ⟨its,rv,p,hz⟩:=I1.list hq;refine wpAny_pyIter_list p.isList ?_;refine ⟨s1.heap.objs.size,[s1.heap.objs.size],_,_,H1,rfl,I1.kept (t':=s1.toks) fun b o e=>GD _ e,adY a _,⟨_,K4 _ rfl,rfl,rfl⟩,fun b hb=>?_,q⟩;have e:b=s1.heap.objs.size:=by simpa using hb
  subst e;exact I1.fpOk (Dg _)<|I1.hok.fresh<|Dg _
 ·subst e;cases r1;obtain ⟨its,rv,p,hz⟩:=I1.tuple hq;refine wpAny_pyIter_tuple (show s1.heap.IsTuple a its.toArray from p) ?_;refine ⟨s1.heap.objs.size,[s1.heap.objs.size],_,_,H1,rfl,I1.kept (t':=s1.toks) fun b o e=>GD _ e,zak a _,⟨_,K4 _ rfl,rfl,rfl⟩,fun b hb=>?_,q⟩;have e:b=s1.heap.objs.size:=by simpa using hb
  subst e;exact I1.fpOk (Dg _)<|I1.hok.fresh<|Dg _
def Hr (m:ME):MI:=fun Z h R=>m Z h fun w h1=>match Pu h1 w with
 | some s=>R s h1
 | none=>False
theorem bJ {l:Expr}(hl:DE X l ma):RM X tg l (Hr ma):=PI.of (Xi hl) fun Z H Q ⟨μ,h,Zw,Rw,R,S,m,k⟩=>by
 refine ⟨μ,h,Zw,_,R,S,m,fun v H1 ⟨μ1,w,h1,e1,R1,r1,m1⟩=>?_⟩;cases w with
 | tup ws=>
  have r1':=r1;rw [CK] at r1;obtain ⟨p,xs,ev,hs,_⟩:=r1;subst ev;exact .inr ⟨p,rfl,⟨xs,hs⟩,k _ _ ⟨μ1,⟨ws,FX⟩,h1,e1,R1,ahq r1',m1⟩⟩
 | lst ws=>
  have r1':=r1;rw [CK] at r1;obtain ⟨p,xs,ev,hs,_⟩:=r1;subst ev;exact .inl ⟨p,rfl,⟨xs,hs.sq⟩,k _ _ ⟨μ1,⟨ws,FX⟩,h1,e1,R1,zbI r1',m1⟩⟩
 | kls ws=>
  have r1':=r1;rw [CK] at r1;obtain ⟨p,xs,ev,hs,_⟩:=r1;subst ev;exact .inl ⟨p,rfl,⟨xs,hs.sq⟩,k _ _ ⟨μ1,⟨ws,FX⟩,h1,e1,R1,zbB r1',m1⟩⟩
 | loc n=>
  have r1':=r1;rw [CK] at r1;obtain ⟨p,ev,hm⟩:=r1;subst ev;unfold Pu at m1;dsimp only at m1;cases ec:h1.c n with
  | none=>rw [ec] at m1;exact m1.elim
  | some cl=>
   rw [ec] at m1;cases cl with
   | lst ws=>
    obtain ⟨p',xs,hm',hx,rs⟩:=R1.lstAt ec;have ep:p'=p:=by rw [hm] at hm';exact (Gz hm').symm
    subst ep;exact .inl ⟨p',rfl,⟨xs,.of hx⟩,k _ _ ⟨μ1,⟨ws,FN (n,ws)⟩,h1,e1,R1,afy r1',m1⟩⟩
   | _=>exact m1.elim
 | _=>exact m1.elim
def xQ (lo:Int)(n:Nat):List W:=(Ma n).map fun (k:Nat)=>.int (lo+(k:Int))
theorem Oz {K:CT}{H:Hp}{lo:Int}{n:Nat}:UG K (Itr lo n) ⟨xQ lo n,FX⟩ H μ:=by
 intro H2 μ2 h2 i e R2 _;refine ⟨fun w ew=>?_,fun hl=>?_⟩
 ·have hi:i<n:=by
   have:=(Lk.mp ew).1
   simpa [xQ] using this
  have ew':w=.int (lo+(i:Int)):=by
   unfold xQ at ew;rw [GP,List.getElem?_range hi] at ew;exact (Gz ew).symm
  subst ew';refine ⟨hi,fun x H3 ⟨e3,y⟩=>?_⟩;subst e3;exact ⟨μ2,.refl,R2,by rw [CK];exact y⟩
 ·have:n<=i:=by simpa [xQ] using hl
  exact this
def vR (j:Int)(P:Prop):Prop:=Jr (decide (-1000<=j)&&decide (j<=1000)) P ((-(2^62)<=j/\j<2^62)/\P)
theorem vR.ok {j:Int}{P:Prop}(h:vR j P):(-(2^62)<=j/\j<2^62)/\P:=by
 unfold vR at h;cases e:(decide (-1000<=j)&&decide (j<=1000)) with
 | true=>
  rw [e] at h;rw [Nk,decide_eq_true_iff,decide_eq_true_iff] at e;exact ⟨⟨by lia,by lia⟩,h⟩
 | false=>rw [e] at h;exact h
theorem vR.mk {j:Int}{P:Prop}(h1:-(2^62)<=j)(h2:j<2^62)(h:P):vR j P:=by
 unfold vR;cases e:(decide (-1000<=j)&&decide (j<=1000)) with
 | true=>exact h
 | false=>exact ⟨⟨h1,h2⟩,h⟩
def fK (ma:MA):MI:=fun Z h R=>ma Z h fun ws h1=>match ws with
 | [.int j]=>vR j (R ⟨xQ 0 j.toNat,FX⟩ h1)
 | _=>False
def GQ (ma:MA):MI:=fun Z h R=>ma Z h fun ws h1=>match ws with
 | [.int i,.int j]=>vR i (vR j (R ⟨xQ i (j - i).toNat,FX⟩ h1))
 | _=>False
theorem zax {a:Expr}{p pos:Pos}(hg:Gl X "range")(hm:X.mg "range" = FX)(ha:Kq X [a] mr)(hs:Fo [a] X.env=[(false,eval a X.env)]:=by rfl):RM X tg (.Call (.Name "range" p) [a] [] pos) (fK mr):=
 PI.of (zar hg hm ha hs) fun Z H Q ⟨μ,h,Zw,Rw,R,S,m,k⟩=>by
  refine ⟨μ,h,Zw,_,R,S,m,fun vs H1 ⟨μ1,ws,h1,e1,R1,r1,m1⟩=>?_⟩;split at m1
  ·rename_i j;rw [aM] at r1;obtain ⟨v,vr,ev,ra,r1⟩:=r1;rw [aM] at r1;rw [CK] at ra;subst ev r1 ra;exact ⟨j,rfl,m1.ok.1.1,m1.ok.1.2,k _ _ ⟨μ1,_,h1,e1,R1,Oz,m1.ok.2⟩⟩
  ·exact m1.elim
theorem zaL {a b:Expr}{p pos:Pos}(hg:Gl X "range")(hm:X.mg "range" = FX)(ha:Kq X [a,b] mr)(hs:Fo [a,b] X.env=[(false,eval a X.env),(false,eval b X.env)]:=by rfl)(hs2:Fo [b] X.env=[(false,eval b X.env)]:=by rfl):
  RM X tg (.Call (.Name "range" p) [a,b] [] pos) (GQ mr):=
 PI.of (adW hg hm ha hs hs2) fun Z H Q ⟨μ,h,Zw,Rw,R,S,m,k⟩=>by
  refine ⟨μ,h,Zw,_,R,S,m,fun vs H1 ⟨μ1,ws,h1,e1,R1,r1,m1⟩=>?_⟩;split at m1
  ·rename_i i j;rw [aM] at r1;obtain ⟨v,vr,ev,ra,r1⟩:=r1;rw [aM] at r1;obtain ⟨v',vr',ev',rb,r1⟩:=r1;rw [aM] at r1;rw [CK] at ra rb;subst ev ev' r1 ra rb;exact ⟨i,j,rfl,⟨m1.ok.1.1,m1.ok.1.2,m1.ok.2.ok.1.1,m1.ok.2.ok.1.2⟩,k _ _ ⟨μ1,_,h1,e1,R1,Oz,m1.ok.2.ok.2⟩⟩
  ·exact m1.elim
def Src.go (s:Src)(h:Gh)(P:Prop):Prop:=match s.cell with
 | none=>P
 | some n=>h.c n.1=FN (.lst n.2)/\P
theorem Src.go_ok {s:Src}{h:Gh}{P:Prop}(x:s.go h P):s.chk h/\P:=by
 unfold Src.go at x;unfold Src.chk;cases e:s.cell with
 | none=>rw [e] at x;exact ⟨trivial,x⟩
 | some n=>rw [e] at x;exact x
def gG (s:Src)(g:MG)(b:MS)(D:bO):List W->Sw->Gh->Prop
 | [],Z,h=>s.go h (D.nx Z h)
 | w::r,Z,h=>s.go h (g w Z h fun Z1 h1=>b { D with nx:=gG s g b D r,ct:=gG s g b D r,bk:=D.nx } Z1 h1)
def lD (mi:MI)(g:MG)(b:MS):MS:=fun D Z h=>mi Z h fun s h1=>gG s g b D s.ws Z h1
theorem cL {iter:Expr}{body:List Stmt}{mi:MI}{g:MG}{mb0:MS}{pos:Pos}(hp:afm (Cp X.prog X.w) X.A X.env X.xe)(hc:X.calm=true)(hi:RM X tg iter mi)(hg:DG X tg g)(hb:S8 X body mb0)
  (hs:∀ x,Tj iter X.env x=pure x:=by intro _;rfl):DS X (.For tg iter body [] pos) (lD mi g mb0):=(agd hp hc hi hg hb hs).of fun D Z H ⟨μ,h,Zw,Dw,R,S,m,k⟩=>by
 refine ⟨μ,h,Zw,_,R,S,m,fun J H1 ⟨μ1,src,h1,e1,R1,ok,m1⟩=>?_⟩;refine ⟨fun i n Z' H'=>n=src.ws.length - i/\i<=src.ws.length/\DN X.K H1 μ1 (gG src g mb0 Dw<|src.ws.drop i) Z' H',⟨src.ws.length,by simp,Ko _,μ1,Zw,h1,.refl,R1,S.ext e1,by rw [List.drop_zero];exact m1⟩,?_⟩;rintro i n Z2 H2 ⟨hn,hle,μ2,Zw2,h2,e2,R2,S2,m2⟩;by_cases hlt:i<src.ws.length
 ·rw [Ut hlt] at m2;obtain ⟨ck,m2⟩:=Src.go_ok m2;obtain ⟨hgo,hy⟩:=(ok e2 R2 ck).1 src.ws[i] (HD hlt);refine .inr ⟨hgo,fun Z' H'=>DN X.K H2 μ2 (gG src g mb0 Dw<|src.ws.drop<|i+1) Z' H',fun Z' H' z=>⟨src.ws.length - (i+1),by lia,rfl,hlt,z.trans e2⟩,fun x H3 y=>?_⟩;obtain ⟨μ3,e3,R3,rx⟩:=hy x H3 y;refine ⟨μ3,h2,Zw2,src.ws[i],_,R3,S2.ext e3,rx,m2,fun Z4 H4 ⟨μ4,Zw4,h4,e4,R4,S4,m4⟩=>?_⟩;have e24:=e3.trans e4;have e14:=(e1.trans e2).trans e24;exact ⟨μ4,h4,Zw4,_,R4,S4,m4,fun Z' H' z=>z.trans e24,fun v H' z=>k.rt _ _<|z.trans e14,fun Z' H' z=>k.nx _ _<|z.trans e14,fun Z' H' z=>z.trans e24⟩
 ·have ei:i=src.ws.length:=by lia
  subst ei;rw [List.drop_length] at m2;obtain ⟨ck,m2⟩:=Src.go_ok m2;exact .inl ⟨(ok e2 R2 ck).2 (Dg _),k.nx _ _ ⟨μ2,Zw2,h2,e1.trans e2,R2,S2,m2⟩⟩
def jZ (ix:List Nat)(Z : Sw):Sw:=ix.map fun i=>(Z[i]?).getD FX
theorem Slots.blk {K:CT}{H:Hp}{Zw:Sw}{Z : St}(S:Slots K H μ Zw Z):∀ {ws:List W} {vs:List V},aM K H μ ws vs->Slots K H μ (ws.map FN++jZ ix Zw) (vs.map FN++Cr ix Z):=by
 intro ws vs r;have hl:=r.len;refine ⟨by simp [jZ,Cr,hl],fun i u q=>?_⟩;by_cases hi:i<ws.length
 ·rw [QC (by simpa using hi),GP] at q;have q':ws[i]?=FN u:=by
   cases e:ws[i]? with
   | none=>rw [e] at q;cases q
   | some a=>rw [e] at q;simpa using q
  obtain ⟨v,hv,rv⟩:=r.get q';refine ⟨v,?_,rv⟩;rw [QC (by rw [DX];lia),GP,hv];rfl
 ·rw [QD (by simpa using hi),DX] at q;rw [QD (by rw [DX];lia),DX,<-hl];generalize i - ws.length=i at q |-
  unfold jZ at q;unfold Cr;rw [GP] at q |-
  cases e:ix[i]? with
  | none=>rw [e] at q;cases q
  | some j=>
   rw [e] at q;cases e2:Zw[j]? with
   | none=>simp [e2] at q
   | some o=>
    have eo:o=FN u:=by simpa [e2] using q
    subst eo;obtain ⟨v',h1,h2⟩:=S.get j u e2;exact ⟨v',by simp [h1],h2⟩
def jG:MT:=fun _ h Q=>Q true h
def rE (s:Src)(own:W->Option (List W))(ix:List Nat)(tt:MT)(te:ME)(Z : Sw)(Q:WK):List W->List W->Gh->Prop
 | [],acc,h=>s.go h (Q (.lst acc) h)
 | w::r,acc,h=>s.go h (match own w with
  | some vs=>tt (vs.map FN++jZ ix Z) h fun c h1=>Jr c (te (vs.map FN++jZ ix Z) h1 fun v h2=>rE s own ix tt te Z Q r (acc++[v]) h2) (rE s own ix tt te Z Q r acc h1)
  | none=>False)
def Hi (own:W->Option (List W))(ix:List Nat)(mi:MI)(tt:MT)(te:ME):ME:=fun Z h Q=>mi Z h fun s h1=>eG s.ws.length (rE s own ix tt te Z Q s.ws [] h1)
def Gx (K:CT)(n:Nat)(own:V->Hp->List V->Prop)(ow:W->Option (List W)):Prop:=∀ {H:Hp} {μ : Mu} {w:W} {v:V} {ws:List W},CK K H μ w v->ow w=FN ws->∃ vs,own v H vs/\vs.length=n/\aM K H μ ws vs
def Ib (w:W):Option (List W):=FN [w]
def owT (n:Nat)(w:W):Option (List W):=match w with
 | .tup ws=>(match M4 ws.length n with
  | true=>FN ws
  | false=>FX)
 | _=>FX
def ov1:V->Hp->List V->Prop:=fun v _ vs=>vs=[v]
def ovT (K:CT):V->Hp->List V->Prop:=fun v H vs=>∃ a,v=.ref a/\HJ K H a vs
theorem vK {K:CT}:Gx K 1 ov1 Ib:=by
 intro H μ w v ws r e;cases (show FN [w]=FN ws from e)
 exact ⟨[v],rfl,rfl,.one r⟩
theorem W3 {K:CT}{n:Nat}:Gx K n (ovT K) (owT n):=by
 intro H μ w v ws r e;cases w with
 | tup us=>
  unfold owT at e;dsimp only at e;cases en:M4 us.length n with
  | false=>rw [en] at e;cases e
  | true=>
   rw [en] at e;cases (show FN us=FN ws from e)
   rw [CK] at r;obtain ⟨p,xs,ev,hs,rs⟩:=r;exact ⟨xs,⟨p,ev,hs⟩,by rw [<-rs.len];exact Wj en,rs⟩
 | _=>cases e
abbrev Vf (X:Cx)(ifs:List Expr)(m:MT):Prop:=Uy X ifs (tDT X.K m)
theorem j7:Vf X [] jG:=fun ajd s Z H Q I ⟨μ,h,Zw,Qw,R,S,m,k⟩=>aek ajd s Z H Q I (k _ _ ⟨μ,h,.refl,R,m⟩)
theorem kW (h:DT X c t):Vf X [c] t:=afw h
theorem Vm {K:CT}{Z : St}{H:Hp}{Q:VK}{n:Nat}{ow:W->Option (List W)}{mi:MI}{tt:MT}{te:ME}(oo:Gx K n own ow)(q:tD K (Hi ow ix mi tt te) Z H Q):tLC n own ix (tDI K mi) (tDT K tt) (tD K te) Z H Q:=by
 obtain ⟨μ,h,Zw,Qw,R,S,m,k⟩:=q;refine ⟨μ,h,Zw,_,R,S,m,fun J H1 ⟨μ1,src,h1,e1,R1,ok,hz0⟩=>?_⟩;obtain ⟨hz,m1⟩:=hz0.ok;intro D hD;have nD:=R1.nohid hD;have hD1:Ik K H1 μ1 (FQ H1 D (.lst [])) (μ1.hide D):=Ik.hide hD;refine ⟨fun i n ys H'=>n=src.ws.length - i/\i<=src.ws.length/\ys.length<=i/\H' D=FN (.lst ys)/\∃ μ' acc h',Ik K H1 μ1 H' μ'/\Ej K μ' H' h'/\μ'.hid D/\aM K H' μ' acc ys/\rE src ow ix tt te Zw Qw (src.ws.drop i) acc h',
  ⟨src.ws.length,by simp,Ko _,Dg _,bF,μ1.hide D,[],h1,hD1,R1.hide hD,.inl rfl,.nil,by rw [List.drop_zero];exact m1⟩,?_⟩
 rintro i n' ys H2 ⟨hn,hle,hys,hH2,μ2,acc,h2,e2,R2,hid2,ra,m2⟩ _;by_cases hlt:i<src.ws.length
 ·rw [Ut hlt] at m2;obtain ⟨ck,m2⟩:=Src.go_ok m2;obtain ⟨hgo,hy⟩:=(ok e2 R2 ck).1 src.ws[i] (HD hlt);refine .inr ⟨hgo,by lia,fun x H3 y=>?_⟩;obtain ⟨μ3,e3,R3,rx⟩:=hy x H3 y;have e13:=e2.trans e3;cases eo:ow src.ws[i] with
  | none=>rw [eo] at m2;exact m2.elim
  | some us=>
   rw [eo] at m2;obtain ⟨vs,hov,hvl,rvs⟩:=oo rx eo;have S3:=(S.ext (e1.trans e13)).blk (ix:=ix) rvs;refine ⟨vs,hov,hvl,μ3,h2,_,_,R3,S3,m2,fun b H4 ⟨μ4,h4,e4,R4,m4⟩=>?_⟩;have e24:=e3.trans e4;obtain ⟨hid4,hH4⟩:=e24.o D _ hid2 hH2;cases b with
   | false=>
    dsimp only;rw [if_neg Lw];exact ⟨hH4,src.ws.length - (i+1),by lia,rfl,hlt,by lia,hH4,μ4,acc,h4,e2.trans e24,R4,hid4,e24.s ra,m4⟩
   | true=>
    dsimp only;rw [if_pos rfl];refine ⟨μ4,h4,_,_,R4,S3.ext e4,m4,fun v H5 ⟨μ5,w5,h5,e5,R5,r5,m5⟩=>?_⟩;have e25:=e24.trans e5;obtain ⟨hid5,hH5⟩:=e25.o D _ hid2 hH2;have g:=UJ.grow (ys:=ys++[v]) R5 hid5;have rs:aM K (FQ H5 D (.lst (ys++[v]))) μ5 (acc++[w5]) (ys++[v]):=aM.ex (Ex0.grow R5 hid5) (aM.append (e25.s ra) (aM.one r5));exact ⟨hH5,src.ws.length - (i+1),by lia,rfl,hlt,by rw [Jt];simp;lia,bF,μ5,acc++[w5],h5,(e2.trans e25).x nD g,R5.grow hid5,hid5,rs,m5⟩
 ·have ei:i=src.ws.length:=by lia
  subst ei;rw [List.drop_length] at m2;obtain ⟨ck,m2⟩:=Src.go_ok m2;exact .inl ⟨(ok e2 R2 ck).2 (Dg _),k _ _ ⟨μ2.unhide D,.lst acc,h2,e1.trans<|e2.x nD .unhide,R2.unhide,CK.built R2 hid2 hH2 ra,m2⟩⟩
variable {scope:Scope}{x:Str}{xs:List Str}{iter:Expr}{px:Pos}{mi:MI}{tt:MT}{te:ME}
theorem vG (B:jc X scope [x] ix)(C:Addr)(s:AP)(H:Hp)(fp:List Addr):PG (blk X scope (iI X [x] ix) C s H fp) (.Name x px) (QS 1 ov1):=by
 obtain ⟨o1,o2⟩:=Fl B (y:=x) (by simp);intro ajd s' Z H' v u Q I r ⟨vs,hv,hl,q⟩;cases hv;refine uf (X:=blk X scope (iI X [x] ix) C s H fp) (i:=0) B.nd rfl o1 o2 ajd s' Z H' v u Q I r ?_;have aje:Z.length=(iI X [x] ix).length:=I.len;cases Z with
 | nil=>simp at aje
 | cons o Z=>exact q
theorem U3 {py pt:Pos}{kt:Nat}(hc:X.calm=true)(B:jc X scope [x,y] ix)(C:Addr)(s:AP)(H:Hp)(fp:List Addr)
  (h1:∀ env,(Li [.Name x px,.Name y py] env).map (·.2)=assign (.Name x px) env::(Li [.Name y py] env).map (·.2):=by intro _;rfl)
  (h2:∀ env,(Li [.Name y py] env).map (·.2)=assign (.Name y py) env::(Li [] env).map (·.2):=by intro _;rfl)
  (h3:∀ env,(Li [.Name x px,.Name y py] env).length=2:=by intro _;rfl) (h4:∀ env,(Li [.Name x px,.Name y py] env).findIdx? (·.1)=FX:=by intro _;rfl) :
  PG (blk X scope (iI X [x,y] ix) C s H fp) (.Tuple [.Name x px,.Name y py] kt pt) (QS 2 (ovT X.K)):=by
 obtain ⟨o1,u1⟩:=Fl B (y:=x) (by simp);obtain ⟨o2,u2⟩:=Fl B (y:=y) (by simp);intro ajd s' Z H' v u Q I r ⟨vs,⟨a,ea,ha⟩,hl,q⟩;have aje:Z.length=(iI X [x,y] ix).length:=I.len;refine YT (X:=blk X scope (iI X [x,y] ix) C s H fp) (n:=2) hc (uH (uf (i:=0) B.nd rfl o1 u1) (uH (uf (i:=1) B.nd rfl o2 u2) Jf<|h2 _)<|h1 _) (h3 _) (h4 _) ajd s' Z H' v u Q I r ?_;refine ⟨a,vs,ea,ha,hl,?_⟩;match vs,hl,q with
 | [v1,v2],_,q=>
  match Z,aje,q with
  | [],aje,_=>simp at aje
  | [_],aje,_=>simp at aje
  | _::_::Z,_,q=>exact ⟨v1,[v2],rfl,v2,[],rfl,rfl,q⟩
theorem aam {ow:W->Option (List W)}(ix:List Nat)(hc:X.calm=true)(B:jc X scope xs ix)(oo:Gx X.K xs.length own ow)(hg:∀ C s H fp,PG (blk X scope (iI X xs ix) C s H fp) tg (QS xs.length own))(hi:RM X tg iter mi)
  (ht:∀ C s H fp,Vf (blk X scope (iI X xs ix) C s H fp) ifs tt) (he:∀ C s H fp,DE (blk X scope (iI X xs ix) C s H fp) elt te)
  (hs:∀ v,Tj iter X.env v=pure v:=by intro _;rfl):DE X (.ListComp elt [⟨tg,iter,ifs,0⟩] scope pos) (Hi ow ix mi tt te):=(abv ix hc B hg hi ht he hs).of fun _ _ _ q=>Vm oo q
theorem yt {ow:W->Option (List W)}(ix:List Nat){i:Nat}{py spos:Pos}(hN:X.N.Nodup)(hi':X.N[i]?=FN y)(hy:Loc X.env.scope y)(hc:X.calm=true)(B:jc X scope xs ix)(oo:Gx X.K xs.length own ow)
  (hg:∀ C s H fp,PG (blk X scope (iI X xs ix) C s H fp) tg (QS xs.length own)) (hi:RM X tg iter mi)
  (ht:∀ C s H fp,Vf (blk X scope (iI X xs ix) C s H fp) ifs tt) (he:∀ C s H fp,DE (blk X scope (iI X xs ix) C s H fp) elt te)
  (hsw:swapsWith (.ListComp elt [⟨tg,iter,ifs,0⟩] scope pos) (FN (.Name y py)) spos.line X.env=pure true:=by rfl)
  (hf:X.fn y=true\/X.env.scope.names.lookup y=FN .local:=by first | exact .inl rfl | exact .inr rfl | assumption)
  (hs:∀ v,Tj iter X.env v=pure v:=by intro _;rfl):DS X (.Assign [.Name y py] (.ListComp elt [⟨tg,iter,ifs,0⟩] scope pos) spos) (bY (Hi ow ix mi tt te) (kI i)):=
 (abq ix hN hi' hy hc B hg hi ht he hsw hf hs).of fun _ _ _ q=>O7 (fun _ _ _ z=>Vm oo z) q
theorem ZR {κ : Type}{K:CT}{H0 H:Hp}{μ0 μ : Mu}{k:Nat}(hd:∀ n p,μ0.f n=FN p->n<k):∀ {fs:List (κ×W)} {f0 fv:List (κ×V)},nW K H0 μ0 fs f0->nW K H μ fs fv->nW K H (μ.cut k) fs fv
 | [],_,_,_,.nil=>.nil
 | _::_,_,_,.cons a b,.cons c d=>.cons ⟨c.1,CK.cut c.2 (CK.lo hd a.2)⟩ (ZR hd b d)
def j6 (pure:Bool)(h:Gh)(w:W)(h':Gh)(Q:WK):Prop:=match pure with
 | false=>Q w h'
 | true=>(∀ n c,n<h.nx->h.c n=FN c->h'.c n=FN c)/\((Lo h.nx w/\Q w h)\/∃ n ws,w=.loc n/\h.nx<=n/\h'.c n=FN (.lst ws)/\K9 h.nx ws/\Q (.lst ws) h)
def Gi (n N:Nat)(pure:Bool)(body:Dm->MS):CP:=fun ws h Q E=>Jr (M4 ws.length n)
 (body E { nx:=fun _ h'=>j6 pure h .non h' Q,rt:=fun w h'=>j6 pure h w h' Q } (ws.map FN++Ja (N - ws.length) FX) h) False
theorem Pg {n N:Nat}{pure:Bool}{body:Dm->MS}{h:Gh}{Q:WK}{E:Dm}(x:Gi n N pure body ws h Q E):ws.length=n /\
  body E { nx:=fun _ h'=>j6 pure h .non h' Q,rt:=fun w h'=>j6 pure h w h' Q } (ws.map FN++Ja (N - ws.length) FX) h:=by
 unfold Gi at x;cases e:M4 ws.length n with
 | true=>rw [e] at x;exact ⟨Wj e,x⟩
 | false=>rw [e] at x;exact (show False from x).elim
theorem Ej.cut {K:CT}{H H':Hp}{μ μ':Mu}{h h':Gh}(R:Ej K μ H h)(R':Ej K μ' H' h')(e:Ik K H μ H' μ')(hc:∀ n c,h.c n=FN c->h'.c n=FN c):Ej K (μ'.cut h.nx) H' h where
 inj:=fun m n p a b=>R'.inj m n p (Mu.cut_some a).2 (Mu.cut_some b).2
 dom:=fun n p a=>(Mu.cut_some a).1
 trk:=fun n p a=>R'.trk n p (Mu.cut_some a).2
 cel:=fun n c a=>by
  obtain ⟨p0,m0,x0⟩:=R.cel n c a;obtain ⟨p,m,x⟩:=R'.cel n c (hc n c a);have hn:=R.dom n p0 m0;refine ⟨p,by show (if n<h.nx then μ'.f n else FX)=FN p;rw [if_pos hn];exact m,?_⟩;cases c with
  | lst ws=>
   obtain ⟨xs0,_,r0⟩:=x0;obtain ⟨xs,hx,r⟩:=x;exact ⟨xs,hx,aM.cut r<|aM.lo R.dom r0⟩
  | obj C fs=>
   obtain ⟨dx0,f0,_,r0⟩:=x0;obtain ⟨dx,fv,hx,r⟩:=x;exact ⟨dx,fv,hx,ZR R.dom r0 r⟩
  | dct kvs=>
   obtain ⟨f0,_,r0⟩:=x0;obtain ⟨fv,hx,r⟩:=x;exact ⟨fv,hx,ZR R.dom r0 r⟩
  | dtt kvs=>
   obtain ⟨_,_,_,_,_,d0,f0⟩:=x0;obtain ⟨xs,vs,a,b,c,d,f⟩:=x;exact ⟨xs,vs,a,b,c,aM.cut d<|aM.lo R.dom d0,aM.cut f<|aM.lo R.dom f0⟩
 hd:=fun p z=>⟨(R'.hd p z).1,fun n a=>(R'.hd p z).2 n (Mu.cut_some a).2⟩
theorem Ik.cut {K:CT}{H H':Hp}{μ μ':Mu}{h:Gh}(R:Ej K μ H h)(e:Ik K H μ H' μ'):Ik K H μ H' (μ'.cut h.nx):=
 ⟨fun w v r=>CK.cut (e.r w v r) (CK.lo R.dom r),fun p u z a=>e.o p u z a⟩
theorem FT {K:CT}{H H':Hp}{h h':Gh}{w:W}{v:V}{Q:WK}{pure:Bool}(R:Ej K μ H h)(e:Ik K H μ H' μ')(R':Ej K μ' H' h')(r:CK K H' μ' w v)(x:j6 pure h w h' Q):DQ K H μ Q v H':=by
 cases pure with
 | false=>exact ⟨μ',w,h',e,R',r,x⟩
 | true=>
  obtain ⟨hc0,⟨lo,q⟩ | ⟨n,ws,ew,hn,ec,lo,q⟩⟩:=x;all_goals have hc:∀ n c,h.c n=FN c->h'.c n=FN c:=fun n c a=>hc0 n c (let ⟨p,m,_⟩:=R.cel n c a;R.dom n p m) a
  ·exact ⟨μ'.cut h.nx,w,h,e.cut R,R.cut R' e hc,CK.cut r lo,q⟩
  ·subst ew;refine ⟨μ'.cut h.nx,.lst ws,h,e.cut R,R.cut R' e hc,?_,q⟩;rw [CK] at r;rw [CK];obtain ⟨p,ev,hm⟩:=r;obtain ⟨p',xs,hm',hx,rs⟩:=R'.lstAt ec;have ep:p'=p:=by rw [hm] at hm';exact (Gz hm').symm
   subst ep;refine ⟨p',xs,ev,⟨hx,fun m a=>?_,fun z=>(R'.hd p' z).2 n hm⟩,aM.cut rs lo⟩;obtain ⟨a1,a2⟩:=Mu.cut_some a;have:=R'.inj m n p' a2 hm
   lia
theorem zm {K:CT}{H:Hp}{N:List Str}:∀ {ws:List W} {vs:List V},aM K H μ ws vs->Slots K H μ (ws.map FN++Ja (N.length - ws.length) FX) (start N vs):=by
 intro ws vs r;have hl:=r.len;refine ⟨by simp [start,hl],fun i w q=>?_⟩;by_cases hi:i<ws.length
 ·rw [QC (by simpa using hi),GP] at q;have q':ws[i]?=FN w:=by
   cases e:ws[i]? with
   | none=>rw [e] at q;cases q
   | some a=>rw [e] at q;simpa using q
  obtain ⟨v,hv,rv⟩:=r.get q';refine ⟨v,?_,rv⟩;unfold start;rw [QC (by rw [DX];lia),GP,hv];rfl
 ·rw [QD (by simpa using hi),XJ] at q;split at q <;> cases q
theorem ab3 {P:Ei}{w:Dq}{K:CT}{mg:Str->Option Mk}{base:Heap}{x qual:Str}{st:Stmt}{f:Addr}{fd:Mi}{N ps:List Str}{k:Nat}{pure:Bool}{body:Dm->MS}(F:TQ K x qual st f fd)(S:mV N ps (bT st))
  (hb:∀ (cdv:Mk) (A:FZ) (outer:List Env) (s:AP) (H:Hp) (E:XK),o7 k (A.deeper (envOfC qual (bT st) s.heap.objs.size f cdv)) ->
   S8 (Mq NT P w K mg base N qual (bT st) f cdv A outer s H E).nox (iG st) (body EF)):rK P w K mg base NT (k+1) f fd ps (lift K (Gi ps.length N.length pure body)):=by
 refine F.ok S (fun vs H Q E ⟨μ,h,ws,Qw,R,r,m,k⟩=>by rw [<-r.len];exact (Pg m).1)<|fun cdv A outer s H vs Q E hr ⟨μ,h,ws,Qw,R,r,m0,k⟩=>?_
 obtain ⟨hl,m⟩:=Pg m0;refine ⟨_,hb cdv A outer s H E hr,μ,h,_,_,R,zm r,m,?_,?_,?_,?_⟩
 ·rintro Z' H' ⟨μ1,Zw1,h1,e1,R1,S1,m1⟩;exact k _ _<|FT (w:=.non) R e1 R1 (by rw [CK]) m1
 ·rintro v H' ⟨μ1,w1,h1,e1,R1,r1,m1⟩;exact k _ _<|FT R e1 R1 r1 m1
 ·rintro Z' H' ⟨μ1,Zw1,h1,e1,R1,S1,m1⟩;exact m1.elim
 ·rintro Z' H' ⟨μ1,Zw1,h1,e1,R1,S1,m1⟩;exact m1.elim
end
variable {te : ME}{mi : MI}{tt : MT}{kt : Nat}
section
variable {X:Cx}{K:CT}
theorem DQ.int {H:Hp}{μ : Mu}{h:Gh}{i:Int}{Q:WK}(R:Ej K μ H h)(q:Q (.int i) h):DQ K H μ Q (.int i) H:=⟨μ,.int i,h,.refl,R,by rw [CK],q⟩
theorem DQ.bl {H:Hp}{μ : Mu}{h:Gh}{i:Bool}{Q:WK}(R:Ej K μ H h)(q:Q (.bl i) h):DQ K H μ Q (.bl i) H:=⟨μ,.bl i,h,.refl,R,by rw [CK],q⟩
def zac (C:Int->Int->Prop)(g:Int->Int->Int):M2:=fun x y h Q=>match x,y with
 | .int i,.int j=>C i j/\Q (.int (g i j)) h
 | _,_=>False
def xW:M2:=fun x y h Q=>match x,y with
 | .int i,.int j=>Q (.int (i - j)) h
 | _,_=>False
theorem qZ:Lf X (Lj .Sub) xW:=⟨_,ahE,by
 intro H μ h x y wx wy Qw Q R rx ry m k;unfold xW at m;split at m
 ·rw [CK] at rx ry;exact ⟨_,_,rx,ry,k _ _<|.int R m⟩
 ·exact m.elim⟩
def oh:M2:=fun x y h Q=>match x,y with
 | .int i,.int j=>qM i j/\Q (.int (i*j)) h
 | _,_=>False
theorem fQ:Lf X (Lj .Mult) oh:=⟨_,Jm,by
 intro H μ h x y wx wy Qw Q R rx ry m k;unfold oh at m;split at m
 ·rw [CK] at rx ry;exact ⟨_,_,rx,ry,m.1,k _ _<|.int R m.2⟩
 ·exact m.elim⟩
def Kv:M2:=fun x y h Q=>match x,y with
 | .int i,.int j=>Iu i j/\Q (.int (i.fdiv j)) h
 | _,_=>False
theorem Ef:Lf X (Lj .FloorDiv) Kv:=⟨_,adN,by
 intro H μ h x y wx wy Qw Q R rx ry m k;unfold Kv at m;split at m
 ·rw [CK] at rx ry;exact ⟨_,_,rx,ry,m.1,k _ _<|.int R m.2⟩
 ·exact m.elim⟩
def Hf:M2:=fun x y h Q=>match x,y with
 | .int i,.int j=>j≠0/\Q (.int (i.fmod j)) h
 | _,_=>False
theorem wk:Lf X (Lj .Mod) Hf:=⟨_,aho,by
 intro H μ h x y wx wy Qw Q R rx ry m k;unfold Hf at m;split at m
 ·rw [CK] at rx ry;exact ⟨_,_,rx,ry,m.1,k _ _<|.int R m.2⟩
 ·exact m.elim⟩
def W8:M2:=fun x y h Q=>match x,y with
 | .int i,.int j=>Zx i j/\Q (.int (i^j.toNat)) h
 | _,_=>False
theorem VD:Lf X (Lj .Pow) W8:=⟨_,afc,by
 intro H μ h x y wx wy Qw Q R rx ry m k;unfold W8 at m;split at m
 ·rw [CK] at rx ry;exact ⟨_,_,rx,ry,m.1,k _ _<|.int R m.2⟩
 ·exact m.elim⟩
def kLt:M2:=fun x y h Q=>match x,y with
 | .int i,.int j=>Q (.bl (decide (i<j))) h
 | _,_=>False
theorem Zj:Lf X (Ku .Lt) kLt:=⟨_,Z5,by
 intro H μ h x y wx wy Qw Q R rx ry m k;unfold kLt at m;split at m
 ·rw [CK] at rx ry;exact ⟨_,_,rx,ry,k _ _<|.bl R m⟩
 ·exact m.elim⟩
def Nz:M2:=fun x y h Q=>match x,y with
 | .int i,.int j=>Q (.bl (decide (j<i))) h
 | _,_=>False
theorem J6:Lf X (Ku .Gt) Nz:=⟨_,aa5,by
 intro H μ h x y wx wy Qw Q R rx ry m k;unfold Nz at m;split at m
 ·rw [CK] at rx ry;exact ⟨_,_,rx,ry,k _ _<|.bl R m⟩
 ·exact m.elim⟩
def kGe:M2:=fun x y h Q=>match x,y with
 | .int i,.int j=>Q (.bl (decide (j<=i))) h
 | _,_=>False
theorem acB:Lf X (Ku .GtE) kGe:=⟨_,aaz,by
 intro H μ h x y wx wy Qw Q R rx ry m k;unfold kGe at m;split at m
 ·rw [CK] at rx ry;exact ⟨_,_,rx,ry,k _ _<|.bl R m⟩
 ·exact m.elim⟩
theorem aM.ne_nil {H:Hp}{xs:List V}(r:aM K H μ ws xs):xs=[]↔ws=[]:=by
 have:=r.len
 constructor
 ·intro e;subst e;exact Qo this
 ·intro e;subst e;exact Qo this.symm
def Cw:M2:=fun x y h Q=>match y with
 | .int i=>(match view h x with
  | some ws=>(match Lz ws i with
   | some w=>Q w h
   | none=>False)
  | none=>False)
 | _=>False
theorem aM.at {H:Hp}{μ : Mu}{ws:List W}{xs:List V}{i:Int}{w:W}(r:aM K H μ ws xs)(e:Lz ws i=FN w):∃ v,Lz xs i=FN v/\CK K H μ w v:=by
 unfold Lz at e |-
 rw [<-r.len];cases q:QM ws.length i with
 | none=>rw [q] at e;cases e
 | some j=>rw [q] at e;exact r.get e
theorem cR {H:Hp}{h:Gh}{w:W}{v:V}(R:Ej K μ H h)(r:CK K H μ w v)(e:dM h w=FN ws):∃ p xs,v=.ref p/\Jy K H p xs/\aM K H μ ws xs:=by
 cases w with
 | lst us=>
  rw [CK] at r;obtain ⟨p,xs,ev,hs,rs⟩:=r;cases (show FN us=FN ws from e)
  exact ⟨p,xs,ev,hs.sq,rs⟩
 | kls us=>
  rw [CK] at r;obtain ⟨p,xs,ev,hs,rs⟩:=r;cases (show FN us=FN ws from e)
  exact ⟨p,xs,ev,hs.sq,rs⟩
 | loc n=>
  rw [CK] at r;obtain ⟨p,ev,hm⟩:=r;unfold dM at e;dsimp only at e;cases ec:h.c n with
  | none=>rw [ec] at e;cases e
  | some cl=>
   rw [ec] at e;cases cl with
   | lst us=>
    cases (show FN us=FN ws from e)
    obtain ⟨p',xs,hm',hx,rs⟩:=R.lstAt ec;have ep:p'=p:=by rw [hm] at hm';exact (Gz hm').symm
    subst ep;exact ⟨p',xs,ev,.of hx,rs⟩
   | _=>cases e
 | _=>cases e
theorem xV {H:Hp}{h:Gh}{w:W}{v:V}(R:Ej K μ H h)(r:CK K H μ w v)(e:view h w=FN ws):∃ p xs,v=.ref p/\(Jy K H p xs\/HJ K H p xs)/\aM K H μ ws xs:=by
 cases w with
 | tup us=>
  rw [CK] at r;obtain ⟨p,xs,ev,hs,rs⟩:=r;cases (show FN us=FN ws from e)
  exact ⟨p,xs,ev,.inr hs,rs⟩
 | lst us=>
  obtain ⟨p,xs,ev,hs,rs⟩:=cR (ws:=ws) R r e;exact ⟨p,xs,ev,.inl hs,rs⟩
 | kls us=>
  obtain ⟨p,xs,ev,hs,rs⟩:=cR (ws:=ws) R r e;exact ⟨p,xs,ev,.inl hs,rs⟩
 | loc n=>
  obtain ⟨p,xs,ev,hs,rs⟩:=cR (ws:=ws) R r e;exact ⟨p,xs,ev,.inl hs,rs⟩
 | _=>cases e
theorem Yq:abD K (rIx K) Cw:=by
 intro H μ h x y wx wy Qw Q R rx ry m k;unfold Cw at m;split at m
 ·rename_i i;split at m
  ·rename_i ws ev;split at m
   ·rename_i w ew;obtain ⟨p,xs,ex,hs,rs⟩:=xV R rx ev;obtain ⟨v,hv,rv⟩:=rs.at ew;rw [CK] at ry;have fin:=k _ _ ⟨μ,w,h,.refl,R,rv,m⟩;rcases hs with hs | hs
    ·exact .inl ⟨p,xs,i,v,ex,ry,hs,hv,fin⟩
    ·exact .inr<|.inl ⟨p,xs,i,v,ex,ry,hs,hv,fin⟩
   ·exact m.elim
  ·exact m.elim
 ·exact m.elim
theorem acs {a b:Expr}{pos:Pos}(ha:DE X a ma)(hb:DE X b mb)(hs:yh b):DE X (.Subscript a b pos) (CG Cw ma mb):=(Zy agr ha hb hs).of fun Z H Q h=>two h fun R r1 r2 m k=>Yq R r1 r2 m k
abbrev MO:=Sw->Gh->(Option Int->Gh->Prop)->Prop
def tDO (K:CT)(m:MO):TO:=fun Z H Q=>∃ μ h Zw Qw,Ej K μ H h/\Slots K H μ Zw Z/\m Zw h Qw/\∀ o H',(∃ μ' h',Ik K H μ H' μ'/\Ej K μ' H' h'/\Qw o h')->Q o H'
abbrev DO (X:Cx)(e:Option Expr)(m:MO):Prop:=PO X e (tDO X.K m)
theorem PO.of {e:Option Expr}{t t':TO}(h:PO X e t)(k:∀ Z H Q,t' Z H Q->t Z H Q):PO X e t':=by
 unfold PO at h |-
 intros
 apply h <;> first | assumption | (apply k;assumption)
def p8:MO:=fun _ h Q=>Q FX h
def Fb (m:ME):MO:=fun Z h Q=>m Z h fun w h1=>match w with
 | .int i=>Q (FN i) h1
 | _=>False
theorem yd:DO X FX p8:=PO.of zbK fun Z H Q ⟨μ,h,Zw,Qw,R,S,m,k⟩=>k _ _ ⟨μ,h,.refl,R,m⟩
theorem zA {e:Expr}(he:DE X e ma):DO X (FN e) (Fb ma):=PO.of (agi he) fun Z H Q ⟨μ,h,Zw,Qw,R,S,m,k⟩=>by
 refine ⟨μ,h,Zw,_,R,S,m,fun v H1 ⟨μ1,w,h1,e1,R1,r1,m1⟩=>?_⟩;split at m1
 ·rw [CK] at r1;exact ⟨_,r1,k _ _ ⟨μ1,h1,e1,R1,m1⟩⟩
 ·exact m1.elim
def Bh (xs:List W)(lo hi:Option Int):List W:=(xs.drop (HT.sIx xs.length 0 lo)).take (HT.sIx xs.length xs.length hi - HT.sIx xs.length 0 lo)
def mSl (r:W->Option Int->Option Int->Gh->WK->Prop)(m:ME)(l u:MO):ME:=fun Z h Q=>m Z h fun x h1=>l Z h1 fun lo h2=>u Z h2 fun hi h3=>r x lo hi h3 Q
theorem aM.cutv {H:Hp}{xs:List V}(r:aM K H μ ws xs)(lo hi:Option Int):aM K H μ (Bh ws lo hi) (K3 xs lo hi):=by
 unfold Bh K3;rw [<-r.len];exact (r.drop _).take _
end
mutual
def Fy:W->W->Bool
 | .non,.non=>true
 | .bl a,.bl b=>a==b
 | .bl a,.int b=>(if a then 1 else 0)==b
 | .int a,.bl b=>a==(if b then 1 else 0)
 | .int a,.int b=>a==b
 | .str a,.str b=>a==b
 | .tup a,.tup b=>nH a b
 | .lst a,.lst b=>nH a b
 | _,_=>false
def nH:List W->List W->Bool
 | [],[]=>true
 | a::as,b::bs=>Fy a b&&nH as bs
 | _,_=>false
end
def Eh:Nat->W->Bool
 | _,.non=>true
 | _,.bl _=>true
 | _,.int _=>true
 | _,.str _=>true
 | n+1,.tup ws=>ws.all (Eh n)
 | n+1,.lst ws=>ws.all (Eh n)
 | _,_=>false
mutual
def Dt (K:CT)(H:Hp):W->V->Prop
 | .non,v=>v=.non
 | .bl b,v=>v=.bl b
 | .int i,v=>v=.int i
 | .str x,v=>v=.str x
 | .tup ws,v=>∃ p xs,v=.ref p/\HJ K H p xs/\Iz K H ws xs
 | .lst ws,v=>∃ p xs,v=.ref p/\Jy K H p xs/\Iz K H ws xs
 | .ty _,_=>False
 | .kls _,_=>False
 | .loc _,_=>False
 | .exc _,_=>False
 | .exa _ _,_=>False
 | .fnv _ _,_=>False
def Iz (K:CT)(H:Hp):List W->List V->Prop
 | [],xs=>xs=[]
 | w::ws,xs=>∃ v vs,xs=v::vs/\Dt K H w v/\Iz K H ws vs
end
section
variable {X:Cx}{K:CT}{H:Hp}{h:Gh}
theorem Iz.len:∀ {ws:List W} {xs:List V},Iz K H ws xs->ws.length=xs.length
 | [],xs,h=>by
  have e:xs=[]:=by rw [Iz] at h;exact h
  rw [e];rfl
 | w::ws,xs,h=>by
  rw [Iz] at h;obtain ⟨v,vs,e,_,h⟩:=h;rw [e,K7,K7,Iz.len h]
theorem Iz.get:∀ {ws:List W} {xs:List V} {i:Nat} {w:W},Iz K H ws xs->ws[i]?=FN w->∃ v,xs[i]?=FN v/\Dt K H w v
 | [],_,_,_,_,e=>by simp at e
 | a::ws,xs,0,w,h,e=>by
  rw [Iz] at h;obtain ⟨v,vs,e1,r,_⟩:=h;simp at e;subst e;subst e1;exact ⟨v,rfl,r⟩
 | a::ws,xs,i+1,w,h,e=>by
  rw [Iz] at h;obtain ⟨v,vs,e1,_,h⟩:=h;subst e1;obtain ⟨u,h1,h2⟩:=Iz.get (i:=i) (w:=w) h (by simpa using e);exact ⟨u,by simpa using h1,h2⟩
theorem xG {n:Nat}(one:∀ {w:W} {v:V},CK K H μ w v->Eh n w=true->Dt K H w v):∀ {ws:List W} {xs:List V},aM K H μ ws xs->ws.all (Eh n)=true->Iz K H ws xs
 | [],_,h,_=>by rw [aM] at h;rw [Iz];exact h
 | w::ws,_,h,p=>by
  rw [aM] at h;rw [Iz];obtain ⟨v,vs,e,r,h⟩:=h;rw [Sh,Nk] at p;exact ⟨v,vs,e,one r p.1,xG one h p.2⟩
theorem KY:∀ (n:Nat) {w:W} {v:V},CK K H μ w v->Eh n w=true->Dt K H w v:=by
 intro n;induction n with
 | zero=>
  intro w v r p;cases w with
  | non=>rw [CK] at r;rw [Dt];exact r
  | bl _=>rw [CK] at r;rw [Dt];exact r
  | int _=>rw [CK] at r;rw [Dt];exact r
  | str _=>rw [CK] at r;rw [Dt];exact r
  | _=>simp [Eh] at p
 | succ n ih=>
  intro w v r p;cases w with
  | non=>rw [CK] at r;rw [Dt];exact r
  | bl _=>rw [CK] at r;rw [Dt];exact r
  | int _=>rw [CK] at r;rw [Dt];exact r
  | str _=>rw [CK] at r;rw [Dt];exact r
  | tup ws=>
   rw [CK] at r;rw [Dt];obtain ⟨p',xs,e,hs,rs⟩:=r;exact ⟨p',xs,e,hs,xG ih rs<|by simpa [Eh] using p⟩
  | lst ws=>
   rw [CK] at r;rw [Dt];obtain ⟨p',xs,e,hs,rs⟩:=r;exact ⟨p',xs,e,hs.sq,xG ih rs<|by simpa [Eh] using p⟩
  | _=>simp [Eh] at p
theorem vd:∀ {a b:List W},a.length≠b.length->nH a b=false
 | [],[],h=>absurd rfl h
 | [],_::_,_=>by simp [nH]
 | _::_,[],_=>by simp [nH]
 | a::as,b::bs,h=>by
  rw [nH,vd (a:=as) (b:=bs) (by simpa using h),Bool.and_false]
def X6 (a b:List W)(j:Nat):Bool:=Fy (a.getD j .non) (b.getD j .non)
theorem vp:∀ {a b:List W},a.length=b.length->(Ma a.length).all (X6 a b)=nH a b
 | [],[],_=>by simp [nH]
 | [],_::_,h=>by simp at h
 | _::_,[],h=>by simp at h
 | a::as,b::bs,h=>by
  rw [nH,<-vp (a:=as) (b:=bs) (by simpa using h),K7,List.range_succ_eq_map,Sh,List.all_map];rfl
mutual
theorem Av {ajd:List (Addr×Obj)}{s:AP}{Z : St}(I:CQ X ajd Z H s):∀ {w u:W} {v:V},Dt X.K H w v->Dt X.K H u v->Fy w u=true
 | .non,u,v,h,g=>by rw [Dt] at h;subst h;cases u <;> rw [Dt] at g <;> first | rfl | exact g.elim | (obtain ⟨_,_,g,_⟩:=g;cases g;done) | (cases g;done)
 | .bl b,u,v,h,g=>by rw [Dt] at h;subst h;cases u <;> rw [Dt] at g <;> first | (injection g with g;simp [Fy,g];done) | exact g.elim | (obtain ⟨_,_,g,_⟩:=g;cases g;done) | (cases g;done)
 | .int b,u,v,h,g=>by rw [Dt] at h;subst h;cases u <;> rw [Dt] at g <;> first | (injection g with g;simp [Fy,g];done) | exact g.elim | (obtain ⟨_,_,g,_⟩:=g;cases g;done) | (cases g;done)
 | .str b,u,v,h,g=>by rw [Dt] at h;subst h;cases u <;> rw [Dt] at g <;> first | (injection g with g;simp [Fy,g];done) | exact g.elim | (obtain ⟨_,_,g,_⟩:=g;cases g;done) | (cases g;done)
 | .tup ws,u,v,h,g=>by
  rw [Dt] at h;obtain ⟨p,xs,e,hs,ds⟩:=h;subst e;cases u with
  | tup us=>
   rw [Dt] at g;obtain ⟨p',xs',e',hs',ds'⟩:=g;cases e'
   have:=I.tuple_inj hs hs'
   subst this;rw [Fy];exact rB I ds ds'
  | lst us=>
   rw [Dt] at g;obtain ⟨p',xs',e',hs',ds'⟩:=g;cases e'
   obtain ⟨_,_,t,_⟩:=I.tuple hs;obtain ⟨_,_,l,_⟩:=I.list hs';exact absurd rfl<|Wv l.isList<|show s.heap.IsTuple _ _ from t
  | ty _=>rw [Dt] at g;exact g.elim
  | loc _=>rw [Dt] at g;exact g.elim
  | kls _=>rw [Dt] at g;exact g.elim
  | _=>rw [Dt] at g;cases g
 | .lst ws,u,v,h,g=>by
  rw [Dt] at h;obtain ⟨p,xs,e,hs,ds⟩:=h;subst e;cases u with
  | lst us=>
   rw [Dt] at g;obtain ⟨p',xs',e',hs',ds'⟩:=g;cases e'
   have:=I.list_inj hs hs'
   subst this;rw [Fy];exact rB I ds ds'
  | tup us=>
   rw [Dt] at g;obtain ⟨p',xs',e',hs',ds'⟩:=g;cases e'
   obtain ⟨_,_,t,_⟩:=I.tuple hs';obtain ⟨_,_,l,_⟩:=I.list hs;exact absurd rfl<|Wv l.isList<|show s.heap.IsTuple _ _ from t
  | ty _=>rw [Dt] at g;exact g.elim
  | loc _=>rw [Dt] at g;exact g.elim
  | kls _=>rw [Dt] at g;exact g.elim
  | _=>rw [Dt] at g;cases g
 | .ty _,_,_,h,_=>by rw [Dt] at h;exact h.elim
 | .loc _,_,_,h,_=>by rw [Dt] at h;exact h.elim
 | .exc _,_,_,h,_=>by rw [Dt] at h;exact h.elim
 | .exa _ _,_,_,h,_=>by rw [Dt] at h;exact h.elim
 | .kls _,_,_,h,_=>by rw [Dt] at h;exact h.elim
theorem rB {ajd:List (Addr×Obj)}{s:AP}{Z : St}(I:CQ X ajd Z H s):∀ {ws us:List W} {vs:List V},Iz X.K H ws vs->Iz X.K H us vs->nH ws us=true
 | [],us,vs,h,g=>by
  rw [Iz] at h;subst h;cases us with
  | nil=>rfl
  | cons _ _=>rw [Iz] at g;obtain ⟨_,_,g,_⟩:=g;cases g
 | w::ws,us,vs,h,g=>by
  rw [Iz] at h;obtain ⟨v,vs',e,h1,h2⟩:=h;subst e;cases us with
  | nil=>rw [Iz] at g;cases g
  | cons u us=>
   rw [Iz] at g;obtain ⟨v',vs'',e',g1,g2⟩:=g;cases e'
   rw [nH,Av I h1 g1,rB I h2 g2];rfl
end
theorem in1_units {A:FZ}:A.in1.units=A.units+1:=rfl
theorem aeS {n:Nat}(h:Eh n (.tup ws)=true):∃ m,n=m+1/\ws.all (Eh m)=true:=by
 cases n with
 | zero=>simp [Eh] at h
 | succ m=>exact ⟨m,rfl,by simpa [Eh] using h⟩
theorem Jw {n:Nat}(h:Eh n (.lst ws)=true):∃ m,n=m+1/\ws.all (Eh m)=true:=by
 cases n with
 | zero=>simp [Eh] at h
 | succ m=>exact ⟨m,rfl,by simpa [Eh] using h⟩
theorem Bv {s:AP}{A:FZ}{n:Nat}{us:List W}{xs ys:List V}{its jts:List Mk}(d1:Iz K H ws xs)(d2:Iz K H us ys)(p1:ws.all (Eh n)=true)(p2:us.all (Eh n)=true)(r1:CR xs its)(r2:CR ys jts)
  (one:∀ {w u:W} {v x:V} {a b:Mk},Dt K H w v->Dt K H u x->Eh n w=true->Eh n u=true->RelV v a->RelV x b->T8 A s a b (Fy w u)) :
  ∀ j (h1:j<its.toArray.size) (h2:j<jts.toArray.size),T8 A s its.toArray[j] jts.toArray[j] (X6 ws us j):=by
 intro j h1 h2;have l1:j<ws.length:=by rw [d1.len,r1.length];simpa using h1
 have l2:j<us.length:=by rw [d2.len,r2.length];simpa using h2
 obtain ⟨v,ev,dv⟩:=d1.get (HD l1);obtain ⟨x,ex,dx⟩:=d2.get (HD l2);obtain ⟨a,ea,ra⟩:=r1.get ev;obtain ⟨b,eb,rb⟩:=r2.get ex;have ea':its.toArray[j]=a:=by simpa using (Lk.mp ea).2
 have eb':jts.toArray[j]=b:=by simpa using (Lk.mp eb).2
 have e:X6 ws us j=Fy ws[j] us[j]:=by
  unfold X6;rw [MF,MF,HD l1,HD l2];rfl
 rw [ea',eb',e];exact one dv dx (QG.mp p1 _<|Qm l1) (QG.mp p2 _<|Qm l2) ra rb
theorem size_of {xs:List V}{its:List Mk}(d:Iz K H ws xs)(r:CR xs its):its.toArray.size=ws.length:=by
 rw [d.len,r.length];simp
theorem ahQ {us:List W}:((Ma (min ws.length us.length)).all (X6 ws us)&&ws.length==us.length)=nH ws us:=by
 by_cases e:ws.length=us.length
 ·rw [<-e,Nat.min_self,vp e];simp
 ·rw [vd e];have e2:(ws.length==us.length)=false:=beq_eq_false_iff_ne.mpr e;rw [e2,Bool.and_false]
inductive Kd (s:AP):W->Mk->Prop where
 | non:Kd s .non .none
 | bl (b:Bool):Kd s (.bl b) (.bool b)
 | int (i:Int) (t:Tok):Kd s (.int i) (.int i t)
 | str (x:Str) (t:Tok):Kd s (.str x) (.str x t)
 | tup (ws:List W) {p:Addr} {its:Array Mk} (q:s.heap.IsTuple p its):Kd s (.tup ws) (.ref p)
 | lst (ws:List W) {p:Addr} {its:Array Mk} (q:s.heap.IsList p its):Kd s (.lst ws) (.ref p)
theorem xH {ajd:List (Addr×Obj)}{s:AP}{Z : St}(I:CQ X ajd Z H s){w:W}{v:V}{a:Mk}(d:Dt X.K H w v)(r:RelV v a):Kd s w a:=by
 cases w with
 | non=>rw [Dt] at d;subst d;cases r;exact .non
 | bl b=>rw [Dt] at d;subst d;cases r;exact .bl b
 | int b=>rw [Dt] at d;subst d;obtain ⟨t,rfl⟩:=r;exact .int b t
 | str b=>rw [Dt] at d;subst d;obtain ⟨t,rfl⟩:=r;exact .str b t
 | tup ws=>rw [Dt] at d;obtain ⟨p,xs,e,hs,_⟩:=d;subst e;cases r;obtain ⟨its,_,q,_⟩:=I.tuple hs;exact .tup ws q
 | lst ws=>rw [Dt] at d;obtain ⟨p,xs,e,hs,_⟩:=d;subst e;cases r;obtain ⟨its,_,q,_⟩:=I.list hs;exact .lst ws q.isList
 | _=>rw [Dt] at d;exact d.elim
def sq1:W->Bool
 | .tup _=>true
 | .lst _=>true
 | _=>false
def qG:W->W->Bool
 | .tup _,.tup _=>true
 | .lst _,.lst _=>true
 | _,_=>false
def Ze (w u:W):Bool:=!(sq1 w||sq1 u)
open SeqAt.EqAt in
theorem Ox {s:AP}{A:FZ}{w u:W}{a b:Mk}(hu:A.units<JQ)(k1:Kd s w a)(k2:Kd s u b)(h:qG w u=false)(f:Ze w u=false):T8 A s a b (Fy w u):=by
 cases k1 <;> cases k2 <;> try (first | (cases h;done) | (cases f;done))
 ·apply none_tuple <;> assumption
 ·apply none_list <;> assumption
 ·apply bool_tuple <;> assumption
 ·apply bool_list <;> assumption
 ·apply int_tuple <;> assumption
 ·apply int_list <;> assumption
 ·apply str_tuple <;> assumption
 ·apply str_list <;> assumption
 ·apply tuple_none <;> assumption
 ·apply tuple_bool <;> assumption
 ·apply tuple_int <;> assumption
 ·apply tuple_str <;> assumption
 ·apply tuple_list <;> assumption
 ·apply list_none <;> assumption
 ·apply list_bool <;> assumption
 ·apply list_int <;> assumption
 ·apply list_str <;> assumption
 ·apply list_tuple <;> assumption
open SeqAt.RcAt in
theorem XR {s:AP}{A:FZ}{w u:W}{a b:Mk}(hu:A.units<JQ)(k1:Kd s w a)(k2:Kd s u b)(h:qG w u=false):SeqAt.RcAt A s a b (Fy w u):=by
 cases k1 <;> cases k2 <;> try (first | (cases h;done))
 ·apply none_none <;> assumption
 ·apply none_bool <;> assumption
 ·apply none_int <;> assumption
 ·apply none_str <;> assumption
 ·apply none_tuple <;> assumption
 ·apply none_list <;> assumption
 ·apply bool_none <;> assumption
 ·apply bool_bool <;> assumption
 ·apply bool_int <;> assumption
 ·apply bool_str <;> assumption
 ·apply bool_tuple <;> assumption
 ·apply bool_list <;> assumption
 ·apply int_none <;> assumption
 ·apply int_bool <;> assumption
 ·apply int_int <;> assumption
 ·apply int_str <;> assumption
 ·apply int_tuple <;> assumption
 ·apply int_list <;> assumption
 ·apply str_none <;> assumption
 ·apply str_bool <;> assumption
 ·apply str_int <;> assumption
 ·apply str_str <;> assumption
 ·apply str_tuple <;> assumption
 ·apply str_list <;> assumption
 ·apply tuple_none <;> assumption
 ·apply tuple_bool <;> assumption
 ·apply tuple_int <;> assumption
 ·apply tuple_str <;> assumption
 ·apply tuple_list <;> assumption
 ·apply list_none <;> assumption
 ·apply list_bool <;> assumption
 ·apply list_int <;> assumption
 ·apply list_str <;> assumption
 ·apply list_tuple <;> assumption
open SeqAt.RcNeAt in
theorem ahK {s:AP}{A:FZ}{w u:W}{a b:Mk}(hu:A.units<JQ)(k1:Kd s w a)(k2:Kd s u b)(h:qG w u=false):SeqAt.RcNeAt A s a b (!Fy w u):=by
 cases k1 <;> cases k2 <;> try (first | (cases h;done))
 ·apply none_none <;> assumption
 ·apply none_bool <;> assumption
 ·apply none_int <;> assumption
 ·apply none_str <;> assumption
 ·apply none_tuple <;> assumption
 ·apply none_list <;> assumption
 ·apply bool_none <;> assumption
 ·apply bool_bool <;> assumption
 ·apply bool_int <;> assumption
 ·apply bool_str <;> assumption
 ·apply bool_tuple <;> assumption
 ·apply bool_list <;> assumption
 ·apply int_none <;> assumption
 ·apply int_bool <;> assumption
 ·apply int_int <;> assumption
 ·apply int_str <;> assumption
 ·apply int_tuple <;> assumption
 ·apply int_list <;> assumption
 ·apply str_none <;> assumption
 ·apply str_bool <;> assumption
 ·apply str_int <;> assumption
 ·apply str_str <;> assumption
 ·apply str_tuple <;> assumption
 ·apply str_list <;> assumption
 ·apply tuple_none <;> assumption
 ·apply tuple_bool <;> assumption
 ·apply tuple_int <;> assumption
 ·apply tuple_str <;> assumption
 ·apply tuple_list <;> assumption
 ·apply list_none <;> assumption
 ·apply list_bool <;> assumption
 ·apply list_int <;> assumption
 ·apply list_str <;> assumption
 ·apply list_tuple <;> assumption
theorem vO:∀ {w u:W},qG w u=true->(∃ ws us,w=.tup ws/\u=.tup us)\/∃ ws us,w=.lst ws/\u=.lst us
 | .tup ws,.tup us,_=>.inl ⟨ws,us,rfl,rfl⟩
 | .lst ws,.lst us,_=>.inr ⟨ws,us,rfl,rfl⟩
def wV:V->W
 | .bl b=>.bl b
 | .int b=>.int b
 | .str b=>.str b
 | _=>.non
theorem aaI {v x:V}(h:JN v=true)(g:JN x=true):Fy (wV v) (wV x)=eqV v x:=by
 cases v <;> first | (cases h;done) | (cases x <;> first | (cases g;done) | rfl)
theorem Py {w:W}{v:V}(d:Dt K H w v)(h:sq1 w=false):JN v=true/\w=wV v:=by
 cases w with
 | tup _=>cases h
 | lst _=>cases h
 | non=>rw [Dt] at d;subst d;exact ⟨rfl,rfl⟩
 | bl _=>rw [Dt] at d;subst d;exact ⟨rfl,rfl⟩
 | int _=>rw [Dt] at d;subst d;exact ⟨rfl,rfl⟩
 | str _=>rw [Dt] at d;subst d;exact ⟨rfl,rfl⟩
 | _=>rw [Dt] at d;exact d.elim
theorem Pk {s:AP}{A:FZ}{w u:W}{v x:V}{a b:Mk}(dw:Dt K H w v)(du:Dt K H u x)(hf:Ze w u=true)(ra:RelV v a)(rb:RelV x b):T8 A s a b (Fy w u):=by
 have hf:=Bool.or_eq_false_iff.mp (Eq.mp (Bool.not_eq_true' _) hf);have ⟨f1,e1⟩:=Py dw hf.1;have ⟨f2,e2⟩:=Py du hf.2;rw [e1,e2,aaI f1 f2];exact agO ra rb f1 f2
theorem Og {ajd:List (Addr×Obj)}{s:AP}{Z : St}(I:CQ X ajd Z H s){n:Nat}{A:FZ}{w u:W}{v x:V}{a b:Mk}(ih:∀ {w u:W} {v x:V} {a b:Mk},Dt X.K H w v->Dt X.K H u x->Eh n w=true->Eh n u=true->RelV v a->RelV x b->T8 A.in1 s a b (Fy w u))(hu:A.units<JQ)(h2:qG w u=true)(dw:Dt X.K H w v)(du:Dt X.K H u x)(pw:Eh (n+1) w=true)(pu:Eh (n+1) u=true)(ra:RelV v a)(rb:RelV x b):∃ p q,v=.ref p/\x=.ref q/\a=.ref p/\b=.ref q/\SeqAt.RcAt A s a b (Fy w u)/\SeqAt.RcNeAt A s a b (!Fy w u):=by
 rcases vO h2 with ⟨ws,us,rfl,rfl⟩ | ⟨ws,us,rfl,rfl⟩ <;> rw [Dt] at dw du <;> obtain ⟨p,xs1,rfl,hs1,ds1⟩:=dw <;> obtain ⟨q,xs2,rfl,hs2,ds2⟩:=du <;> cases ra <;> cases rb <;> refine ⟨p,q,rfl,rfl,rfl,rfl,?_⟩ <;> rw [Fy] <;> rw [Eh] at pw pu
 ·obtain ⟨its1,rv1,q1,_⟩:=I.tuple hs1;obtain ⟨its2,rv2,q2,_⟩:=I.tuple hs2;have it:=Bv ds1 ds2 pw pu rv1 rv2 ih;rw [<-ahQ,<-size_of ds1 rv1,<-size_of ds2 rv2];exact ⟨.tuples q1 q2 hu it,.tuples q1 q2 hu it⟩
 ·obtain ⟨its1,rv1,q1,_⟩:=I.list hs1;obtain ⟨its2,rv2,q2,_⟩:=I.list hs2;by_cases hl:ws.length=us.length
  ·have it:=Bv ds1 ds2 pw pu rv1 rv2 ih;have e:its1.toArray.size=its2.toArray.size:=by rw [size_of ds1 rv1,size_of ds2 rv2,hl]
   rw [<-vp hl,<-size_of ds1 rv1];exact ⟨.lists q1.isList q2.isList e hu it,.lists q1.isList q2.isList e hu it⟩
  ·rw [vd hl];have e:(its1.toArray.size != its2.toArray.size)=true:=by rw [size_of ds1 rv1,size_of ds2 rv2];exact bne_iff_ne.mpr hl
   exact ⟨.lists_lengths q1.isList q2.isList e hu,.lists_lengths q1.isList q2.isList e hu⟩
theorem Gv {w u:W}(h:qG w u=true):∀ {n:Nat},Eh n w=true->∃ m,n=m+1
 | 0,p=>by rcases vO h with ⟨_,_,rfl,_⟩ | ⟨_,_,rfl,_⟩ <;> cases p
 | m+1,_=>⟨m,rfl⟩
theorem Xd {ajd:List (Addr×Obj)}{s:AP}{Z : St}(I:CQ X ajd Z H s):∀ (n:Nat) {A:FZ} {w u:W} {v x:V} {a b:Mk},A.units+n<JQ->Dt X.K H w v->Dt X.K H u x->Eh n w=true->Eh n u=true->RelV v a->RelV x b->T8 A s a b (Fy w u):=by
 intro n;induction n with
 | zero=>
  intro A w u v x a b hu dw du pw pu ra rb;by_cases hf:Ze w u=true
  ·exact Pk dw du hf ra rb
  by_cases h2:qG w u=true
  ·obtain ⟨m,e⟩:=Gv h2 pw;cases e
  ·exact Ox hu (xH I dw ra) (xH I du rb) (Vk _ ▸ h2)<|Vk _ ▸ hf
 | succ n ih=>
  intro A w u v x a b hu dw du pw pu ra rb;by_cases hf:Ze w u=true
  ·exact Pk dw du hf ra rb
  by_cases h2:qG w u=true
  ·have hu':=QK (Ve _ _) hu;obtain ⟨p,q,rfl,rfl,rfl,rfl,z,_⟩:=Og I (ih (A:=A.in1) (by rw [in1_units,Nat.add_assoc,Ug 1];exact hu)) hu' h2 dw du pw pu ra rb;by_cases hp:p=q
   ·subst hp;rw [Av I dw du];exact SeqAt.EqAt.same _
   ·exact SeqAt.EqAt.of_refs hp z
  ·exact Ox (QK (Ve _ _) hu) (xH I dw ra) (xH I du rb) (Vk _ ▸ h2)<|Vk _ ▸ hf
theorem rcN {ajd:List (Addr×Obj)}{s:AP}{Z : St}(I:CQ X ajd Z H s){A:FZ}{w u:W}{v x:V}{a b:Mk}{p:Prop}(hu:A.units+(m+1)<JQ)(hu':A.units<JQ)(h2:qG w u=true)(dw:Dt X.K H w v)(du:Dt X.K H u x)(pw:Eh (m+1) w=true)(pu:Eh (m+1) u=true)(ra:RelV v a)(rb:RelV x b)(f:SeqAt.RcAt A s a b (Fy w u)/\SeqAt.RcNeAt A s a b (!Fy w u)->p):p:=by
 obtain ⟨_,_,_,_,_,_,z⟩:=Og I (Xd I m (A:=A.in1) (by rw [in1_units,Nat.add_assoc,Ug 1];exact hu)) hu' h2 dw du pw pu ra rb;exact f z
theorem aa3 {ajd:List (Addr×Obj)}{s:AP}{Z : St}(I:CQ X ajd Z H s)(n:Nat){A:FZ}{w u:W}{v x:V}{a b:Mk}(hu:A.units+n<JQ)(dw:Dt X.K H w v)(du:Dt X.K H u x)(pw:Eh n w=true)(pu:Eh n u=true)(ra:RelV v a)(rb:RelV x b):SeqAt.RcAt A s a b (Fy w u):=by
 have hu':=QK (Ve _ _) hu;by_cases h2:qG w u=true
 ·obtain ⟨m,rfl⟩:=Gv h2 pw;exact rcN I hu hu' h2 dw du pw pu ra rb (·.1)
 ·exact XR hu' (xH I dw ra) (xH I du rb)<|Vk _ ▸ h2
theorem agU {ajd:List (Addr×Obj)}{s:AP}{Z : St}(I:CQ X ajd Z H s)(n:Nat){A:FZ}{w u:W}{v x:V}{a b:Mk}(hu:A.units+n<JQ)(dw:Dt X.K H w v)(du:Dt X.K H u x)(pw:Eh n w=true)(pu:Eh n u=true)(ra:RelV v a)(rb:RelV x b):SeqAt.RcNeAt A s a b (!Fy w u):=by
 have hu':=QK (Ve _ _) hu;by_cases h2:qG w u=true
 ·obtain ⟨m,rfl⟩:=Gv h2 pw;exact rcN I hu hu' h2 dw du pw pu ra rb (·.2)
 ·exact ahK hu' (xH I dw ra) (xH I du rb)<|Vk _ ▸ h2
def JG (h:Gh):W->Option W
 | .loc n=>(match h.c n with
  | some (.lst ws)=>FN (.lst ws)
  | _=>FX)
 | w=>FN w
theorem nM {w d:W}{v:V}{n:Nat}(R:Ej K μ H h)(r:CK K H μ w v)(e:JG h w=FN d)(p:Eh n d=true):Dt K H d v:=by
 have other:JG h w=FN w->Dt K H d v:=fun z=>by
  rw [z] at e;cases e;exact KY n r p
 cases w with
 | loc m=>
  unfold JG at e;dsimp only at e;cases ec:h.c m with
  | none=>rw [ec] at e;cases e
  | some cl=>
   rw [ec] at e;cases cl with
   | lst us=>
    cases (show FN (W.lst us)=FN d from e)
    obtain ⟨p',xs,hm',hx,rs⟩:=R.lstAt ec;rw [CK] at r;obtain ⟨q,ev,hm⟩:=r;have ep:p'=q:=by rw [hm] at hm';exact (Gz hm').symm
    subst ep;obtain ⟨k,rfl,p⟩:=Jw p;rw [Dt];exact ⟨p',xs,ev,.of hx,xG (KY k) rs p⟩
   | _=>cases e
 | _=>exact other rfl
def ach (K:CT)(neg:Bool):R2:=fun x y H Q=>∃ w u,Dt K H w x/\Dt K H u y/\Eh 30 w=true/\Eh 30 u=true/\Q (.bl (if neg then !Fy w u else Fy w u)) H
theorem Yp (hu:X.A.units+30<JQ):K8 X (Ku .Eq) (ach X.K false):=by
 intro ajd s Z H x y v u Q I rx ry ⟨w,w',d1,d2,p1,p2,q⟩;exact aa3 I 30 hu d1 d2 p1 p2 rx ry X.prog X.w X.xe _<|Ba I q rfl
theorem Ov (hu:X.A.units+30<JQ):K8 X (Ku .NotEq) (ach X.K true):=by
 intro ajd s Z H x y v u Q I rx ry ⟨w,w',d1,d2,p1,p2,q⟩;exact agU I 30 hu d1 d2 p1 p2 rx ry X.prog X.w X.xe _<|Ba I q rfl
def Jd:M2:=fun x y h Q=>match JG h x,JG h y with
 | some a,FN b=>Jr (Eh 30 a&&Eh 30 b) (Q (.bl (Fy a b)) h) False
 | _,_=>False
def MN:M2:=fun x y h Q=>match JG h x,JG h y with
 | some a,FN b=>Jr (Eh 30 a&&Eh 30 b) (Q (.bl (!Fy a b)) h) False
 | _,_=>False
theorem mR (hu:X.A.units+30<JQ):Lf X (Ku .Eq) Jd:=⟨_,Yp hu,by
 intro H μ h x y wx wy Qw Q R rx ry m k;unfold Jd at m;split at m
 ·rename_i a b ea eb;cases hp:(Eh 30 a&&Eh 30 b) with
  | true=>
   rw [hp] at m;rw [Nk] at hp;exact ⟨a,b,nM R rx ea hp.1,nM R ry eb hp.2,hp.1,hp.2,k _ _<|.bl R m⟩
  | false=>rw [hp] at m;exact (show False from m).elim
 ·exact m.elim⟩
theorem Uv (hu:X.A.units+30<JQ):Lf X (Ku .NotEq) MN:=⟨_,Ov hu,by
 intro H μ h x y wx wy Qw Q R rx ry m k;unfold MN at m;split at m
 ·rename_i a b ea eb;cases hp:(Eh 30 a&&Eh 30 b) with
  | true=>
   rw [hp] at m;rw [Nk] at hp;exact ⟨a,b,nM R rx ea hp.1,nM R ry eb hp.2,hp.1,hp.2,k _ _<|.bl R m⟩
  | false=>rw [hp] at m;exact (show False from m).elim
 ·exact m.elim⟩
theorem acF {A:FZ}{k:Nat}(hr:o7 k A):A.units+30<JQ:=by have:=hr.units;lia
end
section
variable {X:Cx}{K:CT}
theorem jk {H:Hp}{w:W}{vs:List V}(r:aM K H μ [w] vs):∃ v,vs=[v]/\CK K H μ w v:=by
 rw [aM] at r;obtain ⟨v,vr,ev,ra,r⟩:=r;rw [aM] at r;subst r;exact ⟨v,ev,ra⟩
theorem Ea {H:Hp}{w u:W}{vs:List V}(r:aM K H μ [w,u] vs):∃ v x,vs=[v,x]/\CK K H μ w v/\CK K H μ u x:=by
 rw [aM] at r;obtain ⟨v,vr,ev,ra,r⟩:=r;obtain ⟨x,e,rb⟩:=jk r;subst e;exact ⟨v,x,ev,ra,rb⟩
theorem qM.of {i j:Int}{n:Nat}(hi:Sm m i)(hj:Sm n j)(hm:m<=1000000)(hn:n<=1000000):qM i j:=⟨m,n,hm,hn,hi,hj⟩
theorem Sm.lit {i:Int}(h:RW (i.natAbs+1) (2^64)=true):Sm 64 i:=by
 have:=Qj h
 unfold Sm;lia
def Gb:MC:=fun ws h Q=>match ws with
 | [w]=>(match view h w with
  | some xs=>Q (.int (xs.length:Int)) h
  | none=>False)
 | _=>False
theorem fu:fG X (.builtin "len") Gb:=⟨_,vJ,by
 intro H μ h vs ws Qw Q R r m k;unfold Gb at m;split at m
 ·split at m
  ·rename_i w _ xs ev;obtain ⟨v,e,rv⟩:=jk r;obtain ⟨p,ys,ex,hs,rs⟩:=xV R rv ev;subst e ex;exact ⟨p,ys,rfl,hs,by rw [<-rs.len];exact k _ _ (.int R m)⟩
  ·exact m.elim
 ·exact m.elim⟩
def yL:MC:=fun ws h Q=>match ws with
 | [.int i]=>Q (.int (if i<0 then -i else i)) h
 | _=>False
theorem rG:fG X (.builtin "abs") yL:=⟨_,aei,by
 intro H μ h vs ws Qw Q R r m k;unfold yL at m;split at m
 ·obtain ⟨v,e,rv⟩:=jk r;rw [CK] at rv;subst e rv;exact ⟨_,rfl,k _ _<|.int R m⟩
 ·exact m.elim⟩
def Vd:MC:=fun ws h Q=>match ws with
 | [.int i,.int j]=>Q (.int (if j>i then j else i)) h
 | _=>False
theorem Vv (hc:X.calm=true):fG X (.builtin "max") Vd:=⟨_,zaz hc,by
 intro H μ h vs ws Qw Q R r m k;unfold Vd at m;split at m
 ·obtain ⟨v,x,e,rv,rx⟩:=Ea r;rw [CK] at rv rx;subst e rv rx;exact ⟨_,_,rfl,k _ _<|.int R m⟩
 ·exact m.elim⟩
def J7:List W->Option (List Bool)
 | []=>FN []
 | .bl b::ws=>(J7 ws).map (b::·)
 | _=>FX
theorem Gj {H:Hp}{μ : Mu}:∀ {ws:List W} {xs:List V} {bs:List Bool},aM K H μ ws xs->J7 ws=FN bs->xs=bs.map V.bl
 | [],xs,bs,r,e=>by
  rw [aM] at r;cases (show FN []=FN bs from e)
  exact r
 | w::ws,xs,bs,r,e=>by
  rw [aM] at r;obtain ⟨v,vr,ev,ra,r⟩:=r;cases w with
  | bl b=>
   rw [CK] at ra;rw [J7] at e;cases q:J7 ws with
   | none=>rw [q] at e;cases e
   | some cs=>
    rw [q] at e;cases (show FN (b::cs)=FN bs from e)
    rw [ev,ra,Gj r q];rfl
  | _=>cases e
def abL:MC:=fun ws h Q=>match ws with
 | [w]=>(match dM h w with
  | some us=>(match J7 us with
   | some bs=>Q (.bl (bs.all id)) h
   | none=>False)
  | none=>False)
 | _=>False
def Zf (h:Gh)(w:W)(T:String):Option Bool:=match w with
 | .int _=>if T = "int" then FN true else if T = "bool"\/T = "tuple"\/T = "list" then FN false else FX
 | .bl _=>if T = "int"\/T = "bool" then FN true else if T = "tuple"\/T = "list" then FN false else FX
 | .str _=>if T = "int"\/T = "bool"\/T = "tuple"\/T = "list" then FN false else FX
 | .non=>if T = "int"\/T = "bool"\/T = "tuple"\/T = "list" then FN false else FX
 | .tup _=>if T = "tuple" then FN true else if T = "int"\/T = "bool"\/T = "list" then FN false else FX
 | w=>(match dM h w with
  | some _=>if T = "list" then FN true else if T = "int"\/T = "bool"\/T = "tuple" then FN false else FX
  | none=>FX)
theorem aem {H:Hp}{h:Gh}{w:W}{v:V}{T:String}{b:Bool}(R:Ej K μ H h)(r:CK K H μ w v)(e:Zf h w T=FN b):acg K H v T b:=by
 unfold Zf at e;split at e
 ·rw [CK] at r;subst r;split at e
  ·rename_i t;subst t;cases e;exact .inl ⟨rfl,rfl⟩
  ·split at e
   ·rename_i t;cases e;rcases t with t | t | t <;> subst t
    ·exact .inr<|.inl ⟨rfl,rfl⟩
    ·exact .inr<|.inr<|.inl ⟨rfl,rfl⟩
    ·exact .inr<|.inr<|.inr ⟨rfl,rfl⟩
   ·cases e
 ·rw [CK] at r;subst r;split at e
  ·rename_i t;cases e;rcases t with t | t <;> subst t
   ·exact .inl ⟨rfl,rfl⟩
   ·exact .inr<|.inl ⟨rfl,rfl⟩
  ·split at e
   ·rename_i t;cases e;rcases t with t | t <;> subst t
    ·exact .inr<|.inr<|.inl ⟨rfl,rfl⟩
    ·exact .inr<|.inr<|.inr ⟨rfl,rfl⟩
   ·cases e
 ·rw [CK] at r;subst r;split at e
  ·rename_i t;cases e;rcases t with t | t | t | t <;> subst t
   ·exact .inl ⟨rfl,rfl⟩
   ·exact .inr<|.inl ⟨rfl,rfl⟩
   ·exact .inr<|.inr<|.inl ⟨rfl,rfl⟩
   ·exact .inr<|.inr<|.inr ⟨rfl,rfl⟩
  ·cases e
 ·rw [CK] at r;subst r;split at e
  ·rename_i t;cases e;rcases t with t | t | t | t <;> subst t
   ·exact .inl ⟨rfl,rfl⟩
   ·exact .inr<|.inl ⟨rfl,rfl⟩
   ·exact .inr<|.inr<|.inl ⟨rfl,rfl⟩
   ·exact .inr<|.inr<|.inr ⟨rfl,rfl⟩
  ·cases e
 ·rw [CK] at r;obtain ⟨p,xs,ev,hs,_⟩:=r;subst ev;refine .inl ⟨xs,hs,?_⟩;split at e
  ·rename_i t;subst t;cases e;exact .inr (.inr (.inl ⟨rfl,rfl⟩))
  ·split at e
   ·rename_i t;cases e;rcases t with t | t | t <;> subst t
    ·exact .inl ⟨rfl,rfl⟩
    ·exact .inr<|.inl ⟨rfl,rfl⟩
    ·exact .inr<|.inr<|.inr ⟨rfl,rfl⟩
   ·cases e
 ·split at e
  ·rename_i ws ev;obtain ⟨p,xs,ex,hs,_⟩:=cR R r ev;subst ex;refine .inr ⟨xs,hs,?_⟩;split at e
   ·rename_i t;subst t;cases e;exact .inr (.inr (.inr ⟨rfl,rfl⟩))
   ·split at e
    ·rename_i t;cases e;rcases t with t | t | t <;> subst t
     ·exact .inl ⟨rfl,rfl⟩
     ·exact .inr<|.inl ⟨rfl,rfl⟩
     ·exact .inr<|.inr<|.inl ⟨rfl,rfl⟩
    ·cases e
  ·cases e
def Kc:MC:=fun ws h Q=>match ws with
 | [w,.ty T]=>(match Zf h w T with
  | some b=>Q (.bl b) h
  | none=>False)
 | _=>False
theorem Dz:fG X (.builtin "isinstance") Kc:=⟨_,agc,by
 intro H μ h vs ws Qw Q R r m k;unfold Kc at m;split at m
 ·split at m
  ·rename_i w T _ b eb;obtain ⟨v,x,e,rv,rx⟩:=Ea r;have hi:=aem R rv eb;rw [CK] at rx;subst e rx;exact ⟨v,T,b,rfl,hi,k _ _<|.bl R m⟩
  ·exact m.elim
 ·exact m.elim⟩
def dO:MC:=fun ws h Q=>match ws with
 | [.tup us]=>Q (.tup us) h
 | [w]=>(match dM h w with
  | some us=>Q (.tup us) h
  | none=>False)
 | _=>False
theorem dY:fG X (.type "tuple") dO:=⟨_,uh,by
 intro H μ h vs ws Qw Q R r m k;unfold dO at m;split at m
 ·obtain ⟨v,e,rv⟩:=jk r;have rv':=rv;rw [CK] at rv;obtain ⟨p,xs,ex,hs,rs⟩:=rv;subst e ex;exact ⟨p,xs,rfl,.inr ⟨hs,k _ _ ⟨μ,_,h,.refl,R,rv',m⟩⟩⟩
 ·split at m
  ·rename_i w _ _ us ev;obtain ⟨v,e,rv⟩:=jk r;obtain ⟨p,ys,ex,hs,rs⟩:=cR R rv ev;subst e ex;exact ⟨p,ys,rfl,.inl ⟨hs,fun l hl=>k _ _ ⟨μ,_,h,(Ex.laid hl).ext,R.laid hl,.tupNew hl rs,m⟩⟩⟩
  ·exact m.elim
 ·exact m.elim⟩
def o8:MC:=fun ws h Q=>match ws with
 | [w]=>(match view h w with
  | some us=>Q (.lst us) h
  | none=>False)
 | _=>False
theorem qN:fG X (.type "list") o8:=⟨_,xJ,by
 intro H μ h vs ws Qw Q R r m k;unfold o8 at m;split at m
 ·split at m
  ·rename_i w _ xs ev;obtain ⟨v,e,rv⟩:=jk r;obtain ⟨p,ys,ex,hs,rs⟩:=xV R rv ev;subst e ex;exact ⟨p,ys,rfl,hs,fun l hl=>k _ _ ⟨μ,_,h,(Ex.laid hl).ext,R.laid hl,.lstNew R hl rs,m⟩⟩
  ·exact m.elim
 ·exact m.elim⟩
abbrev MM:=W->List W->Gh->WK->Prop
def Zz (K:CT)(r:V->List V->Hp->VK->Prop)(mr:MM):Prop:=∀ {H:Hp} {μ : Mu} {h:Gh} {x:V} {vs:List V} {wx:W} {ws:List W} {Qw:WK} {Q:VK},Ej K μ H h->CK K H μ wx x->aM K H μ ws vs->mr wx ws h Qw->(∀ v H',DQ K H μ Qw v H'->Q v H')->r x vs H Q
def CZ (h:Gh)(w:W)(P:Prop):Prop:=match w with
 | .loc n=>(match h.c n with
  | some (.lst _)=>P
  | _=>False)
 | _=>False
theorem Az {H:Hp}{h:Gh}{w:W}{v:V}{P:Prop}(R:Ej K μ H h)(r:CK K H μ w v)(e:CZ h w P):tyV K "list" v H/\P:=by
 unfold CZ at e;split at e
 ·split at e
  ·rename_i n _ ws ec;rw [CK] at r;obtain ⟨p,ev,hm⟩:=r;obtain ⟨p',xs,hm',hx,rs⟩:=R.lstAt ec;have ep:p'=p:=by rw [hm] at hm';exact (Gz hm').symm
   subst ep ev;exact ⟨.inl ⟨rfl,xs,.of hx⟩,e⟩
  ·exact e.elim
 ·exact e.elim
def Cq (r:MM)(mo:ME)(ma:MA):ME:=fun Z h Q=>mo Z h fun x h1=>CZ h1 x (ma Z h1 fun xs h2=>r x xs h2 Q)
variable {o e:Expr}{es:List Expr}{mo:ME}{ma:MA}{name:Str}{apos ajf:Pos}{id:String}{r:V->List V->Hp->VK->Prop}{mr:MM}
theorem ab0 (slot:Slot "list" name id)(hty:typeOf (.builtin id)=pure (.type "method_descriptor"))(hm:MtR X id r)(hs:Zz X.K r mr)(ho:DE X o mo)(ha:Kq X (e::es) ma)
  (hbase:VN o name X.env (eval o X.env)=eval o X.env:=by rfl)
  (hfew:((K5 ajf (Fo (e::es) X.env)).all (fun x=>!x.1)&&(backToKw ajf (TY [] X.env)).all (fun x=>x.1.isSome)
   && decide ((e::es).length+([]:List Mv).length+(if ([]:List Mv).isEmpty then 0 else 1)<30))=true:=by rfl)
  (hline:(apos.endLine==ajf.line)=true:=by rfl) (hst:Fo (e::es) X.env=(false,eval e X.env)::Fo es X.env:=by rfl) (hplain:(K5 ajf (Fo es X.env)).any (·.1)=false:=by rfl) :
  DE X (.Call (.Attribute o name apos) (e::es) [] ajf) (Cq mr mo ma):=(aa0 PySem.F.plainAttrs_list slot hty hm ho ha hbase hfew hline hst hplain).of fun Z H Q ⟨μ,h,Zw,Qw,R,S,m,k⟩=>by
 refine ⟨μ,h,Zw,_,R,S,m,fun v H1 ⟨μ1,w,h1,e1,R1,r1,il⟩=>⟨(Az R1 r1 il).1,?_⟩⟩;have m1:=(Az R1 r1 il).2;exact ⟨μ1,h1,Zw,_,R1,S.ext e1,m1,fun vs H2 ⟨μ2,ws,h2,e2,R2,r2,m2⟩=>hs R2 (e2.r _ _ r1) r2 m2 fun v H' z=>k _ _<|(z.trans e2).trans e1⟩
def eN:MM:=fun x ws h Q=>match x,ws with
 | .loc n,[w]=>(match h.c n with
  | some (.lst us)=>us.length<FP/\Q .non (h.set n (.lst (us++[w])))
  | _=>False)
 | _,_=>False
theorem Ud {H:Hp}{h:Gh}{n:Nat}{v:V}{us:List W}(R:Ej K μ H h)(r:CK K H μ (.loc n) v)(ec:h.c n=FN (.lst us)):∃ p xs,v=.ref p/\μ.f n=FN p/\H p=FN (.lst xs)/\aM K H μ us xs:=by
 rw [CK] at r;obtain ⟨p,ev,hm⟩:=r;obtain ⟨p',xs,hm',hx,rs⟩:=R.lstAt ec;have ep:p'=p:=by rw [hm] at hm';exact (Gz hm').symm
 subst ep;exact ⟨p',xs,ev,hm,hx,rs⟩
theorem DQ.wrote {H:Hp}{h:Gh}{n:Nat}{p:Addr}{us:List W}{xs:List V}{Q:WK}{w:W}{v:V}(R:Ej K μ H h)(hm:μ.f n=FN p)(rs:aM K H μ us xs)(rw':CK K H μ w v)(q:Q w (h.set n (.lst us))):DQ K H μ Q v (FQ H p (.lst xs)):=
 ⟨μ,w,h.set n (.lst us),(Ex.write R hm).ext,R.write hm trivial ⟨xs,bF,(Ex.write R hm).ext.s rs⟩,(Ex.write R hm).ext.r _ _ rw',q⟩
theorem aeo:Zz K G5 eN:=by
 intro H μ h x vs wx ws Qw Q R rx rs m k;unfold eN at m;split at m
 ·split at m
  ·rename_i n w _ us ec;obtain ⟨p,xs,ex,hm,hx,r1⟩:=Ud R rx ec;obtain ⟨v,ev,rv⟩:=jk rs;exact ⟨p,xs,v,ex,ev,hx,by rw [<-r1.len];exact m.1,k _ _<|.wrote R hm (r1.append<|.one rv) (by rw [CK]) m.2⟩
  ·exact m.elim
 ·exact m.elim
theorem jL (ho:DE X o mo)(ha:Kq X [e] ma)
  (hbase:VN o "append" X.env (eval o X.env)=eval o X.env:=by rfl)
  (hfew:((K5 ajf (Fo [e] X.env)).all (fun x=>!x.1)&&(backToKw ajf (TY [] X.env)).all (fun x=>x.1.isSome)
   && decide (([e]:List Expr).length+([]:List Mv).length+(if ([]:List Mv).isEmpty then 0 else 1)<30))=true:=by rfl)
  (hline:(apos.endLine==ajf.line)=true:=by rfl) (hst:Fo [e] X.env=(false,eval e X.env)::Fo [] X.env:=by rfl) (hplain:(K5 ajf (Fo [] X.env)).any (·.1)=false:=by rfl) :
  DE X (.Call (.Attribute o "append" apos) [e] [] ajf) (Cq eN mo ma):=ab0 PySem.F.slot_list_append PySem.F.type_list_append vY aeo ho ha hbase hfew hline hst hplain
end
section
variable {X:Cx}{K:CT}
theorem afr:K8 X (Ku .IsNot) (fun x y H Q=>∃ c b,x=.bl c/\y=.bl b/\Q (.bl (!(c==b))) H):=by
 intro ajd s Z H x y v u Q I rx ry ⟨c,b,ex,ey,q⟩;subst ex ey;cases rx;cases ry;exact Cz<|Ba I q (by cases c <;> cases b <;> rfl)
def Lh:W->Bool
 | .non=>true
 | _=>false
theorem afa {H:Hp}{w:W}{v:V}(r:CK K H μ w v):decide (v=.non)=Lh w:=by
 cases w with
 | non=>rw [CK] at r;subst r;rfl
 | bl _=>rw [CK] at r;subst r;rfl
 | int _=>rw [CK] at r;subst r;rfl
 | str _=>rw [CK] at r;subst r;rfl
 | ty _=>rw [CK] at r;subst r;rfl
 | tup _=>rw [CK] at r;obtain ⟨_,_,e,_⟩:=r;subst e;rfl
 | lst _=>rw [CK] at r;obtain ⟨_,_,e,_⟩:=r;subst e;rfl
 | kls _=>rw [CK] at r;obtain ⟨_,_,e,_⟩:=r;subst e;rfl
 | loc _=>rw [CK] at r;obtain ⟨_,e,_⟩:=r;subst e;rfl
 | exc _=>rw [CK] at r;obtain ⟨_,_,_,e,_⟩:=r;subst e;rfl
 | exa _ _=>rw [CK] at r;obtain ⟨_,_,_,_,_,_,e,_⟩:=r;subst e;rfl
 | fnv _ _=>rw [CK] at r;subst r;rfl
def kIs:M2:=fun x y h Q=>match x,y with
 | .bl c,.bl b=>Q (.bl (c==b)) h
 | w,.non=>Q (.bl (Lh w)) h
 | _,_=>False
def Gp:M2:=fun x y h Q=>match x,y with
 | .bl c,.bl b=>Q (.bl (!(c==b))) h
 | w,.non=>Q (.bl (!Lh w)) h
 | _,_=>False
theorem Yy:Lf X (Ku .IsNot) Gp:=⟨_,afr.or afU,by
 intro H μ h x y wx wy Qw Q R rx ry m k;unfold Gp at m;split at m
 ·rw [CK] at rx ry;exact .inl ⟨_,_,rx,ry,k _ _<|.bl R m⟩
 ·rw [<-afa rx] at m;rw [CK] at ry;exact .inr ⟨ry,k _ _<|.bl R m⟩
 ·exact m.elim⟩
theorem aez (bs:List Bool):((Ma bs.length).any fun i=>(bs[i]?).getD true)=bs.any id:=by
 rw [VB,T3,T3];constructor
 ·rintro ⟨i,hi,e⟩;have hi':=WR.mp hi;exact ⟨bs[i],Qm hi',by simpa [hi'] using e⟩
 ·rintro ⟨b,hb,e⟩;obtain ⟨i,hi,rfl⟩:=Wi.mp hb;exact ⟨i,WR.mpr hi,by simpa [hi] using e⟩
theorem zaI (hc:X.calm=true):fX X (.builtin "any") (fun xs H Q=>∃ (p:Addr) (bs:List Bool),xs=[.ref p]/\Jy X.K H p (bs.map V.bl)/\Q (.bl (bs.any id)) H):=by
 intro ajd s Z H xs us Q I r ⟨p,bs,e,hS,q⟩;subst e;obtain ⟨u,rfl,ru⟩:=vals1 r;cases ru;obtain ⟨its,rv,pl,hz⟩:=I.list hS;have aje:its.length=bs.length:=by rw [<-rv.length,DX]
 have hl:=pl.isList;have hlt:p<s.heap.objs.size:=by obtain ⟨_,e,_⟩:=hl;exact G9 e
 refine call_any_walk<|wpAny_pyIter_list hl ?_
 refine ⟨s.heap.objs.size,[s.heap.objs.size,p],[s.heap.objs.size],its.toArray.size,_,_,fun i=>(bs[i]?).getD true,rfl,Walks.list (A:=X.A.in1) (I.ok.hd hc) _ p (Gq hlt) its.toArray,
  ⟨⟨_,K4 _ rfl,rfl,rfl⟩,hl.push _⟩,fun i v s' Q' E' hP hQ=>?_,fun h' tk hk=>?_⟩
 ·obtain ⟨b,e,rfl⟩:=xM rv (by simpa using hP);simp only [e,Option.getD_some] at hQ;exact wpAny_truthy_bool hQ
 ·have e:((Ma its.toArray.size).any fun i=>(bs[i]?).getD true)=bs.any id:=by
   rw [Jl,aje];exact aez bs
  rw [e];refine ⟨.bl<|bs.any id,H,I.kept (h':=h') (t':=tk)<|fun b x e=>?_,rfl,q⟩;exact hk b x (fun hm=>by rw [Kp.mp hm] at e;exact Nv _ (G9 e))<|GD _ e
def YF:MC:=fun ws h Q=>match ws with
 | [w]=>(match dM h w with
  | some us=>(match J7 us with
   | some bs=>Q (.bl (bs.any id)) h
   | none=>False)
  | none=>False)
 | _=>False
theorem aaZ (hc:X.calm=true):fG X (.builtin "any") YF:=⟨_,zaI hc,by
 intro H μ h vs ws Qw Q R r m k;unfold YF at m;split at m
 ·split at m
  ·split at m
   ·rename_i w _ us ev _ bs eb;obtain ⟨v,e,rv⟩:=jk r;obtain ⟨p,ys,ex,hs,rs⟩:=cR R rv ev;subst e ex;exact ⟨p,bs,rfl,by rw [<-Gj rs eb];exact hs,k _ _<|.bl R m⟩
   ·exact m.elim
  ·exact m.elim
 ·exact m.elim⟩
theorem aew:K8 X (Lj .Add) (fun x y H Q=>∃ a b ys,x=.ref a/\y=.ref b/\HJ X.K H a []/\HJ X.K H b ys/\Q (.ref b) H):=by
 intro ajd s Z H x y v u Q I rx ry ⟨a,b,ys,ex,ey,ha,hb,q⟩;subst ex ey;cases rx;cases ry;obtain ⟨its,r1,p1,_⟩:=I.tuple ha;obtain ⟨jts,r2,p2,_⟩:=I.tuple hb;cases r1;obtain ⟨⟨cls,dd,data,sl⟩,ho,hc,n,hd⟩:=id p1;obtain ⟨⟨cls2,dd2,data2,sl2⟩,ho2,hc2,n2,hd2⟩:=id p2;simp only at hc hd hc2 hd2;subst hc hd hc2 hd2;exact concat_meets ⟨_,ho,rfl⟩ ⟨_,ho2,rfl⟩ noFill_tuple_add seq_tuple_add PySem.F.slot_tuple_add PySem.F.entry_tuple_add (PySem.F.args_tuple_add_2 _ _)
  (tuple_addW0 a b _ _ n n2 dd dd2 sl sl2 (by simp)) ⟨ho,ho2,⟨.ref b,H,I,rfl,q⟩⟩
def YJ (h:Gh):W->Option (List W)
 | .lst ws=>FN ws
 | .loc n=>(match h.c n with
  | some (.lst ws)=>FN ws
  | _=>FX)
 | _=>FX
theorem yF {H:Hp}{h:Gh}{w:W}{v:V}(R:Ej K μ H h)(r:CK K H μ w v)(e:YJ h w=FN ws):∃ p xs,v=.ref p/\H p=FN (.lst xs)/\aM K H μ ws xs:=by
 cases w with
 | lst us=>
  rw [CK] at r;obtain ⟨p,xs,ev,hs,rs⟩:=r;cases (show FN us=FN ws from e)
  exact ⟨p,xs,ev,hs.1,rs⟩
 | loc n=>
  unfold YJ at e;dsimp only at e;cases ec:h.c n with
  | none=>rw [ec] at e;cases e
  | some cl=>
   rw [ec] at e;cases cl with
   | lst us=>
    cases (show FN us=FN ws from e)
    obtain ⟨p,xs,ev,_,hx,rs⟩:=Ud R r ec;exact ⟨p,xs,ev,hx,rs⟩
   | _=>cases e
 | _=>cases e
def dB:M2:=fun x y h Q=>match x,y with
 | .int i,.int j=>Q (.int (i+j)) h
 | .tup [],.tup b=>Q (.tup b) h
 | .tup (a0::a),.tup b=>eG (a.length+1+b.length) (Q (.tup (a0::a++b)) h)
 | x,y=>(match YJ h x,YJ h y with
  | some a,FN b=>eG (a.length+b.length) (Q (.lst (a++b)) h)
  | _,_=>False)
theorem cV:Lf X (Lj .Add) dB:=⟨_,(Xg.or (aew.or ahu)).or YL,by
 intro H μ h x y wx wy Qw Q R rx ry m k;unfold dB at m;split at m
 ·rw [CK] at rx ry;exact .inl<|.inl ⟨_,_,rx,ry,k _ _<|.int R m⟩
 ·rename_i b;have ry':=ry;rw [CK] at rx ry;obtain ⟨p,xs,ex,hx,r1⟩:=rx;obtain ⟨q,ys,ey,hy,r2⟩:=ry;rw [aM] at r1;subst r1;rw [ey] at ry';exact .inl<|.inr<|.inl ⟨p,q,ys,ex,ey,hx,hy,k _ _ ⟨μ,_,h,.refl,R,ry',m⟩⟩
 ·rename_i a0 a b;have rx':=rx;rw [CK] at rx ry;obtain ⟨p,xs,ex,hx,r1⟩:=rx;obtain ⟨q,ys,ey,hy,r2⟩:=ry;have sz:=m.ok.1;refine .inl<|.inr<|.inr ⟨p,q,xs,ys,ex,ey,hx,hy,fun z=>(by have:=r1.ne_nil.mp z;cases this),by rw [<-r1.len,<-r2.len];exact sz,fun z=>?_,fun z l hl=>?_⟩
  ·have eb:b=[]:=r2.ne_nil.mp z;subst eb;refine k _ _ ⟨μ,.tup (a0::a++[]),h,.refl,R,?_,m.ok.2⟩;rw [Rr,<-ex];exact rx'
  ·exact k _ _ ⟨μ,_,h,(Ex.laid hl).ext,R.laid hl,.tupNew hl<|r1.append r2,m.ok.2⟩
 ·split at m
  ·rename_i a b ea eb;obtain ⟨p,xs,ex,hx,r1⟩:=yF R rx ea;obtain ⟨q,ys,ey,hy,r2⟩:=yF R ry eb;have sz:=m.ok.1;exact .inr ⟨p,q,xs,ys,ex,ey,hx,hy,by rw [<-r1.len,<-r2.len];exact sz,fun l hl=>k _ _ ⟨μ,_,h,(Ex.laid hl).ext,R.laid hl,.lstNew R hl<|r1.append r2,m.ok.2⟩⟩
  ·exact m.elim⟩
def jh:MM:=fun x ws h Q=>match x,ws with
 | .loc n,[w]=>(match h.c n,YJ h w with
  | some (.lst us),FN zs=>eG (us.length+zs.length) (Q .non (h.set n (.lst (us++zs))))
  | _,_=>False)
 | _,_=>False
theorem zbc:Zz K Jq jh:=by
 intro H μ h x vs wx ws Qw Q R rx rs m k;unfold jh at m;split at m
 ·split at m
  ·rename_i n w _ _ us zs ec ez;obtain ⟨p,xs,ex,hm,hx,r1⟩:=Ud R rx ec;obtain ⟨v,ev,rv⟩:=jk rs;obtain ⟨q,ys,ey,hy,r2⟩:=yF R rv ez;subst ey;have sz:=m.ok.1;exact ⟨p,q,xs,ys,ex,ev,hx,hy,by rw [<-r1.len,<-r2.len];exact sz,k _ _<|.wrote R hm (r1.append r2) (by rw [CK]) m.ok.2⟩
  ·exact m.elim
 ·exact m.elim
variable {o e:Expr}{mo:ME}{ma:MA}{apos ajf:Pos}
theorem zba (ho:DE X o mo)(ha:Kq X [e] ma)
  (hbase:VN o "extend" X.env (eval o X.env)=eval o X.env:=by rfl)
  (hfew:((K5 ajf (Fo [e] X.env)).all (fun x=>!x.1)&&(backToKw ajf (TY [] X.env)).all (fun x=>x.1.isSome)
   && decide (([e]:List Expr).length+([]:List Mv).length+(if ([]:List Mv).isEmpty then 0 else 1)<30))=true:=by rfl)
  (hline:(apos.endLine==ajf.line)=true:=by rfl) (hst:Fo [e] X.env=(false,eval e X.env)::Fo [] X.env:=by rfl) (hplain:(K5 ajf (Fo [] X.env)).any (·.1)=false:=by rfl) :
  DE X (.Call (.Attribute o "extend" apos) [e] [] ajf) (Cq jh mo ma):=ab0 PySem.F.slot_list_extend PySem.F.type_list_extend adE zbc ho ha hbase hfew hline hst hplain
end
def Lb (K:CT):Sp:=fun vs H Q _=>∃ (a:Addr) (ns:List Int),vs=[.ref a]/\Jy K H a (ns.map V.int)/\Only H/\ns.length<=63/\∀ H',Q (.bl true) H'
def g0:Gh:=⟨0,fun _=>FX⟩
def μ0:Mu:=⟨fun _=>FX,fun _=>False⟩
theorem ab6 {K:CT}{H:Hp}:Ej K μ0 H g0 where
 inj:=fun m n p h=>by cases (show (FX:Option Addr)=FN p from h)
 dom:=fun n p h=>by cases (show (FX:Option Addr)=FN p from h)
 trk:=fun n p h=>by cases (show (FX:Option Addr)=FN p from h)
 cel:=fun n c h=>by cases (show (FX:Option Cell)=FN c from h)
 hd:=fun p h=>Qz h
theorem jx {K:CT}{H:Hp}{μ : Mu}:∀ ns:List Int,aM K H μ (ns.map W.int) (ns.map V.int)
 | []=>.nil
 | n::ns=>.cons (by rw [CK]) (jx ns)
theorem aii {P:Ei}{w:Dq}{K:CT}{mg:Str->Option Mk}{base:Heap}{k:Nat}{f:Addr}{fd:Mi}{ps:List Str}
  (hm:∀ ns:List Int,ns.length<=63->ms [.kls (ns.map W.int)] g0 (fun w _=>w=.bl true) EF) (F:rK P w K mg base NT k f fd ps (lift K ms)):rK P w K mg base NT k f fd ps (Lb K):=
 F.imp fun vs H Q E ⟨a,ns,e,hS,hO,hl,q⟩=>by
  subst e;refine ⟨μ0,g0,[.kls<|ns.map W.int],_,ab6,.one ?_,hm ns hl,fun v H' ⟨μ',w',h',_,_,r,e⟩=>?_⟩
  ·rw [CK];refine ⟨a,ns.map V.int,rfl,?_,jx ns⟩;rcases hS with (hS | hS) | hS
   ·rcases hO a with z | ⟨o,xs,z⟩ <;> rw [hS] at z <;> cases z
   ·exact .inl hS
   ·exact .inr hS
  ·subst e;rw [CK] at r;subst r;exact q H'
inductive Sk where
 | l | t
def Sk.sq (k:Sk)(h:Heap)(a:Addr)(its:Array Mk):Prop:=match k with
 | .l=>h.IsList a its
 | .t=>h.IsTuple a its
def Sk.it (k:Sk)(h:Heap)(i a:Addr)(n:Nat):Prop:=match k with
 | .l=>h.IsListIter i a n
 | .t=>h.IsTupleIter i a n
def Sk.nm:Sk->String
 | .l => "list_iterator"
 | .t => "tuple_iterator"
section
variable {P:Ei}{w:Dq}{A:FZ}{E:Mk->AP->Prop}{s:AP}{k k1 k2:Sk}
theorem Sk.it_at {h h':Heap}{i a:Addr}{n:Nat}(x:k.it h i a n)(e:∀ o,h.get? i=FN o->h'.get? i=FN o):k.it h' i a n:=by
 cases k with
 | l=>obtain ⟨o,ho,r⟩:=x;exact ⟨o,e o ho,r⟩
 | t=>obtain ⟨o,ho,r⟩:=x;exact ⟨o,e o ho,r⟩
theorem Sk.sq_at {h h':Heap}{a:Addr}{its:Array Mk}(x:k.sq h a its)(e:∀ o,h.get? a=FN o->h'.get? a=FN o):k.sq h' a its:=by
 cases k with
 | l=>obtain ⟨o,ho,r⟩:=x;exact ⟨o,e o ho,r⟩
 | t=>obtain ⟨o,ho,r⟩:=x;exact ⟨o,e o ho,r⟩
theorem Sk.it_obj {h:Heap}{i a:Addr}{n:Nat}(x:k.it h i a n):∃ o,h.get? i=FN o/\o.cls=.type k.nm/\o.data=.fields #[.ref a,.int n 0]:=by
 cases k with
 | l=>exact x
 | t=>exact x
theorem zbf {it t:Addr}{i:Nat}{its:Array Mk}{x:Mk}{Q:Mk->AP->Prop}(hi:s.heap.IsTupleIter it t i)(ht:s.heap.IsTuple t its)(hx:its[i]?=FN x)
  (q:∀ h',h'.IsTupleIter it t (i+1)->U8 it s.heap h'->Q x { s with heap:=h' }):Cu (Cp P w) A (Ry (.ref it)) Q E s:=by
 obtain ⟨o,go,gc,gd⟩:=id hi;obtain ⟨ol,gol,_,nl,gdl⟩:=ht;unfold Ry;refine CN (T7 (name:=Sx "__next__") hi.typeIs XH
  (R7 XH hi.typeIs PySem.F.entry_tuple_iterator_next ?_ (PySem.F.args_tuple_iterator_next_1 _)))
 show Cu _ _ (field (.ref it) 0 >>= _) _ _ s;refine CN<|M9 go gd (x:=.ref t) rfl ?_
 show Cu _ _ (if (Value.ref t==Value.none)=true then _ else _) _ _ s;rw [if_neg (by exact Lw)];show Cu _ _ (field (.ref it) 1 >>= _) _ _ s;refine CN<|M9 go gd (x:=.int i 0) rfl ?_
 show Cu _ _ (seqItems? (.ref t) >>= _) _ _ s;refine CN<|Sq gol gdl ?_
 simp only [Vl,hx];refine CN<|wpAny_setField go gd (by simp)<|Cz ⟨x,rfl,Cz<|q _ ?_<|Wr ..⟩
 exact ⟨_,Vc _ go<|Obj.isFreed_of_fields<|W6 gd _,(Obj.cls_mapFields ..).trans gc,by rw [W6 gd];simp [Q0]⟩
theorem wK {it t:Addr}{i:Nat}{its:Array Mk}{Q:Mk->AP->Prop}(hh:A.handled=FX)(hi:s.heap.IsTupleIter it t i)(ht:s.heap.IsTuple t its)(hx:its[i]?=FX)
  (q:∀ h' e,VH it s.heap h'->(∃ o,h'.get? e=FN o/\o.cls=.type "StopIteration")->E (.ref e) { s with heap:=h' }):Cu (Cp P w) A (Ry (.ref it)) Q E s:=by
 obtain ⟨o,go,gc,gd⟩:=id hi;obtain ⟨ol,gol,_,nl,gdl⟩:=ht;unfold Ry;refine CN (T7 (name:=Sx "__next__") hi.typeIs XH
  (R7 XH hi.typeIs PySem.F.entry_tuple_iterator_next ?_ (PySem.F.args_tuple_iterator_next_1 _)))
 show Cu _ _ (field (.ref it) 0 >>= _) _ _ s;refine CN<|M9 go gd (x:=.ref t) rfl ?_
 show Cu _ _ (if (Value.ref t==Value.none)=true then _ else _) _ _ s;rw [if_neg (by exact Lw)];show Cu _ _ (field (.ref it) 1 >>= _) _ _ s;refine CN<|M9 go gd (x:=.int i 0) rfl ?_
 show Cu _ _ (seqItems? (.ref t) >>= _) _ _ s;refine CN<|Sq gol gdl ?_
 simp only [Vl,hx];refine CN<|Nj<|CN<|wpAny_setField go gd (by simp) ?_
 show Cu _ _ (newExc (.type "StopIteration") [] >>= _) _ _ _;refine CN ?_;simp only [newExc,newTuple];refine CN<|NP ?_<|by size_fits
 refine CN (m:=Va _ _)<|wpAny_of_eq (a:=Value.none) (by first | rfl | (simp only [Va];rfl)) ?_
 refine NP ?_<|by size_fits
 simp only [raiseNew];refine CN<|wpAny_handled ?_
 first | rw [show A.in1.handled=FX from hh] | rw [hh]
 refine CN<|Cz<|wpAny_throw ?_
 exact q _ _ (((Wr ..).extBut.push _).push _) ⟨_,K4 _ rfl,rfl⟩
theorem Sk.next {it a:Addr}{i:Nat}{its:Array Mk}{x:Mk}{Q:Mk->AP->Prop}(hi:k.it s.heap it a i)(hs:k.sq s.heap a its)(hx:its[i]?=FN x)
  (q:∀ h',k.it h' it a (i+1)->U8 it s.heap h'->Q x { s with heap:=h' }):Cu (Cp P w) A (Ry (.ref it)) Q E s:=by
 cases k with
 | l=>exact wpAny_nextOf_list_item hi hs hx q
 | t=>exact zbf hi hs hx q
theorem Sk.stop {it a:Addr}{i:Nat}{its:Array Mk}{Q:Mk->AP->Prop}(hh:A.handled=FX)(hi:k.it s.heap it a i)(hs:k.sq s.heap a its)(hx:its[i]?=FX)
  (q:∀ h' e,VH it s.heap h'->(∃ o,h'.get? e=FN o/\o.cls=.type "StopIteration")->E (.ref e) { s with heap:=h' }):Cu (Cp P w) A (Ry (.ref it)) Q E s:=by
 cases k with
 | l=>exact wpAny_nextOf_list_end hh hi hs hx q
 | t=>exact wK hh hi hs hx q
theorem Sk.iter {a:Addr}{its:Array Mk}{Q:Mk->AP->Prop}(hs:k.sq s.heap a its)
  (q:Q (.ref s.heap.objs.size) { s with heap:=s.heap.push { cls:=.type k.nm,data:=.fields #[.ref a,.int 0 0] } }):Cu (Cp P w) A (pyIter (.ref a)) Q E s:=by
 cases k with
 | l=>exact wpAny_pyIter_list hs q
 | t=>exact wpAny_pyIter_tuple hs q
structure Zap (z TI TO i1 i2:Addr):Prop where
 a1:TI≠z
 a2:TO≠z
 a3:i1≠z
 a4:i2≠z
 a5:TI≠TO
 a6:TI≠i1
 a7:TI≠i2
 a8:TO≠i1
 a9:TO≠i2
 b1:i1≠i2
structure Off (a z TO i1 i2:Addr):Prop where
 z:a≠z
 o:a≠TO
 i:a≠i1
 j:a≠i2
theorem ahX {z TI TO i1 i2 l1 l2:Addr}{n1 n2:Nat}{xs ys:Array Mk}{x y a b:Mk}{Q:Option Mk->AP->Prop}(D:Zap z TI TO i1 i2)(o1:Off l1 z TO i1 i2)(o2:Off l2 z TO i1 i2)
  (gz:IsZip s.heap z TI TO .none) (gI:Ng s.heap TI (.ref i1) (.ref i2)) (gO:Ng s.heap TO a b) (g1:k1.it s.heap i1 l1 n1) (g2:k2.it s.heap i2 l2 n2) (gx:k1.sq s.heap l1 xs) (gy:k2.sq s.heap l2 ys)
  (hx:xs[n1]?=FN x) (hy:ys[n2]?=FN y)
  (q:∀ h',IsZip h' z TI TO (Q0 s.heap.objs.size)->Ng h' TO x y->k1.it h' i1 l1 (n1+1)->k2.it h' i2 l2 (n2+1)->Ng h' s.heap.objs.size x y->h'.objs.size=s.heap.objs.size+1 ->
   (∀ c o,c≠z->c≠TO->c≠i1->c≠i2->s.heap.get? c=FN o->h'.get? c=FN o)->Q (FN (.ref s.heap.objs.size)) { s with heap:=h' }) :
  Cu (Cp P w) A (Nh (.ref z)) Q E s:=by
 have gT:s.TypeIs (.ref z) "zip":=⟨_,gz,rfl⟩
 unfold Nh;refine CN<|VP<|T7 (name:=Sx "__next__") gT Wu<|R7 Wu gT PySem.F.entry_zip_next ?_<|PySem.F.args_zip_next_1 _
 show Cu _ _ (field (.ref z) 2 >>= _) _ _ _;refine CN<|M9 gz rfl (x:=.bool false) rfl ?_
 show Cu _ _ (field (.ref z) 3 >>= _) _ _ _;refine CN<|M9 gz rfl (x:=.ref TI) rfl ?_
 refine CN<|Sq gI rfl ?_
 show Cu _ _ (XQ (.ref z) >>= _) _ _ _;refine CN ?_;unfold XQ;refine CN<|M9 gz rfl (x:=.none) rfl<|Cz ?_
 simp only [if_true];refine CN<|Nj ?_
 refine CN<|M9 gz rfl (x:=.ref TO) rfl ?_
 refine CN<|Vo gz (by simp) fun h₁ z₁ s₁=>?_
 replace z₁ : IsZip h₁ z TI TO .ellipsis:=z₁;refine CN ?_;simp only [List.zipIdx_cons,List.zipIdx_nil,WW,WM]
 -- the first one
 refine CN<|CN<|wpAny_onRaise ?_
 show Cu _ _ (Ry (.ref i1) >>= _) _ _ _;refine CN<|Sk.next (k:=k1) (s:={ s with heap:=h₁ }) (Sk.it_at g1 fun o e=>s₁.extBut _ o D.a3 e) (Sk.sq_at gx fun o e=>s₁.extBut _ o o1.z e) hx fun h₂ g1₂ s₂=>Cz ?_
 have gO₂ : Ng h₂ TO a b:=s₂.extBut _ _ D.a8 (s₁.extBut _ _ D.a2 gO);refine CN<|Sq gO₂ rfl ?_
 refine CN<|wpAny_updateSeq_pair gO₂ fun h₃ gO₃ s₃=>?_
 replace gO₃ : Ng h₃ TO x b:=gO₃;refine CN<|wpAny_letGo<|Cz ?_
 -- the second one
 refine CN<|CN<|wpAny_onRaise ?_
 show Cu _ _ (Ry (.ref i2) >>= _) _ _ _;refine CN (Sk.next (k:=k2) (s:={ s with heap:=h₃ }) (Sk.it_at g2 fun o e=>s₃.extBut _ o D.a9.symm (s₂.extBut _ o D.b1.symm (s₁.extBut _ o D.a4 e)))
  (Sk.sq_at gy fun o e=>s₃.extBut _ o o2.o (s₂.extBut _ o o2.i (s₁.extBut _ o o2.z e))) hy fun h₄ g2₄ s₄=>Cz ?_)
 have gO₄ : Ng h₄ TO x b:=s₄.extBut _ _ D.a9 gO₃;refine CN<|Sq gO₄ rfl ?_
 refine CN<|wpAny_updateSeq_pair gO₄ fun h₅ gO₅ s₅=>?_
 replace gO₅ : Ng h₅ TO x y:=gO₅;refine CN<|wpAny_letGo<|Cz<|Cz ?_
 -- the pair is handed out
 refine CN<|Sq gO₅ rfl ?_
 refine CN<|wpAny_newTuple ?_
 have size:h₅.objs.size=s.heap.objs.size:=by rw [s₅.1,s₄.1,s₃.1,s₂.1,s₁.1]
 have z₅ : IsZip h₅ z TI TO .ellipsis:=s₅.extBut _ _ D.a2.symm (s₄.extBut _ _ D.a4.symm (s₃.extBut _ _ D.a2.symm (s₂.extBut _ _ D.a3.symm z₁)));have all₅ : ∀ c o,c≠z->c≠TO->c≠i1->c≠i2->s.heap.get? c=FN o->h₅.get? c=FN o:=fun c o c1 c2 c3 c4 e=>s₅.extBut _ _ c2 (s₄.extBut _ _ c4 (s₃.extBut _ _ c2 (s₂.extBut _ _ c3 (s₁.extBut _ _ c1 e))))
 have g1₅ : k1.it h₅ i1 l1 (n1+1):=Sk.it_at g1₂ fun o e=>s₅.extBut _ o D.a8.symm (s₄.extBut _ o D.b1 (s₃.extBut _ o D.a8.symm e))
 have g2₅ : k2.it h₅ i2 l2 (n2+1):=Sk.it_at g2₄ fun o e=>s₅.extBut _ o D.a9.symm e
 have zlt:z<h₅.objs.size:=G9 z₅;show Cu _ _ (Builtin.SmallTypes.ownedTupleHandOut (.ref z) (.ref h₅.objs.size) >>= _) _ _ _;refine CN ?_;unfold Builtin.SmallTypes.ownedTupleHandOut;have z₆ : IsZip (h₅.push { cls:=.type "tuple",data:=.seq #[x,y] }) z TI TO .ellipsis:=GD _ z₅;refine CN<|Vo z₆ (by simp) fun h₇ z₇ s₇=>?_
 replace z₇ : IsZip h₇ z TI TO (Q0 h₅.objs.size):=z₇;refine Vo z₇ (by simp) fun h₈ z₈ s₈=>?_;replace z₈ : IsZip h₈ z TI TO (Q0 h₅.objs.size):=z₈;have up:∀ c o,c≠z->h₅.get? c=FN o->h₈.get? c=FN o:=fun c o c1 e=>s₈.extBut _ _ c1 (s₇.extBut _ _ c1 (GD _ e))
 have T₈ : Ng h₈ h₅.objs.size x y:=s₈.extBut _ _ (Ml zlt) (s₇.extBut _ _ (Ml zlt) (K4 _ rfl));have size8:h₈.objs.size=h₅.objs.size+1:=by rw [s₈.1,s₇.1,RD]
 rw [size] at z₈ T₈ size8;refine Cz ⟨_,rfl,Cz ?_⟩;show Q (FN (.ref h₅.objs.size)) _;rw [size];exact q h₈ z₈ (up _ _ D.a2 gO₅) (Sk.it_at g1₅ fun o e=>up _ o D.a3 e) (Sk.it_at g2₅ fun o e=>up _ o D.a4 e) T₈ size8 fun c o c1 c2 c3 c4 e=>up c o c1<|all₅ c o c1 c2 c3 c4 e
theorem zaS {z TI TO i1 i2 l1 l2:Addr}{n1 n2:Nat}{xs ys:Array Mk}{a b:Mk}{Q:Option Mk->AP->Prop}(hh:A.handled=FX)(D:Zap z TI TO i1 i2)(o1:Off l1 z TO i1 i2)(o2:Off l2 z TO i1 i2)
  (gz:IsZip s.heap z TI TO .none) (gI:Ng s.heap TI (.ref i1) (.ref i2)) (gO:Ng s.heap TO a b) (g1:k1.it s.heap i1 l1 n1) (g2:k2.it s.heap i2 l2 n2) (gx:k1.sq s.heap l1 xs) (gy:k2.sq s.heap l2 ys)
  (hend:xs[n1]?=FX\/ys[n2]?=FX)
  (q:∀ h',(∀ c o,c≠z->c≠TO->c≠i1->c≠i2->s.heap.get? c=FN o->h'.get? c=FN o)->Q FX { s with heap:=h' }):Cu (Cp P w) A (Nh (.ref z)) Q E s:=by
 have gT:s.TypeIs (.ref z) "zip":=⟨_,gz,rfl⟩
 have fin:∀ (h':Heap) (e:Addr),(∀ c o,c≠z->c≠TO->c≠i1->c≠i2->s.heap.get? c=FN o->h'.get? c=FN o)->(∃ o,h'.get? e=FN o/\o.cls=.type "StopIteration") ->
   Cu (Cp P w) A (do if <-isInstance (.ref e) (.type "StopIteration") then pure FX else throw (.ref e)) Q E { s with heap:=h' }:=fun h' e all ⟨o,ho,hc⟩=>
  CN (wpAny_isInstance (T := "StopIteration") (b:=true) ⟨o,ho,hc⟩ isSubtype_stop (Cz (q _ all)))
 unfold Nh;refine CN<|VP<|T7 (name:=Sx "__next__") gT Wu<|R7 Wu gT PySem.F.entry_zip_next ?_<|PySem.F.args_zip_next_1 _
 show Cu _ _ (field (.ref z) 2 >>= _) _ _ _;refine CN<|M9 gz rfl (x:=.bool false) rfl ?_
 show Cu _ _ (field (.ref z) 3 >>= _) _ _ _;refine CN<|M9 gz rfl (x:=.ref TI) rfl ?_
 refine CN<|Sq gI rfl ?_
 show Cu _ _ (XQ (.ref z) >>= _) _ _ _;refine CN ?_;unfold XQ;refine CN<|M9 gz rfl (x:=.none) rfl<|Cz ?_
 simp only [if_true];refine CN<|Nj ?_
 refine CN<|M9 gz rfl (x:=.ref TO) rfl ?_
 refine CN<|Vo gz (by simp) fun h₁ z₁ s₁=>?_
 replace z₁ : IsZip h₁ z TI TO .ellipsis:=z₁;refine CN ?_;simp only [List.zipIdx_cons,List.zipIdx_nil,WW,WM];refine CN<|CN<|wpAny_onRaise ?_
 show Cu _ _ (Ry (.ref i1) >>= _) _ _ _;have g1₁ : k1.it h₁ i1 l1 n1:=Sk.it_at g1 fun o e=>s₁.extBut _ o D.a3 e
 have gx₁ : k1.sq h₁ l1 xs:=Sk.sq_at gx fun o e=>s₁.extBut _ o o1.z e
 cases hx:xs[n1]? with
 | none=>
  refine CN<|Sk.stop (k:=k1) (s:={ s with heap:=h₁ }) hh g1₁ gx₁ hx fun h₂ e s₂ he=>?_
  obtain ⟨oe,hoe,hce⟩:=he;have z₂ : IsZip h₂ z TI TO .ellipsis:=s₂ _ _ D.a3.symm z₁;have ez:e≠z:=fun y=>by subst y;rw [z₂] at hoe;cases hoe;simp at hce
  refine Vo z₂ (by simp) fun h₃ _ s₃=>fin h₃ e (fun c o c1 _ c3 _ y=>s₃.extBut _ _ c1<|s₂ _ _ c3<|s₁.extBut _ _ c1 y) ⟨oe,s₃.extBut _ _ ez hoe,hce⟩
 | some x=>
  have hy:ys[n2]?=FX:=by
   rcases hend with h | h
   ·rw [hx] at h;cases h
   ·exact h
  refine CN<|Sk.next (k:=k1) (s:={ s with heap:=h₁ }) g1₁ gx₁ hx fun h₂ g1₂ s₂=>Cz ?_
  have gO₂ : Ng h₂ TO a b:=s₂.extBut _ _ D.a8 (s₁.extBut _ _ D.a2 gO);refine CN<|Sq gO₂ rfl ?_
  refine CN<|wpAny_updateSeq_pair gO₂ fun h₃ gO₃ s₃=>?_
  refine CN<|wpAny_letGo<|Cz ?_
  refine CN<|CN<|wpAny_onRaise ?_
  show Cu _ _ (Ry (.ref i2) >>= _) _ _ _;refine CN (Sk.stop (k:=k2) (s:={ s with heap:=h₃ }) hh (Sk.it_at g2 fun o e=>s₃.extBut _ o D.a9.symm (s₂.extBut _ o D.b1.symm (s₁.extBut _ o D.a4 e)))
   (Sk.sq_at gy fun o e=>s₃.extBut _ o o2.o (s₂.extBut _ o o2.i (s₁.extBut _ o o2.z e))) hy fun h₄ e s₄ he=>?_)
  obtain ⟨oe,hoe,hce⟩:=he;have z₄ : IsZip h₄ z TI TO .ellipsis:=s₄ _ _ D.a4.symm (s₃.extBut _ _ D.a2.symm (s₂.extBut _ _ D.a3.symm z₁));have ez:e≠z:=fun y=>by subst y;rw [z₄] at hoe;cases hoe;simp at hce
  refine Vo z₄ (by simp) fun h₅ _ s₅=>fin h₅ e (fun c o c1 c2 c3 c4 y=>s₅.extBut _ _ c1<|s₄ _ _ c4<|s₃.extBut _ _ c2<|s₂.extBut _ _ c3<|s₁.extBut _ _ c1 y) ⟨oe,s₅.extBut _ _ ez hoe,hce⟩
abbrev zh1 (k1:Sk)(h:Heap)(l1:Addr):Heap:=h.push { cls:=.type k1.nm,data:=.fields #[.ref l1,.int 0 0] }
abbrev zh2 (k1 k2:Sk)(h:Heap)(l1 l2:Addr):Heap:=(zh1 k1 h l1).push { cls:=.type k2.nm,data:=.fields #[.ref l2,.int 0 0] }
abbrev zh3 (k1 k2:Sk)(h:Heap)(l1 l2:Addr):Heap:=(zh2 k1 k2 h l1 l2).push { cls:=.type "tuple",data:=.seq #[.ref h.objs.size,.ref (zh1 k1 h l1).objs.size] }
abbrev zh4 (k1 k2:Sk)(h:Heap)(l1 l2:Addr):Heap:=(zh3 k1 k2 h l1 l2).push { cls:=.type "tuple",data:=.seq #[.none,.none] }
abbrev zh5 (k1 k2:Sk)(h:Heap)(l1 l2:Addr):Heap:=(zh4 k1 k2 h l1 l2).push { cls:=.type "zip",data:=.fields #[.none,.bool false,.bool false,.ref (zh2 k1 k2 h l1 l2).objs.size,.ref (zh3 k1 k2 h l1 l2).objs.size] }
theorem agk (l1 l2:Addr)(xs ys:Array Mk):Meets (RG.«zip.__new__» ⟨[.type "zip",.ref l1,.ref l2],[]⟩) (fun _ R s=>k1.sq s.heap l1 xs/\k2.sq s.heap l2 ys /\
   R (.ok (.ret (.ref (zh4 k1 k2 s.heap l1 l2).objs.size))) { s with heap:=zh5 k1 k2 s.heap l1 l2 }):=
 .of_wp fun prog w A R s h=>by
  obtain ⟨hp,g,d,tk,os⟩:=s;obtain ⟨gl1,gl2,h⟩:=h;have hsub:=sub_zip;have L1:k1.sq (Shared.heap ⟨hp,g,d,tk,os⟩) l1 xs:=gl1;have L2':k2.sq (Shared.heap ⟨hp.push { cls:=.type k1.nm,data:=.fields #[.ref l1,.int 0 0] },g,d,tk,os⟩) l2 ys:=Sk.sq_at gl2 fun o e=>GD _ e
  wp_walk using Sk.iter L1,Sk.iter L2'
  exact ⟨_,rfl,h⟩
theorem zbj {l1 l2:Addr}{xs ys:Array Mk}{Q:Mk->AP->Prop}(gl1:k1.sq s.heap l1 xs)(gl2:k2.sq s.heap l2 ys)
  (q:∀ h',IsZip h' (s.heap.objs.size+4) (s.heap.objs.size+2) (s.heap.objs.size+3) .none->Ng h' (s.heap.objs.size+2) (.ref s.heap.objs.size) (.ref (s.heap.objs.size+1)) ->
   Ng h' (s.heap.objs.size+3) .none .none->k1.it h' s.heap.objs.size l1 0->k2.it h' (s.heap.objs.size+1) l2 0->h'.objs.size=s.heap.objs.size+5 ->
   (∀ c o,s.heap.get? c=FN o->h'.get? c=FN o)->Q (.ref (s.heap.objs.size+4)) { s with heap:=h' }):Cu (Cp P w) A (call (.type "zip") [.ref l1,.ref l2]) Q E s:=by
 refine callType_new PySem.F.called_zip (by decide) (PySem.F.typeCall_zip_2 _ _) (PySem.F.newCall_zip_2 _ _) (fun obj=>PySem.F.args_object_init_3 obj _ _) PySem.F.entry_zip_new (agk (k1:=k1) (k2:=k2) l1 l2 xs ys) ⟨gl1,gl2,?_⟩;have e1:(zh1 k1 s.heap l1).objs.size=s.heap.objs.size+1:=RD ..;have e2:(zh2 k1 k2 s.heap l1 l2).objs.size=s.heap.objs.size+2:=by rw [RD,e1]
 have e3:(zh3 k1 k2 s.heap l1 l2).objs.size=s.heap.objs.size+3:=by rw [RD,e2]
 have e4:(zh4 k1 k2 s.heap l1 l2).objs.size=s.heap.objs.size+4:=by rw [RD,e3]
 have e5:(zh5 k1 k2 s.heap l1 l2).objs.size=s.heap.objs.size+5:=by rw [RD,e4]
 have f5:(zh5 k1 k2 s.heap l1 l2).get? (zh4 k1 k2 s.heap l1 l2).objs.size=FN _:=K4 _ rfl;have f4:(zh5 k1 k2 s.heap l1 l2).get? (zh3 k1 k2 s.heap l1 l2).objs.size=FN _:=GD _ (K4 _ rfl);have f3:(zh5 k1 k2 s.heap l1 l2).get? (zh2 k1 k2 s.heap l1 l2).objs.size=FN _:=GD _ (GD _ (K4 _ rfl));have f2:(zh5 k1 k2 s.heap l1 l2).get? (zh1 k1 s.heap l1).objs.size=FN _:=GD _ (GD _ (GD _ (K4 _ rfl)));have f1:(zh5 k1 k2 s.heap l1 l2).get? s.heap.objs.size=FN _:=GD _ (GD _ (GD _ (GD _ (K4 _ rfl))));show _/\_;rw [e2,e3,e4] at f5;rw [e1,e2] at f3;rw [e3] at f4;rw [e1] at f2;rw [e4];refine ⟨⟨_,f5,rfl⟩,q _ f5 f3 f4 ?_ ?_ e5 fun c o x=>GD _<|GD _<|GD _<|GD _<|GD _ x⟩
 ·cases k1 with
  | l=>exact ⟨_,f1,rfl,rfl⟩
  | t=>exact ⟨_,f1,rfl,rfl⟩
 ·cases k2 with
  | l=>exact ⟨_,f2,rfl,rfl⟩
  | t=>exact ⟨_,f2,rfl,rfl⟩
end
section
variable {X:Cx}{ajd:List (Addr×Obj)}{Z : St}{H:Hp}{s:AP}{h':Heap}
theorem CQ.turnedL {t':Nat}{ch:List Addr}(I:CQ X ajd Z H s)(k:∀ b o,b∉ch->s.heap.get? b=FN o->h'.get? b=FN o)(hf:∀ b∈ch,Er X ajd H b):CQ X ajd Z H { s with heap:=h',toks:=t' }:=by
 have nit:∀ b u,H b=FN u->b∉ch:=fun b u e z=>by rw [(hf b z).1] at e;cases e
 refine I.step (g':=s.gens) (d':=s.drawn) (ch:=ch) (fun b hb=>?_) (fun b o _ _ hc e _=>k b o hc e) (fun b o _ _ hc e _=>⟨o.slots,k b o hc e⟩) (fun _ _ _ _ n=>n)
  (fun b o hc e=>⟨o,k b o hc e⟩) (fun _ _ e=>e) (fun _ _ _ e=>e) (fun b ps e=>⟨#[],by rw [e];simp⟩) (fun m hm=>?_) (fun b u e=>?_) I.bare
 ·obtain ⟨_,f1,_,f3,f4,f5⟩:=hf b hb;exact ⟨f3,f1,f4,f5⟩
 ·obtain ⟨o,es,ep,ho,r⟩:=hm;exact ⟨o,es,ep,k _ o (fun z=>(hf _ z).2.1 rfl) ho,r⟩
 ·refine (I.hok b u e).stay (fun c v hc q=>k c v ?_ q) (fun _ q=>q) fun _ _ q=>q;rcases hc with z | z
  ·rw [z];exact nit b u e
  ·exact nit c _ z
end
def Sk.v (k:Sk)(K:CT)(H:Hp)(a:Addr)(xs:List V):Prop:=match k with
 | .l=>Jy K H a xs
 | .t=>HJ K H a xs
theorem CQ.sk {X:Cx}{ajd:List (Addr×Obj)}{Z : St}{H:Hp}{s:AP}{k:Sk}{a:Addr}{xs:List V}(I:CQ X ajd Z H s)(h:k.v X.K H a xs):∃ its:List Mk,CR xs its/\k.sq s.heap a its.toArray:=by
 cases k with
 | l=>obtain ⟨its,r,p,_⟩:=I.list h;exact ⟨its,r,p.isList⟩
 | t=>obtain ⟨its,r,p,_⟩:=I.tuple h;exact ⟨its,r,p⟩
theorem CQ.sk_inj {X:Cx}{ajd:List (Addr×Obj)}{Z : St}{H:Hp}{s:AP}{k:Sk}{a:Addr}{xs ys:List V}(I:CQ X ajd Z H s)(h:k.v X.K H a xs)(g:k.v X.K H a ys):xs=ys:=by
 cases k with
 | l=>exact I.list_inj h g
 | t=>exact I.tuple_inj h g
def Itz (K:CT)(k1 k2:Sk)(l1 l2:Addr):It:=
  ⟨fun i H=>∃ xs ys x y,k1.v K H l1 xs/\k2.v K H l2 ys/\xs[i]?=FN x/\ys[i]?=FN y,
   fun i H v H'=>∃ p x y,H p=FX/\v=.ref p/\H'=FQ H p (.tup [x,y])/\(∀ xs,k1.v K H l1 xs->xs[i]?=FN x)/\∀ ys,k2.v K H l2 ys->ys[i]?=FN y,
   fun i H=>∃ xs ys,k1.v K H l1 xs/\k2.v K H l2 ys/\(xs.length<=i\/ys.length<=i),true⟩
def aaO (k1 k2:Sk)(z TI TO i1 i2 l1 l2:Addr)(n:Nat)(h:Heap):Prop:=IsZip h z TI TO .none/\Ng h TI (.ref i1) (.ref i2)/\(∃ a b,Ng h TO a b)/\k1.it h i1 l1 n/\k2.it h i2 l2 n
variable {elts : List Expr}
theorem ahd {P:Ei}{w:Dq}{K:CT}{pos:Pos}{k1 k2:Sk}{z TI TO i1 i2 l1 l2:Addr}(D:Zap z TI TO i1 i2)(o1:Off l1 z TO i1 i2)(o2:Off l2 z TO i1 i2):
  Turn P w K (.Tuple elts kt pos) (Itz K k1 k2 l1 l2) [z,TI,TO,i1,i2] z (aaO k1 k2 z TI TO i1 i2 l1 l2) where
 mem:=by simp
 obj:=fun i h st b hb=>by
  obtain ⟨gz,gI,⟨a,b',gO⟩,g1,g2⟩:=st;simp only [Ge,M7,or_false] at hb;rcases hb with rfl | rfl | rfl | rfl | rfl
  ·exact ⟨_,gz,fun v y=>by cases y⟩
  ·exact ⟨_,gI,fun v y=>by cases y⟩
  ·exact ⟨_,gO,fun v y=>by cases y⟩
  ·obtain ⟨o,e,_,d⟩:=Sk.it_obj g1;exact ⟨o,e,fun v y=>by rw [d] at y;cases y⟩
  ·obtain ⟨o,e,_,d⟩:=Sk.it_obj g2;exact ⟨o,e,fun v y=>by rw [d] at y;cases y⟩
 keep:=fun i h h' st k=>by
  obtain ⟨gz,gI,⟨a,b,gO⟩,g1,g2⟩:=st;exact ⟨k z (by simp) _ gz,k TI (by simp) _ gI,⟨a,b,k TO (by simp) _ gO⟩,Sk.it_at g1 fun o e=>k i1 (by simp) o e,Sk.it_at g2 fun o e=>k i2 (by simp) o e⟩
 item:=by
  intro X hP hw hK hc i ajd s Z H E I hf st hg;subst hP hw hK;obtain ⟨gz,gI,⟨a,b,gO⟩,g1,g2⟩:=st;obtain ⟨xs,ys,x,y,hx,hy,ex,ey⟩:=hg;obtain ⟨its,r1,p1⟩:=I.sk hx;obtain ⟨jts,r2,p2⟩:=I.sk hy;obtain ⟨u,hu,ru⟩:=r1.get ex;obtain ⟨v,hv,rv⟩:=r2.get ey;refine ahX D o1 o2 gz gI gO g1 g2 p1 p2 (x:=u) (y:=v) (by simpa using hu) (by simpa using hv) fun h1 z1 O1 g1' g2' T1 size1 all1=>⟨_,rfl,?_⟩;have pz:s.heap.objs.size≠z:=Ml (G9 gz);have lt:∀ b∈[z,TI,TO,i1,i2],s.heap.objs.size≠b:=fun b hb=>by
   simp only [Ge,M7,or_false] at hb;rcases hb with rfl | rfl | rfl | rfl | rfl
   ·exact pz
   ·exact Ml<|G9 gI
   ·exact Ml<|G9 gO
   ·obtain ⟨o,e,_⟩:=Sk.it_obj g1;exact Ml (G9 e)
   ·obtain ⟨o,e,_⟩:=Sk.it_obj g2;exact Ml (G9 e)
  have all:∀ c o,c∉[z,TI,TO,i1,i2]->s.heap.get? c=FN o->h1.get? c=FN o:=fun c o hc e=>
   all1 c o (fun q=>hc (by simp [q])) (fun q=>hc (by simp [q])) (fun q=>hc (by simp [q])) (fun q=>hc (by simp [q])) e
  refine wpAny_letOwnedTupleGo_zip (s:={ s with heap:=h1 }) z1 fun h2 z2 sb=>?_;have fr:H s.heap.objs.size=FX:=I.hok.fresh (Dg _);have I1:CQ X ajd Z (FQ H s.heap.objs.size (.tup [x,y])) { s with heap:=s.heap.push { cls:=.type "tuple",data:=.seq #[u,v] } }:=
   I.laid (t':=s.toks) (fun b o e=>GD _ e) (Dg _) ⟨(by show 2<=FP;decide),[u,v],.cons ru (.cons rv .nil),⟨_,K4 _ rfl,rfl,⟨_,rfl⟩,rfl⟩⟩
  have hf1:∀ b∈[z,TI,TO,i1,i2],Er X ajd (FQ H s.heap.objs.size (.tup [x,y])) b:=fun b hb=>⟨by rw [aO (Ji (lt b hb))];exact (hf b hb).1,(hf b hb).2⟩
  have I2:CQ X ajd Z (FQ H s.heap.objs.size (.tup [x,y])) { s with heap:=h2 }:=by
   refine CQ.turnedL (s:={ s with heap:=s.heap.push { cls:=.type "tuple",data:=.seq #[u,v] } }) (h':=h2) (t':=s.toks) (ch:=[z,TI,TO,i1,i2]) I1 (fun b o hb e=>?_) hf1;have bz:b≠z:=fun q=>hb (by simp [q])
   rcases Heap.get?_push_cases e with ⟨rfl,rfl⟩ | e'
   ·exact sb.extBut _ _ bz T1
   ·exact sb.extBut _ _ bz<|all b o hb e'
  refine ⟨.ref s.heap.objs.size,_,I2,rfl,⟨s.heap.objs.size,x,y,fr,rfl,rfl,fun xs' q=>by rw [I.sk_inj q hx];exact ex,fun ys' q=>by rw [I.sk_inj q hy];exact ey⟩,?_,fun b hb=>(hf1 b hb).1⟩;exact ⟨z2,sb.extBut _ _ D.a1<|all1 _ _ D.a1 D.a5 D.a6 D.a7 gI,⟨u,v,sb.extBut _ _ D.a2 O1⟩,Sk.it_at g1' fun o e=>sb.extBut _ o D.a3 e,Sk.it_at g2' fun o e=>sb.extBut _ o D.a4 e⟩
 done:=by
  intro X hP hw hK hc i ajd s Z H E I hf st hg;subst hP hw hK;obtain ⟨gz,gI,⟨a,b,gO⟩,g1,g2⟩:=st;obtain ⟨xs,ys,hx,hy,hend⟩:=hg;obtain ⟨its,r1,p1⟩:=I.sk hx;obtain ⟨jts,r2,p2⟩:=I.sk hy;have l1:=r1.length;have l2:=r2.length;refine zaS (I.ok.hd<|hc rfl) D o1 o2 gz gI gO g1 g2 p1 p2 (hend.imp (fun q=>by simp;lia) fun q=>by simp;lia) fun h1 all1=>⟨rfl,I.turnedL (t':=s.toks) (ch:=[z,TI,TO,i1,i2]) (fun c o hc e=>?_) hf⟩;exact all1 c o (fun q=>hc<|by simp [q]) (fun q=>hc<|by simp [q]) (fun q=>hc<|by simp [q]) (fun q=>hc<|by simp [q]) e
 self:=fun _ _ _ _ _ st h=>wpAny_pyIter_zip st.1 h
section
variable {X:Cx}{K:CT}
def sqk (K:CT)(H:Hp)(x:V)(k:Sk)(a:Addr):Prop:=x=.ref a/\∃ xs,k.v K H a xs
def acK (K:CT)(ta:TA):TI:=fun Z H R=>ta Z H fun vs H1=>∃ x y k1 k2 a b,vs=[x,y]/\sqk K H1 x k1 a/\sqk K H1 y k2 b/\R (Itz K k1 k2 a b) H1
theorem Sk.sq_lt {k:Sk}{h:Heap}{a:Addr}{its:Array Mk}(x:k.sq h a its):a<h.objs.size:=by
 cases k with
 | l=>obtain ⟨o,e,_⟩:=x;exact G9 e
 | t=>obtain ⟨o,e,_⟩:=x;exact G9 e
theorem lQ {a b:Nat}(h:a≠b):(show Addr from a)≠(show Addr from b):=h
theorem Yk (n:Nat):Zap (n+4) (n+2) (n+3) n (n+1) where
 a1:=lQ (show n+2≠n+4 by lia)
 a2:=lQ (show n+3≠n+4 by lia)
 a3:=lQ (show n≠n+4 by lia)
 a4:=lQ (show n+1≠n+4 by lia)
 a5:=lQ (show n+2≠n+3 by lia)
 a6:=lQ (show n+2≠n by lia)
 a7:=lQ (show n+2≠n+1 by lia)
 a8:=lQ (show n+3≠n by lia)
 a9:=lQ (show n+3≠n+1 by lia)
 b1:=lQ (show n≠n+1 by lia)
theorem Qa {a n:Nat}(h:a<n):Off a (n+4) (n+3) n (n+1) where
 z:=lQ (show a≠n+4 by lia)
 o:=lQ (show a≠n+3 by lia)
 i:=lQ (show a≠n by lia)
 j:=lQ (show a≠n+1 by lia)
theorem aaw {n c:Nat}(h:c∈([n+4,n+2,n+3,n,n+1]:List Nat)):n<=c:=by
 simp only [Ge,M7,or_false] at h;lia
theorem agD {e1 e2:Expr}{ta:TA}{p pos tpos:Pos}(hg:Gl X "zip")(hm:X.mg "zip" = FX)(ha:PA X [e1,e2] ta)
  (hs:Fo [e1,e2] X.env=(false,eval e1 X.env)::Fo [e2] X.env:=by rfl) (hpl:(K5 pos (Fo [e2] X.env)).any (·.1)=false:=by rfl) :
  PI X (.Tuple elts kt tpos) (.Call (.Name "zip" p) [e1,e2] [] pos) (acK X.K ta):=by
 intro ajd s Z H R I h;refine Vn<|ou I hg hm boot_zip ?_ (by decide)<|by decide
 refine Vq (Fz (ha pos ajd s Z H _ I h) fun us s1 ⟨vs,H1,I1,r1,q1⟩=>?_) hs hpl;obtain ⟨x,y,k1,k2,a,b,ev,⟨ex,xs,hx⟩,⟨ey,ys,hy⟩,q⟩:=q1;subst ev ex ey;obtain ⟨u1,u2,eu,ru1,ru2⟩:=vals2 r1;subst eu;cases ru1;cases ru2;obtain ⟨its,r1,p1⟩:=I1.sk hx;obtain ⟨jts,r2,p2⟩:=I1.sk hy;have la:=Sk.sq_lt p1;have lb:=Sk.sq_lt p2;refine zbj p1 p2 fun h' gz gI gO g1 g2 size all=>?_;refine wpAny_pyIter_zip gz ?_;have I2:CQ X ajd Z H1 { s1 with heap:=h' }:=I1.kept (t':=s1.toks) all;generalize hn:s1.heap.objs.size=n at gz gI gO g1 g2 size la lb |-
 refine ⟨n+4,[n+4,n+2,n+3,n,n+1],_,_,H1,rfl,I2,ahd (Yk n) (Qa la)<|Qa lb,⟨gz,gI,⟨_,_,gO⟩,g1,g2⟩,fun c hc=>?_,q⟩;have hc':n<=c:=aaw hc;exact I1.fpOk (by rw [hn];exact hc')<|I1.hok.fresh (by rw [hn];exact hc')
def pJ:List W->List W->List W
 | a::as,b::bs=>.tup [a,b]::pJ as bs
 | _,_=>[]
theorem ud:∀ {as bs:List W} {i:Nat} {w:W},(pJ as bs)[i]?=FN w->∃ a b,as[i]?=FN a/\bs[i]?=FN b/\w=.tup [a,b]
 | [],_,_,_,e=>by simp [pJ] at e
 | _::_,[],_,_,e=>by simp [pJ] at e
 | a::as,b::bs,0,w,e=>by
  have e:FN (W.tup [a,b])=FN w:=e;exact ⟨a,b,rfl,rfl,(Gz e).symm⟩
 | a::as,b::bs,i+1,w,e=>by
  obtain ⟨x,y,h1,h2,h3⟩:=ud (as:=as) (bs:=bs) (i:=i) (w:=w) (by simpa [pJ] using e);exact ⟨x,y,by simpa using h1,by simpa using h2,h3⟩
theorem tZ:∀ {as bs:List W},(pJ as bs).length=min as.length bs.length
 | [],bs=>by simp [pJ]
 | _::_,[]=>by simp [pJ]
 | a::as,b::bs=>by rw [pJ,K7,tZ,K7,K7];lia
def rA:W->Option (List W)
 | .tup ws=>FN ws
 | .lst ws=>FN ws
 | .kls ws=>FN ws
 | _=>FX
theorem Ab {H:Hp}{w:W}{v:V}(r:CK K H μ w v)(e:rA w=FN ws):∃ k a,v=.ref a/\∀ {H2:Hp} {μ2:Mu},Ik K H μ H2 μ2->∃ xs,Sk.v k K H2 a xs/\aM K H2 μ2 ws xs:=by
 cases w with
 | tup us=>
  cases (show FN us=FN ws from e)
  have r0:=r;rw [CK] at r;obtain ⟨p,xs,ev,hs,rs⟩:=r;subst ev;refine ⟨.t,p,rfl,fun {H2 μ2} x=>?_⟩;have r2:=x.r _ _ r0;rw [CK] at r2;obtain ⟨q,ys,ev,hs,rs⟩:=r2;cases ev;exact ⟨ys,hs,rs⟩
 | lst us=>
  cases (show FN us=FN ws from e)
  have r0:=r;rw [CK] at r;obtain ⟨p,xs,ev,hs,rs⟩:=r;subst ev;refine ⟨.l,p,rfl,fun {H2 μ2} x=>?_⟩;have r2:=x.r _ _ r0;rw [CK] at r2;obtain ⟨q,ys,ev,hs,rs⟩:=r2;cases ev;exact ⟨ys,hs.sq,rs⟩
 | kls us=>
  cases (show FN us=FN ws from e)
  have r0:=r;rw [CK] at r;obtain ⟨p,xs,ev,hs,rs⟩:=r;subst ev;refine ⟨.l,p,rfl,fun {H2 μ2} x=>?_⟩;have r2:=x.r _ _ r0;rw [CK] at r2;obtain ⟨q,ys,ev,hs,rs⟩:=r2;cases ev;exact ⟨ys,hs.sq,rs⟩
 | _=>cases e
def Oh (h:Gh)(x y:W):Option Src:=match rA x,rA y with
 | some as,FN bs=>FN ⟨pJ as bs,FX⟩
 | none,FN bs=>(match x with
  | .loc n=>(match h.c n with
   | some (.lst as)=>FN ⟨pJ as bs,FN (n,as)⟩
   | _=>FX)
  | _=>FX)
 | _,_=>FX
theorem aia {H:Hp}{h:Gh}{w:W}{v:V}{o:Option (Nat×List W)}(R:Ej K μ H h)(r:CK K H μ w v)(e:(rA w=FN ws/\o=FX)\/∃ n,w=.loc n/\h.c n=FN (.lst ws)/\o=FN (n,ws)):
  ∃ k a,v=.ref a/\∀ {H2:Hp} {μ2:Mu} {h2:Gh},Ik K H μ H2 μ2->Ej K μ2 H2 h2->Src.chk ⟨ws,o⟩ h2->∃ xs,Sk.v k K H2 a xs/\aM K H2 μ2 ws xs:=by
 rcases e with ⟨e,rfl⟩ | ⟨n,rfl,ec,rfl⟩
 ·obtain ⟨k,a,ev,f⟩:=Ab r e;exact ⟨k,a,ev,fun x _ _=>f x⟩
 ·have r0:=r;rw [CK] at r;obtain ⟨p,ev,hm⟩:=r;subst ev;refine ⟨.l,p,rfl,fun {H2 μ2 h2} x R2 ck=>?_⟩;have r2:=x.r _ _ r0;rw [CK] at r2;obtain ⟨q,eq,hm2⟩:=r2;cases eq;obtain ⟨p',xs,hm',hx,rs⟩:=R2.lstAt (show h2.c n=FN (.lst ws) from ck);have ep:p'=p:=by rw [hm2] at hm';exact (Gz hm').symm
  subst ep;exact ⟨xs,.of hx,rs⟩
theorem ahZ {h:Gh}{x y:W}{s:Src}(e:Oh h x y=FN s):∃ as bs o,s=⟨pJ as bs,o⟩/\((rA x=FN as/\o=FX)\/∃ n,x=.loc n/\h.c n=FN (.lst as)/\o=FN (n,as))/\rA y=FN bs:=by
 unfold Oh at e;split at e
 ·rename_i as bs ea eb;exact ⟨as,bs,FX,(Gz e).symm,.inl ⟨ea,rfl⟩,eb⟩
 ·rename_i bs ea eb;split at e
  ·split at e
   ·rename_i n _ as ec;exact ⟨as,bs,_,(Gz e).symm,.inr ⟨n,rfl,ec,rfl⟩,eb⟩
   ·cases e
  ·cases e
 ·cases e
def Zb (ma:MA):MI:=fun Z h R=>ma Z h fun ws h1=>match ws with
 | [x,y]=>(match Oh h1 x y with
  | some s=>R s h1
  | none=>False)
 | _=>False
theorem Oj {e1 e2:Expr}{p pos tpos:Pos}(hg:Gl X "zip")(hm:X.mg "zip" = FX)(ha:Kq X [e1,e2] mr)
  (hs:Fo [e1,e2] X.env=(false,eval e1 X.env)::Fo [e2] X.env:=by rfl) (hpl:(K5 pos (Fo [e2] X.env)).any (·.1)=false:=by rfl) :
  RM X (.Tuple elts kt tpos) (.Call (.Name "zip" p) [e1,e2] [] pos) (Zb mr):=PI.of (agD hg hm ha hs hpl) fun Z H Q ⟨μ,h,Zw,Rw,R,S,m,k⟩=>by
 refine ⟨μ,h,Zw,_,R,S,m,fun vs H1 ⟨μ1,ws,h1,e1,R1,r1,m1⟩=>?_⟩;split at m1
 ·split at m1
  ·rename_i x y _ s es;obtain ⟨as,bs,o,rfl,ea,eb⟩:=ahZ es;obtain ⟨v,u,ev,rv,ru⟩:=Ea r1;obtain ⟨ka,a,e3,fa⟩:=aia R1 rv ea;obtain ⟨kb,b,e4,fb⟩:=Ab ru eb;have ck1:Src.chk ⟨as,o⟩ h1:=by
    rcases ea with ⟨_,rfl⟩ | ⟨n,_,ec,rfl⟩
    ·exact trivial
    ·exact ec
   obtain ⟨xs,hxs,_⟩:=fa .refl R1 ck1;obtain ⟨ys,hys,_⟩:=fb .refl;refine ⟨v,u,ka,kb,a,b,ev,⟨e3,xs,hxs⟩,⟨e4,ys,hys⟩,k _ _ ⟨μ1,⟨pJ as bs,o⟩,h1,e1,R1,?_,m1⟩⟩;intro H2 μ2 h2 i e2 R2 ck;obtain ⟨xs2,hxs2,rxs⟩:=fa e2 R2 ck;obtain ⟨ys2,hys2,rys⟩:=fb e2;refine ⟨fun w ew=>?_,fun hl=>⟨xs2,ys2,hxs2,hys2,?_⟩⟩
   ·obtain ⟨p1,p2,ep1,ep2,rfl⟩:=ud ew;obtain ⟨q1,eq1,rq1⟩:=rxs.get ep1;obtain ⟨q2,eq2,rq2⟩:=rys.get ep2;refine ⟨⟨xs2,ys2,q1,q2,hxs2,hys2,eq1,eq2⟩,fun x' H3 ⟨pa,x1,x2,hp,ex',eH3,f1,f2⟩=>?_⟩;have g1:=f1 xs2 hxs2;have g2:=f2 ys2 hys2;rw [eq1] at g1;rw [eq2] at g2;cases g1;cases g2;subst ex' eH3;exact ⟨μ2,(Ex.laid hp).ext,R2.laid hp,.tupNew hp<|.cons rq1<|.one rq2⟩
   ·have l1:=rxs.len;have l2:=rys.len;have:min as.length bs.length<=i:=by rw [<-tZ];exact hl
    lia
  ·exact m1.elim
 ·exact m1.elim
end
variable {e1 e2 : Expr}
section
variable {X:Cx}{K:CT}
theorem xY:∀ {ns:List Int} {its:List Mk} {i:Nat} {v:Mk},CR (ns.map V.int) its->its[i]?=FN v->∃ t,v=.int (ns.getD i 0) t
 | [],_,_,_,.nil,e=>by simp at e
 | n::ns,_,0,_,.cons r _,e=>by
  simp at e;subst e;exact r
 | _::ns,_,i+1,v,.cons _ t,e=>by
  obtain ⟨t',h⟩:=xY (i:=i) (v:=v) t (by simpa using e);exact ⟨t',by simpa using h⟩
def u6:List W->Option (List Int)
 | []=>FN []
 | .int i::ws=>(u6 ws).map (i::·)
 | _=>FX
theorem Bx {H:Hp}{μ : Mu}:∀ {ws:List W} {xs:List V} {ns:List Int},aM K H μ ws xs->u6 ws=FN ns->xs=ns.map V.int
 | [],xs,ns,r,e=>by
  rw [aM] at r;cases (show FN []=FN ns from e)
  exact r
 | w::ws,xs,ns,r,e=>by
  rw [aM] at r;obtain ⟨v,vr,ev,ra,r⟩:=r;cases w with
  | int b=>
   rw [CK] at ra;rw [u6] at e;cases q:u6 ws with
   | none=>rw [q] at e;cases e
   | some cs=>
    rw [q] at e;cases (show FN (b::cs)=FN ns from e)
    rw [ev,ra,Bx r q];rfl
  | _=>cases e
def ab7:MC:=fun ws h Q=>match ws with
 | [w]=>(match dM h w with
  | some us=>(match u6 us with
   | some ns=>Q (.int ns.sum) h
   | none=>False)
  | none=>False)
 | _=>False
end
section
variable {P:Ei}{w:Dq}{A:FZ}{E:Mk->AP->Prop}{s:AP}
end
section
variable {X:Cx}{K:CT}
end
section
variable {X:Cx}
def aaL (i j k:Nat)(ta:MA):MS:=fun D Z h=>ta Z h fun ws h1=>match ws with
 | [a,b,c]=>D.nx (((Z.set i (FN a)).set j (FN b)).set k (FN c)) h1
 | _=>False
end
section
variable {X:Cx}{K:CT}
end
theorem abd {K:CT}{H:Hp}:aM K H μ [] []:=by rw [aM]
theorem Uu {K:CT}{H:Hp}{i:Int}:CK K H μ (.int i) (.int i):=by rw [CK]
theorem Q9 {K:CT}{H:Hp}{i:Str}:CK K H μ (.str i) (.str i):=by rw [CK]
theorem RB {i:Str}{t}:RelV (.str i) (.str i t):=⟨t,rfl⟩
section
variable {prog:Ei}{w:Dq}{A:FZ}{E:Mk->AP->Prop}{s:AP}
theorem wJ {it t:Addr}{items:Array Mk}(hne:t≠it):∀ (n i:Nat) (s:AP) (Q:List Mk->AP->Prop),s.heap.IsListIter it t i->s.heap.IsList t items->i+n<=items.size ->
  (∀ h',h'.IsListIter it t (i+n)->U8 it s.heap h'->Q ((items.toList.drop i).take n) { s with heap:=h' })->Cu (Cp prog w) A (draw (.ref it) n) Q E s
 | 0,i,s,Q,hit,_,_,hQ=>by
  show Cu _ _ (pure []) Q E s;exact Cz<|by simpa using hQ s.heap hit (Heap.SameBut.refl ..)
 | n+1,i,s,Q,hit,ht,hle,hQ=>by
  have hlt:i<items.size:=by lia
  show Cu _ _ (Nh (.ref it) >>= _) Q E s;refine CN<|wpAny_pyNext_list_item hit ht (x:=items[i]) (by simp [hlt]) fun h1 hit1 hs1=>?_
  refine CN<|NK<|wJ hne n (i+1) _ _ hit1 (ht.at fun o e=>hs1.extBut _ o hne e) (by lia) fun h2 hit2 hs2=>Cz ?_
  have hd:items.toList.drop i=items[i]::items.toList.drop (i+1):=by simp [Ut,hlt]
  have:=hQ h2 (by rw [show i+(n+1)=i+1+n by lia];exact hit2) (hs1.trans hs2)
  rw [hd,List.take_succ_cons] at this;exact this
theorem oO {t:Addr}{items:Array Mk}{Q:List Mk->AP->Prop}(hh:A.handled=FX)(ht:s.heap.IsList t items)
  (hQ:∀ h',VH s.heap.objs.size s.heap h'->Q items.toList { s with heap:=h' }):Cu (Cp prog w) A (unpackItems (.ref t) items.size FX) Q E s:=by
 have hlt:t≠s.heap.objs.size:=by obtain ⟨o,ho,_⟩:=ht;exact Gq (G9 ho)
 unfold unpackItems;refine CN ?_
 ·unfold notIterableAtAll;refine CN<|wpAny_specialOf ht.typeIs slot_list_iter.lookup ?_
  refine Cz ?_;simp only [R8,if_false];refine CN<|NK<|wpAny_pyIter_list ht ?_
  refine CN<|NK<|wJ hlt items.size 0 _ _ ⟨_,K4 _ rfl,rfl,rfl⟩ (ht.at fun o e=>GD _ e) (by lia) fun h1 hit1 hs1=>?_
  have hall:List.take items.size (List.drop 0 items.toList)=items.toList:=by
   rw [List.drop_zero];exact Vw (by simp)
  rw [hall];rw [if_neg (by simp)];have ht1:h1.IsList t items:=ht.at fun o e=>hs1.extBut _ o hlt (GD _ e)
  refine CN<|NK<|wpAny_pyNext_list_end hh hit1 ht1 (by simp) fun h2 he2=>?_
  simp only [Option.isSome_none,R8,if_false];refine Cz<|hQ h2 fun b o hb e=>he2 b o hb<|hs1.extBut b o hb<|GD _ e
theorem nF {x1}{pos:Pos}{t:Addr}{items:Array Mk}{Q:Unit->AP->Prop}(hh:A.handled=FX)(ht:s.heap.IsList t items)
  (hn:(Li elts env).length=items.size) (hstar:(Li elts env).findIdx? (·.1)=FX)
  (h:∀ h',VH s.heap.objs.size s.heap h'->Cu (Cp prog w) A (assignInOrder ((Li elts env).map (·.2)) items.toList) Q E { s with heap:=h' }) :
  Cu (Cp prog w) A (assign (.Tuple elts x1 pos) env (.ref t)) Q E s:=by
 rw [assign_Tuple];refine CN<|wpAny_standAt ?_
 unfold unpack;rw [hn,hstar];exact CN<|NK<|oO hh ht h
end
section
variable {X:Cx}{pos:Pos}
def abn (K:CT)(n:Nat)(t:RK):TG:=fun v Z H Q=>∃ a xs,v=.ref a/\(HJ K H a xs\/Jy K H a xs)/\xs.length=n/\t xs Z H Q
theorem aeW {es:List Expr}{k:Nat}{t:RK}{n:Nat}(hc:X.calm=true)(h:S5 X es t)
  (hn:(Li es X.env).length=n:=by rfl) (hst:(Li es X.env).findIdx? (·.1)=FX:=by rfl):PG X (.Tuple es k pos) (abn X.K n t):=by
 intro ajd s Z H v u Q I r hw;obtain ⟨a,xs,e1,hq,hl,hw⟩:=hw;subst e1;cases r;rcases hq with hq | hq
 ·obtain ⟨its,rv,ht,hz⟩:=I.tuple hq;refine assign_Tuple_tuple (I.ok.hd hc) ht (by simp [hn,<-hl,rv.length]) hst fun h' hx=>?_;have I1:CQ X ajd Z H { s with heap:=h' }:=I.kept (t':=s.toks) fun b o e=>hx b o (Gq (G9 e)) e
  exact h ajd _ Z H xs _ Q I1 (by simpa using rv) hw
 ·obtain ⟨its,rv,ht,hz⟩:=I.list hq;refine nF (I.ok.hd hc) ht.isList (by simp [hn,<-hl,rv.length]) hst fun h' hx=>?_;have I1:CQ X ajd Z H { s with heap:=h' }:=I.kept (t':=s.toks) fun b o e=>hx b o (Gq (G9 e)) e
  exact h ajd _ Z H xs _ Q I1 (by simpa using rv) hw
def jr (n:Nat)(g:QL):MG:=fun w Z h N=>match w with
 | .tup ws=>Jr (M4 ws.length n) (g ws Z h N) False
 | .lst ws=>Jr (M4 ws.length n) (g ws Z h N) False
 | .loc j=>(match h.c j with
  | some (.lst ws)=>Jr (M4 ws.length n) (g ws Z h N) False
  | _=>False)
 | _=>False
theorem fP {es:List Expr}{k:Nat}{g:QL}{n:Nat}(hc:X.calm=true)(h:Zn X es g)(hn:(Li es X.env).length=n:=by rfl)(hst:(Li es X.env).findIdx? (·.1)=FX:=by rfl):DG X (.Tuple es k pos) (jr n g):=
 (aeW (n:=n) hc h hn hst).of fun v Z H N ⟨μ,h,Zw,w,Nw,R,S,r,m,k⟩=>by
  cases w with
  | tup ws=>
   rw [CK] at r;obtain ⟨p,xs,e1,hs,hr⟩:=r;have m:Jr (M4 ws.length n) (g ws Zw h Nw) False:=m;cases en:M4 ws.length n with
   | true=>rw [en] at m;exact ⟨p,xs,e1,.inl hs,by rw [<-hr.len];exact Wj en,μ,h,Zw,ws,Nw,R,S,hr,m,k⟩
   | false=>rw [en] at m;exact (show False from m).elim
  | lst ws=>
   rw [CK] at r;obtain ⟨p,xs,e1,hs,hr⟩:=r;have m:Jr (M4 ws.length n) (g ws Zw h Nw) False:=m;cases en:M4 ws.length n with
   | true=>rw [en] at m;exact ⟨p,xs,e1,.inr hs.sq,by rw [<-hr.len];exact Wj en,μ,h,Zw,ws,Nw,R,S,hr,m,k⟩
   | false=>rw [en] at m;exact (show False from m).elim
  | loc j=>
   have m:(match h.c j with
    | some (.lst ws)=>Jr (M4 ws.length n) (g ws Zw h Nw) False
    | _=>False):=m
   split at m
   ·rename_i ws ec;obtain ⟨p,xs,e1,hs,hr⟩:=cR R r (show dM h (.loc j)=FN ws by simp only [dM,ec]);cases en:M4 ws.length n with
    | true=>rw [en] at m;exact ⟨p,xs,e1,.inr hs,by rw [<-hr.len];exact Wj en,μ,h,Zw,ws,Nw,R,S,hr,m,k⟩
    | false=>rw [en] at m;exact (show False from m).elim
   ·exact m.elim
  | _=>exact m.elim
end
section
variable {K:CT}{H:Hp}{h:Gh}{p:Addr}{xs:List V}
end
def abV (Q:WK):WK:=fun w h=>match w with
 | .lst ws=>Q (.loc h.nx) (h.new (.lst ws))
 | _=>False
def acz (own:W->Option (List W))(ix:List Nat)(mi:MI)(tt:MT)(te:ME):ME:=fun Z h Q=>Hi own ix mi tt te Z h (abV Q)
section
variable {X:Cx}{tg iter:Expr}{pos:Pos}{scope:Scope}{xs:List Str}
end
def Fw:Expr->Bool
 | .Starred _ _=>true
 | _=>false
theorem bU {e:Expr}{es:List Expr}(h:Fw e=false):Fo (e::es) env=(false,eval e env)::Fo es env:=by
 cases e <;> first | rfl | cases h
theorem Pz {e:Expr}(h:Fw e=false):Fo [e] env=[(false,eval e env)]:=(bU h).trans rfl
def noStar:List Expr->Bool
 | []=>true
 | e::r=>!Fw e&&noStar r
theorem d7 {pos:Pos}{env:Env}:∀ {es:List Expr},noStar es=true->(K5 pos (Fo es env)).any (·.1)=false
 | [],_=>rfl
 | e::r,h=>by
  rw [noStar,Nk,Bool.not_eq_true'] at h;rw [bU h.1];show (false||(K5 pos (Fo r env)).any (·.1))=false;rw [d7 h.2];rfl
theorem yG {ajf:Pos}{e:Expr}(h:Fw e=false):((K5 ajf (Fo [e] env)).all (fun x=>!x.1)&&(backToKw ajf (TY [] env)).all (fun x=>x.1.isSome)
   && decide (([e]:List Expr).length+([]:List Mv).length+(if ([]:List Mv).isEmpty then 0 else 1)<30))=true:=by
 rw [Pz h];rfl
section
variable {prog:Ei}{w:Dq}{A:FZ}{E:Mk->AP->Prop}{s:AP}
open HT in
theorem kE {t sl:Addr}{items:Array Mk}{vl vu:Mk}{lo hi:Option Int}{Q:Mk->AP->Prop}(ht:IsTup s.heap t items)(hs:s.heap.IsSliceOf sl vl vu .none)(pl:IsPart vl lo)(pu:IsPart vu hi)
  (h0:sIx items.size 0 lo=0) (h1:sIx items.size items.size hi=items.size) (h:Q (.ref t) s):Cu (Cp prog w) A (getItem (.ref t) (.ref sl)) Q E s:=by
 obtain ⟨os,hos,hcs,hds⟩:=id hs;have hTs:s.TypeIs (.ref sl) "slice":=⟨os,hos,hcs⟩
 unfold getItem;try with_reducible refine NK ?_
 first | refine CN (Cz ?_) | skip
 refine CN<|wpAny_sequenceKey ht.typeIs (by decide) ?_
 refine CN (T7 (name:=Sx "__getitem__") ht.typeIs Vs
  (R7 Vs ht.typeIs entry_tuple_getitem ?_ (args_tuple_getitem _ _)))
 show Cu _ _ (Builtin.Tuple.tupleItemsOf (.ref t) >>= _) _ _ s;refine CN<|tupleItemsOf_ ht ?_
 refine CN<|Qn hTs ?_
 rw [if_pos (by decide)];refine CN<|iQ hs pl pu ?_
 have hyes:((((sIx items.size 0 lo:Nat):Int)==0&&(1:Int)==1&&(sIx items.size items.size hi - sIx items.size 0 lo)==items.size)=true):=by
  rw [h0,h1];simp
 show Cu _ _ (if (((sIx items.size 0 lo:Nat):Int)==0&&(1:Int)==1&&(sIx items.size items.size hi - sIx items.size 0 lo)==items.size)=true then _ else _) _ _ s;rw [if_pos hyes];unfold Builtin.Tuple.tupleIsExact;refine CN<|CN<|Qn ht.typeIs<|Cz ?_
 rw [if_pos (by decide)];refine CN<|Nj ?_
 first
  | exact Cz ⟨_,rfl,Cz h⟩
  | exact CN (Cz (Cz ⟨_,rfl,Cz h⟩))
end
section
variable {X:Cx}
def acu (K:CT):V->Option Int->Option Int->Hp->VK->Prop:=fun x lo hi H Q=>∃ a xs,x=.ref a/\HJ K H a xs /\
 HT.sIx xs.length 0 lo=0/\HT.sIx xs.length xs.length hi=xs.length/\Q x H
theorem zaX:RL X (acu X.K):=by
 intro ajd s Z H x v vl vu lo hi sl Q I rx hs pl pu h;obtain ⟨a,xs,rfl,hx,h0,h1,q⟩:=h;cases rx;obtain ⟨its,r,ht,hz⟩:=I.tuple hx;have aje:its.toArray.size=xs.length:=by rw [Jl];exact r.length.symm
 refine ⟨"tuple",_,Vs.lookup,ht.typeIs,?_⟩;refine kE ht hs pl pu (by rw [aje];exact h0) (by rw [aje];exact h1) ?_;exact ⟨.ref a,H,I,rfl,q⟩
def YK (x:W)(lo hi:Option Int)(h:Gh)(Q:WK):Prop:=match x with
 | .tup ws=>Q (.tup (Bh ws lo hi)) h
 | x=>(match dM h x with
  | some ws=>Q (.lst (Bh ws lo hi)) h
  | none=>False)
theorem T4 {e:Expr}{lo hi:Option Expr}{ml mh:MO}{p2 pos:Pos}(he:DE X e ma)(hl:DO X lo ml)(hu:DO X hi mh):DE X (.Subscript e (.Slice lo hi FX p2) pos) (mSl YK ma ml mh):=
 (aeK (RL.or (RL.or ahe ahB) zaX) he hl hu).of fun Z H Q ⟨μ,h,Zw,Qw,R,S,m,k⟩=>by
  refine ⟨μ,h,Zw,_,R,S,m,fun x H1 ⟨μ1,wx,h1,e1,R1,r1,m1⟩=>?_⟩;refine ⟨μ1,h1,Zw,_,R1,S.ext e1,m1,fun lo H2 ⟨μ2,h2,e2,R2,m2⟩=>?_⟩;refine ⟨μ2,h2,Zw,_,R2,(S.ext e1).ext e2,m2,fun hi H3 ⟨μ3,h3,e3,R3,m3⟩=>?_⟩;have e13:=(e1.trans e2).trans e3;have r3:=e3.r _ _ (e2.r _ _ r1);have oth:∀ wy,CK X.K H3 μ3 wy x->(match dM h3 wy with
    | some ws=>Qw (.lst (Bh ws lo hi)) h3
    | none=>False)->∃ p xs,x=.ref p/\Jy X.K H3 p xs/\∀ l,H3 l=FX->Q (.ref l) (FQ H3 l (.lst (K3 xs lo hi))):=by
   intro wy ry my;split at my
   ·rename_i ws ev;obtain ⟨p,xs,ex,hs,rs⟩:=cR R3 ry ev;exact ⟨p,xs,ex,hs,fun l hl=>k _ _ ⟨μ3,_,h3,e13.trans (Ex.laid hl).ext,R3.laid hl,.lstNew R3 hl<|rs.cutv lo hi,my⟩⟩
   ·exact my.elim
  cases wx with
  | tup ws=>
   have m3:Qw (.tup (Bh ws lo hi)) h3:=m3;have r30:=r3;rw [CK] at r3;obtain ⟨p,xs,ex,hx,rs⟩:=r3;have hl:=rs.len;by_cases hw:HT.sIx xs.length 0 lo=0/\HT.sIx xs.length xs.length hi=xs.length
   ·have ec:Bh ws lo hi=ws:=by
     unfold Bh;rw [hl,hw.1,hw.2,List.drop_zero,Nat.sub_zero,<-hl,Kl]
    rw [ec] at m3;exact .inr ⟨p,xs,ex,hx,hw.1,hw.2,k _ _ ⟨μ3,.tup ws,h3,e13,R3,r30,m3⟩⟩
   ·exact .inl<|.inr ⟨p,xs,ex,hx,hw,fun q hq=>k _ _ ⟨μ3,.tup<|Bh ws lo hi,h3,e13.trans (Ex.laid hq).ext,R3.laid hq,.tupNew hq<|rs.cutv lo hi,m3⟩⟩
  | _=>exact .inl (.inl (oth _ r3 m3))
def Np:MC:=fun ws h Q=>match ws with
 | [.int i]=>Q (.int i) h
 | [.bl b]=>Q (.int (if b then 1 else 0)) h
 | _=>False
theorem Dh:fG X (.type "int") Np:=⟨_,zaq,by
 intro H μ h vs ws Qw Q R r m k;unfold Np at m;split at m
 ·obtain ⟨v,e,rv⟩:=jk r;rw [CK] at rv;subst e rv;exact .inl ⟨_,rfl,k _ _<|.int R m⟩
 ·obtain ⟨v,e,rv⟩:=jk r;rw [CK] at rv;subst e rv;exact .inr ⟨_,rfl,k _ _<|.int R m⟩
 ·exact m.elim⟩
theorem rM:fillsNumberSlot (.type "tuple") "mul" = pure false:=
 PySem.fillsNumberSlot_seq (id := "tuple.__mul__") (r:=FN (.builtin "tuple.__rmul__")) F.slot_tuple_mul.lookup (by decide +kernel) F.slot_tuple_rmul.lookup (by decide +kernel)
theorem aeg:seqRepeat? (.type "tuple")=pure (FN (.builtin "tuple.__mul__")):=by
 unfold seqRepeat?;rw [PySem.seqSlot_of (T := "tuple") (name := "__mul__") (id := "tuple.__mul__") F.slot_tuple_mul.lookup (by decide +kernel),PySem.seqSlot_of (T := "tuple") (name := "__rmul__") (id := "tuple.__rmul__") F.slot_tuple_rmul.lookup (by decide +kernel)];rfl
theorem xO (a:Int)(t:Tok)(l:Addr)(items:Array Mk):
  Meets (RG.«int.__rmul__» ⟨[.int a t,.ref l],[]⟩) (fun _ R s=>IsTup s.heap l items/\R (.ok (.ret Value.notImplemented)) s):=
 .of_wp fun prog w A R s h=>by
  obtain ⟨hp,g,d,tk,os⟩:=s;obtain ⟨⟨o,ho,hc,n,hd⟩,h⟩:=h;obtain ⟨cl,dd,da,sl⟩:=o;simp only at hc hd;subst hc hd
  wp_walk
  exact ⟨_,rfl,h⟩
theorem aif (l:Addr)(items:Array Mk)(k:Int)(t:Tok)(h0:0<=k)(h1:k<2^63)(hz:items.size*k.toNat<=FP):
  Meets (RG.«tuple.__mul__» ⟨[.ref l,.int k t],[]⟩) (fun _ R s=>IsTup s.heap l items/\(if items.size=0\/k=1 then R (.ok (.ret (.ref l))) s else
   R (.ok (.ret (.ref s.heap.objs.size))) { s with heap:=s.heap.push { cls:=.type "tuple",data:=.seq (Ja k.toNat items.toList).flatten.toArray } })):=
 .of_wp fun prog w A R s h=>by
  obtain ⟨hp,g,d,tk,os⟩:=s;obtain ⟨⟨o,ho,hc,n,hd⟩,h⟩:=h;obtain ⟨cl,dd,da,sl⟩:=o;simp only at hc hd;subst hc hd;have ht:IsTup hp l items:=⟨_,ho,rfl,n,rfl⟩
  wp_walk
  rw [if_neg (by simp;lia)];refine CN<|tupleItemsOf_ (s:=⟨hp,g,d,tk,os⟩) ht ?_
  dsimp only;have hemp:items.isEmpty=decide (items.size=0):=rfl;by_cases e:items.size=0\/k=1
  ·rw [if_pos e] at h;rw [if_pos (by rcases e with e | e <;> simp [hemp,e])];unfold Builtin.Tuple.tupleIsExact;refine CN<|CN<|Qn ⟨_,ho,rfl⟩<|Cz ?_
   rw [if_pos (by decide)];refine CN<|Nj ?_
   exact Cz ⟨_,rfl,h⟩
  ·rw [if_neg e] at h;rw [not_or] at e;rw [if_neg (by simp [hemp,e.1,e.2])];by_cases k0:k=0
   ·rw [if_pos (by simp [k0])];subst k0;have ee:(Ja (0:Int).toNat items.toList).flatten.toArray = #[]:=rfl;rw [ee] at h;exact CN (m:=Ue _)<|NP (Cz ⟨_,rfl,h⟩) (by show 0<=FP;exact Ko _)
   ·rw [if_neg (by simp [hemp,e.1];lia)];have hp8:((2:Int)^63 - 1) / 8=1152921504606846975:=by decide
    have hsz:(FP:Nat)<=1152921504606846975:=by decide
    have hk:((items.size*k.toNat:Nat):Int)=(items.size:Int)*k:=by rw [Int.natCast_mul,Int.toNat_of_nonneg h0]
    rw [if_neg (by rw [hp8,<-hk];lia)];rw [if_neg (by unfold Builtin.Tuple.tupleTooMany;rw [<-hk,decide_eq_true_iff];lia)];have hnew:List.foldl (fun x1 x2=>x1++x2) #[] (Ja k.toNat items)=(Ja k.toNat items.toList).flatten.toArray:=by
     have:=foldl_rep items.toList k.toNat []
     rw [Wa] at this
     simpa using this
    rw [hnew];refine CN (m:=Ue _)<|NP (Cz ⟨_,rfl,h⟩) ?_
    show (Ja k.toNat items.toList).flatten.toArray.size<=FP;rw [Jl,len_rep,Nat.mul_comm]
    simpa using hz
def aan (K:CT):R2:=fun x y H Q=>∃ a xs k,x=.ref a/\y=.int k/\HJ K H a xs/\0<=k/\k<2^63/\xs.length*k.toNat<=FP /\
 ((xs.length=0\/k=1)->Q (.ref a) H)/\(¬ (xs.length=0\/k=1)->∀ p,H p=FX->Q (.ref p) (FQ H p (.tup (Ja k.toNat xs).flatten)))
theorem zbF:K8 X (Lj .Mult) (aan X.K):=by
 intro ajd s Z H x y v u Q I rx ry h;obtain ⟨a,xs,k,rfl,rfl,hx,h0,h1,hz,q1,q2⟩:=h;cases rx;obtain ⟨t,rfl⟩:=ry;obtain ⟨its,r,ht,hsz⟩:=I.tuple hx;have aje:its.toArray.size=xs.length:=by rw [Jl];exact r.length.symm
 refine wpAny_binaryOp_repeat_ref (T := "tuple") (U := "int") (by decide) ht.typeIs (fun s'=>typeIs_int s' k t) rM F.fills_int_mul F.slot_int_rmul aeg F.slot_int_index.lookup
  (call_meets F.slot_int_rmul (typeIs_int s k t) F.entry_int_rmul (F.args_int_rmul_2 _ _) (xO k t a its.toArray)
   ⟨ht,rfl,ht.typeIs,call_meets F.slot_tuple_mul ht.typeIs F.entry_tuple_mul (F.args_tuple_mul_2 _ _) (aif a its.toArray k t h0 h1 (by rw [aje];exact hz)) ⟨ht,?_⟩⟩)
 rw [aje];by_cases e:xs.length=0\/k=1
 ·rw [if_pos e];exact ⟨.ref a,H,I,rfl,q1 e⟩
 ·rw [if_neg e];refine ⟨.ref s.heap.objs.size,_,I.laid (t':=s.toks) (o:=.tup (Ja k.toNat xs).flatten) (fun b ob q=>GD _ q) (Dg _) ?_,rfl,q2 e _<|I.hok.fresh<|Dg _⟩;exact ⟨by rw [len_rep,Nat.mul_comm];exact hz,_,r.rep k.toNat,Gn.new _ _⟩
def wD:M2:=fun x y h Q=>match x,y with
 | .int i,.int j=>qM i j/\Q (.int (i*j)) h
 | .tup ws,.int k=>(0<=k/\k<=1000/\ws.length*k.toNat<=1000)/\Q (.tup (Ja k.toNat ws).flatten) h
 | _,_=>False
theorem zW {K:CT}{H:Hp}{μ : Mu}{ws:List W}{xs:List V}(r:aM K H μ ws xs):∀ k:Nat,aM K H μ (Ja k ws).flatten (Ja k xs).flatten
 | 0=>abd
 | k+1=>by
  rw [Rh,Rh,U5,U5];exact aM.append r<|zW r k
theorem BW:Lf X (Lj .Mult) wD:=⟨_,Jm.or zbF,by
  intro H μ h x y wx wy Qw Q R rx ry m k;cases wx with
  | int i=>cases wy with
    | int j=>
      rw [CK] at rx ry;have m:qM i j/\Qw (.int (i*j)) h:=m;exact .inl ⟨_,_,rx,ry,m.1,k _ _<|.int R m.2⟩
    | _=>exact (show False from m).elim
  | tup ws=>cases wy with
    | int n=>
      have m:(0<=n/\n<=1000/\ws.length*n.toNat<=1000)/\Qw (.tup (Ja n.toNat ws).flatten) h:=m;obtain ⟨⟨h0,h1,h2⟩,m⟩:=m;have rx0:=rx;rw [CK] at rx;rw [CK] at ry;obtain ⟨p,xs,ex,hx,rs⟩:=rx;have hl:=rs.len;have sz:(1000:Nat)<=FP:=by decide
      have p63:(2:Int)^63=9223372036854775808:=by decide
      refine .inr ⟨p,xs,n,ex,ry,hx,h0,by lia,by rw [<-hl];lia,fun e=>?_,fun e q hq=>?_⟩
      . have ee:(Ja n.toNat ws).flatten=ws:=by
          rcases e with e | e
          . have:ws=[]:=Qo (by lia)
            subst this;have:∀ k:Nat,(Ja k ([]:List W)).flatten=[]:=fun k=>by induction k with
              | zero=>rfl
              | succ k ih=>rw [Rh,U5,ih];rfl
            exact this _
          . subst e
            show (Ja 1 ws).flatten=ws;simp
        rw [ee] at m;rw [<-ex];exact k _ _ ⟨μ,.tup ws,h,.refl,R,rx0,m⟩
      . exact k _ _ ⟨μ,.tup (Ja n.toNat ws).flatten,h,(Ex.laid hq).ext,R.laid hq,.tupNew hq (zW rs _),m⟩
    | _=>exact (show False from m).elim
  | _=>exact (show False from by cases wy <;> exact m).elim⟩
theorem sH {K:CT}{H:Hp}{μ : Mu}:∀ {ns:List Int} {xs:List V},aM K H μ (ns.map W.int) xs->xs=ns.map V.int
 | [],xs,r=>by rw [KJ,aM] at r;exact r
 | n::ns,xs,r=>by
  rw [DY,aM] at r;obtain ⟨v,vs,e,rv,r⟩:=r;rw [CK] at rv;rw [e,rv,sH r];rfl
def Mx (i j:Int):Prop:=qM i j\/Sm 64 i\/Sm 64 j
theorem Mx.ok {i j:Int}(h:Mx i j):IntMulOk i j:=by
 rcases h with h | h | h
 ·exact h.ok
 ·exact .of_left h.bits
 ·exact .of_right h.bits
theorem agS:K8 X (Lj .Mult) (rI Mx fun i j=>.int (i*j)):=opI fun _ _ _ _ _ _ _ hc q=>mul_int q hc.ok
def CJ:M2:=fun x y h Q=>match x,y with
 | .int i,.int j=>Mx i j/\Q (.int (i*j)) h
 | _,_=>False
theorem GZ:Lf X (Lj .Mult) CJ:=⟨_,agS,by
 intro H μ h x y wx wy Qw Q R rx ry m k;unfold CJ at m;split at m
 ·rw [CK] at rx ry;exact ⟨_,_,rx,ry,m.1,k _ _<|.int R m.2⟩
 ·exact m.elim⟩
end
def agF (h:Heap)(P:Addr->Prop)(e C:Addr)(od:Option Addr):Prop:=P e/\∃ (oe:Obj) (vs:Array Mk),h.get? e=FN oe/\oe.cls=.ref C/\oe.dict=od/\oe.data=.fields vs/\vs.size<=1000/\vs[2]?=FN .none /\
 (vs[1]?=FN .none\/∃ (T:Addr) (oT:Obj) (ts:Array Mk),vs[1]?=FN (.ref T)/\T≠e/\P T/\h.get? T=FN oT/\oT.data=.fields ts/\3<ts.size)
def agR (h:Heap)(P:Addr->Prop)(e C:Addr)(od:Option Addr):Prop:=P e/\∃ (oe:Obj) (vs:Array Mk),h.get? e=FN oe/\oe.cls=.ref C/\oe.dict=od/\oe.data=.fields vs/\vs.size<=1000/\vs[2]?=FN .none /\
 ∃ (T:Addr) (oT:Obj) (ts:Array Mk),vs[1]?=FN (.ref T)/\T≠e/\P T/\h.get? T=FN oT/\oT.data=.fields ts/\3<ts.size
structure Stp (P:Addr->Prop) (fs:List Addr) (h h':Heap):Prop where
 keep:∀ b o,¬ P b->b∉fs->h.get? b=FN o->h'.get? b=FN o
 slot:∀ b o,¬ P b->h.get? b=FN o->∃ sl,h'.get? b=FN { o with slots:=sl }
 there:∀ b o,h.get? b=FN o->∃ o',h'.get? b=FN o'
section
variable {M:Model}{A:FZ}{E:Mk->AP->Prop}{s:AP}{P:Addr->Prop}{e C:Addr}{od:Option Addr}
end
section
variable {X:Cx}{ajd:List (Addr×Obj)}{Z : St}{H H':Hp}{s s':AP}{b e C:Addr}{od:Option Addr}
structure New (X:Cx) (ajd:List (Addr×Obj)) (H:Hp) (b:Addr):Prop where
 h:H b=FX
 s:b∈X.ex\/X.s₀.heap.get? b=FX
 l:b≠X.env.locals
 c:∀ x c,X.env.cells.lookup x=FN c->c≠b
 p:∀ p∈X.pn++ajd,p.1≠b
 f:b∉X.fs
structure zab (X:Cx) (ajd:List (Addr×Obj)) (Z : St) (H:Hp) (s:AP) (e C:Addr) (od:Option Addr):Prop where
 inv:CQ X ajd Z H s
 xo:agF s.heap (New X ajd H) e C od
structure zaa (X:Cx) (ajd:List (Addr×Obj)) (Z : St) (H:Hp) (s:AP) (e C:Addr) (od:Option Addr):Prop where
 inv:CQ X ajd Z H s
 xn:agR s.heap (New X ajd H) e C od
end
section
variable {X:Cx}{ajd:List (Addr×Obj)}{Z : St}{H:Hp}{s:AP}{C:Addr}{x:Str}{np ajf pos:Pos}{e:Expr}{es:List Expr}{t:TA}
end
section
variable {X:Cx}{Γ : St->Prop}{e c:Expr}{es:List Expr}{pos:Pos}{st:Stmt}{rest:List Stmt}
end
variable {Γ : St->Prop}
section
variable {X:Cx}{ajd pins':List (Addr×Obj)}{Z : St}{H:Hp}{s:AP}{xe:Mk->AP->Prop}{a C:Addr}{o:Obj}{u:HO}
end
section
variable {prog:Ei}{w:Dq}{A:FZ}{E:Mk->AP->Prop}{s:AP}{K:CT}{x D:Addr}{ox:Obj}
end
def Qu (n d:Str):Bool:=n==d||d == "EaselError"
section
variable {K:CT}{C D:Addr}{n d:Str}
def acR (K:CT)(v:V)(f:Str->Bool):Prop:=∀ (u:Mk),RelV v u->∀ (C:Addr) (n:Str),aak K C n=true->PySem.W.kitOne K (.ref C) u=FN (f n)
end
def bO.lost (D:bO):bO:={ D with nx:=fun Z h=>D.nx (Z.map fun _=>FX) h,bk:=fun Z h=>D.bk (Z.map fun _=>FX) h,ct:=fun Z h=>D.ct (Z.map fun _=>FX) h }
def Y5 (x:Xw):W:=match x.fs with
 | []=>.exc x.cls
 | f::fs=>.exa x.cls ((f::fs).map (·.2))
def acy (i:Nat)(d:Str)(mb:Dm->MS)(mh:MS):MS:=fun D Z h=>mb (fun x h'=>Jr (Qu x.cls d) (mh D.lost (Z.set i (FN (Y5 x))) h') False) D Z h
section
variable {X:Cx}{body:List Stmt}{b₀ : Stmt}{suite:List Stmt}{d:Str}{np hpos pos:Pos}{i:Nat}{D:Addr}{mb:Dm->MS}{mh:MS}
end
section
variable {X:Cx}{a:Expr}{pos p:Pos}
def acT (f:Str->Bool)(m:ME):ME:=fun Z h Q=>m Z h fun w h1=>match w with
 | .exc n=>Q (.bl (f n)) h1
 | .exa n _=>Q (.bl (f n)) h1
 | _=>False
inductive PCs (X:Cx):List Expr->List V->(Str->Bool)->Prop
 | nil:PCs X [] [] (fun _=>false)
 | cons {e:Expr} {es:List Expr} {v:V} {vs:List V} {f g:Str->Bool}:PE X e (tC v)->acR X.K v f->PCs X es vs g->Fo (e::es) X.env=(false,eval e X.env)::Fo es X.env->PCs X (e::es) (v::vs) (fun n=>f n||g n)
end
section
variable {X:Cx}{tg:Expr}{scope:Scope}{xs:List Str}{pos p ppos:Pos}
end
section
variable {prog:Ei}{w:Dq}{A:FZ}{E:Mk->AP->Prop}{s:AP}
end
section
variable {X:Cx}
end
section
variable {X:Cx}{K:CT}{o e:Expr}{mo:ME}{ma:MA}{apos ajf:Pos}
variable {H:Hp}{ajd:List (Addr×Obj)}{s:AP}{Z : St}
mutual
theorem J5 (I:CQ X ajd Z H s):∀ {w u:W} {v:V},Dt X.K H w v->Dt X.K H u v->w=u
 | .non,u,v,h,g=>by rw [Dt] at h;subst h;cases u <;> rw [Dt] at g <;> first | rfl | exact g.elim | (obtain ⟨_,_,g,_⟩:=g;cases g;done) | (cases g;done)
 | .bl b,u,v,h,g=>by rw [Dt] at h;subst h;cases u <;> rw [Dt] at g <;> first | (injection g with g;rw [g];done) | exact g.elim | (obtain ⟨_,_,g,_⟩:=g;cases g;done) | (cases g;done)
 | .int b,u,v,h,g=>by rw [Dt] at h;subst h;cases u <;> rw [Dt] at g <;> first | (injection g with g;rw [g];done) | exact g.elim | (obtain ⟨_,_,g,_⟩:=g;cases g;done) | (cases g;done)
 | .str b,u,v,h,g=>by rw [Dt] at h;subst h;cases u <;> rw [Dt] at g <;> first | (injection g with g;rw [g];done) | exact g.elim | (obtain ⟨_,_,g,_⟩:=g;cases g;done) | (cases g;done)
 | .tup ws,u,v,h,g=>by
  rw [Dt] at h;obtain ⟨p,xs,e,hs,ds⟩:=h;subst e;cases u with
  | tup us=>
   rw [Dt] at g;obtain ⟨p',xs',e',hs',ds'⟩:=g;cases e'
   have:=I.tuple_inj hs hs'
   subst this;rw [uP I ds ds']
  | lst us=>
   rw [Dt] at g;obtain ⟨p',xs',e',hs',ds'⟩:=g;cases e'
   obtain ⟨_,_,t,_⟩:=I.tuple hs;obtain ⟨_,_,l,_⟩:=I.list hs';exact absurd rfl<|Wv l.isList<|show s.heap.IsTuple _ _ from t
  | ty _=>rw [Dt] at g;exact g.elim
  | loc _=>rw [Dt] at g;exact g.elim
  | kls _=>rw [Dt] at g;exact g.elim
  | exc _=>rw [Dt] at g;exact g.elim
  | exa _ _=>rw [Dt] at g;exact g.elim
  | _=>rw [Dt] at g;cases g
 | .lst ws,u,v,h,g=>by
  rw [Dt] at h;obtain ⟨p,xs,e,hs,ds⟩:=h;subst e;cases u with
  | lst us=>
   rw [Dt] at g;obtain ⟨p',xs',e',hs',ds'⟩:=g;cases e'
   have:=I.list_inj hs hs'
   subst this;rw [uP I ds ds']
  | tup us=>
   rw [Dt] at g;obtain ⟨p',xs',e',hs',ds'⟩:=g;cases e'
   obtain ⟨_,_,t,_⟩:=I.tuple hs';obtain ⟨_,_,l,_⟩:=I.list hs;exact absurd rfl<|Wv l.isList<|show s.heap.IsTuple _ _ from t
  | ty _=>rw [Dt] at g;exact g.elim
  | loc _=>rw [Dt] at g;exact g.elim
  | kls _=>rw [Dt] at g;exact g.elim
  | exc _=>rw [Dt] at g;exact g.elim
  | exa _ _=>rw [Dt] at g;exact g.elim
  | _=>rw [Dt] at g;cases g
 | .ty _,_,_,h,_=>by rw [Dt] at h;exact h.elim
 | .kls _,_,_,h,_=>by rw [Dt] at h;exact h.elim
 | .loc _,_,_,h,_=>by rw [Dt] at h;exact h.elim
 | .exc _,_,_,h,_=>by rw [Dt] at h;exact h.elim
 | .exa _ _,_,_,h,_=>by rw [Dt] at h;exact h.elim
theorem uP (I:CQ X ajd Z H s):∀ {ws us:List W} {vs:List V},Iz X.K H ws vs->Iz X.K H us vs->ws=us
 | [],us,vs,h,g=>by
  have e:vs=[]:=by rw [Iz] at h;exact h
  subst e;cases us with
  | nil=>rfl
  | cons u us=>rw [Iz] at g;obtain ⟨_,_,e,_⟩:=g;cases e
 | w::ws,us,vs,h,g=>by
  rw [Iz] at h;obtain ⟨v,vs',e,d,ds⟩:=h;subst e;cases us with
  | nil=>
   have e:v::vs'=[]:=by rw [Iz] at g;exact g
   cases e
  | cons u us=>
   rw [Iz] at g;obtain ⟨v2,vs2,e2,d2,ds2⟩:=g;cases e2;rw [J5 I d d2,uP I ds ds2]
end
theorem zN:∀ {us:List W} {xs:List V} {its:List Mk},Iz X.K H us xs->CR xs its->∀ a u,(a,u)∈its.zip us->∃ v,RelV v a/\Dt X.K H u v/\u∈us
 | [],_,its,_,_,a,u,m=>by rw [List.zip_nil_right] at m;exact absurd m (by simp)
 | w::us,xs,its,d,r,a,u,m=>by
  rw [Iz] at d;obtain ⟨v,vs,e,d1,ds⟩:=d;subst e;cases r with
  | cons r1 rs=>
   rw [U7] at m;rcases Ge.mp m with m | m
   ·cases m;exact ⟨v,r1,d1,KD⟩
   ·obtain ⟨v',q1,q2,q3⟩:=zN ds rs a u m;exact ⟨v',q1,q2,Jo _ q3⟩
theorem rQ {α β : Type}:∀ {xs:List α} {ys:List β},xs.length=ys.length->∀ a∈xs,∃ b,(a,b)∈xs.zip ys
 | [],_,_,a,m=>absurd m (by simp)
 | _::_,[],h,_,_=>by cases h
 | x::xs,y::ys,h,a,m=>by
  rw [U7];rcases Ge.mp m with rfl | m
  ·exact ⟨y,KD⟩
  ·obtain ⟨b,q⟩:=rQ (Nat.succ.inj h) a m;exact ⟨b,Jo _ q⟩
def abT:MM:=fun x ws h Q=>match ws with
 | [w]=>(match dM h x with
  | some us=>Jr (Eh 20 w&&us.all (Eh 20)) (Q (.int (us.countP fun u=>Fy u w)) h) False
  | none=>False)
 | _=>False
end
section
variable {X:Cx}{iter tg:Expr}{scope:Scope}{pos:Pos}{xs:List Str}
end
section
variable {X:Cx}{e:Expr}{es:List Expr}{pos:Pos}
variable {mr:Dm->MA}
end
section
variable {X:Cx}{K:CT}{H:Hp}{ajd:List (Addr×Obj)}{s:AP}{Z : St}
theorem FW {α β : Type}{p:α->Bool}{q:β->Bool}:∀ {xs:List α} {ys:List β},xs.length=ys.length->(∀ a b,(a,b)∈xs.zip ys->p a=q b)->xs.any p=ys.any q
 | [],[],_,_=>rfl
 | [],_::_,h,_=>by cases h
 | _::_,[],h,_=>by cases h
 | a::xs,b::ys,h,e=>by
  rw [VR,VR,FW (Nat.succ.inj h) fun a' b' m=>e a' b' (by rw [U7];exact Jo _ m),e a b (by rw [U7];exact KD)]
theorem agB (I:CQ X ajd Z H s){us:List W}{xs:List V}{its:List Mk}{w:W}{y:V}{b:Mk}(hd:Iz X.K H us xs)(r:CR xs its)(hw:Dt X.K H w y)(rb:RelV y b)(pl1:us.all (Eh 20)=true)(pl2:Eh 20 w=true){A:FZ}(hu:A.units+20<JQ):
  ∃ ev:Mk->Bool,(∀ a,a∈its->T8 A s a b (ev a))/\its.any ev=us.any (fun u=>Fy u w):=by
 have hl:its.length=us.length:=by rw [<-r.length,hd.len]
 let ev:Mk->Bool:=fun a=>@decide (∃ u,(a,u)∈its.zip us/\Fy u w=true) (Classical.propDecidable _)
 have hev:∀ a u,(a,u)∈its.zip us->ev a=Fy u w:=by
  intro a u m;cases c:Fy u w with
  | true=>exact (@decide_eq_true_iff _ (Classical.propDecidable _)).mpr ⟨u,m,c⟩
  | false=>
   refine (@decide_eq_false_iff_not _ (Classical.propDecidable _)).mpr fun ⟨u2,m2,c2⟩=>?_;obtain ⟨v1,r1,d1,_⟩:=zN hd r a u m;obtain ⟨v2,r2,d2,_⟩:=zN hd r a u2 m2;have ev:v1=v2:=r1.inj r2;subst ev;rw [J5 I d1 d2,c2] at c;cases c
 refine ⟨ev,fun a ha=>?_,FW hl hev⟩;obtain ⟨u,m⟩:=rQ hl a ha;obtain ⟨v,r1,d1,mu⟩:=zN hd r a u m;rw [hev a u m];exact Xd I 20 hu d1 hw (QG.mp pl1 u mu) pl2 r1 rb
def acX (K:CT)(neg:Bool):R2:=fun x y H Q=>∃ p xs us w,y=.ref p/\Jy K H p xs/\Iz K H us xs/\Dt K H w x/\us.all (Eh 20)=true/\Eh 20 w=true/\Q (.bl (if neg then !(us.any fun u=>Fy u w) else us.any fun u=>Fy u w)) H
theorem agH (hu:X.A.units+30<JQ):K8 X (Ku .NotIn) (acX X.K true):=by
 intro ajd s Z H x y v u Q I rx ry h;obtain ⟨p,xs,us,w,rfl,hq,hd,hw,p1,p2,q⟩:=h;cases ry;obtain ⟨its,r,pl,hz⟩:=I.list hq;obtain ⟨ev,he,ea⟩:=agB I hd r hw rx p1 p2 (A:=X.A.in1) (by show X.A.units+1+20<JQ;lia);refine SeqAt.notIn_listAt ev pl.isList (fun w hw=>he w<|by simpa using hw) ⟨.bl _,H,I,rfl,?_⟩;rw [show its.toArray.any ev=its.any ev by simp,ea];exact q
def zE:M2:=fun x y h Q=>match dM h y with
 | some us=>Jr (Eh 20 x&&us.all (Eh 20)) (Q (.bl (!(us.any fun u=>Fy u x))) h) False
 | none=>False
theorem Od (hu:X.A.units+30<JQ):Lf X (Ku .NotIn) zE:=⟨_,agH hu,by
 intro H μ h x y wx wy Qw Q R rx ry m k;unfold zE at m;split at m
 ·rename_i us eu;obtain ⟨p,xs,ex,hs,rr⟩:=cR R ry eu;cases c:(Eh 20 wx&&us.all (Eh 20)) with
  | true=>
   rw [c] at m;rw [Nk] at c;exact ⟨p,xs,us,wx,ex,hs,xG (KY 20) rr c.2,KY 20 rx c.1,c.2,c.1,k _ _<|.bl R m⟩
  | false=>rw [c] at m;exact (show False from m).elim
 ·exact m.elim⟩
end
section
variable {X:Cx}{K:CT}{H:Hp}{h:Gh}
def oX (h:Gh):List W->Option (List W)
 | []=>FN []
 | w::ws=>match JG h w,oX h ws with
  | some d,FN ds=>FN (d::ds)
  | _,_=>FX
def TF (h:Gh)(w:W):Option W:=match w with
 | .tup ws=>(match oX h ws with
  | some ds=>FN (.tup ds)
  | none=>FX)
 | w=>JG h w
theorem ur {n:Nat}(R:Ej K μ H h):∀ {ws ds:List W} {vs:List V},aM K H μ ws vs->oX h ws=FN ds->ds.all (Eh n)=true->Iz K H ds vs
 | [],ds,vs,r,e,_=>by
  rw [oX] at e;cases e;rw [aM] at r;subst r;rw [Iz]
 | w::ws,ds,vs,r,e,p=>by
  rw [oX] at e;cases e1:JG h w with
  | none=>rw [e1] at e;cases e
  | some d=>
   cases e2:oX h ws with
   | none=>rw [e1,e2] at e;cases e
   | some ds'=>
    rw [e1,e2] at e;cases e;rw [Sh,Nk] at p;rw [aM] at r;obtain ⟨v,vs',ev,r1,r2⟩:=r;subst ev;rw [Iz];exact ⟨v,vs',rfl,nM R r1 e1 p.1,ur R r2 e2 p.2⟩
theorem zaY {w d:W}{v:V}{n:Nat}(R:Ej K μ H h)(r:CK K H μ w v)(e:TF h w=FN d)(p:Eh n d=true):Dt K H d v:=by
 cases w with
 | tup ws=>
  unfold TF at e;dsimp only at e;cases e1:oX h ws with
  | none=>rw [e1] at e;cases e
  | some ds=>
   rw [e1] at e;cases e;rw [CK] at r;obtain ⟨q,xs,ev,hs,rs⟩:=r;obtain ⟨m,rfl,p⟩:=aeS p;rw [Dt];exact ⟨q,xs,ev,hs,ur R rs e1 p⟩
 | _=>exact nM R r e p
end
section
variable {X:Cx}{K:CT}{o e e':Expr}{mo:ME}{ma:MA}{apos ajf:Pos}
theorem Y0 {ajf:Pos}{e e':Expr}(h:Fw e=false)(h':Fw e'=false):((K5 ajf (Fo [e,e'] env)).all (fun x=>!x.1)&&(backToKw ajf (TY [] env)).all (fun x=>x.1.isSome)
   && decide (([e,e']:List Expr).length+([]:List Mv).length+(if ([]:List Mv).isEmpty then 0 else 1)<30))=true:=by
 rw [bU h,bU h'];rfl
end
def SJ (m:Nat):List Nat:=(Ma 8).filter fun j=>m.testBit j
def rk (m j:Nat):Nat:=((Ma j).filter fun i=>m.testBit i).length
def pq (h:Int):Nat->Nat×Nat
 | 0=>(Uq h % 8,Uq h)
 | n+1=>SetTable.leap 7 (pq h n).1 (pq h n).2
def pb (h:Int)(n:Nat):SetTable.Probe:=⟨(pq h n).1,0,(pq h n).1,(pq h n).2,FX⟩
theorem aah (h:Int):∀ n,(pq h n).1<8
 | 0=>Nat.mod_lt _ (by decide)
 | n+1=>Nat.mod_lt _ (by decide)
theorem Ir (h:Int):∀ n,(pq h n).2=Uq h / 32^n
 | 0=>by simp [pq]
 | n+1=>by
  show (pq h n).2 / 32=_;rw [Ir h n,Nat.div_div_eq_div_mul,Nat.pow_succ]
theorem afY (h:Int)(n:Nat)(hn:13<=n):(pq h n).2=0:=by
 rw [Ir];apply Nat.div_eq_of_lt;have h1:Uq h<2^64:=by
  unfold Uq;have a:=Um h (show (0:Int)<2^64 by decide);have b:=Us h (show (2^64:Int)≠0 by decide);lia
 have h2:32^13<=32^n:=Wg (by decide) hn;have h3:(2:Nat)^64<32^13:=by decide
 lia
def lcg:Nat->Nat->Nat
 | i,0=>i
 | i,k+1=>(lcg i k*5+1) % 8
theorem PN (h:Int):∀ k,(pq h (13+k)).1=lcg (pq h 13).1 k
 | 0=>rfl
 | k+1=>by
  show ((pq h (13+k)).1*5+1+(pq h (13+k)).2 / 32) % (7+1)=_;rw [afY h _ (by lia),PN h k];rfl
theorem agE:∀ i:Fin 8,∀ j:Fin 8,∃ k:Fin 8,lcg i k=j.val:=by decide +kernel
theorem afS (h:Int){j:Nat}(hj:j<8):∃ n,n<21/\(pq h n).1=j:=by
 obtain ⟨k,e⟩:=agE ⟨(pq h 13).1,aah h 13⟩ ⟨j,hj⟩;exact ⟨13+k.val,by lia,by rw [PN];exact e⟩
theorem least {P:Nat->Bool}:∀ (B:Nat),(∃ n,n<B/\P n=true)->∃ N,N<B/\P N=true/\∀ n,n<N->P n=false
 | 0,⟨n,h,_⟩=>absurd h (Nat.not_lt_zero _)
 | B+1,⟨n,h,e⟩=>by
  by_cases q:∃ n,n<B/\P n=true
  ·obtain ⟨N,a,b,c⟩:=least B q;exact ⟨N,by lia,b,c⟩
  ·refine ⟨n,h,e,fun i hi=>?_⟩;cases r:P i with
   | false=>rfl
   | true=>exact absurd ⟨i,by lia,r⟩ q
theorem road (h:Int)(hf:∃ j,j<8/\m.testBit j=false):∃ N,N<21/\m.testBit (pq h N).1=false/\∀ n,n<N->m.testBit (pq h n).1=true:=by
 obtain ⟨j,hj,e⟩:=hf;obtain ⟨n,hn,en⟩:=afS h hj;obtain ⟨N,a,b,c⟩:=least (P:=fun n=>!m.testBit (pq h n).1) 21 ⟨n,hn,by simp [en,e]⟩;exact ⟨N,a,by simpa using b,fun n hn=>by simpa using c n hn⟩
section
variable {prog:Ei}{w:Dq}{A:FZ}{E:Mk->AP->Prop}{s:AP}{ka:Nat->List Int}{ad:Nat->Addr}{t:XM}{a b:Addr}{k:List Int}
abbrev zbN (prog:Ei)(w:Dq)(h:Heap)(k:List Int)(a:Addr):Prop:=IsTupleKey (RV prog w) h k a
def hT (prog:Ei)(w:Dq)(k:List Int):Int:=tupleKeyHash (RV prog w) k
def elL (prog:Ei)(w:Dq)(m:Nat)(ka:Nat->List Int)(ad:Nat->Addr):List (Int×Mk):=(SJ m).map fun j=>(hT prog w (ka j),Value.ref (ad j))
structure acp (prog:Ei) (w:Dq) (h:Heap) (m:Nat) (ka:Nat->List Int) (ad:Nat->Addr) (t:XM):Prop where
 mask:t.mask=7
 place:t.place=(SJ m).toArray
 dum:t.dummies = #[]
 m8:m<256
 few:(SJ m).length<=4
 key:∀ j,j∈SJ m->zbN prog w h (ka j) (ad j)
 way:∀ j,j∈SJ m->∃ n,(pq (hT prog w (ka j)) n).1=j/\∀ i,i<n->m.testBit (pq (hT prog w (ka j)) i).1=true
def ac4 (es:Array (Int×Mk))(ep:Nat)(t:XM):Obj:={ cls:=.type "set",dict:=FX,data:=.set es ep t }
def Xp (prog:Ei)(w:Dq)(h:Heap)(a:Addr)(m:Nat)(ka:Nat->List Int)(ad:Nat->Addr):Prop:=∃ ep t,h.get? a=FN (ac4 (elL prog w m ka ad).toArray ep t)/\acp prog w h m ka ad t
end
variable {k : List Int}{ad : Nat->Addr}{ka : Nat->List Int}
section
variable {prog:Ei}{w:Dq}{A:FZ}{E:Mk->AP->Prop}
structure adb (prog:Ei) (w:Dq) (z:Nat) (h:Heap) (S:Addr) (seen:List (List Int)) (m:Nat) (ka:Nat->List Int) (ad:Nat->Addr):Prop where
 set:Xp prog w h S m ka ad
 low:∀ j,j∈SJ m->ad j<z
 mem:∀ k,k∈seen↔∃ j,j∈SJ m/\ka j=k
 len:(SJ m).length=seen.length
end
section
variable {prog:Ei}{w:Dq}{A:FZ}{E:Mk->AP->Prop}{s:AP}
end
section
variable {X:Cx}{K:CT}
theorem uM {prog:Ei}{w:Dq}:∀ {k:List Int} {us:List Mk},CR (k.map V.int) us->ItemsAre (RV prog w) k us
 | [],_,.nil=>.nil
 | i::k,_,.cons r t=>by
  obtain ⟨tk,rfl⟩:=r;exact .cons (intKind_is _ _ _ _)<|uM t
end
section
variable {κ : Type}[DecidableEq κ]
def El (kvs:List (κ×V))(k:κ):Option V:=(kvs.find? fun kv=>decide (kv.1=k)).map (·.2)
def Kr (kvs:List (κ×V))(k:κ)(v:V):List (κ×V):=
 if (kvs.any fun kv=>decide (kv.1=k))=true then kvs.map (fun kv=>if kv.1=k then (kv.1,v) else kv) else kvs++[(k,v)]
theorem zX {p:κ×V}{r:List (κ×V)}{k:κ}(e:p.1=k):El (p::r) k=FN p.2:=by simp [El,QF,e]
theorem Bo {p:κ×V}{r:List (κ×V)}{k:κ}(e:¬ p.1=k):El (p::r) k=El r k:=by simp [El,QF,e]
theorem qm (kvs:List (κ×V))(k:κ)(v:V):(Kr kvs k v).length<=kvs.length+1:=by
 unfold Kr;split
 ·rw [DX];lia
 ·rw [Jt,K7,WX];lia
theorem J8.getD {o:Option V}{u:Option Mk}{d:V}{d':Mk}(r:J8 o u)(rd:RelV d d'):RelV (o.getD d) (u.getD d'):=by
 cases o with
 | none=>cases u with
  | none=>exact rd
  | some _=>exact (show False from r).elim
 | some _=>cases u with
  | none=>exact (show False from r).elim
  | some _=>exact r
theorem KV.val {kvs:List (κ×V)}{vs:List (κ×Mk)}(r:KV kvs vs)(k:κ):J8 (El kvs k) (valueAt vs k):=by
 unfold KV at r;induction r with
 | nil=>exact True.intro
 | @cons p q ps qs h t ih=>
  obtain ⟨h1,h2⟩:=h;by_cases e:p.1=k
  ·have e':q.1=k:=h1.symm.trans e;have b:valueAt (q::qs) k=FN q.2:=by simp [valueAt,QF,e']
   rw [zX e,b];exact h2
  ·have e':¬ q.1=k:=fun z=>e (h1.trans z)
   have b:valueAt (q::qs) k=valueAt qs k:=by simp [valueAt,QF,e']
   rw [Bo e,b];exact ih
theorem KV.any {kvs:List (κ×V)}{vs:List (κ×Mk)}(r:KV kvs vs)(k:κ):(kvs.any fun kv=>decide (kv.1=k))=vs.any fun kv=>decide (kv.1=k):=by
 unfold KV at r;induction r with
 | nil=>rfl
 | cons h t ih=>rw [VR,VR,ih,h.1]
theorem KV.repl {kvs:List (κ×V)}{vs:List (κ×Mk)}(r:KV kvs vs)(k:κ){y:V}{u:Mk}(ry:RelV y u):
  KV (kvs.map fun kv=>if kv.1=k then (kv.1,y) else kv) (vs.map fun kv=>if kv.1=k then (kv.1,u) else kv):=by
 unfold KV at r |-
 induction r with
 | nil=>exact .nil
 | @cons p q ps qs h t ih=>
  rw [DY,DY];refine .cons ?_ ih;obtain ⟨h1,h2⟩:=h;by_cases e:p.1=k
  ·rw [if_pos e,if_pos (h1.symm.trans e)];exact ⟨h1,ry⟩
  ·rw [if_neg e,if_neg (fun z=>e (h1.trans z))];exact ⟨h1,h2⟩
theorem KV.put {kvs:List (κ×V)}{vs:List (κ×Mk)}(r:KV kvs vs)(k:κ){y:V}{u:Mk}(ry:RelV y u):KV (Kr kvs k y) (stored vs k u):=by
 unfold Kr stored;rw [r.any k];by_cases e:(vs.any fun kv=>decide (kv.1=k))=true
 ·rw [if_pos e,if_pos e];exact r.repl k ry
 ·rw [if_neg e,if_neg e];exact Paired.snoc r ⟨rfl,ry⟩
theorem KV.length {kvs:List (κ×V)}{vs:List (κ×Mk)}(r:KV kvs vs):kvs.length=vs.length:=V3 r
end
theorem yp {P:Ei}{w:Dq}{k:Key}{u:Mk}(r:RelV (kV k) u):(cG P w).is k u=true:=by
 cases k with
 | inl i=>obtain ⟨t,e⟩:=(show ∃ t,u=Value.int i t from r);subst e;exact yw P w i t
 | inr x=>obtain ⟨t,e⟩:=(show ∃ t,u=Value.str x t from r);subst e;exact yx P w x t
section
variable {P:Ei}{w:Dq}{H:Hp}{h:Heap}{a:Addr}
theorem aaK {u:HO}(ok:KR P w H h)(e:Rd H a u):eE P w H h a u:=e.ok ok
theorem RN {kvs:List (Key×V)}(ok:KR P w H h)(e:Rd H a (.dK kvs)):kvs.length<=FP/\(a==M5)=false/\∃ vs,KV kvs vs/\h.DictOf (cG P w) a vs:=
 show eE P w H h a (.dK kvs) from aaK ok e
theorem Jv {kvs:List (Key×V)}(ok:KR P w H h)(e:H a=FN (.dK kvs)):kvs.length<=FP/\(a==M5)=false/\∃ vs,KV kvs vs/\h.DictOf (cG P w) a vs:=RN ok (.inl e)
end
section
variable {X:Cx}{ajd:List (Addr×Obj)}{Z : St}{H:Hp}{s:AP}{a:Addr}{y v:V}{u r:Mk}{o:Option V}{A:FZ}{E:Mk->AP->Prop}
theorem CQ.big (I:CQ X ajd Z H s):M5<s.heap.objs.size:=by
 have h:Jk<s.heap.objs.size:=(I.mod.glob.keeps I.bk).lt;exact Rg (by decide) h
theorem zq {h':Heap}{t':Nat}{ob:HO}(I:CQ X ajd Z H s)(mu:Mut (H a))(hs:U8 a s.heap h')(he:∃ q,h'.get? a=FN q)(new:eE X.prog X.w (FQ H a ob) h' a ob):
  CQ X ajd Z (FQ H a ob) { s with heap:=h',toks:=t' }:=
 I.write (x:=a) (e:=a) mu (.inl rfl) (fun b q hb z=>(hs.2 b hb).trans z) he new
theorem PK {P:Ei}{w:Dq}{H':Hp}{h':Heap}{kvs:List (Key×V)}{vs:List (Key×Mk)}(z:kvs.length<=FP)(hd:(a==M5)=false)(rel:KV kvs vs)(dd:h'.DictOf (cG P w) a vs):
  eE P w H' h' a (.dK kvs):=⟨z,hd,vs,rel,dd⟩
end
section
variable {X:Cx}{ajd:List (Addr×Obj)}{Z : St}{H:Hp}{s:AP}{a:Addr}{kvs:List (Key×V)}{k:Key}{u:Mk}{A:FZ}{E:Mk->AP->Prop}
end
def UW (i:Expr):Prop:=∀ ov iv,subscripted i false ov iv=operate [ov,iv] (getItem ov iv)
theorem yP {prog:Ei}{w:Dq}{A:FZ}{E:Mk->AP->Prop}{s:AP}{value slice:Expr}{pos:Pos}{T id:String}{Q:Mk->AP->Prop}
  (hl:typeLookup (.type T) "__getitem__" = pure (FN (.builtin id))) (hs:UW slice)
  (h:Cu (Cp prog w) A (eval value env) (fun o s₁=>Cu (Cp prog w) A (eval slice env) (fun i s₂=>s₂.TypeIs o T/\Cu (Cp prog w) A (getItem o i) Q E s₂) E s₁) E s) :
  Cu (Cp prog w) A (eval (.Subscript value slice pos) env) Q E s:=by
 refine Subscript_<|M6 h (fun o s₁ h₁=>M6 h₁ (fun i s₂ h₂=>?_) fun _ _ x=>x) fun _ _ x=>x
 obtain ⟨hT,h₂⟩:=h₂;unfold subscriptTail;refine CN ?_;rw [getitemInPython_of_ne hT.not_modules];refine CN<|wpAny_specialOf hT hl ?_
 have fin:Cu (Cp prog w) A (subscripted slice false o i) (fun r s₃=>Cu (Cp prog w) A (letTemporaryGo value o r >>= fun _=>pure r) Q E s₃) E s₂:=by
  rw [hs o i];exact wpAny_operating<|M6 h₂ (fun r s₃ h₃=>CN<|wpAny_letTemporaryGo<|Cz h₃) fun _ _ x=>x
 first
  | exact Cz (CN fin)
  | exact CN (Cz (CN fin))
  | exact CN fin
section
variable {X:Cx}{o i e value:Expr}{pos pos' tpos:Pos}{td ty tv:TE}
end
theorem zR {P:Ei}{w:Dq}{H:Hp}(h:Heap)(hb:M5<h.objs.size):eE P w H (h.push { cls:=.type "dict",data:=.dict #[] }) h.objs.size (.dK []):=
 ⟨Ko _,beq_eq_false_iff_ne.mpr (Ji (Gq hb)),[],.nil,Heap.DictOf.new h⟩
theorem adQ {P:Ei}{w:Dq}{H:Hp}(h:Heap)(hb:M5<h.objs.size):eE P w H (h.push { cls:=.type "dict",data:=.dict #[] }) h.objs.size (.dT []):=
 ⟨Ko _,beq_eq_false_iff_ne.mpr (Ji (Gq hb)),[],.nil,_,#[],0,K4 _ rfl,⟨rfl,rfl,rfl⟩,rfl,rfl,List.nodup_nil⟩
def afH:TE:=fun _ H Q=>∀ p,H p=FX->Q (.ref p) (FQ H p (.dK []))
section
variable {X:Cx}{pos:Pos}
theorem zbd:PE X (.Dict [] [] pos) afH:=fun ajd s Z H Q I h=>
 wpAny_Dict_empty ⟨.ref s.heap.objs.size,_,I.laid (a:=s.heap.objs.size) (o:=.dK []) (t':=s.toks) (fun _ _ q=>GD _ q) (Dg _) (zR s.heap I.big),rfl,h _ (I.hok.fresh (Dg _))⟩
end
def wY:List (TE×TE)->St->Hp->(List (V×V)->Hp->Prop)->Prop
 | [],_,H,Q=>Q [] H
 | (tk,tv)::r,Z,H,Q=>tk Z H fun x H1=>tv Z H1 fun y H2=>wY r Z H2 fun ps H3=>Q ((x,y)::ps) H3
abbrev VV:List (V×V)->List (Mk×Mk)->Prop:=LQ fun p q=>RelV p.1 q.1/\RelV p.2 q.2
def PPs (X:Cx)(pos:Pos)(keys:List (Option Expr))(values:List Expr)(trs:List (TE×TE)):Prop:=
 ∀ (ajd:List (Addr×Obj)) (s:AP) (Z : St) (H:Hp) (Q:List (V×V)->Hp->Prop),CQ X ajd Z H s->wY trs Z H Q ->
  Cu (Cp X.prog X.w) X.A (evalPairs (pairTrees keys values X.env pos)) (fun vs s'=>∃ ps H',CQ X ajd Z H' s'/\VV ps vs/\Q ps H') X.xe s
theorem afh {X:Cx}{pos:Pos}:PPs X pos [] [] []:=fun ajd s Z H Q I h=>pairTrees_nil_walk ⟨[],H,I,.nil,h⟩
variable {trs : List (TE×TE)}
theorem zaT {X:Cx}{pos:Pos}{k v:Expr}{ks:List (Option Expr)}{vs:List Expr}{tk tv:TE}(hk:PE X k tk)(hv:PE X v tv)(hr:PPs X pos ks vs trs):
  PPs X pos (FN k::ks) (v::vs) ((tk,tv)::trs):=fun ajd s Z H Q I h=>
 pairTrees_cons_walk (Fz (hk ajd s Z H _ I h) fun u s1 ⟨x,H1,I1,rx,q1⟩=>Fz (hv ajd s1 Z H1 _ I1 q1) fun w2 s2 ⟨y,H2,I2,ry,q2⟩=>
  Fz (hr ajd s2 Z H2 _ I2 q2) fun ws s3 ⟨ps,H3,I3,rel,q3⟩=>⟨(x,y)::ps,H3,I3,.cons ⟨rx,ry⟩ rel,q3⟩)
def pQ (kvs more:List (Key×V)):List (Key×V):=more.foldl (fun acc kv=>Kr acc kv.1 kv.2) kvs
theorem KV.merge:∀ {more:List (Key×V)} {rs:List (Key×Mk)} {kvs:List (Key×V)} {vs:List (Key×Mk)},KV more rs->KV kvs vs->KV (pQ kvs more) (merged vs rs):=by
 intro more rs kvs vs r;unfold KV at r;induction r generalizing kvs vs with
 | nil=>intro q;exact q
 | @cons p q ps qs h t ih=>
  intro r0;have e:KV (Kr kvs p.1 p.2) (stored vs q.1 q.2):=by
   have:=r0.put p.1 h.2
   rw [<-h.1];exact this
  exact ih e
theorem mG:∀ (more kvs:List (Key×V)),(pQ kvs more).length<=kvs.length+more.length
 | [],kvs=>by show kvs.length<=kvs.length+0;lia
 | p::r,kvs=>by
  have h1:=mG r (Kr kvs p.1 p.2);have h2:=qm kvs p.1 p.2;show (pQ (Kr kvs p.1 p.2) r).length<=_;rw [K7];lia
theorem sW {P:Ei}{w:Dq}:∀ {kvs:List (Key×V)} {ws:List (Mk×Mk)},VV (kvs.map fun kv=>(kV kv.1,kv.2)) ws->∃ rs,Carries (cG P w) ws rs/\KV kvs rs
 | [],_,r=>by rw [KJ] at r;cases r;exact ⟨[],True.intro,.nil⟩
 | p::kvs,_,r=>by
  rw [DY] at r;cases r with
  | @cons a b as bs h t=>
   obtain ⟨rs,c,q⟩:=sW (P:=P) (w:=w) t;obtain ⟨b1,b2⟩:=b;exact ⟨(p.1,b2)::rs,⟨yp h.1,rfl,c⟩,.cons ⟨rfl,h.2⟩ q⟩
def abo (trs:List (TE×TE)):TE:=fun Z H Q=>∀ p,H p=FX->wY trs Z (FQ H p (.dK [])) fun ps H2=>H2 p=FN (.dK [])/\∃ kvs:List (Key×V),ps=kvs.map (fun kv=>(kV kv.1,kv.2))/\kvs.length<=15/\Q (.ref p) (FQ H2 p (.dK (pQ [] kvs)))
variable {keys : List (Option Expr)}
theorem aeJ {X:Cx}{pos:Pos}{values:List Expr}(h:PPs X pos keys values trs)(hall:keys.all (·.isSome)=true)(hl:keys.length=values.length)(h0:keys≠[])
  (h15:keys.length<=15):PE X (.Dict keys values pos) (abo trs):=by
 intro ajd s Z H Q I q;have hn:=I.hok.fresh (Dg s.heap.objs.size);have I1:=I.laid (a:=s.heap.objs.size) (o:=.dK []) (h':=s.heap.push { cls:=.type "dict",data:=.dict #[] }) (t':=s.toks) (fun _ _ q=>GD _ q) (Dg _) (zR s.heap I.big);refine wpAny_Dict_walk (knd:=cG X.prog X.w) hall hl h0 h15<|Fz (h ajd _ Z _ _ I1<|q _ hn) fun ws s2 ⟨ps,H2,I2,rel,e,kvs,ep,lk,q2⟩=>?_
 subst ep;obtain ⟨rs,c,rk⟩:=sW (P:=X.prog) (w:=X.w) rel;obtain ⟨z,hd,vs0,r0,dd⟩:=Jv I2.hok e;cases r0;refine ⟨rs,c,dd,fun h' dd' hs=>⟨.ref s.heap.objs.size,_,?_,rfl,q2⟩⟩;have hz:(pQ [] kvs).length<=FP:=by
  have h1:=mG kvs [];rw [WX] at h1;rw [V2];lia
 have he:∃ q,h'.get? s.heap.objs.size=FN q:=let ⟨q,_,_,hq,_⟩:=dd';⟨q,hq⟩
 exact zq I2 (by rw [e];exact True.intro) hs he<|PK hz hd (rk.merge .nil) dd'
def Yn:W->Option Key
 | .int i=>FN (.inl i)
 | .str x=>FN (.inr x)
 | _=>FX
def mK (kvs:List (Key×W))(k:Key):Option W:=(kvs.find? fun kv=>decide (kv.1=k)).map (·.2)
def J9 (kvs:List (Key×W))(k:Key)(w:W):List (Key×W):=
 if (kvs.any fun kv=>decide (kv.1=k))=true then kvs.map (fun kv=>if kv.1=k then (kv.1,w) else kv) else kvs++[(k,w)]
section
variable {K:CT}{H:Hp}{kvs:List (Key×W)}{kvv:List (Key×V)}{k:Key}{w:W}{v:V}
theorem lV (r:CK K H μ w v)(e:Yn w=FN k):v=kV k:=by
 cases w with
 | int i=>rw [CK] at r;cases e;exact r
 | str x=>rw [CK] at r;cases e;exact r
 | _=>cases e
theorem nW.val (r:nW K H μ kvs kvv)(e:mK kvs k=FN w):∃ v,El kvv k=FN v/\CK K H μ w v:=by
 unfold nW at r;induction r with
 | nil=>cases e
 | @cons p q ps qs h t ih=>
  by_cases z:p.1=k
  ·have e1:mK (p::ps) k=FN p.2:=by simp [mK,QF,z]
   rw [e1] at e;cases e;exact ⟨q.2,zX<|h.1.symm.trans z,h.2⟩
  ·have e1:mK (p::ps) k=mK ps k:=by simp [mK,QF,z]
   rw [e1] at e;obtain ⟨v,a,b⟩:=ih e;exact ⟨v,by rw [Bo<|fun y=>z<|h.1.trans y];exact a,b⟩
theorem nW.any (r:nW K H μ kvs kvv)(k:Key):(kvs.any fun kv=>decide (kv.1=k))=(kvv.any fun kv=>decide (kv.1=k)):=by
 unfold nW at r;induction r with
 | nil=>rfl
 | @cons p q ps qs h t ih=>rw [VR,VR,ih,h.1]
theorem nW.repl (r:nW K H μ kvs kvv)(rv:CK K H μ w v)(k:Key):nW K H μ (kvs.map fun kv=>if kv.1=k then (kv.1,w) else kv) (kvv.map fun kv=>if kv.1=k then (kv.1,v) else kv):=by
 unfold nW at r |-
 induction r with
 | nil=>exact .nil
 | @cons p q ps qs h t ih=>
  rw [DY,DY];refine .cons ?_ ih;by_cases z:p.1=k
  ·rw [if_pos z,if_pos (h.1.symm.trans z)];exact ⟨h.1,rv⟩
  ·rw [if_neg z,if_neg (fun y=>z (h.1.trans y))];exact h
theorem nW.put (r:nW K H μ kvs kvv)(rv:CK K H μ w v)(k:Key):nW K H μ (J9 kvs k w) (Kr kvv k v):=by
 unfold J9 Kr;rw [<-r.any k];by_cases e:(kvs.any fun kv=>decide (kv.1=k))=true
 ·rw [if_pos e,if_pos e];exact r.repl rv k
 ·rw [if_neg e,if_neg e];exact Paired.snoc r ⟨rfl,rv⟩
theorem Ej.dctAt {h:Gh}{n:Nat}(R:Ej K μ H h)(e:h.c n=FN (.dct kvs)):∃ p kvv,μ.f n=FN p/\H p=FN (.dK kvv)/\nW K H μ kvs kvv:=by
 obtain ⟨p,e1,xs,e2,r⟩:=R.cel n _ e;exact ⟨p,xs,e1,e2,r⟩
end
section
variable {X:Cx}{a b:Expr}{pos:Pos}
def Mw:M2:=fun x y h Q=>match x,Yn y with
 | .loc n,FN k=>(match h.c n with
  | some (.dct kvs)=>(match mK kvs k with
   | some w=>Q w h
   | none=>False)
  | _=>False)
 | _,_=>False
theorem afA {o i:Expr}{td ty:TE}(ho:PE X o td)(hi:PE X i ty)(hs:UW i):PE X (.Subscript o i pos) (fun Z H Q=>td Z H fun x H1=>ty Z H1 fun y H2=>∃ a kvs k v,x=.ref a/\Rd H2 a (.dK kvs)/\y=kV k/\El kvs k=FN v/\Q v H2):=by
 intro ajd s Z H Q I h;refine yP PySem.F.slot_dict_getitem.lookup hs<|Fz (ho ajd s Z H _ I h) fun u s1 ⟨x,H1,I1,rx,q1⟩=>Fz (hi ajd s1 Z H1 _ I1 q1) fun iv s2 ⟨y,H2,I2,ry,a,kvs,k,v,ex,e,ey,l,q2⟩=>?_
 subst ex ey;obtain rfl:u=Value.ref a:=rx;obtain ⟨z,hd,vs,rel,dd⟩:=RN I2.hok e;obtain ⟨w',hw,rw'⟩:=J8.some_of (v:=v) (o:=valueAt vs k) (by rw [<-l];exact rel.val k);exact ⟨dd.typeIs,wpAny_getItem_of (yp ry) dd.mapOf hw ⟨v,H2,I2.tok _,rw',q2⟩⟩
theorem Rb (ha:DE X a ma)(hb:DE X b mb)(hs:UW b):DE X (.Subscript a b pos) (CG Mw ma mb):=(afA ha hb hs).of fun Z H Q h=>two h fun {H2 μ2 h2 x y wx wy Qw} R r1 r2 m k=>by
 unfold Mw at m;split at m
 ·rename_i n kk e;split at m
  ·rename_i kvs ec;split at m
   ·rename_i w ev;obtain ⟨p,kvv,hp,hx,rf⟩:=R.dctAt ec;rw [CK] at r1;obtain ⟨p',e1,hp'⟩:=r1;have ep:p'=p:=by rw [hp] at hp';exact (Gz hp').symm
    subst ep;obtain ⟨v,e2,rv⟩:=rf.val ev;exact ⟨p',kvv,kk,v,e1,.inl hx,lV r2 e,e2,k _ _ ⟨μ2,w,h2,.refl,R,rv,m⟩⟩
   ·exact m.elim
  ·exact m.elim
 ·exact m.elim
def V9:Ql:=fun o i v H N=>∃ a kvs k,o=.ref a/\H a=FN (.dK kvs)/\i=kV k/\kvs.length<FP/\N (FQ H a (.dK (Kr kvs k v)))
theorem set_dict:VL X V9:=by
 intro ajd s Z H o i v ov iv u Q I ro ri rv ⟨a,kvs,k,eo,e,ei,l,q⟩;subst eo ei;obtain rfl:ov=Value.ref a:=ro;obtain ⟨z,hd,vs,rel,dd⟩:=Jv I.hok e;have hz:vs.length<=FP:=by rw [<-rel.length];exact z
 have hl:(Kr kvs k v).length<=FP:=by have:=qm kvs k v;lia
 refine wpAny_setItem_pairs (hsz:=hz) (yp ri) dd fun h' dd' hs=>⟨_,?_,q⟩;have he:∃ q,h'.get? a=FN q:=let ⟨q,_,_,hq,_⟩:=dd';⟨q,hq⟩
 exact zq I (by rw [e];exact True.intro) hs he<|PK hl hd (rel.put k rv) dd'
def qD:Uo:=fun o i w h N=>match o,Yn i with
 | .loc n,FN k=>(match h.c n with
  | some (.dct kvs)=>eG (kvs.length+1) (N (h.set n (.dct (J9 kvs k w))))
  | _=>False)
 | _,_=>False
theorem iB {K:CT}:Aa K V9 qD:=by
 intro H μ h o i v wo wi w Nw N R ro ri r m k;unfold qD at m;split at m
 ·rename_i n kk e;split at m
  ·rename_i kvs ec;obtain ⟨p,kvv,hp,hx,rf⟩:=R.dctAt ec;rw [CK] at ro;obtain ⟨p',e1,hp'⟩:=ro;have ep:p'=p:=by rw [hp] at hp';exact (Gz hp').symm
   subst ep;refine ⟨p',kvv,kk,e1,hx,lV ri e,?_,k _ ⟨μ,_,(Ex.write R hp).ext,R.write (c:=.dct (J9 kvs kk w)) hp trivial ⟨_,bF,?_⟩,m.ok.2⟩⟩
   ·have:=m.ok.1
    rw [V3 rf] at this;lia
   ·refine nW.put ?_ ((Ex.write R hp).ext.r _ _ r) kk;exact Paired.mapP rf fun _ _ z=>⟨z.1,(Ex.write R hp).ext.r _ _ z.2⟩
  ·exact m.elim
 ·exact m.elim
def mDs:List (Key×ME)->MA
 | [],_,h,Q=>Q [] h
 | p::r,Z,h,Q=>p.2 Z h fun w h1=>mDs r Z h1 fun ws h2=>Q (w::ws) h2
def mkD:List (Key×ME)->List W->List (Key×W)->List (Key×W)
 | p::r,w::ws,acc=>mkD r ws (J9 acc p.1 w)
 | _,_,acc=>acc
def Ii (r:List (Key×ME)):ME:=fun Z h Q=>mDs r Z (h.new (.dct [])) fun ws h2=>match h2.c h.nx with
 | some (.dct [])=>Q (.loc h.nx) (h2.set h.nx (.dct (mkD r ws [])))
 | _=>False
inductive Mt (X:Cx):List (Option Expr)->List Expr->List (Key×ME)->Prop
 | nil:Mt X [] [] []
 | cons {x:Str} {j pos} {v:Expr} {m:ME} {ks:List (Option Expr)} {vs:List Expr} {r:List (Key×ME)} (h:DE X v m) (t:Mt X ks vs r):Mt X (FN (.Constant (.str x) j pos)::ks) (v::vs) ((.inr x,m)::r)
def trD (K:CT)(r:List (Key×ME)):List (TE×TE):=r.map fun p=>(tC (kV p.1),tD K p.2)
theorem Mt.pps {ks:List (Option Expr)}{vs:List Expr}{r:List (Key×ME)}(h:Mt X ks vs r):PPs X pos ks vs (trD X.K r):=by
 induction h with
 | nil=>exact afh
 | cons h t ih=>exact zaT OD h ih
theorem Mt.all {ks:List (Option Expr)}{vs:List Expr}{r:List (Key×ME)}(h:Mt X ks vs r):ks.all (·.isSome)=true/\ks.length=vs.length/\ks.length=r.length:=by
 induction h with
 | nil=>exact ⟨rfl,rfl,rfl⟩
 | cons h t ih=>exact ⟨by rw [Sh,ih.1];rfl,by rw [K7,K7,ih.2.1],by rw [K7,K7,ih.2.2]⟩
theorem Am {K:CT}:∀ {r:List (Key×ME)} {Z : St} {H:Hp} {μ : Mu} {h:Gh} {Zw:Sw} {Qw:List W->Gh->Prop} {Q:List (V×V)->Hp->Prop},Ej K μ H h->Slots K H μ Zw Z->mDs r Zw h Qw ->
  (∀ (vs:List V) (ws:List W) (H':Hp) (μ':Mu) (h':Gh),Ik K H μ H' μ'->Ej K μ' H' h'->aM K H' μ' ws vs->vs.length=r.length->Qw ws h'->Q ((r.zip vs).map fun p=>(kV p.1.1,p.2)) H')->wY (trD K r) Z H Q
 | [],Z,H,μ,h,Zw,Qw,Q,R,S,m,k=>k [] [] H μ h .refl R aM.nil rfl m
 | p::r,Z,H,μ,h,Zw,Qw,Q,R,S,m,k=>by
  show tC (kV p.1) Z H fun x H1=>tD K p.2 Z H1 fun y H2=>wY (trD K r) Z H2 fun ps H3=>Q ((x,y)::ps) H3
  refine ⟨μ,h,Zw,_,R,S,m,fun v H1 ⟨μ1,w,h1,e1,R1,r1,m1⟩=>?_⟩;refine Am R1 (S.ext e1) m1 fun vs ws H2 μ2 h2 e2 R2 rs hl q=>?_;exact k (v::vs) (w::ws) H2 μ2 h2 (e1.trans e2) R2 (aM.cons (e2.r _ _ r1) rs) (by rw [K7,K7,hl]) q
theorem Qd {K:CT}{H:Hp}{μ : Mu}:∀ {r:List (Key×ME)} {ws:List W} {vs:List V} {acc:List (Key×W)} {accv:List (Key×V)},aM K H μ ws vs->vs.length=r.length->nW K H μ acc accv ->
  nW K H μ (mkD r ws acc) (pQ accv ((r.zip vs).map fun p=>(p.1.1,p.2)))
 | [],ws,vs,acc,accv,rs,hl,ra=>by
  have e:vs=[]:=List.length_eq_zero_iff.mp hl;subst e;cases ws with
  | nil=>exact ra
  | cons w ws=>exact ra
 | p::r,ws,vs,acc,accv,rs,hl,ra=>by
  cases ws with
  | nil=>rw [aM] at rs;subst rs;cases hl
  | cons w ws=>
   rw [aM] at rs;obtain ⟨v,vs',e,rv,rs'⟩:=rs;subst e;exact Qd (r:=r) rs' (by simpa using hl)<|ra.put rv p.1
theorem O9 {ks:List (Option Expr)}{vs:List Expr}{r:List (Key×ME)}(h:Mt X ks vs r)(h0:ks≠[])(h15:ks.length<=15):DE X (.Dict ks vs pos) (Ii r):=
 (aeJ h.pps h.all.1 h.all.2.1 h0 h15).of fun Z H Q ⟨μ,g,Zw,Qw,R,S,m,q⟩ p hp=>by
  have R1:Ej X.K (μ.put g.nx p) (FQ H p (.dK [])) (g.new (.dct [])):=R.newCell hp trivial ⟨[],bF,.nil⟩;have e1:=(Ex.newCell (o:=.dK []) R hp).ext;refine Am R1 (S.ext e1) m fun vs' ws H2 μ2 h2 e2 R2 rs hl z=>?_;split at z
  ·rename_i ec;obtain ⟨p',kvv,hp',hx,rf⟩:=R2.dctAt ec;have r0:CK X.K (FQ H p (.dK [])) (μ.put g.nx p) (.loc g.nx) (.ref p):=by rw [CK];exact ⟨p,rfl,Mu.put_same⟩
   have r2:=e2.r _ _ r0;rw [CK] at r2;obtain ⟨p'',ep,hp''⟩:=r2;cases ep;have ep:p'=p:=by rw [hp''] at hp';exact (Gz hp').symm
   subst ep;unfold nW at rf;cases rf;refine ⟨hx,(r.zip vs').map (fun p=>(p.1.1,p.2)),by rw [KC];rfl,?_,?_⟩
   ·rw [DX,List.length_zip,hl,<-h.all.2.2,Nat.min_self];exact h15
   ·have ew:=(Ex.write (o:=.dK (pQ [] ((r.zip vs').map (fun p=>(p.1.1,p.2))))) R2 hp'').ext;refine q _ _ ⟨μ2,.loc g.nx,_,(e1.trans e2).trans ew,R2.write (c:=.dct (mkD r ws [])) hp'' trivial ⟨_,bF,?_⟩,by rw [CK];exact ⟨p',rfl,hp''⟩,z⟩;exact Qd (ew.s rs) hl .nil
  ·exact z.elim
end
inductive Ax (w:Dq) (K:CT):List QW->List (Key×W)->Prop
 | nil:Ax w K [] []
 | cons {x:Str} {t} {v:V} {u:Mk} {d:W} {es:List QW} {tbl:List (Key×W)} (r:RelV v u) (q:∀ H μ,CK K H μ d v) (h:Ax w K es tbl):Ax w K (⟨Te w.params x,.str x t,u⟩::es) ((.inr x,d)::tbl)
def Y7 (w:Dq)(K:CT)(a:Addr)(tbl:List (Key×W)):Prop:=(a==M5)=false/\(tbl.map (·.1)).Nodup/\tbl.length<=FP/\∃ es n,K.lookup a=FN ⟨.type "dict",FX,.dict es n,#[]⟩/\Ax w K es.toList tbl
variable {tbl : List (Key×W)}
theorem Ax.pairs {P:Ei}{w:Dq}{K:CT}{es:List QW}(h:Ax w K es tbl):
  (∀ e∈es,∃ k,(cG P w).is k e.key=true/\e.hash=(cG P w).hash k)/\∃ vs kvv,Pairs (cG P w) es vs/\KV kvv vs/\(∀ H μ,nW K H μ tbl kvv)/\vs.map (·.1)=tbl.map (·.1):=by
 induction h with
 | nil=>exact ⟨fun e z=>(nomatch z),[],[],.nil,.nil,fun _ _=>.nil,rfl⟩
 | @cons x t v u d es tbl r q h ih=>
  obtain ⟨h1,vs,kvv,h2,h3,h4,h5⟩:=ih;have hk:(cG P w).is (.inr x) (.str x t)=true:=yp (k:=.inr x) ⟨t,rfl⟩;refine ⟨fun e z=>?_,(.inr x,u)::vs,(.inr x,v)::kvv,.cons hk rfl h2,.cons ⟨rfl,r⟩ h3,fun H μ=>.cons ⟨rfl,q H μ⟩<|h4 H μ,by rw [DY,DY,h5]⟩;rcases Ge.mp z with z | z
  ·subst z;exact ⟨.inr x,hk,rfl⟩
  ·exact h1 e z
theorem Y7.dict {X:Cx}{ajd:List (Addr×Obj)}{Z : St}{H:Hp}{s:AP}{a:Addr}(T:Y7 X.w X.K a tbl)(I:CQ X ajd Z H s):
  ∃ vs kvv,s.heap.DictOf (cG X.prog X.w) a vs/\KV kvv vs/\∀ H μ,nW X.K H μ tbl kvv:=by
 obtain ⟨_,nd,_,es,n,hl,he⟩:=T;obtain ⟨h1,vs,kvv,h2,h3,h4,h5⟩:=he.pairs (P:=X.prog);exact ⟨vs,kvv,⟨_,es,n,I.kIn _ _ hl,⟨rfl,rfl,rfl⟩,rfl,fun e z=>h1 e<|Array.mem_toList_iff.mpr z,h2,by rw [h5];exact nd⟩,h3,h4⟩
section
variable {X:Cx}{b:Expr}{pos p:Pos}{x:Str}{a:Addr}
def Za (tbl:List (Key×W))(mb:ME):ME:=fun Z h Q=>mb Z h fun y h1=>match Yn y with
 | some k=>(match mK tbl k with
  | some w=>Q w h1
  | none=>False)
 | none=>False
theorem aao (T:Y7 X.w X.K a tbl)(hg:Gl X x)(hm:X.mg x=FN (.ref a))(hb:DE X b mb)(hs:UW b)(hd:(x==("__debug__" : Str))=false:=by decide):DE X (.Subscript (.Name x p) b pos) (Za tbl mb):=by
 intro ajd s Z H Q I ⟨μ,g,Zw,Qw,R,S,m,q⟩;refine yP PySem.F.slot_dict_getitem.lookup hs<|Fz ((kj (v:=.ref a) hg hm rfl hd:PE X (.Name x p) (tC<|.ref a)) ajd s Z H (fun v H'=>v=.ref a/\H'=H) I ⟨rfl,rfl⟩) fun u s1 ⟨v1,H1,I1,rx,ev,eH⟩=>?_
 subst ev eH;obtain rfl:u=Value.ref a:=rx;refine Fz (hb ajd s1 Z H1 _ I1 ⟨μ,g,Zw,_,R,S,m,fun y H2 z=>z⟩) fun iv s2 ⟨y,H2,I2,ry,μ2,wy,h2,e2,R2,r2,z⟩=>?_;obtain ⟨vs,kvv,dd,rel,rf⟩:=T.dict I2;split at z
 ·rename_i k ek;split at z
  ·rename_i w ew;cases lV r2 ek
   obtain ⟨v,ev,rv⟩:=(rf H2 μ2).val ew;obtain ⟨w',hw,rw'⟩:=J8.some_of (v:=v) (o:=valueAt vs k) (by rw [<-ev];exact rel.val k);exact ⟨dd.typeIs,wpAny_getItem_of (yp ry) dd.mapOf hw ⟨v,H2,I2.tok _,rw',q _ _ ⟨μ2,w,h2,e2,R2,rv,z⟩⟩⟩
  ·exact z.elim
 ·exact z.elim
end
section
variable {X:Cx}{pos p p':Pos}{x:Str}{a:Addr}
end
section
variable {X:Cx}
end
section
variable {X:Cx}{K:CT}{H:Hp}{h:Gh}
def uo (h:Gh)(w:W):Option W:=match w with
 | .lst ws=>(match oX h ws with
  | some ds=>FN (.lst ds)
  | none=>FX)
 | w=>TF h w
theorem Ci {w d:W}{v:V}{n:Nat}(R:Ej K μ H h)(r:CK K H μ w v)(e:uo h w=FN d)(p:Eh n d=true):Dt K H d v:=by
 cases w with
 | lst ws=>
  unfold uo at e;dsimp only at e;cases e1:oX h ws with
  | none=>rw [e1] at e;cases e
  | some ds=>
   rw [e1] at e;cases e;rw [CK] at r;obtain ⟨q,xs,ev,hs,rs⟩:=r;obtain ⟨m,rfl,p⟩:=Jw p;rw [Dt];exact ⟨q,xs,ev,hs.sq,ur R rs e1 p⟩
 | _=>exact zaY R r (by unfold uo at e;exact e) p
def adk:M2:=fun x y h Q=>match uo h x,uo h y with
 | some a,FN b=>Jr (Eh 30 a&&Eh 30 b) (Q (.bl (Fy a b)) h) False
 | _,_=>False
def Vt:M2:=fun x y h Q=>match uo h x,uo h y with
 | some a,FN b=>Jr (Eh 30 a&&Eh 30 b) (Q (.bl (!Fy a b)) h) False
 | _,_=>False
theorem abb (hu:X.A.units+30<JQ):Lf X (Ku .NotEq) Vt:=⟨_,Ov hu,by
 intro H μ h x y wx wy Qw Q R rx ry m k;unfold Vt at m;split at m
 ·rename_i a b ea eb;cases hp:(Eh 30 a&&Eh 30 b) with
  | true=>
   rw [hp] at m;rw [Nk] at hp;exact ⟨a,b,Ci R rx ea hp.1,Ci R ry eb hp.2,hp.1,hp.2,k _ _<|.bl R m⟩
  | false=>rw [hp] at m;exact (show False from m).elim
 ·exact m.elim⟩
end
section
variable {X:Cx}{a b c:Expr}{mc:ME}{pos:Pos}
end
section
variable {K:CT}{H:Hp}{fs:List (Str×W)}{fvs:List (Str×V)}{f:Str}{w:W}{v:V}
end
section
variable {X:Cx}{e o value:Expr}{es:List Expr}{mo mv:ME}{f:Str}{C:Addr}{pos pos' apos:Pos}
end
section
variable {prog:Ei}{w:Dq}{A:FZ}{E:Mk->AP->Prop}{s:AP}
theorem agC:typeLookup (.type "list_reverseiterator") "__len__" = pure FX:=by rw [typeLookup_type,builtinLookup_eq_fast];kernel_rfl
theorem aeC:typeLookup (.type "list_reverseiterator") "__length_hint__" = pure (FN (.builtin "list_reverseiterator.__length_hint__")):=by rw [typeLookup_type,builtinLookup_eq_fast];kernel_rfl
theorem zaP {r:Addr}{Q:Bool->AP->Prop}(hT:s.TypeIs (.ref r) "list_reverseiterator")(h:Q false s):Cu (Cp prog w) A (Builtin.List.listLengthHint (.ref r)) Q E s:=by
 unfold Builtin.List.listLengthHint;refine CN<|wpAny_specialOf hT agC ?_
 dsimp only;refine V8 (fun hab=>absurd hab<|by decide)<|fun _=>?_
 refine V8 (fun hab=>absurd hab<|by decide)<|fun _=>?_
 refine CN<|wpAny_specialOf hT aeC ?_
 generalize hid:("list_reverseiterator.__length_hint__" : String)=id0
 wp_delta
 rw [show splitId id0=FN ("list_reverseiterator", "__length_hint__") from by subst hid;decide +kernel];subst hid;refine CN<|wpAny_isInstance (T := "list_reverseiterator") (b:=true) hT (by rw [isSubtype_type];kernel_rfl) ?_
 refine V8 (fun hab=>absurd hab<|by decide)<|fun _=>?_
 refine V8 (fun _=>?_)<|fun hab=>absurd (by decide +kernel) hab
 refine V8 (fun hab=>absurd hab<|by decide +kernel)<|fun _=>?_
 exact Cz h
theorem adA {r l:Addr}{items:Array Mk}(hh:A.handled=FX)(hit:s.heap.IsRevIter r l ((items.size:Int) - 1))(hl:s.heap.IsList l items)(hne:l≠r)(S:Addr)(hSr:S≠r)(hSl:S≠l)(res:Mk)(c₀ : Nat)(hS:s.heap.get? S=FN { cls:=.type "list",data:=.seq #[] c₀ })
  (hR:∀ h' tk acc' c',(∀ b o,b≠S->b≠r->s.heap.get? b=FN o->h'.get? b=FN o)->h'.get? S=FN { cls:=.type "list",dict:=FX,data:=.seq acc' c',slots:=#[] }->ItemsOf (fun i v=>items[items.size - 1 - i]?=FN v) acc' items.size->R (.ok (.ret res)) { s with heap:=h',toks:=tk }) (hn:items.size<=FP) :
  Cu (Cp prog w) A.in1 (X8 (.ref S) (.ref r) res)
   (fun fin s'=>match fin with | .done f=>R (.ok f) s' | .again c'=>c'.quiet=true/\QV (Cp prog w) A c' R s') (fun e s'=>R (.error e) s') s:=by
 have hSf:S∉[r,l]:=by simp only [Ge,M7,or_false,not_or];exact ⟨hSr,hSl⟩
 have W:=Walks.listRev (prog:=prog) (w:=w) (A:=A.in1) hh r l hne items;have st:(fun (i:Nat) (h:Heap)=>i<=items.size/\h.IsRevIter r l ((items.size:Int) - 1 - (i:Int))/\h.IsList l items) 0 s.heap:=⟨Ko _,by simpa using hit,hl⟩
 have key:∀ (h:Heap) (c₁ tk:Nat),(fun (i:Nat) (h:Heap)=>i<=items.size/\h.IsRevIter r l ((items.size:Int) - 1 - (i:Int))/\h.IsList l items) 0 h->(∀ b o,b≠S->s.heap.get? b=FN o->h.get? b=FN o) ->
   h.get? S=FN { cls:=.type "list",data:=.seq #[] c₁ }->QV (Cp prog w) A (.builtin "list.extend.loop" ⟨[.ref S,.ref r,res],[]⟩) R { s with heap:=h,toks:=tk }:=by
  intro h c₁ tk hst hk hS₁;refine codeAny_extend_loopS W.toS hn S hSf res items.size 0 _ #[] c₁ rfl (Ko _) hst hS₁ (ItemsOf.nil _) fun s' acc' c' hm hS' hacc=>?_;rw [Moved.eq_with hm];refine hR s'.heap s'.toks acc' c' (fun b o hb hr e=>hm.heap b o (fun hmem=>?_)<|hk b o hb e) hS' hacc;rcases Ge.mp hmem with e' | hmem
  ·exact hb e'
  ·exact hr<|Kp.mp hmem
 unfold X8;refine CN<|Qn (T := "list_reverseiterator") hit.typeIs ?_
 have h1:Builtin.List.listSameRef (.ref S) (.ref r)=false:=by simp [Builtin.List.listSameRef,hSr]
 have n1:(Value.type "list_reverseiterator"==Value.type "list")=false:=by decide +kernel
 have n2:(Value.type "list_reverseiterator"==Value.type "tuple")=false:=by decide +kernel
 simp only [h1,n1,n2,Bool.or_false,R8,if_false];refine CN<|wpAny_pyIter_revIter hit ?_
 refine CN<|NK<|zaP hit.typeIs ?_
 refine V8 (fun _=>?_)<|fun _=>Cz ⟨Uj PySem.F.plain_extend_loop _,key _ c₀ _ st (fun b o _ e=>e) hS⟩
 refine CN<|Nj ?_
 refine CN ?_;show Cu _ _ (updateSeq S (·.push .none) >>= fun _=>updateSeq S (·.pop)) _ _ _;refine CN<|wpAny_updateSeq hS rfl ?_
 have hS₂:=Vc (SX (·.push Value.none)) hS rfl;refine wpAny_updateSeq (hz:=by seq_fits) hS₂ rfl ?_;have hS₃:=Vc (SX (·.pop)) hS₂ rfl;refine Cz ⟨Uj PySem.F.plain_extend_loop _,key _ _ _ ?_ (fun b o hb e=>?_) hS₃⟩
 ·refine W.frame 0 _ _ st fun b hb o e=>?_;have hbS:b≠S:=fun h=>hSf (h ▸ hb)
  exact (Sy _ _<|Ji hbS).trans ((Sy _ _<|Ji hbS).trans e)
 ·exact (Sy _ _<|Ji hb).trans ((Sy _ _<|Ji hb).trans e)
end
theorem zaV:∀ {xs:List V} {us:List Mk},CR xs us->CR xs.reverse us.reverse:=by
 intro xs us r;induction r with
 | nil=>exact .nil
 | cons h t ih=>
  rw [W5,W5];exact CR.append ih<|.cons h .nil
theorem BZ {K:CT}{H:Hp}{μ : Mu}:∀ {ws:List W} {vs:List V},aM K H μ ws vs->aM K H μ ws.reverse vs.reverse
 | [],vs,r=>by rw [aM] at r;subst r;exact aM.nil
 | w::ws,vs,r=>by
  rw [aM] at r;obtain ⟨v,vs',e,rv,r⟩:=r;subst e;rw [W5,W5];exact aM.append (BZ r)<|aM.cons rv aM.nil
section
variable {X:Cx}
end
section
variable {X:Cx}{e:Expr}{me:ME}{x:Str}{a:Addr}{p pos:Pos}
end
section
variable {X:Cx}{C:Addr}{o e:Expr}{es:List Expr}{mo:ME}{pos apos:Pos}
end
def yQ (kvs:List (List Int×W))(k:List Int):Option W:=(kvs.find? fun x=>decide (x.1=k)).map (·.2)
def Uw (kvs:List (List Int×W))(k:List Int)(w:W):List (List Int×W):=if (yQ kvs k).isSome then kvs.map (fun x=>if x.1=k then (x.1,w) else x) else kvs++[(k,w)]
section
variable {X:Cx}{ajd:List (Addr×Obj)}{Z : St}{H:Hp}{s:AP}{K:CT}
def Fj (K:CT)(H:Hp)(xs:List (List Int×Addr×Mk)):Prop:=∀ x∈xs,HJ K H x.2.1 (x.1.map V.int)
theorem wX {b:Addr}(I:CQ X ajd Z H s)(hb:HJ X.K H b (k.map V.int)):(tupleKind (RV X.prog X.w)).is s.heap k b:=by
 obtain ⟨its2,r2,⟨o,ho,hcl,n,hd⟩,_⟩:=I.tuple hb;exact ⟨o,_,_,ho,hcl,hd,uM r2⟩
theorem zL {a:Addr}{xs:List (List Int×Addr×Mk)}(I:CQ X ajd Z H s)(e:H a=FN (.ext (Ep a xs)))(hk:Fj X.K H xs):xs.length<=FP/\(a==M5)=false/\s.heap.DictOfH (tupleKind (RV X.prog X.w)) a xs:=by
 obtain ⟨⟨z,y,nd,o,es,ep,h1,h2,h3,h4⟩,_⟩:=I.hok a _ e;exact ⟨z,y,o,es,ep,h1,h2,h3,h4,fun x hx=>wX I<|hk x hx,nd⟩
theorem Fi {P:Ei}{w:Dq}{H':Hp}{a:Addr}{xs:List (List Int×Addr×Mk)}{h:Heap}(z:xs.length<=FP)(y:(a==M5)=false)(d:h.DictOfH (tupleKind (RV P w)) a xs):eE P w H' h a (.ext (Ep a xs)):=by
 obtain ⟨o,es,ep,h1,h2,h3,h4,_,h5⟩:=d;exact ⟨⟨z,y,h5,o,es,ep,h1,h2,h3,h4⟩,⟨o,h1⟩,fun g1 g2 ⟨z,y,nd,o,es,ep,a1,a2,a3,a4⟩ k=>⟨z,y,nd,o,es,ep,k o a1,a2,a3,a4⟩⟩
theorem afG {x:List Int×Addr×Mk}{xs:List (List Int×Addr×Mk)}:atKey (x::xs) k=if x.1=k then FN x.2 else atKey xs k:=by
 unfold atKey;rw [QF];by_cases e:x.1=k
 ·rw [if_pos e];simp [e]
 ·rw [if_neg e];simp [e]
theorem zZ {x:List Int×W}{kvs:List (List Int×W)}:yQ (x::kvs) k=if x.1=k then FN x.2 else yQ kvs k:=by
 unfold yQ;rw [QF];by_cases e:x.1=k
 ·rw [if_pos e];simp [e]
 ·rw [if_neg e];simp [e]
theorem tM:∀ {kvs:List (List Int×W)} {xs:List (List Int×Addr×Mk)} {vs:List V},kvs.map (·.1)=xs.map (·.1)->CR vs (xs.map (·.2.2))->aM K H μ (kvs.map (·.2)) vs->∀ k:List Int,
  (∀ w,yQ kvs k=FN w->∃ p v,atKey xs k=FN p/\RelV v p.2/\CK K H μ w v)/\(yQ kvs k).isSome=(atKey xs k).isSome
 | [],[],_,_,_,_,k=>⟨fun w e=>by simp [yQ] at e,rfl⟩
 | [],_::_,_,e,_,_,_=>by simp at e
 | _::_,[],_,e,_,_,_=>by simp at e
 | x::kvs,y::xs,vs,e,hv,hr,k=>by
  rw [DY,DY] at e;obtain ⟨e1,e2⟩:=Q7 e;rw [DY,aM] at hr;obtain ⟨v,vs',rfl,r1,r2⟩:=hr;rw [DY] at hv;cases hv with
  | cons a b=>
   obtain ⟨i1,i2⟩:=tM e2 b r2 k;rw [zZ,afG,e1];by_cases z:y.1=k
   ·rw [if_pos z,if_pos z];exact ⟨fun w ew=>by cases ew;exact ⟨_,v,rfl,a,r1⟩,rfl⟩
   ·rw [if_neg z,if_neg z];exact ⟨i1,i2⟩
theorem Ej.dttAt {h:Gh}{n:Nat}{kvs:List (List Int×W)}(R:Ej K μ H h)(e:h.c n=FN (.dtt kvs)):∃ p xs vs,μ.f n=FN p/\H p=FN (.ext (Ep p xs))/\kvs.map (·.1)=xs.map (·.1)/\CR vs (xs.map (·.2.2))/\aM K H μ (kvs.map fun x=>W.tup (x.1.map W.int)) (xs.map fun x=>V.ref x.2.1)/\aM K H μ (kvs.map (·.2)) vs:=by
 obtain ⟨p,e1,xs,vs,a,b,c,d,f⟩:=R.cel n _ e;exact ⟨p,xs,vs,e1,a,b,c,d,f⟩
theorem pN:∀ {k:List Int} {vs:List V},aM K H μ (k.map W.int) vs->vs=k.map V.int
 | [],_,h=>by rw [KJ,aM] at h;exact h
 | i::k,_,h=>by
  rw [DY,aM] at h;obtain ⟨v,vs,rfl,r,t⟩:=h;rw [CK] at r;rw [r,pN t];rfl
theorem zbD {b:Addr}(r:CK K H μ (.tup (k.map .int)) (.ref b)):HJ K H b (k.map V.int):=by
 rw [CK] at r;obtain ⟨p,xs,e,hs,hr⟩:=r;cases e;rw [pN hr] at hs;exact hs
theorem jE:∀ {kvs:List (List Int×W)} {xs:List (List Int×Addr×Mk)},kvs.map (·.1)=xs.map (·.1)->aM K H μ (kvs.map fun x=>W.tup (x.1.map W.int)) (xs.map fun x=>V.ref x.2.1)->Fj K H xs
 | [],[],_,_=>fun x hx=>nomatch hx
 | [],_::_,e,_=>by simp at e
 | _::_,[],e,_=>by simp at e
 | x::kvs,y::xs,e,hr=>by
  rw [DY,DY] at e;obtain ⟨e1,e2⟩:=Q7 e;rw [DY,DY,aM] at hr;obtain ⟨v,vs',ev,r1,r2⟩:=hr;obtain ⟨rfl,rfl⟩:=Q7 ev;intro z hz;rcases Ge.mp hz with rfl | hz
  ·rw [e1] at r1;exact zbD r1
  ·exact jE e2 r2 z hz
end
section
variable {X:Cx}{a b o i:Expr}{td ty:TE}{pos:Pos}
def Ka:W->Option (List Int)
 | .tup ws=>u6 ws
 | _=>FX
def Yj:M2:=fun x y h Q=>match x,Ka y with
 | .loc n,FN k=>(match h.c n with
  | some (.dtt kvs)=>(match yQ kvs k with
   | some w=>Q w h
   | none=>False)
  | _=>False)
 | _,_=>False
theorem jM {K:CT}{H:Hp}{y:W}{v:V}(r:CK K H μ y v)(e:Ka y=FN k):∃ b,v=.ref b/\HJ K H b (k.map V.int):=by
 unfold Ka at e;split at e
 ·rw [CK] at r;obtain ⟨p,xs,e1,hs,hr⟩:=r;rw [Bx hr e] at hs;exact ⟨p,e1,hs⟩
 ·cases e
theorem xP {k:List Int}{v:Mk}:∀ {xs:List (List Int×Addr×Mk)},(xs.map (putAt k v)).map (·.1)=xs.map (·.1)
 | []=>rfl
 | x::xs=>by
  rw [DY,DY,DY,xP];congr 1
  unfold putAt;by_cases e:x.1=k
  ·rw [if_pos e]
  ·rw [if_neg e]
theorem v8 {k:List Int}{v:Mk}:∀ {xs:List (List Int×Addr×Mk)},(xs.map (putAt k v)).map (fun x=>V.ref x.2.1)=xs.map (fun x=>V.ref x.2.1)
 | []=>rfl
 | x::xs=>by
  rw [DY,DY,DY,v8];congr 1
  unfold putAt;by_cases e:x.1=k
  ·rw [if_pos e]
  ·rw [if_neg e]
def VG (K:CT):Ql:=fun o i v H N=>∃ a xs k b,o=.ref a/\H a=FN (.ext (Ep a xs))/\Fj K H xs/\i=.ref b/\HJ K H b (k.map V.int)/\xs.length<FP/\∀ u,RelV v u->N (FQ H a (.ext (Ep a (storedH xs k b u))))
theorem zad {xs:List (List Int×Addr×Mk)}{b:Addr}{u:Mk}:(storedH xs k b u).length<=xs.length+1:=by
 unfold storedH;split
 ·rw [DX];lia
 ·rw [Jt];exact Dg _
theorem afk (hu:X.A.units+30<JQ):VL X (VG X.K):=by
 intro ajd s Z H o i v ov iv u Q I ro ri rv ⟨a,xs,k,b,eo,e,hk,ei,hb,l,q⟩;subst eo ei;obtain rfl:ov=Value.ref a:=ro;obtain rfl:iv=Value.ref b:=ri;obtain ⟨z,hd,dd⟩:=zL I e hk;refine wpAny_setItem_heap (hsz:=z) (tupleKind_room_in1<|by lia) (wX I hb) dd fun h' dd' hs=>⟨_,?_,q u rv⟩;have he:∃ q,h'.get? a=FN q:=let ⟨q,_,_,hq,_⟩:=dd';⟨q,hq⟩
 exact zq I (by rw [e];exact True.intro) hs he<|Fi (by have:=zad (xs:=xs) (k:=k) (b:=b) (u:=u);lia) hd dd'
def JM:Uo:=fun o i w h N=>match o,Ka i with
 | .loc n,FN k=>(match h.c n with
  | some (.dtt kvs)=>eG (kvs.length+1) (N (h.set n (.dtt (Uw kvs k w))))
  | _=>False)
 | _,_=>False
theorem EY {K:CT}{H:Hp}{μ : Mu}{k:List Int}{w:W}{v:V}{u:Mk}(rv:RelV v u)(r:CK K H μ w v):∀ {kvs:List (List Int×W)} {xs:List (List Int×Addr×Mk)} {vs:List V},kvs.map (·.1)=xs.map (·.1)->CR vs (xs.map (·.2.2))->aM K H μ (kvs.map (·.2)) vs ->
  ∃ vs',CR vs' ((xs.map (putAt k u)).map (·.2.2))/\aM K H μ ((kvs.map (fun x=>if x.1=k then (x.1,w) else x)).map (·.2)) vs'
 | [],[],_,_,_,_=>⟨[],.nil,by rw [KJ,KJ,aM]⟩
 | [],_::_,_,e,_,_=>by simp at e
 | _::_,[],_,e,_,_=>by simp at e
 | x::kvs,y::xs,vs,e,hv,hr=>by
  rw [DY,DY] at e;obtain ⟨e1,e2⟩:=Q7 e;rw [DY,aM] at hr;obtain ⟨v1,vs',rfl,r1,r2⟩:=hr;rw [DY] at hv;cases hv with
  | cons a b=>
   obtain ⟨vs2,i1,i2⟩:=EY rv r e2 b r2;by_cases z:y.1=k
   ·refine ⟨v::vs2,?_,?_⟩
    ·rw [DY,DY];refine .cons ?_ i1;unfold putAt;rw [if_pos z];exact rv
    ·rw [DY,DY,aM];refine ⟨v,vs2,rfl,?_,i2⟩;rw [if_pos (e1.trans z)];exact r
   ·refine ⟨v1::vs2,?_,?_⟩
    ·rw [DY,DY];refine .cons ?_ i1;unfold putAt;rw [if_neg z];exact a
    ·rw [DY,DY,aM];refine ⟨v1,vs2,rfl,?_,i2⟩;rw [if_neg (fun q=>z (e1.symm.trans q))];exact r1
theorem GX {k:List Int}{w:W}:∀ {kvs:List (List Int×W)},(kvs.map (fun x=>if x.1=k then (x.1,w) else x)).map (·.1)=kvs.map (·.1)
 | []=>rfl
 | x::kvs=>by
  rw [DY,DY,DY,GX];congr 1
  by_cases e:x.1=k
  ·rw [if_pos e]
  ·rw [if_neg e]
theorem Hx {k:List Int}{w:W}:∀ {kvs:List (List Int×W)},(kvs.map (fun x=>if x.1=k then (x.1,w) else x)).map (fun x=>W.tup (x.1.map W.int))=kvs.map (fun x=>W.tup (x.1.map W.int))
 | []=>rfl
 | x::kvs=>by
  rw [DY,DY,DY,Hx];congr 1
  by_cases e:x.1=k
  ·rw [if_pos e]
  ·rw [if_neg e]
theorem aM.snoc {K:CT}{H:Hp}{μ : Mu}{w:W}{v:V}(r:CK K H μ w v):∀ {ws:List W} {vs:List V},aM K H μ ws vs->aM K H μ (ws++[w]) (vs++[v])
 | [],_,h=>by
  rw [aM] at h;rw [h,Wa,Wa,aM];exact ⟨v,[],rfl,r,by rw [aM]⟩
 | a::ws,_,h=>by
  rw [aM] at h;obtain ⟨b,bs,rfl,h1,h2⟩:=h;rw [W0,W0,aM];exact ⟨b,bs++[v],rfl,h1,aM.snoc r h2⟩
theorem pF {K:CT}{H:Hp}{μ : Mu}:∀ k:List Int,aM K H μ (k.map W.int) (k.map V.int)
 | []=>by rw [KJ,KJ,aM]
 | i::k=>by
  rw [DY,DY,aM];exact ⟨_,_,rfl,by rw [CK],pF k⟩
theorem adV {K:CT}:Aa K (VG K) JM:=by
 intro H μ h o i v wo wi w Nw N R ro ri r m k;unfold JM at m;split at m
 ·rename_i n kk e;split at m
  ·rename_i kvs ec;obtain ⟨p,xs,vs,hp,hx,e1,e2,r3,r4⟩:=R.dttAt ec;rw [CK] at ro;obtain ⟨p',ex,hp'⟩:=ro;have ep:p'=p:=by rw [hp] at hp';exact (Gz hp').symm
   subst ep;obtain ⟨b,eb,hb⟩:=jM ri e;have aje:kvs.length=xs.length:=by have:=congrArg QZ e1;rwa [DX,DX] at this
   have we:=fun (o:HO)=>(Ex.write (o:=o) R hp).ext
   have rk:CK K H μ (.tup (kk.map W.int)) (.ref b):=by rw [CK];exact ⟨b,_,rfl,hb,pF kk⟩
   refine ⟨p',xs,kk,b,ex,hx,jE e1 r3,eb,hb,by have:=m.ok.1;lia,fun u ru=>k _ ⟨μ,_,we _,R.write (c:=.dtt (Uw kvs kk w)) hp trivial ?_,m.ok.2⟩⟩;have hs:=(tM e1 e2 r4 kk).2;cases ea:atKey xs kk with
   | some q=>
    rw [ea] at hs;obtain ⟨vs',i1,i2⟩:=EY (k:=kk) ru r e1 e2 r4;rw [storedH_old ea];unfold Uw;rw [if_pos (show (yQ kvs kk).isSome=true from hs)];exact ⟨_,vs',bF,GX.trans<|e1.trans xP.symm,i1,by rw [Hx,v8];exact (we _).s r3,(we _).s i2⟩
   | none=>
    rw [ea] at hs;rw [storedH_new ea];unfold Uw;rw [if_neg (show ¬ (yQ kvs kk).isSome=true from by rw [hs];decide)];refine ⟨_,vs++[v],bF,?_,?_,?_,?_⟩
    ·rw [Hl,Hl,e1];rfl
    ·rw [Hl];exact CR.append e2 (.cons ru .nil)
    ·rw [Hl,Hl];exact (we _).s (aM.snoc rk r3)
    ·rw [Hl];exact (we _).s (aM.snoc r r4)
  ·exact m.elim
 ·exact m.elim
end
section
variable {prog:Ei}{w:Dq}{A:FZ}{E:Mk->AP->Prop}{s:AP}
end
section
variable {X:Cx}
end
def ps (h:Int):Nat->Nat×Nat
 | 0=>(Uq h % 32,Uq h)
 | n+1=>SetTable.leap 31 (ps h n).1 (ps h n).2
def liv (o:Array (Option Nat)):List (Nat×Nat):=(Ma 32).filterMap fun j=>(o.getD j FX).map (j,·)
structure Lay (o:Array (Option Nat)) (k:Nat):Prop where
 sz:o.size=32
 len:(liv o).length=k
 low:∀ p,p∈liv o->p.2<k
section
variable {prog:Ei}{w:Dq}{A:FZ}{E:Mk->AP->Prop}{s:AP}{a:Addr}
end
section
variable {prog:Ei}{w:Dq}{A:FZ}{E:Mk->AP->Prop}{s:AP}{t:XM}{a b:Addr}
end
section
variable {prog:Ei}{w:Dq}{A:FZ}{E:Mk->AP->Prop}
end
section
variable {prog:Ei}{w:Dq}{A:FZ}{E:Mk->AP->Prop}{s:AP}
end
section
variable {X:Cx}{K:CT}
end
section
variable {X:Cx}{K:CT}{o e:Expr}{mo:ME}{apos ajf:Pos}
end
section
variable {prog:Ei}{w:Dq}{A:FZ}{s:AP}{K:CT}{x C:Addr}
end
section
variable {prog:Ei}{w:Dq}{A:FZ}{E:Mk->AP->Prop}{s:AP}{K:CT}{x dx C f:Addr}{mA:Str->Option Mk}{name:Str}{v:Mk}
end
section
variable {prog:Ei}{w:Dq}{A:FZ}{E:Mk->AP->Prop}{s:AP}{K:CT}{x D:Addr}{ox:Obj}
end
section
variable {prog:Ei}{w:Dq}{A:FZ}{E:Mk->AP->Prop}{h:Heap}{g:Array GenState}{d:Drawn}{t:Nat}{os:OsState}
variable {nm q:Str}{C N:Addr}{bs bm bmB:List Mk}{hdct:Bool}{sn:List Str}{sub:List Mk}{ab:Bool}{col:Option Bool}{dd:Option Addr}{k0 k1 k2 k3 k5:Option Mk}{B newId initId:String}{K:CT}{f:Addr}
end
variable {sn : List Str}{sub : List Mk}{dd : Option Addr}{col : Option Bool}
section
variable {prog:Ei}{w:Dq}{M:Model}{A:FZ}{E:Mk->AP->Prop}{s:AP}{K:CT}{f:Addr}
variable {nm q:Str}{C N:Addr}{bs bm bmB:List Mk}{hdct:Bool}{ab:Bool}{k0 k1 k2 k3 k5:Option Mk}{B newId initId:String}
end
section
variable {X:Cx}{o value:Expr}{f:Str}{C:Addr}{pos pos':Pos}{ta tv:TE}
end
section
variable {X:Cx}{ajd:List (Addr×Obj)}{Z : St}{H:Hp}{s:AP}{e:Addr}
end
section
variable {X:Cx}{ajd:List (Addr×Obj)}{Z : St}{H:Hp}{s:AP}{C fi:Addr}{x f:Str}{np ajf pos:Pos}{e:Expr}{t:TA}{k:Nat}{fd:Mi}{ps:List Str}
end
section
variable {X:Cx}{e:Expr}{pos:Pos}
end
section
variable {X:Cx}{e:Expr}{f:Str}{pos:Pos}
end
section
variable {X:Cx}
end
section
variable {X:Cx}{tg:Expr}
end
section
variable {X:Cx}{K:CT}
end
section
variable {X:Cx}{pos p:Pos}{e:Expr}{es:List Expr}{k:Nat}{fs:List (Addr×CP)}
inductive VFs (X:Cx) (k:Nat):List (Addr×CP)->Prop
 | nil:VFs X k []
 | cons {f:Addr} {fd:Mi} {ps:List Str} {ms:CP} {fs:List (Addr×CP)} (F:rK X.prog X.w X.K X.mg X.base NT k f fd ps (lift X.K ms)) (hk:Rp X.K (.ref f)=true) (hb:Binds X.K fd ps []) (r:VFs X k fs):VFs X k ((f,ms)::fs)
end
def MK (P:Ei)(w:Dq)(A:FZ)(s:AP)(kd:Sg)(rk:Mk->Nat)(good:Mk->Prop):Prop:=
 ∀ (E:Mk->AP->Prop) (Q:Bool->AP->Prop) (x y:Mk),good x->good y->Q (decide (rk x<rk y)) s->Cu (Cp P w) A (keyLt' kd x y) Q E s
section
variable {P:Ei}{w:Dq}{A:FZ}{E:Mk->AP->Prop}{s:AP}{kd:Sg}{rk:Mk->Nat}{good:Mk->Prop}
def Rk (rk:Mk->Nat)(a:Array DW)(i:Nat):Nat:=match a[i]? with
 | some p=>rk p.1
 | none=>0
def bH (rk:Mk->Nat)(a:Array DW)(i j:Nat):Prop:=∀ p q,i<=p->p<q->q<j->Rk rk a p<Rk rk a q
structure Keys (rk:Mk->Nat) (good:Mk->Prop) (a:Array DW):Prop where
 good:∀ p∈a.toList,good p.1
 nd:(a.toList.map fun p=>rk p.1).Nodup
theorem za {a b:Array DW}{i j:Nat}(h:a[i]?=b[j]?):Rk rk a i=Rk rk b j:=by unfold Rk;rw [h]
theorem Keys.perm {a b:Array DW}(h:Keys rk good a)(p:b.Perm a):Keys rk good b:=by
 have pl:=Array.perm_iff_toList_perm.mp p;exact ⟨fun x hx=>h.good x<|pl.mem_iff.mp hx,(pl.map _).nodup_iff.mpr h.nd⟩
theorem Keys.ne {a:Array DW}(h:Keys rk good a){i j:Nat}(hi:i<a.size)(hj:j<a.size)(e:Rk rk a i=Rk rk a j):i=j:=by
 have e1:∀ k (hk:k<a.size),Rk rk a k=rk (a.toList[k]'(by simpa using hk)).1:=fun k hk=>by
  unfold Rk;rw [Uc hk];rfl
 rw [e1 i hi,e1 j hj] at e;refine (List.getElem_inj h.nd).mp (?_:(a.toList.map fun p=>rk p.1)[i]'(by simpa using hi)=(a.toList.map fun p=>rk p.1)[j]'(by simpa using hj))
 simpa using e
structure Mp (kd:Sg) (rk:Mk->Nat) (good:Mk->Prop) (st:Ez):Prop where
 kind:Ke st=kd
 failed:failedOf st=FX
 keys:Keys rk good (DP st)
theorem Mp.arr {st:Ez}(h:Mp kd rk good st){b:Array DW}(p:b.Perm (DP st)):Mp kd rk good (Ky st b):=⟨h.kind,h.failed,h.keys.perm p⟩
theorem cJ {a:Array DW}{i:Nat}{st:Ez}{Q:DW->Ez->Prop}(hi:i<a.size)(q:Q a[i] st):wpS (Cp P w) A E s (elem' a i) Q st:=by
 rw [elem'_eq,Uc hi];exact Dy q
theorem w_lt (C:MK P w A s kd rk good){x y:DW}{st:Ez}{Q:Option Bool->Ez->Prop}(hk:Ke st=kd)(hx:good x.1)(hy:good y.1)(q:Q (FN (decide (rk x.1<rk y.1))) st):wpS (Cp P w) A E s (lt' x y) Q st:=by
 rw [lt'_eq];refine Dv<|Qy ?_
 rw [hk];exact Dv<|wpS_lift<|VP<|C _ _ _ _ hx hy ⟨rfl,Dy q⟩
theorem gq {a:Array DW}{i:Nat}(hi:i<a.size):Rk rk a i=rk a[i].1:=by
 unfold Rk;rw [Uc hi]
theorem sU (C:MK P w A s kd rk good){i j:Nat}{st:Ez}{Q:Option Bool->Ez->Prop}(ok:Mp kd rk good st)(hi:i<(DP st).size)(hj:j<(DP st).size)(q:Q (FN (decide (Rk rk (DP st) i<Rk rk (DP st) j))) st):wpS (Cp P w) A E s (ltAt' i j) Q st:=by
 rw [ltAt'_eq];refine Dv<|Qy<|Dv<|cJ hi<|Dv<|cJ hj<|w_lt C ok.kind ?_ ?_ ?_
 ·exact ok.keys.good _<|by simp
 ·exact ok.keys.good _<|by simp
 ·rw [<-gq (rk:=rk) hi,<-gq (rk:=rk) hj];exact q
structure Within (a b:Array DW) (lo hi:Nat):Prop where
 perm:b.Perm a
 out:∀ k,k<lo\/hi<=k->b[k]?=a[k]?
theorem Within.size {a b:Array DW}{lo hi:Nat}(h:Within a b lo hi):b.size=a.size:=h.perm.size_eq
theorem Within.refl (a:Array DW)(lo hi:Nat):Within a a lo hi:=⟨Array.Perm.refl _,fun _ _=>rfl⟩
theorem Within.trans {a b c:Array DW}{lo hi:Nat}(h:Within a b lo hi)(g:Within b c lo hi):Within a c lo hi:=⟨g.perm.trans h.perm,fun k hk=>(g.out k hk).trans (h.out k hk)⟩
theorem Within.wide {a b:Array DW}{lo hi lo' hi':Nat}(h:Within a b lo hi)(h1:lo'<=lo)(h2:hi<=hi'):Within a b lo' hi':=⟨h.perm,fun k hk=>h.out k (by lia)⟩
theorem lC (st:Ez):Ky st (DP st)=st:=by cases st;rfl
theorem qg {a:Array DW}{lo n:Nat}(h:bH rk a lo (lo+n))(h1:1<=n)(g:Rk rk a (lo+n - 1)<Rk rk a (lo+n)):bH rk a lo (lo+n+1):=fun p q h2 h3 h4=>by
 by_cases c:q<lo+n
 ·exact h p q h2 h3 c
 ·have e:q=lo+n:=by lia
  subst e;by_cases c2:p=lo+n - 1
  ·rw [c2];exact g
  ·exact Rg (h p (lo+n - 1) h2 (by lia)<|by lia) g
theorem w_count (C:MK P w A s kd rk good){lo nrem:Nat}{st:Ez}{Q:Option Nat->Ez->Prop}(ok:Mp kd rk good st)(h1:1<=nrem)(hz:lo+nrem<=(DP st).size)
  (q:∀ (n:Nat) (b:Array DW),1<=n->n<=nrem->Within (DP st) b lo (lo+nrem)->bH rk b lo (lo+n)->(bH rk (DP st) lo (lo+nrem)->n=nrem/\b=DP st)->Q (FN n) (Ky st b)) :
  wpS (Cp P w) A E s (countRun' lo nrem) Q st:=by
 rw [countRun'_eq];have ne:∀ {i j:Nat},i<(DP st).size->j<(DP st).size->i≠j->Rk rk (DP st) i≠Rk rk (DP st) j:=fun hi hj c e=>c (ok.keys.ne hi hj e)
 refine Dv (N5 (Ni
  (I:=fun x c st'=>st'=st/\c=(FX,x)/\bH rk (DP st) lo (lo+x)/\x<=nrem)
  (Q:=fun c st'=>st'=st/\∃ n,c=(FX,n)/\1<=n/\n<=nrem/\bH rk (DP st) lo (lo+n)/\(n=nrem\/Rk rk (DP st) (lo+n)<Rk rk (DP st) (lo+n - 1))) ?_ ?_ ⟨rfl,rfl,fun p q a b c=>by lia,h1⟩) ?_)
 ·rintro x c st' hx1 hx2 ⟨rfl,rfl,hr,_⟩;dsimp only;refine Dv<|sU C ok (by lia) (by lia) ?_
  by_cases c:Rk rk (DP st') (lo+x)<Rk rk (DP st') (lo+x - 1)
  ·rw [decide_eq_true c];exact Dy ⟨rfl,x,rfl,hx1,by lia,hr,.inr c⟩
  ·rw [decide_eq_false c];have:=ne (i:=lo+x) (j:=lo+x - 1) (by lia) (by lia) (by lia)
   exact Dy ⟨rfl,rfl,qg hr hx1<|by lia,by lia⟩
 ·rintro c st' ⟨rfl,rfl,hr,hx⟩;have e:max 1 nrem=nrem:=by lia
  rw [e] at hr |-
  exact ⟨rfl,nrem,rfl,h1,Dg _,hr,.inl rfl⟩
 ·rintro c st' ⟨rfl,n,rfl,n1,n2,hr,hd⟩;dsimp only;by_cases en:n=nrem
  ·subst en;simp only [beq_self_eq_true,if_true];have:=q n (DP st') n1 (Dg _) (.refl _ _ _) hr fun _=>⟨rfl,rfl⟩
   rw [lC] at this;exact Dy this
  ·have hd:=hd.resolve_left en;have not:¬ bH rk (DP st') lo (lo+nrem):=fun r=>by
    have:=r (lo+n - 1) (lo+n) (by lia) (by lia) (by lia)
    lia
   rw [if_neg (by simpa using en)];by_cases c1:n>1
   ·rw [if_pos c1];have hrise:=hr lo (lo+n - 1) (Dg _) (by lia) (by lia);refine Dv<|sU C ok (by lia) (by lia) ?_
    rw [decide_eq_true hrise];have:=q n (DP st') n1 n2 (.refl _ _ _) hr fun r=>absurd r not
    rw [lC] at this;exact Dy this
   ·rw [if_neg c1];have e1:n=1:=by lia
    subst e1;refine Dv<|wpS_lift<|Nj ⟨rfl,?_⟩
    refine Dv (N5 (Ni
     (I:=fun x c st2=>st2=st'/\c=(FX,x,0)/\(∀ u v,lo<=u->u<v->v<lo+x->Rk rk (DP st') v<Rk rk (DP st') u)/\x<=nrem)
     (Q:=fun c st2=>st2=st'/\∃ m,c=(FX,m,0)/\2<=m/\m<=nrem/\∀ u v,lo<=u->u<v->v<lo+m->Rk rk (DP st') v<Rk rk (DP st') u) ?_ ?_ ⟨rfl,rfl,fun u v h2 h3 h4=>?_,by lia⟩) ?_)
    ·rintro x c st2 hx1 hx2 ⟨rfl,rfl,hf,_⟩;dsimp only;refine Dv<|sU C ok (by lia) (by lia) ?_
     by_cases c:Rk rk (DP st2) (lo+x)<Rk rk (DP st2) (lo+x - 1)
     ·rw [decide_eq_true c];refine Dy ⟨rfl,rfl,fun u v h2 h3 h4=>?_,by lia⟩;by_cases c2:v<lo+x
      ·exact hf u v h2 h3 c2
      ·have ev:v=lo+x:=by lia
       subst ev;by_cases c3:u=lo+x - 1
       ·rw [c3];exact c
       ·exact Rg c<|hf u (lo+x - 1) h2 (by lia)<|by lia
     ·rw [decide_eq_false c];have:=ne (i:=lo+x) (j:=lo+x - 1) (by lia) (by lia) (by lia)
      refine Dv<|sU C ok (by lia) (by lia) ?_
      rw [decide_eq_true (show Rk rk (DP st2) (lo+x - 1)<Rk rk (DP st2) (lo+x) by lia)];exact Dy ⟨rfl,x,rfl,by lia,by lia,hf⟩
    ·rintro c st2 ⟨rfl,rfl,hf,hx⟩;have e:max (1+1) nrem=nrem:=by lia
     rw [e] at hf |-
     exact ⟨rfl,nrem,rfl,by lia,Dg _,hf⟩
    ·have eu:u=lo+1 - 1:=by lia
     have ev:v=lo+1:=by lia
     rw [eu,ev];exact hd
    ·rintro c st2 ⟨rfl,m,rfl,m1,m2,hf⟩;dsimp only;rw [if_neg (Nv 0)];refine Dv<|wpS_reverse ?_
     have hb:∀ k,Rk rk (mirror (DP st2) lo (lo+m) ((lo+m - lo) / 2)) k=if lo<=k/\k<lo+m then Rk rk (DP st2) (lo+(lo+m) - 1 - k) else Rk rk (DP st2) k:=fun k=>by
      have e:=getElem?_mirror_all (xs:=DP st2) (i:=lo) (j:=lo+m) (by lia) k;split
      ·rename_i c;rw [if_pos c] at e;exact za e
      ·rename_i c;rw [if_neg c] at e;exact za e
     have hw:Within (DP st2) (mirror (DP st2) lo (lo+m) ((lo+m - lo) / 2)) lo (lo+nrem):=⟨mirror_perm _ _ _ _,fun k hk=>by
      rw [getElem?_mirror_all (by lia),if_neg (by lia)]⟩
     have hrb:bH rk (mirror (DP st2) lo (lo+m) ((lo+m - lo) / 2)) lo (lo+m):=fun u v h2 h3 h4=>by
      rw [hb,hb,if_pos (by lia),if_pos (by lia)];exact hf _ _ (by lia) (by lia)<|by lia
     generalize mirror (DP st2) lo (lo+m) ((lo+m - lo) / 2)=b at hb hw hrb;have ok2:Mp kd rk good (Ky st2 b):=ok.arr hw.perm;have hz2:(DP (Ky st2 b)).size=(DP st2).size:=hw.size;refine Dv (N5 (Ni
      (I:=fun x c st3=>st3=Ky st2 b/\c=(FX,x)/\bH rk b lo (lo+x)/\x<=nrem)
      (Q:=fun c st3=>st3=Ky st2 b/\∃ n,c=(FX,n)/\1<=n/\n<=nrem/\bH rk b lo (lo+n)) ?_ ?_ ⟨rfl,rfl,hrb,m2⟩) ?_)
     ·rintro x c st3 hx1 hx2 ⟨rfl,rfl,hr3,_⟩;dsimp only;refine Dv<|sU C ok2 (by lia) (by lia) ?_
      by_cases c:Rk rk (DP (Ky st2 b)) (lo+x)<Rk rk (DP (Ky st2 b)) (lo+x - 1)
      ·rw [decide_eq_true c];exact Dy ⟨rfl,x,rfl,by lia,by lia,hr3⟩
      ·rw [decide_eq_false c];have:Rk rk b (lo+x)≠Rk rk b (lo+x - 1):=fun e=>absurd (ok2.keys.ne (i:=lo+x) (j:=lo+x - 1) (by lia) (by lia) e) (by lia)
       have c:¬ Rk rk b (lo+x)<Rk rk b (lo+x - 1):=c;exact Dy ⟨rfl,rfl,qg hr3 (by lia)<|by lia,by lia⟩
     ·rintro c st3 ⟨rfl,rfl,hr3,hx⟩;have e:max m nrem=nrem:=by lia
      rw [e] at hr3 |-
      exact ⟨rfl,nrem,rfl,h1,Dg _,hr3⟩
     ·rintro c st3 ⟨rfl,n,rfl,n1,n2,hr3⟩;exact Dy<|q n b n1 n2 hw hr3 fun r=>absurd r not
end
variable {a b : Array DW}{hi lo : Nat}{good : Mk->Prop}{st : Ez}{kd : Sg}
section
variable {P:Ei}{w:Dq}{A:FZ}{E:Mk->AP->Prop}{s:AP}{rk:Mk->Nat}
theorem Yg (C:MK P w A s kd rk good){n ok':Nat}{Q:Bool->Ez->Prop}(ok:Mp kd rk good st)(h1:1<=ok')(hn:ok'<=n)(hz:lo+n<=(DP st).size)(hr:bH rk (DP st) lo (lo+ok'))
  (q:∀ b,Within (DP st) b lo (lo+n)->bH rk b lo (lo+n)->Q true (Ky st b)):wpS (Cp P w) A E s (binarySort' lo n ok') Q st:=by
 rw [binarySort'_eq];refine Dv (N5 (Ni
  (I:=fun x c st'=>c=(FX,())/\∃ b,st'=Ky st b/\Within (DP st) b lo (lo+n)/\bH rk b lo (lo+x)/\x<=n)
  (Q:=fun c st'=>c=(FX,())/\∃ b,st'=Ky st b/\Within (DP st) b lo (lo+n)/\bH rk b lo (lo+n)) ?_ ?_ ⟨rfl,DP st,(lC st).symm,.refl _ _ _,by rw [Nat.max_eq_left h1];exact hr,by lia⟩) ?_)
 ·rintro x c st' hx1 hx2 ⟨rfl,b,rfl,hw,hb,_⟩;have okb:Mp kd rk good (Ky st b):=ok.arr hw.perm;have zb:(DP (Ky st b)).size=(DP st).size:=hw.size;have zb':b.size=(DP st).size:=hw.size;have ne:∀ {i j:Nat},i<b.size->j<b.size->i≠j->Rk rk b i≠Rk rk b j:=fun hi hj c e=>c (okb.keys.ne hi hj e)
  refine Dv (N5 (Ni
   (I:=fun y c st2=>st2=Ky st b/\∃ l r,c=(FX,l,r)/\l<=r/\r<=x/\r - l<=x - y/\(∀ p,lo<=p->p<lo+l->Rk rk b p<Rk rk b (lo+x))/\∀ p,lo+r<=p->p<lo+x->Rk rk b (lo+x)<Rk rk b p)
   (Q:=fun c st2=>st2=Ky st b/\∃ l,c=(FX,l,l)/\l<=x/\(∀ p,lo<=p->p<lo+l->Rk rk b p<Rk rk b (lo+x))/\∀ p,lo+l<=p->p<lo+x->Rk rk b (lo+x)<Rk rk b p) ?_ ?_ ⟨rfl,0,x,rfl,Ko _,Dg _,by lia,fun p h2 h3=>by lia,fun p h2 h3=>by lia⟩) ?_)
  ·rintro y c st2 hy1 hy2 ⟨rfl,l,r,rfl,a1,a2,a3,a4,a5⟩;dsimp only;by_cases c:l>=r
   ·rw [if_pos c];have e:l=r:=by lia
    subst e;exact Dy ⟨rfl,l,rfl,a2,a4,a5⟩
   ·rw [if_neg c];refine Dv<|sU C okb (by lia) (by lia) ?_
    by_cases c2:Rk rk (DP (Ky st b)) (lo+x)<Rk rk (DP (Ky st b)) (lo+(l+r) / 2)
    ·rw [decide_eq_true c2];refine Dy ⟨rfl,l,(l+r) / 2,rfl,by lia,by lia,by lia,a4,fun p h2 h3=>?_⟩;have c2:Rk rk b (lo+x)<Rk rk b (lo+(l+r) / 2):=c2;by_cases c3:p=lo+(l+r) / 2
     ·rw [c3];exact c2
     ·exact Rg c2<|hb _ p (by lia) (by lia)<|by lia
    ·rw [decide_eq_false c2];have c2:¬ Rk rk b (lo+x)<Rk rk b (lo+(l+r) / 2):=c2;have:=ne (i:=lo+x) (j:=lo+(l+r) / 2) (by lia) (by lia) (by lia)
     refine Dy ⟨rfl,(l+r) / 2+1,r,rfl,by lia,by lia,by lia,fun p h2 h3=>?_,a5⟩;by_cases c3:p=lo+(l+r) / 2
     ·rw [c3];lia
     ·have:=hb p (lo+(l+r) / 2) (by lia) (by lia) (by lia)
      lia
  ·rintro c st2 ⟨rfl,l,r,rfl,a1,a2,a3,a4,a5⟩;have e:l=r:=by lia
   subst e;exact ⟨rfl,l,rfl,a2,a4,a5⟩
  ·rintro c st2 ⟨rfl,l,rfl,a2,a4,a5⟩;dsimp only;rw [moveDown'_eq];refine Dv<|RX ?_
   have hbu:∀ k,(bubble b (lo+x) (lo+x - (lo+l)))[k]?=if k=lo+l then b[lo+x]? else if lo+l<k/\k<=lo+x then b[k - 1]? else b[k]?:=fun k=>by
    have:=getElem?_bubble (xs:=b) (src:=lo+x) (by lia) (lo+x - (lo+l)) (by lia) k
    rw [show lo+x - (lo+x - (lo+l))=lo+l by lia] at this;exact this
   have hR:∀ k,Rk rk (bubble b (lo+x) (lo+x - (lo+l))) k=if k=lo+l then Rk rk b (lo+x) else if lo+l<k/\k<=lo+x then Rk rk b (k - 1) else Rk rk b k:=fun k=>by
    have e:=hbu k;split
    ·rename_i c;rw [if_pos c] at e;exact za e
    ·rename_i c;rw [if_neg c] at e;split
     ·rename_i c2;rw [if_pos c2] at e;exact za e
     ·rename_i c2;rw [if_neg c2] at e;exact za e
   refine Dy ⟨rfl,bubble b (lo+x)<|lo+x - (lo+l),rfl,hw.trans ⟨bubble_perm _ _ _,fun k hk=>?_⟩,fun u v h2 h3 h4=>?_,by lia⟩
   ·rw [hbu,if_neg (by lia),if_neg (by lia)]
   ·rw [hR,hR];by_cases c1:u=lo+l
    ·rw [if_pos c1];by_cases c2:v=lo+l
     ·lia
     ·rw [if_neg c2,if_pos (by lia)];exact a5 _ (by lia)<|by lia
    ·rw [if_neg c1];by_cases c3:lo+l<u/\u<=lo+x
     ·rw [if_pos c3,if_neg (by lia),if_pos (by lia)];exact hb _ _ (by lia) (by lia)<|by lia
     ·rw [if_neg c3];by_cases c2:v=lo+l
      ·rw [if_pos c2];exact a4 _ (by lia)<|by lia
      ·rw [if_neg c2];by_cases c4:lo+l<v/\v<=lo+x
       ·rw [if_pos c4];by_cases c5:u=v - 1
        ·lia
        ·exact hb _ _ (by lia) (by lia)<|by lia
       ·rw [if_neg c4];exact hb _ _ (by lia) (by lia)<|by lia
 ·rintro c st' ⟨rfl,b,rfl,hw,hb,hx⟩;rw [show max (max ok' 1) n=n by lia] at hb;exact ⟨rfl,b,rfl,hw,hb⟩
 ·rintro c st' ⟨rfl,b,rfl,hw,hb⟩;exact Dy<|q b hw hb
end
def Dc (h:Heap)(d:Addr)(es:Array QW)(ep:Nat):Prop:=∃ o,h.get? d=FN o/\o.ExactDict/\o.data=.dict es ep
variable {d : Addr}{ep : Nat}
theorem Dc.of {h h':Heap}{es:Array QW}(x:Dc h d es ep)(e:∀ o,h.get? d=FN o->h'.get? d=FN o):Dc h' d es ep:=by
 obtain ⟨o,g,r⟩:=x;exact ⟨o,e o g,r⟩
theorem Dc.ty {s:AP}{es:Array QW}(x:Dc s.heap d es ep):s.TypeIs (.ref d) "dict":=by
 obtain ⟨o,g,r,_⟩:=x;exact ⟨o,g,r.1⟩
section
variable {P:Ei}{w:Dq}{A:FZ}{E:Mk->AP->Prop}{s:AP}{it:Addr}{es:Array QW}{i:Nat}
theorem aeV {Q:Mk->AP->Prop}(nd:(d==M5)=false)(x:Dc s.heap d es ep)
  (q:Q (.ref s.heap.objs.size) { s with heap:=s.heap.push { cls:=.type "dict_keyiterator",data:=.fields #[.ref d,.int 0 0,.int es.size 0,.int ep 0] } }):Cu (Cp P w) A (pyIter (.ref d)) Q E s:=by
 have gT:=x.ty;obtain ⟨o,g,gc,gd⟩:=x;refine wpAny_pyIter_slot gT F.slot_dict_iter<|R7 F.slot_dict_iter gT F.entry_dict_iter ?_<|F.args_dict_iter_1 _
 unfold RG.«dict.__iter__» Builtin.Dict.dictSlotNone;refine CN<|CN<|wpAny_notOrdered_dict gT ?_
 show Cu _ _ (pure (Value.ref d)) _ _ s;refine Cz ?_;show Cu _ _ (Builtin.Dict.showsAll d >>= _) _ _ s;unfold Builtin.Dict.showsAll;rw [nd,if_neg Lw];refine CN<|Cz<|CN<|wpAny_dictEntries g gd<|CN<|wpAny_dictEpoch g gd ?_
 refine CN<|NP<|Cz ⟨_,rfl, "dict_keyiterator",_,⟨_,K4 _ rfl,rfl⟩,Wm.lookup,?_⟩
 simpa [Q0] using q
theorem zbh {Q:Option Mk->AP->Prop}(gi:s.heap.IsKeyIter it d i es.size ep)(x:Dc s.heap d es ep)(hi:i<es.size)
  (q:∀ h',h'.IsKeyIter it d (i+1) es.size ep->U8 it s.heap h'->Q (FN es[i].key) { s with heap:=h' }):Cu (Cp P w) A (Nh (.ref it)) Q E s:=by
 obtain ⟨u,gu,gc,gd⟩:=id gi;obtain ⟨o,g,_,ge⟩:=x;unfold Nh;refine CN<|VP<|T7 (name:=Sx "__next__") gi.typeIs Wm<|R7 Wm gi.typeIs F.entry_dict_keyiterator_next ?_<|F.args_dict_keyiterator_next_1 _
 refine CN<|Cz<|CN<|CN ?_
 first
  | refine CN (X5 gi.typeIs (Cz ?_))
  | refine CN (Wy gi.typeIs (Cz ?_))
 refine CN<|wpAny_fieldsOf gu gd ?_
 have ow:Builtin.Dict_items.ownsTuple "dict_keyiterator" = false:=by decide
 simp only [ow,R8,if_false];show Cu _ _ (if (Value.ref d==Value.none)=true then _ else _) _ _ s;rw [if_neg (by exact Lw)];refine CN<|Cz<|CN<|wpAny_dictEntries g ge ?_
 rw [if_neg (by simp)];refine CN<|Cz<|CN<|wpAny_dictEpoch g ge ?_
 rw [if_neg (by simp)];refine Cz ?_;simp only [show ¬ ((i:Int)<0) from by lia,if_false,Vl,Uc hi];refine CN ?_;first
  | refine CN (X5 gi.typeIs (Cz ?_))
  | refine CN (Wy gi.typeIs (Cz ?_))
 refine CN<|wpAny_isOneOf_keyiter gi.typeIs ?_
 show Cu _ _ (setField (.ref it) 1 (Q0 ((i:Int)+1)) >>= _) _ _ s;refine CN<|wpAny_setField gu gd (by simp) ?_
 have g2:(s.heap.update it (Obj.mapFields (·.setIfInBounds 1 (Q0 ((i:Int)+1))))).IsKeyIter it d (i+1) es.size ep:=by
  refine ⟨_,Vc _ gu<|Obj.isFreed_of_fields<|W6 gd _,(Obj.cls_mapFields ..).trans gc,?_⟩;rw [W6 gd];simp [Q0]
 refine CN<|NK<|CN<|wpAny_isOneOf_keyiter (s:={ s with heap:=s.heap.update it (Obj.mapFields (·.setIfInBounds 1 (Q0<|(i:Int)+1))) }) g2.typeIs ?_
 show Cu _ _ (pure es[i].key) _ _ _;exact Cz<|Cz ⟨_,rfl,Cz<|q _ g2<|Wr ..⟩
theorem aeG {Q:Option Mk->AP->Prop}(hh:A.handled=FX)(gi:s.heap.IsKeyIter it d es.size es.size ep)(x:Dc s.heap d es ep)(q:∀ h',VH it s.heap h'->Q FX { s with heap:=h' }):Cu (Cp P w) A (Nh (.ref it)) Q E s:=by
 obtain ⟨u,gu,gc,gd⟩:=id gi;obtain ⟨o,g,_,ge⟩:=x;unfold Nh;refine CN<|VP<|T7 (name:=Sx "__next__") gi.typeIs Wm<|R7 Wm gi.typeIs F.entry_dict_keyiterator_next ?_<|F.args_dict_keyiterator_next_1 _
 refine CN<|Cz<|CN<|CN ?_
 first
  | refine CN (X5 gi.typeIs (Cz ?_))
  | refine CN (Wy gi.typeIs (Cz ?_))
 refine CN<|wpAny_fieldsOf gu gd ?_
 have ow:Builtin.Dict_items.ownsTuple "dict_keyiterator" = false:=by decide
 simp only [ow,R8,if_false];show Cu _ _ (if (Value.ref d==Value.none)=true then _ else _) _ _ s;rw [if_neg (by exact Lw)];refine CN<|Cz<|CN<|wpAny_dictEntries g ge ?_
 rw [if_neg (by simp)];refine CN<|Cz<|CN<|wpAny_dictEpoch g ge ?_
 rw [if_neg (by simp)];refine Cz ?_;simp only [show ¬ ((es.size:Int)<0) from by lia,if_false,Vl,Array.getElem?_eq_none (Dg es.size)];refine CN ?_;first
  | refine CN (X5 gi.typeIs (Cz ?_))
  | refine CN (Wy gi.typeIs (Cz ?_))
 show Cu _ _ (setField (.ref it) 0 .none >>= _) _ _ s;refine CN<|wpAny_setField gu gd (by simp) ?_
 show Cu _ _ (newExc (.type "StopIteration") [] >>= _) _ _ _;refine CN ?_;simp only [newExc,newTuple];refine CN<|NP ?_<|by size_fits
 refine CN (m:=Va _ _)<|wpAny_of_eq (a:=Value.none) (by first | rfl | (simp only [Va];rfl)) ?_
 refine NP ?_<|by size_fits
 simp only [raiseNew];refine CN<|wpAny_handled ?_
 rw [show A.in1.handled=FX from hh];refine CN<|Cz<|wpAny_throw ?_
 refine CN<|wpAny_isInstance (b:=true) (T := "StopIteration") ⟨_,K4 _ rfl,rfl⟩ isSubtype_stop ?_
 exact Cz<|q _<|((Wr ..).extBut.push _).push _
theorem zaJ (hh:A.handled=FX)(I d:Addr)(ne:d≠I)(es:Array QW)(ep:Nat):
  Walks P w A I [I,d] [I] es.size (fun i v=>∃ h:i<es.size,v=es[i].key) (fun i h=>h.IsKeyIter I d i es.size ep/\Dc h d es ep) where
 sub:=fun b hb=>by simp at hb;simp [hb]
 frame:=fun i h h' st k=>⟨by obtain ⟨⟨o,g,r⟩,_⟩:=st;exact ⟨o,k I (by simp) o g,r⟩,st.2.of fun o e=>k d (by simp) o e⟩
 item:=fun i s Q E hi st q=>zbh st.1 st.2 hi fun h' g sb=>q _ h' s.toks ⟨hi,rfl⟩ ⟨g,st.2.of fun o e=>sb.extBut d o ne e⟩ fun b o hb e=>sb.extBut b o (fun z=>hb (by simp [z])) e
 done:=fun s Q E st q=>aeG hh st.1 st.2 fun h' eb=>q h' s.toks fun b o hb e=>eb b o (fun z=>hb (by simp [z])) e
 self:=fun _ _ _ _ st q=>wpAny_pyIter_keyiter st.1 q
theorem zbG (nd:(d==M5)=false):PySem.W.KdlSrc P w "dict" d d es.size (fun i v=>∃ h:i<es.size,v=es[i].key) (fun h=>Dc h d es ep) where
 type:=fun _ x=>x.ty
 there:=fun _ x=>by obtain ⟨o,g,_⟩:=x;exact ⟨G9 g,G9 g⟩
 keep:=fun _ _ x k=>x.of fun o e=>k d (.inl rfl) o e
 notList:=by decide
 notTuple:=by decide
 hint:=fun _ _ _ _ x q=>PySem.W.kdl_hint_dict x.ty q
 iter:=fun _ s hh x=>by
  have lt:d<s.heap.objs.size:=by obtain ⟨o,g,_⟩:=x;exact G9 g
  exact ⟨_,_,fun _ _ q=>aeV nd x q,zaJ hh _ d (Gq lt) es ep,⟨_,K4 _ rfl,rfl,rfl⟩,x.of fun o e=>GD _ e⟩
theorem pX {Q:List Mk->AP->Prop}(hh:A.handled=FX)(nd:(d==M5)=false)(x:Dc s.heap d es ep)(hz:es.size<=FP)
  (q:∀ h' tk,(∀ b o,s.heap.get? b=FN o->h'.get? b=FN o)->s.heap.objs.size<h'.objs.size->Q (es.toList.map (·.key)) { s with heap:=h',toks:=tk }):Cu (Cp P w) A (collect (.ref d)) Q E s:=by
 have lt:d<s.heap.objs.size:=by obtain ⟨o,g,_⟩:=x;exact G9 g
 unfold collect;refine CN<|wpAny_runValue<|Tg F.entry_proto_collect ?_
 rw [V0 F.plain_proto_collect _];show Cu _ A.in1 (newList [] >>= fun l=>again (.builtin "list.__iadd__" ⟨[l,.ref d],[]⟩)) _ _ s;refine CN<|NP<|Cz ⟨Uj F.plain_list_iadd _,Tg F.entry_list_iadd ?_⟩
 rw [V0 F.plain_list_iadd _];have g0:(s.heap.push { cls:=.type "list",data:=.seq ([]:List Mk).toArray }).get? s.heap.objs.size=FN { cls:=.type "list",data:=.seq ([]:List Mk).toArray }:=K4 _ rfl;show Cu _ A.in1 (X8 (.ref s.heap.objs.size) (.ref d) (.ref s.heap.objs.size)) _ _ _;have fin:∀ (f:Flow) (s':AP),(f=.ret (.ref s.heap.objs.size)/\∃ h' tk acc c,s' = { s with heap:=h',toks:=tk }/\(∀ b o,b≠s.heap.objs.size->(s.heap.push { cls:=.type "list",data:=.seq ([]:List Mk).toArray }).get? b=FN o->h'.get? b=FN o)/\h'.get? s.heap.objs.size=FN { cls:=.type "list",dict:=FX,data:=.seq acc c,slots:=#[] }/\ItemsOf (fun i v=>∃ h:i<es.size,v=es[i].key) acc es.size) ->
   ∃ v,f=.ret v/\Cu (Cp P w) A (match v with
    | Value.ref a=>do
     let u <-load a
     match u.data with
     | Data.seq xs _=>pure xs.toList
     | _=>unsupported "internal:collect"
    | _=>unsupported "internal:collect") Q E s':=by
  rintro f s' ⟨rfl,h',tk,acc,c,rfl,k,e,it⟩;refine ⟨_,rfl,?_⟩;show Cu _ A (load s.heap.objs.size >>= _) _ _ _;refine CN<|wpAny_load e ?_
  have ea:acc.toList=es.toList.map (·.key):=by
   refine List.ext_getElem? fun j=>?_;rw [GP,U4,U4];by_cases hj:j<es.size
   ·have hj':j<acc.size:=by rw [it.1];exact hj
    obtain ⟨_,ev⟩:=it.2 j acc[j] (Uc hj');rw [Uc hj',Uc hj,ev];rfl
   ·rw [Array.getElem?_eq_none (by rw [it.1];lia),Array.getElem?_eq_none (by lia)];rfl
  refine Cz ?_;rw [ea];exact q h' tk (fun b o g=>k b o (Gq<|G9 g)<|GD _ g)<|G9 e
 refine M6 (PySem.W.kdl_extend (s:={ s with heap:=s.heap.push { cls:=.type "list",data:=.seq ([]:List Mk).toArray } }) (R:=fun r s'=>match r with
  | .ok f=>f=.ret (.ref s.heap.objs.size)/\∃ h' tk acc c,s' = { s with heap:=h',toks:=tk }/\(∀ b o,b≠s.heap.objs.size->(s.heap.push { cls:=.type "list",data:=.seq ([]:List Mk).toArray }).get? b=FN o->h'.get? b=FN o)/\h'.get? s.heap.objs.size=FN { cls:=.type "list",dict:=FX,data:=.seq acc c,slots:=#[] }/\ItemsOf (fun i v=>∃ h:i<es.size,v=es[i].key) acc es.size
  | .error _=>False) (zbG (es:=es) (ep:=ep) nd) hh (x.of fun o e=>GD _ e) s.heap.objs.size (Ml lt) (Ml lt) _ 0 g0 (fun h' tk acc c k e it=>⟨rfl,h',tk,acc,c,rfl,k,e,it⟩) hz) (fun r s' hr=>?_) fun e s' hr=>hr.elim
 cases r with
 | done f=>
  obtain ⟨v,rfl,q'⟩:=fin f s' hr;exact q'
 | again c=>
  refine ⟨hr.1,codeAny_mono hr.2 fun r s' hr=>?_⟩;cases r with
  | error e=>exact hr.elim
  | ok f=>
   obtain ⟨v,rfl,q'⟩:=fin f s' hr;exact q'
end
def gal:Bool->DW->Array DW->Nat->Nat->Nat->StateT Ez Sem (Option Nat):=sortPriv% PySem.Builtin.gallop
section
variable {P:Ei}{w:Dq}{A:FZ}{E:Mk->AP->Prop}{s:AP}{rk:Mk->Nat}
def Jc (rk:Mk->Nat)(left:Bool)(key:DW)(a:Array DW)(i:Nat):Bool:=if left then decide (Rk rk a i<rk key.1) else !decide (rk key.1<Rk rk a i)
def aaG (left:Bool)(key:DW)(a:Array DW)(base i:Nat):StateT Ez Sem (Option Bool):=elem' a (base+i) >>= fun x=>if left=true then lt' x key else lt' key x >>= fun r=>pure (r.map (! ·))
theorem Sv (C:MK P w A s kd rk good){left:Bool}{key:DW}{base i:Nat}{Q:Option Bool->Ez->Prop}(hk:Ke st=kd)(ka:∀ p∈a.toList,good p.1)(kg:good key.1)(hi:base+i<a.size)(q:Q (FN (Jc rk left key a (base+i))) st):wpS (Cp P w) A E s (aaG left key a base i) Q st:=by
 refine Dv<|cJ hi ?_
 have gi:good a[base+i].1:=ka _ (by simp);unfold Jc at q;rw [gq hi] at q;cases left with
 | true=>exact w_lt C hk gi kg q
 | false=>exact Dv (w_lt C hk kg gi (Dy q))
theorem jB {α : Type}[Decidable c]{m1 m2:StateT Ez Sem α}{Q:α->Ez->Prop}(h1:wpS (Cp P w) A E s m1 Q st)(h2:wpS (Cp P w) A E s m2 Q st):wpS (Cp P w) A E s (if c then m1 else m2) Q st:=by
 split
 ·exact h1
 ·exact h2
theorem Qx {α : Type}[Decidable c]{m1 m2:StateT Ez Sem α}{Q:α->Ez->Prop}(h2:¬ c->wpS (Cp P w) A E s m2 Q st)(h1:c->wpS (Cp P w) A E s m1 Q st):wpS (Cp P w) A E s (if c then m1 else m2) Q st:=by
 split
 ·exact h1 ‹_›
 ·exact h2 ‹_›
theorem MP {α : Type}{x y:Nat}{m1 m2:StateT Ez Sem α}{Q:α->Ez->Prop}(h1:x=y->wpS (Cp P w) A E s m1 Q st)(h2:x≠y->wpS (Cp P w) A E s m2 Q st):wpS (Cp P w) A E s (if (x==y)=true then m1 else m2) Q st:=Qx (fun h=>h2 fun e=>h (beq_iff_eq.mpr e)) fun h=>h1 (beq_iff_eq.mp h)
theorem ifD {α : Type}[Decidable c]{m1 m2:StateT Ez Sem α}{Q:α->Ez->Prop}(h1:c->wpS (Cp P w) A E s m1 Q st)(h2:¬ c->wpS (Cp P w) A E s m2 Q st):wpS (Cp P w) A E s (if decide c=true then m1 else m2) Q st:=Qx (fun h=>h2 fun e=>h (decide_eq_true e)) fun h=>h1 (of_decide_eq_true h)
theorem abZ {γ : Type}{G:γ->Prop}{p:Prop}(f:(∀ z,G z)->p)(h:∀ z,G z):p:=f h
theorem OJ {α : Type}[Decidable c]{m1 m2:StateT Ez Sem α}{Q:α->Ez->Prop}(h2:wpS (Cp P w) A E s m2 Q st)(h1:wpS (Cp P w) A E s m1 Q st):wpS (Cp P w) A E s (if c then m1 else m2) Q st:=jB h1 h2
theorem Qv {α : Type}[Decidable c]{m1 m2:StateT Ez Sem α}{Q:α->Ez->Prop}(h:c)(x:wpS (Cp P w) A E s m1 Q st):wpS (Cp P w) A E s (if c then m1 else m2) Q st:=by rw [if_pos h];exact x
theorem Nt {α : Type}[Decidable c]{m1 m2:StateT Ez Sem α}{Q:α->Ez->Prop}(h:¬ c)(x:wpS (Cp P w) A E s m2 Q st):wpS (Cp P w) A E s (if c then m1 else m2) Q st:=by rw [if_neg h];exact x
structure abW (B:Nat->Bool) (n:Nat) (st:Ez) (x:Nat) (c:Option (Option Nat)×Nat×Nat) (st':Ez):Prop where
 s:st'=st
 e:c.1=FX
 a:c.2.1<=c.2.2
 b:c.2.2<=n
 d:c.2.2 - c.2.1<=n - x
 lo:∀ i,i<c.2.1->B i=true
 hi:∀ i,c.2.2<=i->i<n->B i=false
theorem ac5 {l r n x:Nat}(h:¬ l>=r)(d:r - l<=n - x):l<=l+(r - l) / 2/\l+(r - l) / 2<r/\r - (l+(r - l) / 2+1)<=n - (x+1)/\l+(r - l) / 2 - l<=n - (x+1):=by
 have h:=Nat.lt_of_not_le h;have k:(r - l) / 2<r - l:=Nat.div_lt_self (Nat.sub_pos_of_lt h) (by decide);generalize (r - l) / 2=z at *;exact ⟨Ve _ _,Nat.add_lt_of_lt_sub' k,by lia,by lia⟩
theorem Xf (C:MK P w A s kd rk good){α : Type}{left:Bool}{key:DW}{base n:Nat}{Q:α->Ez->Prop}{f:Nat->Option (Option Nat)×Nat×Nat->StateT Ez Sem (ForInStep (Option (Option Nat)×Nat×Nat))}{K:Option (Option Nat)×Nat×Nat->Option Bool->StateT Ez Sem (ForInStep (Option (Option Nat)×Nat×Nat))}{fin:Option (Option Nat)×Nat×Nat->StateT Ez Sem α}(hk:Ke st=kd)(ka:∀ p∈a.toList,good p.1)(kg:good key.1)(hz:base+n<=a.size)
  (hf:∀ x c,f x c=if c.2.1>=c.2.2 then pure (.done (FX,c.2.1,c.2.2)) else aaG left key a base (c.2.1+(c.2.2 - c.2.1) / 2) >>= K c)
  (h1:∀ c,K c (FN true)=pure (.yield (FX,c.2.1+(c.2.2 - c.2.1) / 2+1,c.2.2))) (h2:∀ c,K c (FN false)=pure (.yield (FX,c.2.1,c.2.1+(c.2.2 - c.2.1) / 2)))
  (mono:∀ i j,i<=j->j<n->Jc rk left key a (base+j)=true->Jc rk left key a (base+i)=true) (anti:∀ i j,i<=j->j<n->Jc rk left key a (base+i)=false->Jc rk left key a (base+j)=false)
  (b1:lo<=hi) (b2:hi<=n) (b3:∀ i,i<lo->Jc rk left key a (base+i)=true) (b4:∀ i,hi<=i->i<n->Jc rk left key a (base+i)=false)
  (q:∀ m,m<=n->(∀ i,i<m->Jc rk left key a (base+i)=true)->(∀ i,m<=i->i<n->Jc rk left key a (base+i)=false)->wpS (Cp P w) A E s (fin (FX,m,m)) Q st):wpS (Cp P w) A E s (forIn [0:n] (FX,lo,hi) f >>= fin) Q st:=by
 refine Dv<|N5 (Ni (I:=abW (fun i=>Jc rk left key a<|base+i) n st) (Q:=abW (fun i=>Jc rk left key a<|base+i) n st n) (fun x c st' _ _ g=>?_) (fun c st' g=>Nat.max_eq_right (Ko n) ▸ g) ⟨rfl,rfl,b1,b2,Dk (SQ _ _) b2,b3,b4⟩) fun c st' g=>?_
 ·rw [hf];cases g.s
  refine Qx (fun k=>?_) fun k=>Dy ⟨rfl,rfl,g.a,g.b,Nat.sub_eq_zero_of_le k ▸ Ko _,g.lo,g.hi⟩;have ⟨m1,m2,m3,m4⟩:=ac5 k g.d;have m5:=HB m2 g.b;refine Dv<|Sv C hk ka kg (HB (Nat.add_lt_add_left m5 _) hz) ?_
  cases hm:Jc rk left key a (base+(c.2.1+(c.2.2 - c.2.1) / 2)) with
  | true=>rw [h1];exact Dy ⟨rfl,rfl,m2,g.b,m3,fun i hi=>mono i _ (Nat.le_of_lt_succ hi) m5 hm,g.hi⟩
  | false=>rw [h2];exact Dy ⟨rfl,rfl,m1,Lx m5,m4,g.lo,fun i u v=>anti _ i u v hm⟩
 ·obtain ⟨r,l,m⟩:=c;cases g.e
  cases g.s
  cases Nat.le_antisymm g.a (Nat.le_of_sub_eq_zero (Nat.le_zero.mp (Nat.sub_self n ▸ g.d)))
  exact q _ g.b g.lo g.hi
theorem dbl {x o:Nat}(h:x<o):o<2*o+1/\x+1<2*o+1:=by lia
structure abO (B:Nat->Bool) (v:Bool) (mx:Nat) (st:Ez) (x:Nat) (c:Option (Option Nat)×Nat×Nat) (st':Ez):Prop where
 s:st'=st
 e:c.1=FX
 a:c.2.1<c.2.2
 b:x<c.2.2
 d:c.2.1<mx
 h:B c.2.1=v
theorem Wo (C:MK P w A s kd rk good){α : Type}{left v:Bool}{key:DW}{base n mx:Nat}(g:Nat->Nat){Q:α->Ez->Prop}{f:Nat->Option (Option Nat)×Nat×Nat->StateT Ez Sem (ForInStep (Option (Option Nat)×Nat×Nat))}{K:Option (Option Nat)×Nat×Nat->Option Bool->StateT Ez Sem (ForInStep (Option (Option Nat)×Nat×Nat))}{fin:Option (Option Nat)×Nat×Nat->StateT Ez Sem α}(hk:Ke st=kd)(ka:∀ p∈a.toList,good p.1)(kg:good key.1)(hz:∀ o,o<mx->base+g o<a.size)
  (hf:∀ x c,f x c=if c.2.2>=mx then pure (.done (FX,c.2.1,c.2.2)) else aaG left key a base (g c.2.2) >>= K c)
  (h1:∀ c,K c (FN v)=pure (.yield (FX,c.2.2,2*c.2.2+1))) (h2:∀ c,K c (FN !v)=pure (.done (FX,c.2.1,c.2.2)))
  (h0:0<mx) (hn:mx<=n) (hB:Jc rk left key a (base+g 0)=v)
  (q:∀ l o,l<o->l<mx->Jc rk left key a (base+g l)=v->(mx<=o\/Jc rk left key a (base+g o) = !v)->wpS (Cp P w) A E s (fin (FX,l,o)) Q st):wpS (Cp P w) A E s (forIn [0:n] (FX,0,1) f >>= fin) Q st:=by
 refine Dv<|N5 (Ni (I:=abO (fun i=>Jc rk left key a<|base+g i) v mx st) (Q:=fun c s=>abO (fun i=>Jc rk left key a<|base+g i) v mx st 0 c s/\(mx<=c.2.2\/Jc rk left key a (base+g c.2.2) = !v)) (fun x c st' _ _ G=>?_) (fun c st' g=>?_) ⟨rfl,rfl,Nat.one_pos,Nat.one_pos,h0,hB⟩) ?_
 ·rw [hf];cases G.s
  have p:=Nat.zero_lt_of_lt G.b;refine Qx (fun k=>Dv<|Sv C hk ka kg (hz _<|Nat.lt_of_not_le k) ?_) fun k=>Dy ⟨⟨rfl,rfl,G.a,p,G.d,G.h⟩,.inl k⟩;by_cases e:Jc rk left key a (base+g c.2.2)=v
  ·rw [e,h1];exact Dy ⟨rfl,rfl,(dbl G.b).1,(dbl G.b).2,Nat.lt_of_not_le k,e⟩
  ·have e:=Bool.eq_not.mpr e;rw [e,h2];exact Dy ⟨⟨rfl,rfl,G.a,p,G.d,G.h⟩,.inr e⟩
 ·exact ⟨⟨g.s,g.e,g.a,Nat.zero_lt_of_lt g.b,g.d,g.h⟩,.inl<|Lx<|QK (Dk hn<|Nat.le_max_right 0 n) g.b⟩
 ·rintro ⟨r,l,o⟩ st' ⟨g,h⟩;cases g.e
  cases g.s
  exact q _ _ g.a g.d g.h h
theorem Ec (C:MK P w A s kd rk good){left:Bool}{key:DW}{base n hint:Nat}{Q:Option Nat->Ez->Prop}(hk:Ke st=kd)(ka:∀ p∈a.toList,good p.1)(kg:good key.1)(hz:base+n<=a.size)(hh:hint<n)
  (mono:∀ i j,i<=j->j<n->Jc rk left key a (base+j)=true->Jc rk left key a (base+i)=true)
  (q:∀ m,m<=n->(∀ i,i<m->Jc rk left key a (base+i)=true)->(∀ i,m<=i->i<n->Jc rk left key a (base+i)=false)->Q (FN m) st):wpS (Cp P w) A E s (gal left key a base n hint) Q st:=by
 have anti:∀ i j,i<=j->j<n->Jc rk left key a (base+i)=false->Jc rk left key a (base+j)=false:=fun i j h1 h2 h3=>by
  cases e:Jc rk left key a (base+j) with
  | false=>rfl
  | true=>rw [mono i j h1 h2 e] at h3;cases h3
 have hz' {i} (h:i<n):base+i<a.size:=HB (Nat.add_lt_add_left h _) hz;refine Dv<|Sv C hk ka kg (hz' hh) ?_
 cases hB:Jc rk left key a (base+hint) with
 | true=>
  refine Qv rfl<|Wo C (v:=true) (mx:=n - hint) (fun o=>hint+o) hk ka kg (fun o h=>hz'<|Nat.add_lt_of_lt_sub' h) (fun _ _=>rfl) (fun _=>rfl) (fun _=>rfl) (Nat.sub_pos_of_lt hh) (SQ _ _) hB fun l o a1 a3 a4 a5=>?_
  refine Xf C hk ka kg hz (fun _ _=>rfl) (fun _=>rfl) (fun _=>rfl) mono anti (lo:=hint+l+1) (hi:=hint+min o (n - hint)) (by lia) (by lia) (fun i hi=>mono i (hint+l) (Nat.le_of_lt_succ hi) (Nat.add_lt_of_lt_sub' a3) a4) (fun i h1 h2=>?_) fun m u1 u2 u3=>Dy<|q m u1 u2 u3
  rcases a5 with c | c
  ·lia
  ·exact anti (hint+o) i (by lia) h2 c
 | false=>
  refine Nt Lw<|Wo C (v:=false) (mx:=hint+1) (fun o=>hint - o) hk ka kg (fun o h=>hz'<|QK (SQ _ _) hh) (fun _ _=>rfl) (fun _=>rfl) (fun _=>rfl) (Nat.succ_pos _) hh hB fun l o a1 a3 a4 a5=>?_
  refine Xf C hk ka kg hz (fun _ _=>rfl) (fun _=>rfl) (fun _=>rfl) mono anti (lo:=hint+1 - min o (hint+1)) (hi:=hint - l) (by lia) (Dk (SQ _ _)<|Lx hh) (fun i hi=>?_) (fun i h1 h2=>anti (hint - l) i h1 h2 a4) fun m u1 u2 u3=>Dy<|q m u1 u2 u3
  rcases a5 with c | c
  ·lia
  ·exact mono i (hint - o) (by lia) (by lia) c
end
def mLo:Array DW->Array DW->StateT Ez Sem (Array DW):=sortPriv% PySem.Builtin.mergeLo
def mHi:Array DW->Array DW->StateT Ez Sem (Array DW):=sortPriv% PySem.Builtin.mergeHi
def Q8:Nat->StateT Ez Sem Unit:=sortPriv% PySem.Builtin.setMinGallop
section
variable {rk:Mk->Nat}
def SL (rk:Mk->Nat)(l:List DW):Prop:=l.Pairwise fun x y=>rk x.1<rk y.1
def Be (rk:Mk->Nat)(xs ys:List DW):Prop:=∀ x∈xs,∀ y∈ys,rk x.1<rk y.1
def ML (rk:Mk->Nat)(A B out al bl:List DW):Prop:=∃ a1 b1,A=a1++al/\B=b1++bl/\out.Perm (a1++b1)/\SL rk out/\Be rk out al/\Be rk out bl
def MJ (rk:Mk->Nat)(A B r:List DW):Prop:=r.Perm (A++B)/\SL rk r
theorem ML.swap {A B out al bl:List DW}(h:ML rk A B out al bl):ML rk B A out bl al:=by
 obtain ⟨a1,b1,e1,e2,p,s,q1,q2⟩:=h;exact ⟨b1,a1,e2,e1,p.trans List.perm_append_comm,s,q2,q1⟩
theorem ML.pA {A B out xs al bl:List DW}(sa:SL rk A)(h:ML rk A B out (xs++al) bl)(hx:Be rk xs bl):ML rk A B (out++xs) al bl:=by
 obtain ⟨a1,b1,e1,e2,p,s,q1,q2⟩:=h;have sx:SL rk (xs++al):=by
  unfold SL at sa;rw [e1,Tw] at sa;exact sa.2.1
 unfold SL at sx;rw [Tw] at sx;refine ⟨a1++xs,b1,by rw [e1,QJ],e2,?_,?_,?_,?_⟩
 ·refine (p.append_right xs).trans ?_;rw [QJ,QJ];exact List.Perm.append_left _ List.perm_append_comm
 ·unfold SL;rw [Tw];exact ⟨s,sx.1,fun x hx y hy=>q1 x hx y<|Rx _ hy⟩
 ·intro x hx y hy;rcases La.mp hx with hx | hx
  ·exact q1 x hx y<|Qs _ hy
  ·exact sx.2.2 x hx y hy
 ·intro x hx' y hy;rcases La.mp hx' with hx' | hx'
  ·exact q2 x hx' y hy
  ·exact hx x hx' y hy
theorem ML.pB {A B out xs al bl:List DW}(sb:SL rk B)(h:ML rk A B out al (xs++bl))(hx:Be rk xs al):ML rk A B (out++xs) al bl:=(h.swap.pA sb hx).swap
theorem ML.fin {A B out al:List DW}(sa:SL rk A)(h:ML rk A B out al []):MJ rk A B (out++al):=by
 have h:ML rk A B out (al++[]) []:=by rw [Rr];exact h
 obtain ⟨a1,b1,e1,e2,p,s,_⟩:=h.pA sa fun _ _ _ h=>(nomatch h)
 rw [Rr] at e1 e2;rw [e1,e2];exact ⟨p,s⟩
theorem ML.fin2 {A B out al bl:List DW}(sa:SL rk A)(sb:SL rk B)(h:ML rk A B out al bl)(hx:Be rk bl al):MJ rk A B (out++bl++al):=by
 have h:ML rk A B out al (bl++[]):=by rw [Rr];exact h
 exact (h.pB sb hx).fin sa
end
variable {B : List DW}
section
variable {P:Ei}{w:Dq}{A:FZ}{E:Mk->AP->Prop}{s:AP}{rk:Mk->Nat}
def jd (st st':Ez):Prop:=DP st'=DP st/\Ke st'=Ke st/\failedOf st'=failedOf st/\K6 st'=K6 st
theorem jd.refl (st:Ez):jd st st:=⟨rfl,rfl,rfl,rfl⟩
theorem jd.trans {a b c:Ez}(h:jd a b)(g:jd b c):jd a c:=⟨g.1.trans h.1,g.2.1.trans h.2.1,g.2.2.1.trans h.2.2.1,g.2.2.2.trans h.2.2.2⟩
theorem uw {g:Nat}{Q:Unit->Ez->Prop}(q:∀ st',jd st st'->Q () st'):wpS (Cp P w) A E s (Q8 g) Q st:=RX (q _ (by cases st;exact ⟨rfl,rfl,rfl,rfl⟩))
structure Two (rk:Mk->Nat) (good:Mk->Prop) (a b:Array DW):Prop where
 sa:SL rk a.toList
 sb:SL rk b.toList
 ga:∀ p∈a.toList,good p.1
 gb:∀ p∈b.toList,good p.1
 ne:∀ x∈a.toList,∀ y∈b.toList,rk x.1≠rk y.1
theorem TJ {i:Nat}(h:i<a.size):a.toList.drop i=a[i]::a.toList.drop (i+1):=by
 rw [Ut (by simpa using h)];simp
theorem aa7 (a:Array DW)(i k:Nat)(h:i+k<=a.size):a.toList.drop i=(a.extract i (i+k)).toList++a.toList.drop (i+k):=by
 rw [Wn];have e:i+k - i=k:=by lia
 simp only [XN,e];rw [<-List.drop_drop,Wk]
theorem tG (a:Array DW)(i:Nat):(a.extract i a.size).toList=a.toList.drop i:=by
 rw [Wn,XN,Vw (by simp)]
theorem ext_get {i k:Nat}{x:DW}(h:i+k<=a.size)(hx:x∈(a.extract i (i+k)).toList):∃ j,j<k/\∃ hj:i+j<a.size,x=a[i+j]:=by
 obtain ⟨j,hj,e⟩:=Array.mem_iff_getElem.mp (Array.mem_def.mpr hx);have hj':j<k:=by simp at hj;lia
 exact ⟨j,hj',by lia,by rw [<-e];simp⟩
theorem iu {i:Nat}{x:DW}(hx:x∈a.toList.drop i):∃ j,i<=j/\∃ hj:j<a.size,x=a[j]:=by
 obtain ⟨k,hk,e⟩:=Wi.mp hx;rw [List.length_drop] at hk;refine ⟨i+k,by lia,by simp at hk;lia,?_⟩;rw [<-e,List.getElem_drop];simp
theorem SL.lt (h:SL rk a.toList){i j:Nat}(hij:i<j)(hj:j<a.size):rk (a[i]'(by lia)).1<rk a[j].1:=by
 have:=Wd.mp h i j (by simp;lia) (by simpa using hj) hij
 simpa using this
theorem SL.le (h:SL rk a.toList){i j:Nat}(hij:i<=j)(hj:j<a.size):rk (a[i]'(by lia)).1<=rk a[j].1:=by
 rcases Nat.lt_or_ge i j with c | c
 ·exact Lx<|h.lt c hj
 ·have:i=j:=by lia
  subst this;exact Dg _
structure LI (rk:Mk->Nat) (a b out:Array DW) (ia ib:Nat):Prop where
 ml:ML rk a.toList b.toList out.toList (a.toList.drop ia) (b.toList.drop ib)
 ia:ia+1<a.size
 ib:ib<b.size
def Ds (rk:Mk->Nat)(a b:Array DW):Prop:=∀ (h:0<a.size),∀ y∈b.toList,rk y.1<rk (a[a.size - 1]).1
theorem lK (out:Array DW)(x:DW):(out.push x).toList=out.toList++[x]:=by simp
theorem XC {out:Array DW}{ia ib:Nat}(T:Two rk good a b)(h:ML rk a.toList b.toList out.toList (a.toList.drop ia) (b.toList.drop ib))(hi:ia<a.size)(hx:∀ y∈b.toList.drop ib,rk a[ia].1<rk y.1):ML rk a.toList b.toList (out.push a[ia]).toList (a.toList.drop (ia+1)) (b.toList.drop ib):=by
 rw [lK];refine ML.pA T.sa (xs:=[a[ia]]) ?_ fun x h y hy=>?_
 ·rw [List.singleton_append,<-TJ hi];exact h
 ·rw [Kp.mp h];exact hx y hy
theorem Qp {out:Array DW}{ia ib:Nat}(T:Two rk good a b)(h:ML rk a.toList b.toList out.toList (a.toList.drop ia) (b.toList.drop ib))(hi:ib<b.size)(hx:∀ y∈a.toList.drop ia,rk b[ib].1<rk y.1):ML rk a.toList b.toList (out.push b[ib]).toList (a.toList.drop ia) (b.toList.drop (ib+1)):=by
 rw [lK];refine ML.pB T.sb (xs:=[b[ib]]) ?_ fun x h y hy=>?_
 ·rw [List.singleton_append,<-TJ hi];exact h
 ·rw [Kp.mp h];exact hx y hy
theorem abe {out:Array DW}{ia ib k:Nat}(T:Two rk good a b)(h:ML rk a.toList b.toList out.toList (a.toList.drop ia) (b.toList.drop ib))(hi:ia+k<=a.size)(hx:Be rk (a.extract ia (ia+k)).toList (b.toList.drop ib)):ML rk a.toList b.toList (out++a.extract ia (ia+k)).toList (a.toList.drop (ia+k)) (b.toList.drop ib):=by
 rw [Rj];refine ML.pA T.sa ?_ hx;rw [<-aa7 a ia k hi];exact h
theorem aaQ {out:Array DW}{ia ib k:Nat}(T:Two rk good a b)(h:ML rk a.toList b.toList out.toList (a.toList.drop ia) (b.toList.drop ib))(hi:ib+k<=b.size)(hx:Be rk (b.extract ib (ib+k)).toList (a.toList.drop ia)):ML rk a.toList b.toList (out++b.extract ib (ib+k)).toList (a.toList.drop ia) (b.toList.drop (ib+k)):=by
 rw [Rj];refine ML.pB T.sb ?_ hx;rw [<-aa7 b ib k hi];exact h
theorem qR {out:Array DW}{ia ib:Nat}(T:Two rk good a b)(h:ML rk a.toList b.toList out.toList (a.toList.drop ia) (b.toList.drop ib))(e:ib=b.size):MJ rk a.toList b.toList (out++a.extract ia a.size++b.extract ib b.size).toList:=by
 have eb:b.toList.drop ib=[]:=by rw [e];simp
 rw [Rj,Rj,tG,tG,eb,Rr];rw [eb] at h;exact h.fin T.sa
theorem uX {out:Array DW}{ia ib:Nat}(T:Two rk good a b)(hL:Ds rk a b)(h:ML rk a.toList b.toList out.toList (a.toList.drop ia) (b.toList.drop ib))(e:ia+1=a.size):MJ rk a.toList b.toList (out++b.extract ib b.size++a.extract ia a.size).toList:=by
 rw [Rj,Rj,tG,tG];refine h.fin2 T.sa T.sb fun x hx y hy=>?_;rw [TJ (by lia)] at hy;have hn:a.toList.drop (ia+1)=[]:=by rw [e];simp
 rw [hn,Kp] at hy;rw [hy];have:=hL (by lia) x (List.mem_of_mem_drop hx)
 have ei:a.size - 1=ia:=by lia
 simpa only [ei] using this
theorem yg {key:DW}{i:Nat}(hi:i<a.size):Jc rk true key a i=decide (rk a[i].1<rk key.1):=by unfold Jc;rw [if_pos rfl,gq hi]
theorem yc {key:DW}{i:Nat}(hi:i<a.size):Jc rk false key a i = !decide (rk key.1<rk a[i].1):=by unfold Jc;rw [if_neg Lw,gq hi]
theorem bZ {i:Nat}(h:i<a.size):a[i]∈a.toList:=by simp
theorem Kw {α : Type}{out:Array DW}{ia ib:Nat}[Decidable c]{E1 E2 E3:DW->StateT Ez Sem α}{Q:α->Ez->Prop}(T:Two rk good a b)(hL:Ds rk a b)(h:ML rk a.toList b.toList out.toList (a.toList.drop ia) (b.toList.drop ib))(h1:ia+1<a.size)(h2:ib<b.size)
  (hx:∀ y∈b.toList.drop ib,rk (a[ia]'(by lia)).1<rk y.1)
  (q1:∀ x,MJ rk a.toList b.toList (out.push x++b.extract ib b.size++a.extract (ia+1) a.size).toList->wpS (Cp P w) A E s (E1 x) Q st)
  (q2:∀ x,LI rk a b (out.push x) (ia+1) ib->wpS (Cp P w) A E s (E2 x) Q st) (q3:∀ x,LI rk a b (out.push x) (ia+1) ib->wpS (Cp P w) A E s (E3 x) Q st) :
  wpS (Cp P w) A E s (elem' a ia >>= fun x=>if (ia+1+1==a.size)=true then E1 x else if c then E2 x else E3 x) Q st:=by
 refine Dv<|cJ (by lia) ?_
 have m:=XC T h (by lia) hx;by_cases e:ia+1+1=a.size
 ·exact Qv (by simpa using e)<|q1 _<|uX T hL m e
 ·refine Nt (by simpa using e) ?_;have li:LI rk a b (out.push (a[ia]'(by lia))) (ia+1) ib:=⟨m,by lia,h2⟩
  exact jB (q2 _ li)<|q3 _ li
theorem V6 (C:MK P w A s kd rk good){α : Type}{out:Array DW}{ia ib:Nat}{D1:DW->StateT Ez Sem α}{K:DW->DW->Option Nat->StateT Ez Sem α}{Q:α->Ez->Prop}(T:Two rk good a b)(h:ML rk a.toList b.toList out.toList (a.toList.drop ia) (b.toList.drop ib))(h1:ia+1<a.size)(h2:ib<b.size)(hk:Ke st=kd)
  (hx:∀ y∈a.toList.drop ia,rk b[ib].1<rk y.1)
  (q1:∀ y,MJ rk a.toList b.toList (out.push y++a.extract ia a.size++b.extract (ib+1) b.size).toList->wpS (Cp P w) A E s (D1 y) Q st)
  (q2:∀ x y k,ib+1<b.size->ib+1+k<=b.size->ML rk a.toList b.toList (out.push y++b.extract (ib+1) (ib+1+k)).toList (a.toList.drop ia) (b.toList.drop (ib+1+k))->(∀ z∈b.toList.drop (ib+1+k),rk (a[ia]'(by lia)).1<rk z.1)->wpS (Cp P w) A E s (K y x (FN k)) Q st) :
  wpS (Cp P w) A E s (elem' b ib >>= fun y=>if (ib+1==b.size)=true then D1 y else elem' a ia >>= fun x=>gal true x b (ib+1) (b.size - (ib+1)) 0 >>= K y x) Q st:=by
 refine Dv<|cJ h2 ?_
 have m:=Qp T h h2 hx;by_cases c:ib+1=b.size
 ·exact Qv (by simpa using c)<|q1 _<|qR T m c
 ·refine Nt (by simpa using c) ?_;have ha:ia<a.size:=by lia
  refine Dv<|cJ ha ?_
  refine Dv<|Ec C hk T.gb (T.ga _<|bZ ha) (by lia) (by lia) (fun i j h3 h4 h5=>?_) fun k hk1 hk2 hk3=>?_
  ·rw [yg (by lia)] at h5 |-
   have:=T.sb.le (i:=ib+1+i) (j:=ib+1+j) (by lia) (by lia)
   simp at h5 |-
   lia
  ·refine q2 _ _ k (by lia) (by lia) (aaQ (k:=k) T m (by lia) fun x hx y hy=>?_) fun y hy=>?_
   ·obtain ⟨j,h3,h4,rfl⟩:=ext_get (by lia) hx;obtain ⟨i,h5,h6,rfl⟩:=iu hy;have:=hk2 j h3
    rw [yg (by lia)] at this;have:=T.sa.le h5 h6
    simp at *;lia
   ·obtain ⟨j,h3,h4,rfl⟩:=iu hy;have:=hk3 (j - (ib+1)) (by lia) (by lia)
    rw [yg (by lia)] at this;have ej:ib+1+(j - (ib+1))=j:=by lia
    simp only [ej] at this;have ne:=T.ne _ (bZ ha) _ (bZ h4);simp at this;lia
theorem ZK (C:MK P w A s kd rk good){α : Type}{out:Array DW}{ia ib g:Nat}{K:DW->Option Nat->StateT Ez Sem α}{Q:α->Ez->Prop}(T:Two rk good a b)(hL:Ds rk a b)(li:LI rk a b out ia ib)(hk:Ke st=kd)
  (q:∀ y k st',jd st st'->ia+k<a.size->ML rk a.toList b.toList (out++a.extract ia (ia+k)).toList (a.toList.drop (ia+k)) (b.toList.drop ib)->(∀ z∈a.toList.drop (ia+k),rk (b[ib]'li.ib).1<rk z.1)->wpS (Cp P w) A E s (K y (FN k)) Q st') :
  wpS (Cp P w) A E s (Q8 g >>= fun _=>elem' b ib >>= fun y=>gal false y a ia (a.size - ia) 0 >>= K y) Q st:=by
 obtain ⟨h,h1,h2⟩:=li;refine Dv<|uw fun st1 s1=>?_
 refine Dv<|cJ h2 ?_
 refine Dv<|Ec C (s1.2.1.trans hk) T.ga (T.gb _<|bZ h2) (by lia) (by lia) (fun i j h3 h4 h5=>?_) fun k q1 q2 q3=>?_
 ·rw [yc (by lia)] at h5 |-
  have:=T.sa.le (i:=ia+i) (j:=ia+j) (by lia) (by lia)
  simp at h5 |-
  lia
 ·have lk:ia+k<a.size:=by
   refine Wf fun z=>?_;have:=q2 (a.size - 1 - ia) (by lia)
   rw [yc (by lia)] at this;have ej:ia+(a.size - 1 - ia)=a.size - 1:=by lia
   simp only [ej] at this;have:=hL (by lia) _ (bZ h2)
   simp at *;lia
  refine q _ k st1 s1 lk (abe (k:=k) T h (by lia) fun x hx y hy=>?_) fun y hy=>?_
  ·obtain ⟨j,h3,h4,rfl⟩:=ext_get (by lia) hx;obtain ⟨i,h5,h6,rfl⟩:=iu hy;have:=q2 j h3
   rw [yc (by lia)] at this;have:=T.sb.le h5 h6
   have:=T.ne _ (bZ h4) _ (bZ h2)
   simp at *;lia
  ·obtain ⟨j,h3,h4,rfl⟩:=iu hy;have:=q3 (j - ia) (by lia) (by lia)
   rw [yc (by lia)] at this;have ej:ia+(j - ia)=j:=by lia
   simp only [ej] at this
   simpa using this
theorem ext_nil (out a:Array DW)(i:Nat):out++a.extract i (i+0)=out:=by simp [Nat.min_le_left]
structure Go (rk:Mk->Nat) (a b:Array DW) (st:Ez) (n:Nat) {β : Type} (c:Option (Array DW)×Array DW×Nat×Nat×β) (st':Ez):Prop where
 sm:jd st st'
 e:c.1=FX
 li:LI rk a b c.2.1 c.2.2.1 c.2.2.2.1
 le:n<=c.2.2.1+c.2.2.2.1
structure Dn (rk:Mk->Nat) (a b:Array DW) (st:Ez) {β : Type} (c:Option (Array DW)×β) (st':Ez):Prop where
 sm:jd st st'
 r:∃ l,c.1=FN l/\MJ rk a.toList b.toList l.toList
theorem Go.mk' {out:Array DW}{st':Ez}{n ia ib:Nat}{β : Type}{c:β}(sm:jd st st')(li:LI rk a b out ia ib)(h:n<=ia+ib):Go rk a b st n (FX,out,ia,ib,c) st':=⟨sm,rfl,li,h⟩
theorem Dn.mk' {l:Array DW}{st':Ez}{β : Type}{c:β}(sm:jd st st')(h:MJ rk a.toList b.toList l.toList):Dn rk a b st (FN l,c) st':=⟨sm,_,rfl,h⟩
theorem aaH (C:MK P w A s kd rk good){Q:Array DW->Ez->Prop}(T:Two rk good a b)(hL:Ds rk a b)(ha:0<a.size)(hb:0<b.size)(hf:rk b[0].1<rk a[0].1)(hk:Ke st=kd)
  (q:∀ r st',MJ rk a.toList b.toList r.toList->jd st st'->Q r st'):wpS (Cp P w) A E s (mLo a b) Q st:=by
 have m0:ML rk a.toList b.toList (#[b[0]]:Array DW).toList (a.toList.drop 0) (b.toList.drop 1):=by
  refine Qp (out:=#[]) T ⟨[],[],rfl,rfl,.nil,.nil,fun _ h=>(nomatch h),fun _ h=>(nomatch h)⟩ hb fun y hy=>?_;obtain ⟨j,_,h4,rfl⟩:=iu hy;exact HB hf<|T.sa.le (Ko _) h4
 refine Dv<|wpS_lift<|Nj ⟨rfl,Dv<|cJ hb<|MP (fun c1=>Dy<|q _ _ (qR T m0 c1)<|.refl _) fun c1=>MP (fun c2=>Dy<|q _ _ (uX T hL m0 c2)<|.refl _) fun c2=>Dv<|Qy<|Dv<|N5 (Ni (I:=fun x=>Go rk a b st<|1+x) (Q:=Dn rk a b st) (fun x c st' _ _ g=>?_) (fun c st' g=>?_)<|.mk' (.refl _) ⟨m0,Qi ha c2,Qi hb c1⟩ (Dg _)) ?_⟩
 ·refine Dv<|N5 (Ni (I:=fun y=>Go rk a b st<|1+x+y) (Q:=fun c s=>Dn rk a b st c s\/Go rk a b st (2+x) c s) (fun y c st2 _ _ g2=>?_) (fun c st2 g2=>.inr ⟨g2.sm,g2.e,g2.li,Dk ?_ g2.le⟩)<|.mk' g.sm g.li g.le) ?_
  ·have h1:=g2.li.ia;have h2:=g2.li.ib;have hia:=Nat.lt_of_succ_lt h1;have hp (o) (h:o<=c.2.2.1+c.2.2.2.1+1):o<=c.2.2.1+1+c.2.2.2.1:=by lia
   have hq:2+x<=c.2.2.1+c.2.2.2.1+1:=by have:=g2.le;lia
   refine Dv<|cJ h2<|Dv<|cJ hia<|Dv<|w_lt C (g2.sm.2.1.trans hk) (T.gb _<|bZ h2) (T.ga _<|bZ hia)<|ifD (fun cb=>Dv<|cJ h2 ?_) fun cb=>Dv<|cJ hia ?_
   ·have m2:=Qp T g2.li.ml h2 fun y hy=>by
     obtain ⟨j,h3,h4,rfl⟩:=iu hy;exact HB cb<|T.sa.le h3 h4
    refine MP (fun e=>Dy<|.inl<|.mk' g2.sm (qR T m2 e)) fun e=>?_;have li2:LI rk a b _ _ _:=⟨m2,h1,Qi h2 e⟩
    exact jB (Dy<|.inr<|.mk' g2.sm li2 hq)<|Dy<|.mk' g2.sm li2 (Vy g2.le)
   ·have m2:=XC T g2.li.ml hia fun y hy=>by
     obtain ⟨j,h3,h4,rfl⟩:=iu hy;exact Qi (Dk (Nat.le_of_not_lt cb)<|T.sb.le h3 h4)<|T.ne _ (bZ hia) _<|bZ h4
    refine MP (fun e=>Dy<|.inl<|.mk' g2.sm (uX T hL m2 e)) fun e=>?_;have li2:LI rk a b _ _ _:=⟨m2,Qi h1 e,h2⟩
    exact jB (Dy<|.inr<|.mk' g2.sm li2 (hp _ hq))<|Dy<|.mk' g2.sm li2 (hp _<|Vy g2.le)
  ·lia
  ·rintro ⟨r,c⟩ st2 (⟨sm2,l,rfl,hr⟩ | g2)
   ·exact Dy<|.mk' sm2 hr
   ·cases g2.e
    refine Dv<|wpS_lift<|Nj ⟨rfl,?_⟩
    refine Dv<|N5 (Ni (I:=fun _=>Go rk a b st<|2+x) (Q:=fun c s=>Dn rk a b st c s\/Go rk a b st (2+x) c s) ?_ (fun _ _=>.inr)<|.mk' g2.sm g2.li g2.le) ?_
    ·rintro y ⟨_,out,ia,ib,mg,ac,bc⟩ st3 _ _ g3;have sm3:=g3.sm;have li3:LI rk a b out ia ib:=g3.li;have hp3:2+x<=ia+ib:=g3.le;clear g3;revert mg
     refine abZ (fun g mg=>OJ (g mg)<|g<|mg - 1) ?_;intro g;refine ZK (out:=out) (ia:=ia) (ib:=ib) C T hL li3 (sm3.2.1.trans hk) fun y k st4 s4 lk m4 lo=>?_;have sm4:=sm3.trans s4;have hi (i j) (h:ia<=i):2+x<=i+1+(ib+1+j):=by lia
     refine Qx (fun k0=>?_) fun k0=>MP (fun e1=>Dy<|.inl<|.mk' sm4 (uX T hL m4 e1)) fun e1=>MP (fun e=>absurd e<|Gq lk) fun _=>?_
     ·obtain rfl:=Vu k0;rw [ext_nil] at m4;have i1:=li3.ia;have hi:=fun j=>hi ia j (Dg _)
      refine V6 C T m4 i1 li3.ib (sm4.2.1.trans hk) lo (fun y h=>Dy<|.inl<|.mk' sm4 h) fun x' y' j j1 j2 m5 lo2=>Qx (fun j0=>?_) fun j0=>MP (fun e2=>Dy<|.inl<|.mk' sm4 (qR T m5 e2)) fun e2=>Kw T hL m5 i1 (Qi j2 e2) lo2 (fun x' h=>Dy<|.inl<|.mk' sm4 h) (fun x' h=>Dy<|.inr<|.mk' sm4 h (hi j)) fun x' h=>Dy<|.mk' sm4 h (hi j)
      obtain rfl:=Vu j0;rw [ext_nil] at m5;exact Kw T hL m5 i1 j1 lo2 (fun x' h=>Dy<|.inl<|.mk' sm4 h) (fun x' h=>Dy<|.inr<|.mk' sm4 h (hi 0)) fun x' h=>Dy<|.mk' sm4 h (hi 0)
     ·have i1:=Qi lk e1;have hi:=fun j=>hi (ia+k) j (Ve _ _)
      refine V6 C T m4 i1 li3.ib (sm4.2.1.trans hk) lo (fun y h=>Dy<|.inl<|.mk' sm4 h) fun x' y' j j1 j2 m5 lo2=>Qx (fun j0=>?_) fun j0=>MP (fun e2=>Dy<|.inl<|.mk' sm4 (qR T m5 e2)) fun e2=>Kw T hL m5 i1 (Qi j2 e2) lo2 (fun x' h=>Dy<|.inl<|.mk' sm4 h) (fun x' h=>Dy<|.inr<|.mk' sm4 h (hi j)) fun x' h=>Dy<|.mk' sm4 h (hi j)
      obtain rfl:=Vu j0;rw [ext_nil] at m5;exact Kw T hL m5 i1 j1 lo2 (fun x' h=>Dy<|.inl<|.mk' sm4 h) (fun x' h=>Dy<|.inr<|.mk' sm4 h (hi 0)) fun x' h=>Dy<|.mk' sm4 h (hi 0)
    ·rintro ⟨r,c⟩ st3 (⟨sm3,l,rfl,hr⟩ | g3)
     ·exact Dy<|.mk' sm3 hr
     ·cases g3.e
      exact Dv<|uw fun st4 s4=>Dy<|.mk' (g3.sm.trans s4) g3.li (Dk (by lia) g3.le)
 ·have h1:=g.li.ia;have h2:=g.li.ib;have:=g.le
  lia
 ·rintro ⟨_,_⟩ st' ⟨sm,r,rfl,hr⟩;exact Dy<|q r st' hr sm
end
variable {out : Array DW}
section
variable {rk:Mk->Nat}
def MH (rk:Mk->Nat)(A B o ah bh:List DW):Prop:=∃ a2 b2,A=ah++a2/\B=bh++b2/\o.Perm (a2++b2)/\SL rk o/\Be rk ah o/\Be rk bh o
theorem MH.swap {A o ah bh:List DW}(h:MH rk A B o ah bh):MH rk B A o bh ah:=by
 obtain ⟨a1,b1,e1,e2,p,s,q1,q2⟩:=h;exact ⟨b1,a1,e2,e1,p.trans List.perm_append_comm,s,q2,q1⟩
theorem MH.pA {A o xs ah bh:List DW}(sa:SL rk A)(h:MH rk A B o (ah++xs) bh)(hx:Be rk bh xs):MH rk A B (xs++o) ah bh:=by
 obtain ⟨a2,b2,e1,e2,p,s,q1,q2⟩:=h;have sx:SL rk (ah++xs):=by
  unfold SL at sa;rw [e1,Tw] at sa;exact sa.1
 unfold SL at sx;rw [Tw] at sx;refine ⟨xs++a2,b2,by rw [e1,QJ],e2,?_,?_,?_,?_⟩
 ·rw [QJ];exact p.append_left xs
 ·unfold SL;rw [Tw];exact ⟨sx.2.1,s,fun x hx y hy=>q1 x (Qs _ hx) y hy⟩
 ·intro x hx y hy;rcases La.mp hy with hy | hy
  ·exact sx.2.2 x hx y hy
  ·exact q1 x (Rx _ hx) y hy
 ·intro x hx' y hy;rcases La.mp hy with hy | hy
  ·exact hx x hx' y hy
  ·exact q2 x hx' y hy
theorem MH.pB {A o xs ah bh:List DW}(sb:SL rk B)(h:MH rk A B o ah (bh++xs))(hx:Be rk ah xs):MH rk A B (xs++o) ah bh:=(h.swap.pA sb hx).swap
theorem MH.fin {A o bh:List DW}(sb:SL rk B)(h:MH rk A B o [] bh):MJ rk A B (bh++o):=by
 have h:MH rk A B o [] ([]++bh):=h;obtain ⟨a2,b2,e1,e2,p,s,_⟩:=h.pB sb fun _ h=>(nomatch h)
 rw [Wa] at e1 e2;rw [e1,e2];exact ⟨p,s⟩
theorem MH.fin2 {A o ah bh:List DW}(sa:SL rk A)(sb:SL rk B)(h:MH rk A B o ah bh)(hx:Be rk bh ah):MJ rk A B (bh++ah++o):=by
 have h:MH rk A B o ([]++ah) bh:=h;rw [QJ];exact (h.pA sa hx).fin sb
end
section
variable {P:Ei}{w:Dq}{A:FZ}{E:Mk->AP->Prop}{s:AP}{rk:Mk->Nat}
theorem Yb {i:Nat}(h:i<a.size):a.toList.take (i+1)=a.toList.take i++[a[i]]:=by
 rw [KN,HD (by simpa using h)];simp
theorem aap (a:Array DW){i n:Nat}(h:i<=n):a.toList.take n=a.toList.take i++(a.extract i n).toList:=by
 rw [Wn,XN];have e:n=i+(n - i):=by lia
 conv=>lhs;rw [e,List.take_add]
theorem uQ (a:Array DW)(n:Nat):(a.extract 0 n).toList=a.toList.take n:=by
 rw [Wn,XN];simp
theorem iC {n:Nat}{x:DW}(hx:x∈a.toList.take n):∃ j,j<n/\∃ hj:j<a.size,x=a[j]:=by
 obtain ⟨k,hk,e⟩:=Wi.mp hx;rw [Qh] at hk;simp at hk;refine ⟨k,by lia,by lia,?_⟩;rw [<-e,List.getElem_take];simp
theorem dj {i n:Nat}{x:DW}(h:n<=a.size)(hx:x∈(a.extract i n).toList):∃ j,i<=j/\j<n/\∃ hj:j<a.size,x=a[j]:=by
 obtain ⟨j,hj,e⟩:=Array.mem_iff_getElem.mp (Array.mem_def.mpr hx);have hj':i+j<n:=by simp at hj;lia
 exact ⟨i+j,by lia,hj',by lia,by rw [<-e];simp⟩
def BR (rk:Mk->Nat)(a b:Array DW):Prop:=∀ (h:0<b.size),∀ x∈a.toList,rk b[0].1<rk x.1
structure HI (rk:Mk->Nat) (a b out:Array DW) (na nb:Nat):Prop where
 mh:MH rk a.toList b.toList out.toList.reverse (a.toList.take na) (b.toList.take nb)
 pa:0<na
 pb:1<nb
 la:na<=a.size
 lb:nb<=b.size
theorem TV {na nb:Nat}(T:Two rk good a b)(h:MH rk a.toList b.toList out.toList.reverse (a.toList.take na) (b.toList.take nb))(h0:0<na)(hi:na<=a.size)(hx:∀ y∈b.toList.take nb,rk y.1<rk (a[na - 1]'(by lia)).1):MH rk a.toList b.toList (out.push (a[na - 1]'(by lia))).toList.reverse (a.toList.take (na - 1)) (b.toList.take nb):=by
 rw [lK,List.reverse_append];refine MH.pA T.sa (xs:=[a[na - 1]'(by lia)]) ?_ fun x hx' y hy=>?_
 ·have e:=Yb (a:=a) (i:=na - 1) (by lia);have e1:na - 1+1=na:=by lia
  rw [e1] at e;rw [<-e];exact h
 ·rw [Kp.mp hy];exact hx x hx'
theorem Vz {na nb:Nat}(T:Two rk good a b)(h:MH rk a.toList b.toList out.toList.reverse (a.toList.take na) (b.toList.take nb))(h0:0<nb)(hi:nb<=b.size)(hx:∀ y∈a.toList.take na,rk y.1<rk (b[nb - 1]'(by lia)).1):MH rk a.toList b.toList (out.push (b[nb - 1]'(by lia))).toList.reverse (a.toList.take na) (b.toList.take (nb - 1)):=by
 rw [lK,List.reverse_append];refine MH.pB T.sb (xs:=[b[nb - 1]'(by lia)]) ?_ fun x hx' y hy=>?_
 ·have e:=Yb (a:=b) (i:=nb - 1) (by lia);have e1:nb - 1+1=nb:=by lia
  rw [e1] at e;rw [<-e];exact h
 ·rw [Kp.mp hy];exact hx x hx'
theorem HN (out xs:Array DW):(out++xs.reverse).toList.reverse=xs.toList++out.toList.reverse:=by simp
theorem ZM {na nb:Nat}(T:Two rk good a b)(h:MH rk a.toList b.toList out.toList.reverse (a.toList.take na) (b.toList.take nb))(hi:m<=na)(hx:Be rk (b.toList.take nb) (a.extract m na).toList):MH rk a.toList b.toList (out++(a.extract m na).reverse).toList.reverse (a.toList.take m) (b.toList.take nb):=by
 rw [HN];refine MH.pA T.sa ?_ hx;rw [<-aap a hi];exact h
theorem ZP {na nb:Nat}(T:Two rk good a b)(h:MH rk a.toList b.toList out.toList.reverse (a.toList.take na) (b.toList.take nb))(hi:m<=nb)(hx:Be rk (a.toList.take na) (b.extract m nb).toList):MH rk a.toList b.toList (out++(b.extract m nb).reverse).toList.reverse (a.toList.take na) (b.toList.take m):=by
 rw [HN];refine MH.pB T.sb ?_ hx;rw [<-aap b hi];exact h
theorem uF {na nb:Nat}(T:Two rk good a b)(h:MH rk a.toList b.toList out.toList.reverse (a.toList.take na) (b.toList.take nb))(e:na=0):MJ rk a.toList b.toList (a.extract 0 na++b.extract 0 nb++out.reverse).toList:=by
 subst e;rw [Rj,Rj,uQ,uQ,List.take_zero,Wa,Array.toList_reverse];rw [List.take_zero] at h;exact h.fin T.sb
theorem lJ {na nb:Nat}(T:Two rk good a b)(hF:BR rk a b)(hb:0<b.size)(h:MH rk a.toList b.toList out.toList.reverse (a.toList.take na) (b.toList.take nb))(e:nb=1):MJ rk a.toList b.toList (b.extract 0 nb++a.extract 0 na++out.reverse).toList:=by
 rw [Rj,Rj,uQ,uQ,Array.toList_reverse];refine h.fin2 T.sa T.sb fun x hx y hy=>?_;obtain ⟨j,h1,h2,rfl⟩:=iC hx;have z:j=0:=by lia
 subst z;exact hF hb y<|Vb hy
theorem Ks {α : Type}{na nb:Nat}[Decidable c]{E1 E2 E3:DW->StateT Ez Sem α}{Q:α->Ez->Prop}(T:Two rk good a b)(h:MH rk a.toList b.toList out.toList.reverse (a.toList.take na) (b.toList.take nb))(h1:0<na)(h2:1<nb)(h3:na<=a.size)(h4:nb<=b.size)
  (hx:∀ y∈b.toList.take nb,rk y.1<rk (a[na - 1]'(by lia)).1)
  (q1:∀ x,MJ rk a.toList b.toList (a.extract 0 (na - 1)++b.extract 0 nb++(out.push x).reverse).toList->wpS (Cp P w) A E s (E1 x) Q st)
  (q2:∀ x,HI rk a b (out.push x) (na - 1) nb->wpS (Cp P w) A E s (E2 x) Q st) (q3:∀ x,HI rk a b (out.push x) (na - 1) nb->wpS (Cp P w) A E s (E3 x) Q st) :
  wpS (Cp P w) A E s (elem' a (na - 1) >>= fun x=>if (na - 1==0)=true then E1 x else if c then E2 x else E3 x) Q st:=by
 refine Dv<|cJ (by lia) ?_
 have m:=TV T h h1 h3 hx;by_cases e:na - 1=0
 ·exact Qv (by simpa using e)<|q1 _<|uF T m e
 ·refine Nt (by simpa using e) ?_;have li:HI rk a b (out.push (a[na - 1]'(by lia))) (na - 1) nb:=⟨m,by lia,h2,by lia,h4⟩
  exact jB (q2 _ li)<|q3 _ li
theorem Vx (C:MK P w A s kd rk good){α : Type}{na nb:Nat}{D1:DW->StateT Ez Sem α}{K:DW->DW->Option Nat->StateT Ez Sem α}{Q:α->Ez->Prop}(T:Two rk good a b)(hF:BR rk a b)(h:MH rk a.toList b.toList out.toList.reverse (a.toList.take na) (b.toList.take nb))(h1:0<na)(h2:1<nb)(h3:na<=a.size)(h4:nb<=b.size)(hk:Ke st=kd)
  (hx:∀ y∈a.toList.take na,rk y.1<rk (b[nb - 1]'(by lia)).1)
  (q1:∀ y,MJ rk a.toList b.toList (b.extract 0 (nb - 1)++a.extract 0 na++(out.push y).reverse).toList->wpS (Cp P w) A E s (D1 y) Q st)
  (q2:∀ x y m,1<nb - 1->0<m->m<=nb - 1->MH rk a.toList b.toList (out.push y++(b.extract m (nb - 1)).reverse).toList.reverse (a.toList.take na) (b.toList.take m)->(∀ z∈b.toList.take m,rk z.1<rk (a[na - 1]'(by lia)).1)->wpS (Cp P w) A E s (K y x (FN m)) Q st) :
  wpS (Cp P w) A E s (elem' b (nb - 1) >>= fun y=>if (nb - 1==1)=true then D1 y else elem' a (na - 1) >>= fun x=>gal true x b 0 (nb - 1) (nb - 1 - 1) >>= K y x) Q st:=by
 refine Dv<|cJ (by lia) ?_
 have m:=Vz T h (by lia) h4 hx;by_cases c:nb - 1=1
 ·exact Qv (by simpa using c)<|q1 _<|lJ T hF (by lia) m c
 ·refine Nt (by simpa using c) ?_;have ha:na - 1<a.size:=by lia
  refine Dv<|cJ ha ?_
  refine Dv<|Ec C hk T.gb (T.ga _<|bZ ha) (by lia) (by lia) (fun i j h5 h6 h7=>?_) fun k k1 k2 k3=>?_
  ·rw [yg (by lia)] at h7 |-
   have:=T.sb.le (i:=0+i) (j:=0+j) (by lia) (by lia)
   simp at h7 this |-
   lia
  ·have kp:0<k:=by
    refine Wf fun z=>?_;have:=k3 0 (by lia) (by lia)
    rw [yg (by lia)] at this;have:=hF (by lia) _ (bZ ha)
    simp at *;lia
   refine q2 _ _ k (by lia) kp k1 (ZP T m k1 fun x hx y hy=>?_) fun y hy=>?_
   ·obtain ⟨j,j1,j2,rfl⟩:=iC hx;obtain ⟨i,i1,i2,i3,rfl⟩:=dj (by lia) hy;have:=k3 i i1 (by lia)
    rw [yg (by lia)] at this;have:=T.sa.le (i:=j) (j:=na - 1) (by lia) ha
    have:=T.ne _ (bZ ha) _ (bZ i3)
    simp at *;lia
   ·obtain ⟨j,j1,j2,rfl⟩:=iC hy;have:=k2 j j1
    rw [yg (by lia)] at this
    simpa using this
theorem aal (C:MK P w A s kd rk good){α : Type}{na nb g:Nat}{K:DW->Option Nat->StateT Ez Sem α}{Q:α->Ez->Prop}(T:Two rk good a b)(li:HI rk a b out na nb)(hk:Ke st=kd)
  (q:∀ y m st',jd st st'->m<=na->MH rk a.toList b.toList (out++(a.extract m na).reverse).toList.reverse (a.toList.take m) (b.toList.take nb)->(∀ z∈a.toList.take m,rk z.1<rk (b[nb - 1]'(by have:=li.lb;have:=li.pb;lia)).1)->wpS (Cp P w) A E s (K y (FN m)) Q st') :
  wpS (Cp P w) A E s (Q8 g >>= fun _=>elem' b (nb - 1) >>= fun y=>gal false y a 0 na (na - 1) >>= K y) Q st:=by
 obtain ⟨h,h1,h2,h3,h4⟩:=li;have hb:nb - 1<b.size:=by lia
 refine Dv<|uw fun st1 s1=>?_
 refine Dv<|cJ hb ?_
 refine Dv<|Ec C (s1.2.1.trans hk) T.ga (T.gb _<|bZ hb) (by lia) (by lia) (fun i j h5 h6 h7=>?_) fun k k1 k2 k3=>?_
 ·rw [yc (by lia)] at h7 |-
  have:=T.sa.le (i:=0+i) (j:=0+j) (by lia) (by lia)
  simp at h7 this |-
  lia
 ·refine q _ k st1 s1 k1 (ZM T h k1 fun x hx y hy=>?_) fun y hy=>?_
  ·obtain ⟨j,j1,j2,rfl⟩:=iC hx;obtain ⟨i,i1,i2,i3,rfl⟩:=dj h3 hy;have:=k3 i i1 i2
   rw [yc (by lia)] at this;have:=T.sb.le (i:=j) (j:=nb - 1) (by lia) hb
   simp at *;lia
  ·obtain ⟨j,j1,j2,rfl⟩:=iC hy;have:=k2 j j1
   rw [yc (by lia)] at this;have:=T.ne _ (bZ j2) _ (bZ hb)
   simp at *;lia
theorem uE (out a:Array DW)(n:Nat):out++(a.extract n n).reverse=out:=by simp [Nat.min_le_left]
structure GoH (rk:Mk->Nat) (a b:Array DW) (st:Ez) (n:Nat) {β : Type} (c:Option (Array DW)×Nat×Nat×Array DW×β) (st':Ez):Prop where
 sm:jd st st'
 e:c.1=FX
 li:HI rk a b c.2.2.2.1 c.2.1 c.2.2.1
 le:c.2.1+c.2.2.1+n<=a.size+b.size
theorem GoH.mk' {st':Ez}{n na nb:Nat}{β : Type}{c:β}(sm:jd st st')(li:HI rk a b out na nb)(h:na+nb+n<=a.size+b.size):GoH rk a b st n (FX,na,nb,out,c) st':=⟨sm,rfl,li,h⟩
theorem nH1 {u v n y N:Nat}(p:0<u)(h:u+v+(1+n+y)<=N):u - 1+v+(1+n+(y+1))<=N:=by lia
theorem nH2 {u n y N:Nat}(h:u+(1+n+(y+1))<=N):u+(2+n)<=N:=by lia
theorem nH3 {u v N:Nat}(h:v<=N)(p:0<u)(g:u<=v):u - 1<N:=by lia
theorem abB (C:MK P w A s kd rk good){Q:Array DW->Ez->Prop}(T:Two rk good a b)(hL:Ds rk a b)(hF:BR rk a b)(ha:0<a.size)(hb:0<b.size)(hk:Ke st=kd)
  (q:∀ r st',MJ rk a.toList b.toList r.toList->jd st st'->Q r st'):wpS (Cp P w) A E s (mHi a b) Q st:=by
 have hl:a.size - 1<a.size:=Nat.sub_one_lt_of_lt ha;have m0:MH rk a.toList b.toList (#[a[a.size - 1]]:Array DW).toList.reverse (a.toList.take (a.size - 1)) (b.toList.take b.size):=
  TV (out:=#[]) T ⟨[],[],by rw [Rr,Vw (by simp)],by rw [Rr,Vw (by simp)],.nil,.nil,fun _ _ _ h=>(nomatch h),fun _ _ _ h=>(nomatch h)⟩ ha (Dg _) fun y hy=>hL ha y (Vb hy)
 refine Dv<|wpS_lift<|Nj ⟨rfl,Dv<|cJ hl<|MP (fun c1=>Dy<|q _ _ (uF T m0 c1)<|.refl _) fun c1=>MP (fun c2=>Dy<|q _ _ (lJ T hF hb m0 c2)<|.refl _) fun c2=>Dv<|Qy<|Dv<|N5 (Ni (I:=fun x=>GoH rk a b st<|1+x) (Q:=Dn rk a b st) (fun x c st' _ _ g=>?_) (fun c st' g=>?_)<|.mk' (.refl _) ⟨m0,Nat.pos_of_ne_zero c1,Qi hb<|Ji c2,SQ _ _,Dg _⟩ (by lia)) ?_⟩
 ·refine Dv<|N5 (Ni (I:=fun y=>GoH rk a b st<|1+x+y) (Q:=fun c s=>Dn rk a b st c s\/GoH rk a b st (2+x) c s) (fun y c st2 _ _ g2=>?_) (fun c st2 g2=>.inr ⟨g2.sm,g2.e,g2.li,Dk (Nat.add_le_add_left ?_ _) g2.le⟩)<|.mk' g.sm g.li g.le) ?_
  ·have h1:=g2.li.pa;have h2:=g2.li.pb;have h3:=g2.li.la;have h4:=g2.li.lb;have h5:=g2.le;have hia:=nH3 h3 h1 (Dg _);have hib:=nH3 h4 (Nat.lt_of_succ_lt h2) (Dg _);refine Dv<|cJ hib<|Dv<|cJ hia<|Dv<|w_lt C (g2.sm.2.1.trans hk) (T.gb _<|bZ hib) (T.ga _<|bZ hia)<|ifD (fun cb=>Dv<|cJ hia ?_) fun cb=>Dv<|cJ hib ?_
   ·have m2:=TV T g2.li.mh h1 h3 fun y hy=>by
     obtain ⟨j,j1,j2,rfl⟩:=iC hy;exact QK (T.sb.le (Nat.le_sub_one_of_lt j1) hib) cb
    refine MP (fun e=>Dy<|.inl<|.mk' g2.sm (uF T m2 e)) fun e=>?_;have li2:HI rk a b _ _ _:=⟨m2,Nat.pos_of_ne_zero e,h2,Lx hia,h4⟩
    have le:=nH1 h1 h5;exact jB (Dy<|.inr<|.mk' g2.sm li2 (nH2 le))<|Dy<|.mk' g2.sm li2 le
   ·have m2:=Vz T g2.li.mh (Nat.lt_of_succ_lt h2) h4 fun y hy=>by
     obtain ⟨j,j1,j2,rfl⟩:=iC hy;exact Qi (Dk (T.sa.le (Nat.le_sub_one_of_lt j1) hia)<|Nat.le_of_not_lt cb)<|T.ne _ (bZ j2) _<|bZ hib
    refine MP (fun e=>Dy<|.inl<|.mk' g2.sm (lJ T hF hb m2 e)) fun e=>?_;have li2:HI rk a b _ _ _:=⟨m2,h1,Qi (Nat.le_sub_one_of_lt h2) (Ji e),h3,Lx hib⟩
    have le:=nH1 (Nat.lt_of_succ_lt h2) (Ug c.2.1 _ ▸ h5);rw [Ug (_ - 1)] at le;exact jB (Dy<|.inr<|.mk' g2.sm li2 (nH2 le))<|Dy<|.mk' g2.sm li2 le
  ·lia
  ·rintro ⟨r,c⟩ st2 (⟨sm2,l,rfl,hr⟩ | g2)
   ·exact Dy<|.mk' sm2 hr
   ·cases g2.e
    refine Dv<|wpS_lift<|Nj ⟨rfl,?_⟩
    refine Dv<|N5 (Ni (I:=fun _=>GoH rk a b st<|2+x) (Q:=fun c s=>Dn rk a b st c s\/GoH rk a b st (2+x) c s) ?_ (fun _ _=>.inr)<|.mk' g2.sm g2.li g2.le) ?_
    ·rintro y ⟨_,na,nb,out,mg,ac,bc⟩ st3 _ _ g3;have sm3:=g3.sm;have li3:HI rk a b out na nb:=g3.li;have hp3:na+nb+(2+x)<=a.size+b.size:=g3.le;clear g3;revert mg
     refine abZ (fun g mg=>OJ (g mg)<|g<|mg - 1) ?_;intro g;refine aal (out:=out) (na:=na) (nb:=nb) C T li3 (sm3.2.1.trans hk) fun y m st4 s4 lk m4 lo=>?_;have sm4:=sm3.trans s4;have hi (i j) (h:i<=na) (g:j<=nb - 1):i - 1+j+(2+x)<=a.size+b.size:=Dk (Nat.add_le_add_right (W7 (Dk (SQ _ _) h) (Dk g (SQ _ _))) _) hp3;refine Qx (fun k0=>?_) fun k0=>MP (fun e1=>Dy<|.inl<|.mk' sm4 (uF T m4 e1)) fun e1=>?_
     ·obtain rfl:=Nat.le_antisymm lk (Nat.sub_eq_zero_iff_le.mp (Vu k0));rw [uE] at m4;have i1:=li3.pa;have i2:=Dk lk li3.la;refine Vx C T hF m4 i1 li3.pb i2 li3.lb (sm4.2.1.trans hk) lo (fun y h=>Dy<|.inl<|.mk' sm4 h) fun x' y' j j1 jp j2 m5 lo2=>?_;have j3:=Dk j2 (Dk (SQ _ _) li3.lb);refine Qx (fun j0=>?_) fun j0=>MP (fun e2=>Dy<|.inl<|.mk' sm4 (lJ T hF hb m5 e2)) fun e2=>MP (fun e=>absurd e<|Ml jp) fun _=>Ks T m5 i1 (Qi jp<|Ji e2) i2 j3 lo2 (fun x' h=>Dy<|.inl<|.mk' sm4 h) (fun x' h=>Dy<|.inr<|.mk' sm4 h (hi _ _ lk j2)) fun x' h=>Dy<|.mk' sm4 h (hi _ _ lk j2)
      obtain rfl:=Nat.le_antisymm j2 (Nat.sub_eq_zero_iff_le.mp (Vu j0));rw [uE] at m5;exact Ks T m5 i1 j1 i2 j3 lo2 (fun x' h=>Dy<|.inl<|.mk' sm4 h) (fun x' h=>Dy<|.inr<|.mk' sm4 h (hi _ _ lk j2)) fun x' h=>Dy<|.mk' sm4 h (hi _ _ lk j2)
     ·have i1:=Nat.pos_of_ne_zero e1;have i2:=Dk lk li3.la;refine Vx C T hF m4 i1 li3.pb i2 li3.lb (sm4.2.1.trans hk) lo (fun y h=>Dy<|.inl<|.mk' sm4 h) fun x' y' j j1 jp j2 m5 lo2=>?_;have j3:=Dk j2 (Dk (SQ _ _) li3.lb);refine Qx (fun j0=>?_) fun j0=>MP (fun e2=>Dy<|.inl<|.mk' sm4 (lJ T hF hb m5 e2)) fun e2=>MP (fun e=>absurd e<|Ml jp) fun _=>Ks T m5 i1 (Qi jp<|Ji e2) i2 j3 lo2 (fun x' h=>Dy<|.inl<|.mk' sm4 h) (fun x' h=>Dy<|.inr<|.mk' sm4 h (hi _ _ lk j2)) fun x' h=>Dy<|.mk' sm4 h (hi _ _ lk j2)
      obtain rfl:=Nat.le_antisymm j2 (Nat.sub_eq_zero_iff_le.mp (Vu j0));rw [uE] at m5;exact Ks T m5 i1 j1 i2 j3 lo2 (fun x' h=>Dy<|.inl<|.mk' sm4 h) (fun x' h=>Dy<|.inr<|.mk' sm4 h (hi _ _ lk j2)) fun x' h=>Dy<|.mk' sm4 h (hi _ _ lk j2)
    ·rintro ⟨r,c⟩ st3 (⟨sm3,l,rfl,hr⟩ | g3)
     ·exact Dy<|.mk' sm3 hr
     ·cases g3.e
      exact Dv<|uw fun st4 s4=>Dy<|.mk' (g3.sm.trans s4) g3.li (Dk (Nat.add_le_add_left (by lia) _) g3.le)
 ·have h1:=g.li.pa;have h2:=g.li.pb;have:=g.le
  lia
 ·rintro ⟨_,_⟩ st' ⟨sm,r,rfl,hr⟩;exact Dy<|q r st' hr sm
end
variable {na nb : Nat}
def mAt:Nat->StateT Ez Sem Bool:=sortPriv% PySem.Builtin.mergeAt
section
variable {P:Ei}{w:Dq}{A:FZ}{E:Mk->AP->Prop}{s:AP}{rk:Mk->Nat}
theorem aft {st2:Ez}{Q:PUnit->Ez->Prop}(h:Q ⟨⟩ st2):wpS (Cp P w) A E s (set st2:StateT Ez Sem PUnit) Q st:=RX (f:=fun _=>st2) h
theorem Ay (s0:Nat):∀ (m:List DW) (j0:Nat) (arr:Array DW),s0+j0+m.length<=arr.size->((m.zipIdx j0).foldl (fun a (p:DW×Nat)=>a.setIfInBounds (s0+p.2) p.1) arr).toList=arr.toList.take (s0+j0)++m++arr.toList.drop (s0+j0+m.length)
 | [],j0,arr,h=>by simp
 | p::m,j0,arr,h=>by
  rw [K7] at h;rw [List.zipIdx_cons,List.foldl_cons,Ay s0 m (j0+1) _ (by rw [Array.size_setIfInBounds];lia)];dsimp only;have e1:(arr.setIfInBounds (s0+j0) p).toList=arr.toList.set (s0+j0) p:=by simp
  have e2:s0+(j0+1)=s0+j0+1:=by lia
  rw [e1,e2,KN,List.getElem?_set_self (by simp;lia),List.take_set_of_le (Dg _),List.drop_set_of_lt (by lia)];have e3:s0+j0+1+m.length=s0+j0+(p::m).length:=by rw [K7];lia
  rw [e3];simp
theorem lU {i j:Nat}(hj:j<=a.size)(h:bH rk a i j):SL rk (a.extract i j).toList:=by
 unfold SL;rw [Wd];intro p q hp hq hpq;have lp:(a.extract i j).toList.length=j - i:=by simp;lia
 have hq':q<j - i:=by rw [<-lp];exact hq
 have:=h (i+p) (i+q) (by lia) (by lia) (by lia)
 rw [gq (by lia),gq (by lia)] at this
 simpa using this
theorem adv {i j:Nat}{l1 l2 l:List DW}(e:a.toList=l1++l++l2)(e1:l1.length=i)(e2:l.length=j - i)(h:SL rk l):bH rk a i j:=by
 intro p q h1 h2 h3;have hl:∀ k (hk:k<l.length),Rk rk a (i+k)=rk (l[k]).1:=fun k hk=>by
  unfold Rk;have:a[i+k]?=FN l[k]:=by
   rw [<-U4,e,QJ,QD (by lia),QC (by lia)];have ek:i+k - l1.length=k:=by lia
   rw [ek,HD hk]
  rw [this]
 have hp:=hl (p - i) (by lia);have hq:=hl (q - i) (by lia);have ep:i+(p - i)=p:=by lia
 have eq:i+(q - i)=q:=by lia
 rw [ep] at hp;rw [eq] at hq;rw [hp,hq];exact Wd.mp h _ _ (by lia) (by lia)<|by lia
theorem vm (a:Array DW){i j:Nat}(h:i<=j)(hj:j<=a.size):a.toList.drop i=(a.extract i j).toList++a.toList.drop j:=by
 have:=aa7 a i (j - i) (by lia)
 have e:i+(j - i)=j:=by lia
 rw [e] at this;exact this
theorem m6 (a:Array DW){i j:Nat}(hj:j<=a.size):(a.extract i j).toList.length=j - i:=by simp;lia
structure Runs (rk:Mk->Nat) (a:Array DW) (sa k sb n' e:Nat):Prop where
 h1:sa+k<=sb
 h2:sb+n'<=e
 h3:e<=a.size
 r1:bH rk a sa sb
 r2:bH rk a sb e
 lo:∀ p,sa<=p->p<sa+k->Rk rk a p<Rk rk a sb
 hi:∀ p,sb+n'<=p->p<e->Rk rk a (sb - 1)<Rk rk a p
theorem bH.le {i j p q:Nat}(h:bH rk a i j)(h1:i<=p)(h2:p<=q)(h3:q<j):Rk rk a p<=Rk rk a q:=by
 rcases Nat.lt_or_ge p q with c | c
 ·exact Lx<|h p q h1 c h3
 ·have:p=q:=by lia
  subst this;exact Dg _
theorem zbk {α : Type}{t m1 m2 d:List α}(hl:m1.length=m2.length){q:Nat}(hq:q<t.length\/t.length+m1.length<=q):(t++m1++d)[q]?=(t++m2++d)[q]?:=by
 rcases hq with hq | hq
 ·rw [QJ,QJ,QC hq,QC hq]
 ·rw [QD (by rw [Jt];exact hq),QD (by rw [Jt,<-hl];exact hq),Jt,Jt,hl]
theorem zaA {W:Array DW}{sa k sb n' e:Nat}{m:List DW}(R:Runs rk a sa k sb n' e)(hx:sa+k<sb)(M:MJ rk (a.extract (sa+k) sb).toList (a.extract sb (sb+n')).toList m)(eW:W.toList=a.toList.take (sa+k)++m++a.toList.drop (sb+n')):Within a W sa e/\bH rk W sa e:=by
 obtain ⟨h1,h2,h3,r1,r2,lo,hi⟩:=R;have ea:a.toList=a.toList.take (sa+k)++((a.extract (sa+k) sb).toList++(a.extract sb (sb+n')).toList)++a.toList.drop (sb+n'):=by
  rw [QJ,QJ,<-vm a (by lia) (by lia),<-vm a h1 (by lia),Wk]
 have lm:m.length=((a.extract (sa+k) sb).toList++(a.extract sb (sb+n')).toList).length:=M.1.length_eq;have lt:(a.toList.take (sa+k)).length=sa+k:=by rw [Qh];simp;lia
 have lx:((a.extract (sa+k) sb).toList++(a.extract sb (sb+n')).toList).length=sb+n' - (sa+k):=by rw [Jt,m6 a (by lia),m6 a (by lia)];lia
 refine ⟨⟨?_,fun q hq=>?_⟩,?_⟩
 ·rw [Array.perm_iff_toList_perm,eW];conv=>rhs;rw [ea]
  exact ((M.1.append_left _).append_right _)
 ·rw [<-U4,<-U4,eW];conv=>rhs;rw [ea]
  exact zbk lm (by rw [lt,lm,lx];lia)
 ·have et:a.toList.take (sa+k)=a.toList.take sa++(a.extract sa (sa+k)).toList:=aap a (by lia);have ed:a.toList.drop (sb+n')=(a.extract (sb+n') e).toList++a.toList.drop e:=vm a h2 h3;have em:∀ z∈m,(∃ p,sa+k<=p/\p<sb/\rk z.1=Rk rk a p)\/∃ p,sb<=p/\p<sb+n'/\rk z.1=Rk rk a p:=fun z hz=>by
   rcases La.mp (M.1.mem_iff.mp hz) with hz | hz
   ·obtain ⟨p,p1,p2,p3,rfl⟩:=dj (by lia) hz;exact .inl ⟨p,p1,p2,(gq p3).symm⟩
   ·obtain ⟨p,p1,p2,p3,rfl⟩:=dj (by lia) hz;exact .inr ⟨p,p1,p2,(gq p3).symm⟩
  have ep:∀ z∈(a.extract sa (sa+k)).toList,∃ p,sa<=p/\p<sa+k/\rk z.1=Rk rk a p:=fun z hz=>by
   obtain ⟨p,p1,p2,p3,rfl⟩:=dj (by lia) hz;exact ⟨p,p1,p2,(gq p3).symm⟩
  have eq:∀ z∈(a.extract (sb+n') e).toList,∃ p,sb+n'<=p/\p<e/\rk z.1=Rk rk a p:=fun z hz=>by
   obtain ⟨p,p1,p2,p3,rfl⟩:=dj h3 hz;exact ⟨p,p1,p2,(gq p3).symm⟩
  have sp:SL rk (a.extract sa (sa+k)).toList:=lU (by lia) fun p q q1 q2 q3=>r1 p q q1 q2 (by lia)
  have sq:SL rk (a.extract (sb+n') e).toList:=lU h3 fun p q q1 q2 q3=>r2 p q (by lia) q2 q3
  refine adv (l1:=a.toList.take sa) (l:=(a.extract sa<|sa+k).toList++m++(a.extract (sb+n') e).toList) (l2:=a.toList.drop e) (by rw [eW,et,ed];simp only [QJ]) (by rw [Qh];simp;lia) ?_ ?_
  ·rw [Jt,Jt,lm,lx,m6 a (by lia),m6 a h3];lia
  ·unfold SL at *;rw [Tw,Tw];refine ⟨⟨sp,M.2,fun u hu v hv=>?_⟩,sq,fun u hu v hv=>?_⟩
   ·obtain ⟨p,p1,p2,e1⟩:=ep u hu;rw [e1];have l1:=lo p p1 p2;rcases em v hv with ⟨q,q1,q2,e2⟩ | ⟨q,q1,q2,e2⟩ <;> rw [e2]
    ·exact r1 p q p1 (by lia) q2
    ·exact HB l1<|r2.le (Dg _) q1<|by lia
   ·obtain ⟨q,q1,q2,e2⟩:=eq v hv;rw [e2];rcases La.mp hu with hu | hu
    ·obtain ⟨p,p1,p2,e1⟩:=ep u hu;rw [e1];exact HB (lo p p1 p2)<|r2.le (Dg _) (by lia) q2
    ·rcases em u hu with ⟨p,p1,p2,e1⟩ | ⟨p,p1,p2,e1⟩ <;> rw [e1]
     ·exact QK (r1.le (by lia) (by lia)<|by lia)<|hi q q1 q2
     ·exact r2 p q p1 (by lia) q2
theorem abk (C:MK P w A s kd rk good){i:Nat}{Q:Bool->Ez->Prop}{sa p sb p2:Nat}(ok:Mp kd rk good st)(e1:(K6 st)[i]?=FN (sa,na,p))(e2:(K6 st)[i+1]?=FN (sb,nb,p2))(hb:sb=sa+na)(h1:0<na)(h2:0<nb)(hz:sb+nb<=(DP st).size)(r1:bH rk (DP st) sa sb)(r2:bH rk (DP st) sb (sb+nb))
  (q:∀ st',Mp kd rk good st'->Within (DP st) (DP st') sa (sb+nb)->bH rk (DP st') sa (sb+nb)->K6 st'=((K6 st).setIfInBounds i (sa,na+nb,p)).eraseIdxIfInBounds (i+1)->Q true st'):wpS (Cp P w) A E s (mAt i) Q st:=by
 refine Dv<|Qy ?_
 simp only [e1,e2];refine Dv<|aft ?_
 have hsb:sb<(DP st).size:=by lia
 have gd:∀ x∈(DP st).toList,good x.1:=ok.keys.good
 refine Dv<|cJ (a:=DP st) hsb ?_
 refine Dv<|Ec (a:=DP st) C ok.kind gd (gd _<|bZ hsb) (by lia) (by lia) (fun x y h5 h6 h7=>?_) fun k k1 k2 k3=>?_
 ·unfold Jc at h7 |-
  have:=r1.le (p:=sa+x) (q:=sa+y) (by lia) (by lia) (by lia)
  simp at h7 |-
  lia
 have key:rk (DP st)[sb].1=Rk rk (DP st) sb:=(gq hsb).symm;have lo:∀ p,sa<=p->p<sa+k->Rk rk (DP st) p<Rk rk (DP st) sb:=fun p p1 p3=>by
  have:=k2 (p - sa) (by lia)
  have ep:sa+(p - sa)=p:=by lia
  unfold Jc at this;rw [ep,key] at this;have ne:Rk rk (DP st) p≠Rk rk (DP st) sb:=fun z=>by have:=ok.keys.ne (by lia) hsb z;lia
  simp at this;lia
 have up:∀ p,sa+k<=p->p<sb->Rk rk (DP st) sb<Rk rk (DP st) p:=fun p p1 p3=>by
  have:=k3 (p - sa) (by lia) (by lia)
  have ep:sa+(p - sa)=p:=by lia
  unfold Jc at this;rw [ep,key] at this
  simpa using this
 by_cases c:na - k=0
 ·refine Qv (by simpa using c)<|Dy<|q _ ⟨ok.kind,ok.failed,ok.keys⟩ (Within.refl _ _ _) (fun p q p1 p3 p4=>?_) rfl
  show Rk rk (DP st) p<Rk rk (DP st) q;by_cases c1:q<sb
  ·exact r1 p q p1 p3 c1
  ·by_cases c2:sb<=p
   ·exact r2 p q c2 p3 p4
   ·exact HB (lo p p1<|by lia)<|r2.le (Dg _) (by lia) p4
 refine Nt (by simpa using c) ?_;have hl:sa+k+(na - k) - 1<(DP st).size:=by lia
 have el:sa+k+(na - k) - 1=sb - 1:=by lia
 refine Dv<|cJ (a:=DP st) hl ?_
 have key2:rk ((DP st)[sa+k+(na - k) - 1]'hl).1=Rk rk (DP st) (sb - 1):=by rw [<-gq (rk:=rk) hl,el]
 refine Dv<|Ec (a:=DP st) C ok.kind gd (gd _<|bZ hl) (by lia) (by lia) (fun x y h5 h6 h7=>?_) fun n' n1 n2 n3=>?_
 ·unfold Jc at h7 |-
  have:=r2.le (p:=sb+x) (q:=sb+y) (by lia) (by lia) (by lia)
  simp at h7 |-
  lia
 have be:∀ p,sb<=p->p<sb+n'->Rk rk (DP st) p<Rk rk (DP st) (sb - 1):=fun p p1 p3=>by
  have:=n2 (p - sb) (by lia)
  have ep:sb+(p - sb)=p:=by lia
  unfold Jc at this;rw [ep,key2] at this
  simpa using this
 have hi:∀ p,sb+n'<=p->p<sb+nb->Rk rk (DP st) (sb - 1)<Rk rk (DP st) p:=fun p p1 p3=>by
  have:=n3 (p - sb) (by lia) (by lia)
  have ep:sb+(p - sb)=p:=by lia
  unfold Jc at this;rw [ep,key2] at this;have ne:Rk rk (DP st) p≠Rk rk (DP st) (sb - 1):=fun z=>by have:=ok.keys.ne (by lia) (by lia) z;lia
  simp at this;lia
 have np:0<n':=by
  refine Wf fun z=>?_;have:=hi sb (by lia) (by lia)
  have:=up (sb - 1) (by lia) (by lia)
  lia
 refine Nt (by simp;lia) ?_;have zx:((DP st).extract (sa+k) sb).size=sb - (sa+k):=by simp;lia
 have zy:((DP st).extract sb (sb+n')).size=n':=by simp;lia
 have T:Two rk good ((DP st).extract (sa+k) sb) ((DP st).extract sb (sb+n')):=⟨lU (by lia) fun p q p1 p3 p4=>r1 p q (by lia) p3 p4,lU (by lia) fun p q p1 p3 p4=>r2 p q p1 p3 (by lia),fun x hx=>by
   obtain ⟨p,_,_,p3,rfl⟩:=dj (by lia) hx;exact gd _<|bZ p3,fun x hx=>by
   obtain ⟨p,_,_,p3,rfl⟩:=dj (by lia) hx;exact gd _<|bZ p3,fun x hx y hy e=>by
   obtain ⟨p,p1,p3,p4,rfl⟩:=dj (by lia) hx;obtain ⟨q,q1,q3,q4,rfl⟩:=dj (by lia) hy;rw [<-gq (rk:=rk) p4,<-gq (rk:=rk) q4] at e;have:=ok.keys.ne p4 q4 e
   lia⟩
 have hL:Ds rk ((DP st).extract (sa+k) sb) ((DP st).extract sb (sb+n')):=fun h z hz=>by
  obtain ⟨p,p1,p3,p4,rfl⟩:=dj (by lia) hz;have:=be p p1 p3
  rw [gq p4,gq (by lia)] at this;have ex:sa+k+(((DP st).extract (sa+k) sb).size - 1)=sb - 1:=by lia
  simpa only [Array.getElem_extract,ex] using this
 have hF:BR rk ((DP st).extract (sa+k) sb) ((DP st).extract sb (sb+n')):=fun h z hz=>by
  obtain ⟨p,p1,p3,p4,rfl⟩:=dj (by lia) hz;have:=up p p1 p3
  rw [gq p4,gq hsb] at this
  simpa only [Array.getElem_extract,Nat.add_zero] using this
 have fin:∀ (m:Array DW) (st2:Ez),MJ rk ((DP st).extract (sa+k) sb).toList ((DP st).extract sb (sb+n')).toList m.toList->DP st2=DP st->Within (DP st) (m.toList.zipIdx.foldl (fun a (p:DW×Nat)=>a.setIfInBounds (sa+k+p.2) p.1) (DP st2)) sa (sb+nb)/\bH rk (m.toList.zipIdx.foldl (fun a (p:DW×Nat)=>a.setIfInBounds (sa+k+p.2) p.1) (DP st2)) sa (sb+nb):=fun m st2 M ea=>by
  have lm:m.toList.length=sb+n' - (sa+k):=by rw [M.1.length_eq,Jt,m6 _ (by lia),m6 _ (by lia)];lia
  rw [ea];refine zaA ⟨by lia,by lia,hz,r1,r2,lo,hi⟩ (by lia) M ?_;rw [Ay (sa+k) m.toList 0 (DP st) (by lia),Nat.add_zero];have e:sa+k+m.toList.length=sb+n':=by lia
  rw [e]
 have hx0:0<((DP st).extract (sa+k) sb).size:=by lia
 have hy0:0<((DP st).extract sb (sb+n')).size:=by lia
 refine jB (Dv<|aaH C T hL hx0 hy0 (hF hy0 _<|bZ hx0) ok.kind fun m st2 M sm=>?_)<|Dv<|abB C T hL hF hx0 hy0 ok.kind fun m st2 M sm=>?_
 all_goals
  obtain ⟨f1,f2⟩:=fin m st2 M sm.1;have fl:failedOf st2=FX:=sm.2.2.1.trans ok.failed;refine Dv<|RX<|Dv<|Qy<|Dy ?_
  show Q (failedOf st2).isNone _;rw [fl];exact q _ ⟨sm.2.1.trans ok.kind,fl,ok.keys.perm f1.perm⟩ f1 f2 sm.2.2.2
def Cont (rk:Mk->Nat)(a:Array DW):List (Nat×Nat×Nat)->Nat->Nat->Prop
 | [],i,j=>i=j
 | (s,n,_)::r,i,j=>s=i/\0<n/\bH rk a i (i+n)/\Cont rk a r (i+n) j
theorem uc {a:Array DW}:∀ {ps:List (Nat×Nat×Nat)} {i j:Nat},Cont rk a ps i j->i+ps.length<=j
 | [],i,j,h=>by have h:i=j:=h;simp;lia
 | (s,n,p)::r,i,j,h=>by
  obtain ⟨_,h1,_,h2⟩:=h;have:=uc h2
  simp;lia
theorem lH {a:Array DW}:∀ {ps qs:List (Nat×Nat×Nat)} {i j:Nat},Cont rk a (ps++qs) i j↔∃ k,Cont rk a ps i k/\Cont rk a qs k j
 | [],qs,i,j=>⟨fun h=>⟨i,rfl,h⟩,fun ⟨k,e,h⟩=>by have e:i=k:=e;rw [e];exact h⟩
 | (s,n,p)::r,qs,i,j=>by
  constructor
  ·rintro ⟨h1,h2,h3,h4⟩;obtain ⟨k,a1,a2⟩:=lH.mp h4;exact ⟨k,⟨h1,h2,h3,a1⟩,a2⟩
  ·rintro ⟨k,⟨h1,h2,h3,h4⟩,h5⟩;exact ⟨h1,h2,h3,lH.mpr ⟨k,h4,h5⟩⟩
theorem qz {i j:Nat}(W:Within a b lo hi)(h:bH rk a i j)(o:j<=lo\/hi<=i):bH rk b i j:=fun p q h1 h2 h3=>by
 rw [za (W.out p (by lia)),za (W.out q (by lia))];exact h p q h1 h2 h3
theorem fM {a b:Array DW}{lo hi:Nat}(W:Within a b lo hi):∀ {ps:List (Nat×Nat×Nat)} {i j:Nat},Cont rk a ps i j->(j<=lo\/hi<=i)->Cont rk b ps i j
 | [],i,j,h,_=>h
 | (s,n,p)::r,i,j,⟨h1,h2,h3,h4⟩,o=>⟨h1,h2,qz W h3 (by have:=uc h4;lia),fM W h4 (by lia)⟩
theorem uU {a:Array DW}{f:Nat×Nat×Nat->Nat×Nat×Nat}(hf:∀ x,(f x).1=x.1/\(f x).2.1=x.2.1):∀ {ps:List (Nat×Nat×Nat)} {k i j:Nat},Cont rk a ps i j->Cont rk a (ps.modify k f) i j
 | [],k,i,j,h=>by simpa using h
 | (s,n,p)::r,0,i,j,⟨h1,h2,h3,h4⟩=>by
  obtain ⟨e1,e2⟩:=hf (s,n,p);have e:f (s,n,p)=(s,n,(f (s,n,p)).2.2):=by
   rw [Prod.ext_iff,Prod.ext_iff];exact ⟨e1,e2,rfl⟩
  show Cont rk a (f (s,n,p)::r) i j;rw [e];exact ⟨h1,h2,h3,h4⟩
 | (s,n,p)::r,k+1,i,j,⟨h1,h2,h3,h4⟩=>⟨h1,h2,h3,uU hf h4⟩
theorem agj {α : Type}{l:List α}{i:Nat}(h:i+1<l.length):l=l.take i++l[i]::l[i+1]::l.drop (i+2):=by
 rw [<-Ut h,<-Ut (by lia),Wk]
structure JI (kd:Sg) (rk:Mk->Nat) (good:Mk->Prop) (a0:Array DW) (lo:Nat) (st:Ez):Prop where
 ok:Mp kd rk good st
 perm:(DP st).Perm a0
 cont:Cont rk (DP st) (K6 st).toList 0 lo
theorem Al (C:MK P w A s kd rk good){i:Nat}{a0:Array DW}{Q:Bool->Ez->Prop}(J:JI kd rk good a0 lo st)(hl:lo<=a0.size)(hi:i+1<(K6 st).size)
  (q:∀ st',JI kd rk good a0 lo st'->Within (DP st) (DP st') 0 lo->(K6 st').size+1=(K6 st).size->Q true st'):wpS (Cp P w) A E s (mAt i) Q st:=by
 obtain ⟨ok,pm,ct⟩:=J;have hi':i+1<(K6 st).toList.length:=by simpa using hi
 have es:=agj hi';obtain ⟨sa,na,p,hx⟩:∃ sa na p,(K6 st).toList[i]=(sa,na,p):=⟨_,_,_,rfl⟩
 obtain ⟨sb,nb,p2,hy⟩:∃ sb nb p2,(K6 st).toList[i+1]=(sb,nb,p2):=⟨_,_,_,rfl⟩
 rw [hx,hy] at es;have ct2:=ct;rw [es] at ct2;obtain ⟨k,c1,e1,n1,r1,e2,n2,r2,c2⟩:=lH.mp ct2;subst e1 e2;have hz:=uc c2;have hs:=pm.size_eq;refine abk C ok (sa:=sa) (na:=na) (p:=p) (sb:=sa+na) (nb:=nb) (p2:=p2) ?_ ?_ rfl n1 n2 (by lia) r1 r2 fun st' ok' W R e=>?_
 ·rw [<-U4,HD (by lia),hx]
 ·rw [<-U4,HD hi',hy]
 have lt:((K6 st).toList.take i).length=i:=by rw [Qh];lia
 have el:(K6 st').toList=(K6 st).toList.take i++(sa,na+nb,p)::(K6 st).toList.drop (i+2):=by
  rw [e,Array.toList_eraseIdxIfInBounds,Array.toList_setIfInBounds];conv=>lhs;rw [es]
  rw [List.set_append_right _ _ (by lia),lt,Nat.sub_self,List.set_cons_zero,List.eraseIdx_append_of_length_le (by lia),lt];have:i+1 - i=1:=by lia
  rw [this];rfl
 refine q st' ⟨ok',W.perm.trans pm,?_⟩ (W.wide (Ko _)<|by lia) ?_
 ·rw [el];refine lH.mpr ⟨sa,fM W c1<|.inl<|Dg _,rfl,by lia,?_,?_⟩
  ·rw [<-Nat.add_assoc];exact R
  ·rw [<-Nat.add_assoc];exact fM W c2 (.inr (Dg _))
 ·have l1:=congrArg QZ el;have l2:=congrArg QZ es;simp only [Jt,K7,Ua] at l1 l2;lia
theorem aes [Decidable c](i:Nat):(if c then i - 1 else i)<=i:=by split <;> lia
theorem nU {pd:Array (Nat×Nat×Nat)}(ok:Mp kd rk good st):Mp kd rk good (setPending st pd):=⟨ok.kind,ok.failed,ok.keys⟩
theorem ahF (C:MK P w A s kd rk good){Q:Unit->Ez->Prop}(ok:Mp kd rk good st)(hp:K6 st = #[])(h2:2<=(DP st).size)
  (q:∀ st',(DP st').Perm (DP st)->failedOf st'=FX->bH rk (DP st') 0 (DP st).size->Q () st'):wpS (Cp P w) A E s sortRuns' Q st:=by
 rw [sortRuns'_eq];refine Dv<|Qy ?_
 dsimp only;obtain ⟨a0,ea0⟩:∃ a0,DP st=a0:=⟨_,rfl⟩
 have J0:JI kd rk good a0 0 st:=⟨ok,by rw [ea0],by rw [hp];rfl⟩
 rw [ea0] at h2 q |-
 generalize hn:a0.size=N at *;generalize hmr:minRun' N N 0=mr at *;refine Dv (N5 (Ni
  (I:=fun x c st'=>∃ lo,c=(FX,lo)/\JI kd rk good a0 lo st'/\lo<=N/\x<=lo)
  (Q:=fun c st'=>c=(FX,N)/\JI kd rk good a0 N st') ?_ ?_ ⟨0,rfl,J0,Ko _,Dg _⟩) ?_)
 ·rintro x c st' _ hx ⟨lo,rfl,J,hlo,hxl⟩;dsimp only;by_cases c0:lo>=N
  ·have e:lo=N:=by lia
   subst e;exact Qv c0<|Dy ⟨rfl,J⟩
  refine Nt c0 ?_;have hsz:(DP st').size=N:=by rw [J.perm.size_eq,hn]
  refine Dv<|w_count C J.ok (by lia) (by lia) fun n b n1 n2 hw hr _=>?_
  dsimp only;have ok2:Mp kd rk good (Ky st' b):=J.ok.arr hw.perm;have fin:∀ (m:Nat) (st2:Ez),Mp kd rk good st2->(DP st2).Perm a0->Cont rk (DP st2) (K6 st2).toList 0 lo->bH rk (DP st2) lo (lo+m)->0<m->lo+m<=N->JI kd rk good a0 (lo+m) (setPending st2 ((K6 st2).push (lo,m,0))):=fun m st2 o2 p2 c2 r2 m0 m1=>by
   refine ⟨nU o2,p2,?_⟩;show Cont rk (DP st2) ((K6 st2).push (lo,m,0)).toList 0 (lo+m);rw [Array.toList_push];exact lH.mpr ⟨lo,c2,rfl,m0,r2,rfl⟩
  have back:∀ (m pw:Nat) (st2:Ez),JI kd rk good a0 lo st2->bH rk (DP st2) lo (lo+m)->0<m->lo+m<=N->wpS (Cp P w) A E s (forIn [0:N] ((FX:Option Unit),()) fun _ _=>do
     let p:=K6 (<-get)
     match (if p.size>1 then p[p.size - 2]? else FX) with
     | some (_,_,older)=>if older<=pw then pure (ForInStep.done ((FX:Option Unit),())) else do
       let r <-mAt (p.size - 2)
       if (!r)=true then pure (ForInStep.done (FN (),())) else pure (ForInStep.yield ((FX:Option Unit),()))
     | x=>pure (ForInStep.done ((FX:Option Unit),())))
    (fun c st3=>c=(FX,())/\JI kd rk good a0 lo st3/\bH rk (DP st3) lo (lo+m)) st2:=fun m pw st2 J2 R2 m0 m1=>by
   refine Ni (I:=fun _ c st3=>c=(FX,())/\JI kd rk good a0 lo st3/\bH rk (DP st3) lo (lo+m)) ?_ (fun c st3 h=>h) ⟨rfl,J2,R2⟩;rintro y c st3 _ hy ⟨rfl,J3,R3⟩;refine Dv<|Qy ?_
   dsimp only;by_cases hs:(K6 st3).size>1
   ·rw [if_pos hs];obtain ⟨a1,a2,a3,ex⟩:∃ a1 a2 a3,(K6 st3)[(K6 st3).size - 2]?=FN (a1,a2,a3):=⟨_,_,_,Uc (by lia)⟩
    rw [ex];dsimp only;by_cases c3:a3<=pw
    ·exact Qv c3<|Dy ⟨rfl,J3,R3⟩
    ·refine Nt c3<|Dv<|Al C J3 (by lia) (by lia) fun st4 J4 W4 _=>?_
     exact Nt (by simp)<|Dy ⟨rfl,J4,qz W4 R3<|.inr<|Dg _⟩
   ·rw [if_neg hs];exact Dy ⟨rfl,J3,R3⟩
  by_cases c:n<mr
  ·refine Qv c<|Dv<|wpS_lift<|Nj ⟨rfl,?_⟩
   refine Dv<|Yg C ok2 n1 (show n<=min (N - lo) mr by lia) (by show lo+min (N - lo) mr<=b.size;rw [hw.size];lia) hr fun b2 hw2 hr2=>?_
   refine Nt (by simp) ?_;have W:Within (DP st') b2 lo (lo+(N - lo)):=hw.trans (hw2.wide (Dg _) (by lia));have J2:JI kd rk good a0 lo (Ky (Ky st' b) b2):=⟨ok2.arr hw2.perm,W.perm.trans J.perm,fM W J.cont (.inl (Dg _))⟩
   refine Dv<|Qy ?_
   cases hbk:(K6 (Ky (Ky st' b) b2)).back? with
   | none=>exact Dv (RX (Dy ⟨_,rfl,fin (min (N - lo) mr) _ J2.ok J2.perm J2.cont hr2 (by lia) (by lia),by lia,by lia⟩))
   | some t=>
    obtain ⟨s1,l1,p1⟩:=t;dsimp only;refine Dv<|N5 (back (min (N - lo) mr) _ _ J2 hr2 (by lia)<|by lia) ?_
    rintro c st3 ⟨rfl,J3,R3⟩;dsimp only;refine Dv<|RX<|Dv<|RX<|Dy ⟨_,rfl,fin (min (N - lo) mr) (setPending st3 _) (nU J3.ok) J3.perm ?_ R3 (by lia)<|by lia,by lia,by lia⟩
    show Cont rk (DP st3) ((K6 st3).modify _ _).toList 0 lo;rw [Array.toList_modify];refine @uU rk (DP st3) _ ?_ _ _ _ _ J3.cont;exact fun _=>⟨rfl,rfl⟩
  ·refine Nt c ?_;have J2:JI kd rk good a0 lo (Ky st' b):=⟨ok2,hw.perm.trans J.perm,fM hw J.cont (.inl (Dg _))⟩
   refine Dv<|Qy ?_
   cases hbk:(K6 (Ky st' b)).back? with
   | none=>exact Dv (RX (Dy ⟨_,rfl,fin n _ J2.ok J2.perm J2.cont hr (by lia) (by lia),by lia,by lia⟩))
   | some t=>
    obtain ⟨s1,l1,p1⟩:=t;dsimp only;refine Dv<|N5 (back n _ _ J2 hr (by lia)<|by lia) ?_
    rintro c st3 ⟨rfl,J3,R3⟩;dsimp only;refine Dv<|RX<|Dv<|RX<|Dy ⟨_,rfl,fin n (setPending st3 _) (nU J3.ok) J3.perm ?_ R3 (by lia)<|by lia,by lia,by lia⟩
    show Cont rk (DP st3) ((K6 st3).modify _ _).toList 0 lo;rw [Array.toList_modify];refine @uU rk (DP st3) _ ?_ _ _ _ _ J3.cont;exact fun _=>⟨rfl,rfl⟩
 ·rintro c st' ⟨lo,rfl,J,hlo,hxl⟩;have e:lo=N:=by lia
  subst e;exact ⟨rfl,J⟩
 ·rintro c st' ⟨rfl,J⟩;dsimp only;refine Dv (N5 (Ni
   (I:=fun x c st2=>c=(FX,())/\JI kd rk good a0 N st2/\(K6 st2).size+x<=N) (Q:=fun c st2=>c=(FX,())/\JI kd rk good a0 N st2/\(K6 st2).size<=1) ?_ ?_ ⟨rfl,J,?_⟩) ?_)
  ·rintro x c st2 _ hx ⟨rfl,J2,hl⟩;refine Dv<|Qy ?_
   by_cases c1:(K6 st2).size<=1
   ·exact Qv c1<|Dy ⟨rfl,J2,c1⟩
   ·refine Nt c1<|Dv<|Al C J2 (by lia) ?_ fun st4 J4 _ e4=>Nt (by simp)<|Dy ⟨rfl,J4,by lia⟩
    exact QK (Nat.add_le_add_right (aes _) 1)<|by lia
  ·rintro c st2 ⟨rfl,J2,hl⟩;exact ⟨rfl,J2,by lia⟩
  ·have:=uc J.cont
   simp at this;lia
  ·rintro c st2 ⟨rfl,J2,hl⟩;refine Dy<|q _ J2.perm J2.ok.failed ?_
   have ct:=J2.cont;match hl2:(K6 st2).toList,ct with
   | [],ct=>
    have ct:0=N:=ct;lia
   | [(s1,l1,p1)],⟨_,_,r,e⟩=>
    have e:0+l1=N:=e;rw [e] at r;exact r
   | _::_::_,_=>
    have:=congrArg QZ hl2
    simp at this;lia
end
def Oa:List Int->List Int->Option Bool
 | a::k,b::l=>if a=b then Oa k l else FN (decide (a<b))
 | _,_=>FX
theorem Gw:∀ k l:List Int,(match Oa k l with | some r=>r | none=>decide (k.length<l.length))=decide (k<l)
 | [],[]=>by simp [Oa]
 | [],b::l=>by simp [Oa]
 | a::k,[]=>by simp [Oa]
 | a::k,b::l=>by
  unfold Oa;by_cases e:a=b
  ·subst e;rw [if_pos rfl];have:=Gw k l
   simp only [K7,Nat.add_lt_add_iff_right];rw [this];exact decide_eq_decide.mpr (by rw [RJ];simp [Int.lt_irrefl])
  ·rw [if_neg e];exact decide_eq_decide.mpr (by rw [RJ];simp [e])
section
variable {P:Ei}{w:Dq}{A:FZ}{E:Mk->AP->Prop}{s:AP}
def o9 (h:Heap)(v:Mk)(k:List Int):Prop:=∃ a o its n,v=.ref a/\h.get? a=FN o/\o.cls=.type "tuple"/\o.data=.seq its n/\CR (k.map V.int) its.toList
theorem aeZ {a b:Int}{t u:Tok}{Q:Bool->AP->Prop}(h:Q (decide (a<b)) s):Cu (Cp P w) A (oneLt' false (.int a t) (.int b u)) Q E s:=by
 rw [oneLt'_eq];simp only [R8,if_false];exact CN<|wpAny_richCompare_same (typeIs_int s a t) (typeIs_int s b u) slot_int_lt<|call_int_lt ⟨by simp,wpAny_truthy_bool h⟩
theorem IW {f:(Mk×Mk)×Nat->Option Bool×Unit->Sem (ForInStep (Option Bool×Unit))}
  (hf:∀ (a b:Int) (t u:Tok) (i:Nat) (R:ForInStep (Option Bool×Unit)->AP->Prop),R (if a=b then .yield (FX,()) else .done (FN (decide (a<b)),())) s->Cu (Cp P w) A (f ((.int a t,.int b u),i) (FX,())) R E s) :
  ∀ {k l:List Int} {ps qs:List Mk} {j:Nat},CR (k.map V.int) ps->CR (l.map V.int) qs->∀ {R:Option Bool×Unit->AP->Prop},R (Oa k l,()) s->Cu (Cp P w) A (forIn ((ps.zip qs).zipIdx j) (FX,()) f) R E s
 | [],l,ps,qs,j,hp,hq,R,q=>by
  cases hp;rw [List.zip_nil_left,List.zipIdx_nil,WM];exact Cz q
 | a::k,[],ps,qs,j,hp,hq,R,q=>by
  cases hq;rw [List.zip_nil_right,List.zipIdx_nil,WM];exact Cz q
 | a::k,b::l,ps,qs,j,hp,hq,R,q=>by
  cases hp with
  | cons r1 hp=>
   cases hq with
   | cons r2 hq=>
    obtain ⟨t,rfl⟩:=r1;obtain ⟨u,rfl⟩:=r2;rw [U7,List.zipIdx_cons,WW];refine CN<|hf a b t u j _ ?_
    unfold Oa at q;by_cases e:a=b
    ·rw [if_pos e] at q |-
     exact IW hf hp hq q
    ·rw [if_neg e] at q |-
     exact Cz q
theorem XS {fo:Bool}{x y:Mk}{l:List Int}{Q:Bool->AP->Prop}(hx:o9 s.heap x k)(hy:o9 s.heap y l)(q:Q (decide (k<l)) s):Cu (Cp P w) A (keyLt' (tuples' fo) x y) Q E s:=by
 obtain ⟨a,o,its,n,rfl,ga,_,da,va⟩:=hx;obtain ⟨b,u,jts,m,rfl,gb,_,db,vb⟩:=hy;refine CN<|listItems_at ga da<|CN<|listItems_at gb db<|CN<|IW (fun c d t u i R hR=>?_) va vb ?_
 ·dsimp only;refine CN<|wpAny_eqBool_int ?_
  by_cases e:c=d
  ·rw [if_pos e] at hR;rw [show (c==d)=true by simpa using e];exact Cz hR
  ·rw [if_neg e] at hR;rw [show (c==d)=false by simpa using e];refine CN ?_;cases hb:(fo&&i==0) with
   | true=>exact oneLt_int (Cz hR)
   | false=>exact aeZ (Cz hR)
 ·have e:=Gw k l;have la:its.size=k.length:=by have:=va.length;simpa using this.symm
  have lb:jts.size=l.length:=by have:=vb.length;simpa using this.symm
  rw [<-e] at q;dsimp only;cases c:Oa k l with
  | some r=>rw [c] at q;exact Cz q
  | none=>rw [c] at q;rw [la,lb];exact Cz q
theorem zaG {x:Mk}{i:Int}{Q:Option Mk->AP->Prop}(hx:o9 s.heap x (i::k))(q:∀ t,Q (FN (.int i t)) s):Cu (Cp P w) A (firstOfTuple' x) Q E s:=by
 obtain ⟨a,o,its,n,rfl,ga,ca,da,va⟩:=hx;refine CN<|Qn (T := "tuple") ⟨o,ga,ca⟩ ?_
 rw [if_neg (by decide)];refine CN<|listItems_at ga da ?_
 obtain ⟨xs⟩:=its;cases va with
 | cons r _=>
  obtain ⟨t,rfl⟩:=r;exact Cz<|q t
theorem sE:∀ {vs:List Mk} {ks:List (List Int)} {Q:List (Option Mk)->AP->Prop},LQ (fun k v=>o9 s.heap v k) ks vs->(∀ k∈ks,k≠[])->(∀ us:List Mk,us.length=vs.length->(∀ u∈us,∃ i t,u=.int i t)->Q (us.map FN) s)->Cu (Cp P w) A (vs.mapM firstOfTuple') Q E s
 | [],_,Q,h,_,q=>by
  cases h;exact Cz<|q [] rfl fun _ h=>nomatch h
 | v::vs,ks,Q,h,hn,q=>by
  cases h with
  | @cons k _ ks' _ r h=>
   rw [List.mapM_cons];obtain ⟨i,k',rfl⟩:∃ i k',k=i::k':=List.exists_cons_of_ne_nil (hn k KD)
   refine CN<|zaG r fun t=>CN ?_
   refine sE h (fun k hk=>hn k<|Jo _ hk) fun us hl hu=>Cz ?_;refine q (.int i t::us) (by simp [hl]) fun u hm=>?_;rcases Ge.mp hm with rfl | hm
   ·exact ⟨i,t,rfl⟩
   ·exact hu u hm
theorem vZ:∀ {us:List Mk} {Q:List Mk->AP->Prop},(∀ u∈us,∃ i t,u=Value.int i t)->Q (us.map fun _=>.type "int") s->Cu (Cp P w) A (us.mapM typeOf) Q E s
 | [],Q,_,q=>Cz q
 | u::us,Q,h,q=>by
  rw [List.mapM_cons];obtain ⟨i,t,rfl⟩:=h u KD;exact CN<|Qn (typeIs_int s i t)<|CN<|vZ (fun v hv=>h v<|Jo _ hv)<|Cz q
theorem zbn {vs:List Mk}{ks:List (List Int)}{Q:Sg->AP->Prop}(h:LQ (fun k v=>o9 s.heap v k) ks vs)(hn:∀ k∈ks,k≠[])(h1:1<=vs.length)(q:Q (tuples' true) s):Cu (Cp P w) A (keyKind' vs.toArray) Q E s:=by
 rw [keyKind'_eq,List.mapM_toArray];refine CN<|wpAny_map ?_
 refine sE h hn fun us hl hu=>?_;rw [if_pos (by simp)];refine CN<|Nj<|CN ?_
 have ef:(us.map FN).toArray.filterMap id=us.toArray:=by
  rw [List.filterMap_toArray];simp
 rw [ef,oneTypeOnly'_eq,List.mapM_toArray];refine CN<|wpAny_map<|vZ hu ?_
 obtain ⟨u,us',rfl⟩:∃ u us',us=u::us':=List.exists_cons_of_ne_nil fun e=>by rw [e] at hl;simp at hl;lia
 show Cu _ _ (pure (if _ then FN (Value.type "int") else FX)) _ _ s;rw [if_pos (by simp)];exact Cz<|Cz q
end
variable {ks : List (List Int)}{l : List Int}
section
variable {P:Ei}{w:Dq}{A:FZ}{E:Mk->AP->Prop}{s:AP}
def Hz (ks:List (List Int))(k:List Int):Nat:=ks.countP fun l=>decide (l<k)
theorem yu {k l:List Int}(h:k<l):∀ ks:List (List Int),Hz ks k<=Hz ks l/\(k∈ks->Hz ks k<Hz ks l)
 | []=>⟨Dg _,fun h=>nomatch h⟩
 | a::as=>by
  obtain ⟨i1,i2⟩:=yu h as;unfold Hz at *;rw [List.countP_cons,List.countP_cons];by_cases c:a<k
  ·have c2:a<l:=List.lt_trans c h;rw [if_pos (decide_eq_true c),if_pos (decide_eq_true c2)];refine ⟨by lia,fun hm=>?_⟩;rcases Ge.mp hm with e | hm
   ·exact absurd c (by rw [e];exact Ur a)
   ·have:=i2 hm
    lia
  ·rw [if_neg (by simpa using c)];refine ⟨by split <;> lia,fun hm=>?_⟩;rcases Ge.mp hm with e | hm
   ·subst e;rw [if_pos (decide_eq_true h)];lia
   ·have:=i2 hm
    split <;> lia
theorem m9 (hk:k∈ks):Hz ks k<Hz ks l↔k<l:=by
 refine ⟨fun h=>?_,fun h=>(yu h ks).2 hk⟩;refine Wf fun c=>?_;have c:l<=k:=List.not_lt.mp c;by_cases e:l=k
 ·subst e;exact absurd h (Nv _)
 ·have c2:l<k:=Wf fun c3=>e (List.le_antisymm c (List.not_lt.mp c3))
  exact absurd h<|Nat.not_lt.mpr (yu c2 ks).1
theorem o9.fn {h:Heap}{v:Mk}(x:o9 h v k)(y:o9 h v l):k=l:=by
 obtain ⟨a,o,its,n,rfl,ga,_,da,va⟩:=x;obtain ⟨b,u,jts,m,e,gb,_,db,vb⟩:=y;cases e;rw [ga] at gb;cases gb;rw [da] at db;cases db;have go:∀ {k l:List Int} {xs:List Mk},CR (k.map V.int) xs->CR (l.map V.int) xs->k=l:=by
  intro k;induction k with
  | nil=>
   intro l xs h1 h2;cases h1;cases l with
   | nil=>rfl
   | cons b l=>cases h2
  | cons a k ih=>
   intro l xs h1 h2;cases h1 with
   | cons r1 h1=>
    cases l with
    | nil=>cases h2
    | cons b l=>
     cases h2 with
     | cons r2 h2=>
      obtain ⟨t,e1⟩:=r1;obtain ⟨u,e2⟩:=r2;rw [e1] at e2;cases e2;rw [ih h1 h2]
 exact go va vb
theorem o9.of {h h':Heap}{v:Mk}(x:o9 h v k)(e:∀ b o,v=.ref b->o.cls=.type "tuple"->h.get? b=FN o->h'.get? b=FN o):o9 h' v k:=by
 obtain ⟨a,o,its,n,rfl,ga,ca,r⟩:=x;exact ⟨a,o,its,n,rfl,e a o rfl ca ga,ca,r⟩
structure S6 (T:Heap->Mk->List Int->Prop):Prop where
 fn:∀ {h:Heap} {v:Mk} {k l:List Int},T h v k->T h v l->k=l
 of:∀ {h h':Heap} {v:Mk} {k:List Int},T h v k->(∀ b o,o.cls=.type "tuple"->h.get? b=FN o->h'.get? b=FN o)->T h' v k
abbrev Ny (T:Heap->Mk->List Int->Prop)(h:Heap):List (List Int)->List Mk->Prop:=LQ fun k v=>T h v k
theorem gM {α β : Type}{F G:α->β->Prop}:∀ {as:List α} {bs:List β},LQ F as bs->(∀ a b,b∈bs->F a b->G a b)->LQ G as bs
 | [],_,h,_=>by cases h;exact .nil
 | a::as,_,h,g=>by
  cases h with
  | cons r h=>exact .cons (g _ _ KD r) (gM h fun a b hb=>g a b (Jo _ hb))
section
variable {T:Heap->Mk->List Int->Prop}(F:S6 T)
include F
open Classical in
noncomputable def keyV (_:S6 T)(h:Heap)(v:Mk):List Int:=if e:∃ k,T h v k then e.choose else []
theorem gH {h:Heap}{v:Mk}(x:T h v k):keyV F h v=k:=by
 unfold keyV;have e:∃ k,T h v k:=⟨k,x⟩
 rw [dif_pos e,F.fn e.choose_spec x]
theorem keys_map {h:Heap}:∀ {ks:List (List Int)} {vs:List Mk},Ny T h ks vs->ks=vs.map (keyV F h)/\∀ v∈vs,∃ k∈ks,T h v k
 | [],_,p=>by cases p;exact ⟨rfl,fun _ h=>nomatch h⟩
 | k::ks,_,p=>by
  cases p with
  | cons r p=>
   obtain ⟨e,g⟩:=keys_map p;refine ⟨by rw [DY,gH F r,<-e],fun v hv=>?_⟩;rcases Ge.mp hv with rfl | hv
   ·exact ⟨k,KD,r⟩
   ·obtain ⟨l,hl,x⟩:=g v hv;exact ⟨l,Jo _ hl,x⟩
theorem sY {h:Heap}:∀ {vs:List Mk},(∀ v∈vs,∃ k,T h v k)->Ny T h (vs.map (keyV F h)) vs
 | [],_=>.nil
 | v::vs,g=>by
  obtain ⟨k,x⟩:=g v KD;exact .cons (by rw [gH F x];exact x)<|sY fun u hu=>g u<|Jo _ hu
noncomputable def RP (F:S6 T)(h:Heap)(ks:List (List Int))(v:Mk):Nat:=Hz ks (keyV F h v)
theorem ahc {h:Heap}{vs:List Mk}(p:Ny T h ks vs)(hp:b.Perm (Q5 vs))(hr:bH (RP F h ks) b 0 vs.length):
  ∃ ks',Ny T h ks' (b.map (·.2)).toList/\ks'.Perm ks/\ks'.Pairwise (· < ·)/\(b.map (·.2)).toList.Perm vs:=by
 obtain ⟨ek,g⟩:=keys_map F p;have hl:=Array.perm_iff_toList_perm.mp hp;have ep:(Q5 vs).toList=vs.map fun v=>(v,v):=by
  have z:∀ l:List Mk,l.zip l=l.map fun v=>(v,v):=fun l=>by
   induction l with
   | nil=>rfl
   | cons a l ih=>rw [U7,ih];rfl
  unfold Q5;rw [Array.toList_zip];exact z vs
 rw [ep] at hl;have same:∀ x∈b.toList,x.1=x.2/\x.2∈vs:=fun x hx=>by
  obtain ⟨v,hv,rfl⟩:=Hj.mp (hl.mem_iff.mp hx);exact ⟨rfl,hv⟩
 have po:(b.toList.map (·.2)).Perm vs:=by
  have:=hl.map (·.2)
  rw [KC] at this
  simpa [Function.comp_def] using this
 rw [Array.toList_map];refine ⟨(b.toList.map (·.2)).map (keyV F h),sY F fun v hv=>?_,?_,?_,po⟩
 ·obtain ⟨k,_,x⟩:=g v (po.mem_iff.mp hv);exact ⟨k,x⟩
 ·rw [ek];exact po.map _
 ·rw [KC,T6,Wd];intro i j hi hj hij;have hb:b.toList.length=vs.length:=by have:=po.length_eq;simpa using this
  have:=hr i j (Ko _) hij (by rw [<-hb];exact hj)
  rw [gq (by simpa using hi),gq (by simpa using hj)] at this;have e1:=same b[i] (by simp);have e2:=same b[j] (by simp);rw [e1.1,e2.1] at this;exact (m9 (by rw [ek];exact Hj.mpr ⟨_,e1.2,rfl⟩)).mp this
theorem agx {h:Heap}{KS:List (List Int)}{vs:List Mk}(p:Ny T h ks vs):((Q5 vs).toList.map fun x=>RP F h KS x.1)=ks.map (Hz KS):=by
 have ep:(Q5 vs).toList.map (·.1)=vs:=by
  unfold Q5;rw [Array.toList_zip,List.map_fst_zip (Dg _)]
 rw [(keys_map F p).1,KC];conv=>rhs;rw [<-ep]
 rw [KC];rfl
end
theorem aej (nd:ks.Nodup):(ks.map (Hz ks)).Nodup:=by
 unfold List.Nodup;rw [T6];refine List.Pairwise.imp_of_mem (fun {k l} hk hl ne e=>ne ?_) nd;have n1:¬ k<l:=fun c=>by have:=(m9 hk).mpr c;lia
 have n2:¬ l<k:=fun c=>by have:=(m9 hl).mpr c;lia
 exact List.le_antisymm (List.not_lt.mp n2)<|List.not_lt.mp n1
abbrev SN (h:Heap)(a:Addr)(vs:List Mk):Heap:=((h.update a (SX fun _=>#[])).push (Mz "tuple" vs.toArray 0)).push (Mz "list" #[] 0)
structure SkT (P:Ei) (w:Dq) (A:FZ) {T:Heap->Mk->List Int->Prop} (F:S6 T) (kd:Sg) (ks:List (List Int)) (vs:List Mk):Prop where
 kind:∀ {E:Mk->AP->Prop} {s:AP} {Q:Sg->AP->Prop},2<=vs.length->Ny T s.heap ks vs->Q kd s->Cu (Cp P w) A (keyKind' vs.toArray) Q E s
 cmp:∀ {s:AP},Ny T s.heap ks vs->MK P w A s kd (RP F s.heap ks) (·∈vs)
theorem zbi {T:Heap->Mk->List Int->Prop}{F:S6 T}{a:Addr}{vs:List Mk}{n:Nat}{R:Fin->AP->Prop}(S:SkT P w A F kd ks vs)(ho:s.heap.get? a=FN (Mz "list" vs.toArray n))(p:Ny T s.heap ks vs)(nd:ks.Nodup)(hz:vs.length<=FP)
  (q:∀ (out:Array Mk) (ks':List (List Int)),Ny T s.heap ks' out.toList->ks'.Perm ks->ks'.Pairwise (· < ·)->out.toList.Perm vs->R (.done (.ret .none)) { s with heap:=sortedHeap s.heap a vs out }) :
  Cu (Cp P w) A (RG.«list.sort» ⟨[.ref a],[]⟩) R E s:=by
 have la:a<s.heap.objs.size:=G9 ho;rw [list_sort_plain];refine CN<|listItems_at ho rfl<|CN<|listUpdate_at ho rfl ?_ (by simpa using hz)<|Ko _
 obtain ⟨e1,h1⟩:∃ e1,(s.heap.update a (SX fun _=>#[])).get? a=FN (Mz "list" #[] e1):=⟨_,get?_update_seq ho (fun _=>#[])⟩
 refine CN<|seqEpoch_at h1 rfl<|CN<|wpAny_newTuple<|CN<|wpAny_newList<|NK ?_
 have h6:(SN s.heap a vs).get? a=FN (Mz "list" #[] e1):=GD _ (GD _ h1);have keep:∀ b o,o.cls=.type "tuple"->s.heap.get? b=FN o->(SN s.heap a vs).get? b=FN o:=fun b o hc hb=>by
  have ne:b≠a:=fun e=>by rw [e,ho] at hb;cases hb;simp at hc
  exact GD _<|GD _<|(Sy _ _<|Ji ne).trans hb
 have p6:Ny T (SN s.heap a vs) ks vs:=gM p fun k v _ x=>F.of x keep
 show Cu (Cp P w) A _ R E { s with heap:=SN s.heap a vs };dsimp only;have size:vs.toArray.size=vs.length:=by simp
 have fin:∀ b:Array DW,b.Perm (Q5 vs)->bH (RP F (SN s.heap a vs) ks) b 0 vs.length->R (.done (.ret .none)) { s with heap:=sortedHeap s.heap a vs (b.map (·.2)) }:=fun b hp hr=>by
  obtain ⟨ks',g1,g2,g3,g4⟩:=ahc F p6 hp hr;refine q _ ks' (gM g1 fun k v hv x=>?_) g2 g3 g4;obtain ⟨l,_,y⟩:=(keys_map F p).2 v (g4.mem_iff.mp hv);exact F.fn (F.of y keep) x ▸ y
 by_cases h2:vs.toArray.size<2
 ·rw [if_pos h2,if_pos h2];refine CN<|Cz ?_
  rw [StateT.run_pure];refine CN<|Cz ?_
  dsimp only;refine CN<|seqEpoch_at h6 rfl<|CN<|listUpdate_at h6 rfl ?_ (hsz2:=?_)
  ·simp only [bne_self_eq_false,R8,if_false];refine Cz<|fin (vs.toArray.zip vs.toArray) (Array.Perm.refl _) fun u v _ h3 h4=>?_
   lia
  ·rw [Array.size_map];show (Q5 vs).size<=_;rw [pairsOf_size];lia
 ·rw [if_neg h2,if_neg h2];refine CN<|S.kind (by lia) p6<|CN ?_
  have ep:(Q5 vs).toList.map (·.1)=vs:=by
   unfold Q5;rw [Array.toList_zip,List.map_fst_zip (Dg _)]
  have ok:Mp kd (RP F (SN s.heap a vs) ks) (·∈vs) (SortSt.mk' kd (Q5 vs) #[] 7 FX):=⟨rfl,rfl,⟨fun x hx=>by show x.1∈vs;rw [<-ep];exact Hj.mpr ⟨x,hx,rfl⟩,by
   rw [agx F p6];exact aej nd⟩⟩
  have zp:(Q5 vs).size=vs.length:=pairsOf_size _;refine M6 (ahF (s:={ s with heap:=SN s.heap a vs }) (Q:=fun _ st'=>(DP st').Perm (Q5 vs)/\failedOf st'=FX/\bH (RP F (SN s.heap a vs) ks) (DP st') 0 vs.length) (S.cmp p6) ok rfl (by show 2<=(Q5 vs).size;lia) fun st' g1 g2 g3=>⟨g1,g2,by rw [<-zp];exact g3⟩) (fun r s' hr=>?_) fun _ _ e=>e
  ·obtain ⟨r1,st'⟩:=r;obtain ⟨rfl,g1,g2,g3⟩:=hr;dsimp only;refine CN<|seqEpoch_at h6 rfl<|CN<|listUpdate_at h6 rfl ?_ (hsz2:=?_)
   ·rw [g2];simp only [bne_self_eq_false,R8,if_false];exact Cz<|fin _ g1 g3
   ·rw [Array.size_map,g1.size_eq,zp];lia
theorem nT {T:Heap->Mk->List Int->Prop}{F:S6 T}{v:Mk}{vs:List Mk}{Q:Mk->AP->Prop}(S:SkT P w A.in1.in1 F kd ks vs)
  (col:∀ {E:Mk->AP->Prop} {Q:List Mk->AP->Prop},(∀ h' tk,(∀ b o,s.heap.get? b=FN o->h'.get? b=FN o)->s.heap.objs.size<h'.objs.size->Q vs { s with heap:=h',toks:=tk })->Cu (Cp P w) A.in1 (collect v) Q E s)
  (p:Ny T s.heap ks vs) (nd:ks.Nodup) (hz:vs.length<=FP)
  (q:∀ (h':Heap) (tk:Nat) (l:Addr) (out:Array Mk) (ks':List (List Int)) (c:Nat),(∀ b o,s.heap.get? b=FN o->h'.get? b=FN o)->s.heap.objs.size<=l->h'.get? l=FN (Mz "list" out c)->Ny T s.heap ks' out.toList->ks'.Perm ks->ks'.Pairwise (· < ·)->out.toList.Perm vs->Q (.ref l) { s with heap:=h',toks:=tk }) :
  Cu (Cp P w) A (call (.builtin "sorted") [v]) Q E s:=by
 refine Calls.call_function_entry kind_sorted plain_sorted entry_sorted (args_sorted1 _) ?_;unfold RG.«sorted»;refine CN (m:=checkCount "sorted" 1 1 _)<|Cz ?_
 refine CN<|col fun h1 tk k1 lt1=>CN<|wpAny_newList ?_
 have ho:(h1.push (Mz "list" vs.toArray 0)).get? h1.objs.size=FN (Mz "list" vs.toArray 0):=K4 _ rfl;have k2:∀ b o,s.heap.get? b=FN o->(h1.push (Mz "list" vs.toArray 0)).get? b=FN o:=fun b o hb=>GD _ (k1 b o hb)
 have p2:Ny T (h1.push (Mz "list" vs.toArray 0)) ks vs:=gM p fun k v _ y=>F.of y fun b o _ hb=>k2 b o hb
 show Cu _ _ _ _ _ { s with heap:=h1.push (Mz "list" vs.toArray 0),toks:=tk };refine CN<|NK<|R7 slot_list_sort ⟨_,ho,rfl⟩ entry_list_sort (zbi (s:={ s with heap:=h1.push (Mz "list" vs.toArray 0),toks:=tk }) S ho p2 nd hz fun out ks' g1 g2 g3 g4=>⟨_,rfl,Cz ⟨_,rfl,?_⟩⟩)<|args_list_sort _
 obtain ⟨c,e⟩:=sortedHeap_at (a:=h1.objs.size) (vs:=vs) (out:=out) ho;refine q _ tk _ out ks' c (fun b o hb=>?_) (Lx lt1) e ?_ g2 g3 g4
 ·have lt:=G9 (k1 b o hb);rw [sortedHeap_old (Gq lt) (HB lt (by rw [size_push'];exact QX _))];exact k2 b o hb
 ·refine gM g1 fun k v hv y=>?_;obtain ⟨l,_,z⟩:=(keys_map F p).2 v (g4.mem_iff.mp hv);exact F.fn (F.of z fun b o _ hb=>k2 b o hb) y ▸ z
theorem qu:S6 o9:=⟨o9.fn,fun x k=>x.of fun b o _ hc hb=>k b o hc hb⟩
theorem afK {vs:List Mk}(hn:2<=ks.length->∀ k∈ks,k≠[]):SkT P w A qu (tuples' true) ks vs:=by
 refine ⟨fun h2 p q=>zbn p (hn (by rw [p.length];exact h2)) (Lx h2) q,fun p E Q x y mx my q=>?_⟩;obtain ⟨k,hk,hx⟩:=(keys_map qu p).2 x mx;obtain ⟨l,_,hy⟩:=(keys_map qu p).2 y my;refine XS hx hy ?_;unfold RP at q;rw [gH qu hx,gH qu hy] at q;rw [<-decide_eq_decide.mpr (m9 (ks:=ks) (l:=l) hk)];exact q
theorem zai {es:Array QW}{Q:Mk->AP->Prop}(hh:A.handled=FX)(nd0:(d==M5)=false)(x:Dc s.heap d es ep)(hz:es.size<=FP)
  (p:LQ (fun k v=>o9 s.heap v k) ks (es.toList.map (·.key))) (hne:2<=ks.length->∀ k∈ks,k≠[]) (nd:ks.Nodup)
  (q:∀ (h':Heap) (tk:Nat) (l:Addr) (out:Array Mk) (ks':List (List Int)) (c:Nat),(∀ b o,s.heap.get? b=FN o->h'.get? b=FN o)->s.heap.objs.size<=l->h'.get? l=FN (Mz "list" out c)->LQ (fun k v=>o9 s.heap v k) ks' out.toList->ks'.Perm ks->ks'.Pairwise (· < ·)->out.toList.Perm (es.toList.map (·.key))->Q (.ref l) { s with heap:=h',toks:=tk }) :
  Cu (Cp P w) A (call (.builtin "sorted") [.ref d]) Q E s:=nT (afK hne) (pX (A:=A.in1) hh nd0 x hz) p nd (by simpa using hz) q
end
theorem uI {α β : Type}{f:α->β}{l l':List β}(h:l'.Perm l):∀ {xs:List α},l=xs.map f->∃ ys:List α,ys.Perm xs/\l'=ys.map f:=by
 induction h with
 | nil=>
  intro xs e;cases xs with
  | nil=>exact ⟨[],.refl _,rfl⟩
  | cons x xs=>simp at e
 | cons a h ih=>
  intro xs e;cases xs with
  | nil=>simp at e
  | cons x xs=>
   rw [DY] at e;obtain ⟨e1,e2⟩:=Q7 e;obtain ⟨ys,p,e3⟩:=ih e2;exact ⟨x::ys,p.cons x,by rw [DY,<-e1,<-e3]⟩
 | swap a b l=>
  intro xs e;match xs with
  | []=>simp at e
  | [x]=>simp at e
  | x::y::xs=>
   rw [DY,DY] at e;obtain ⟨e1,e2⟩:=Q7 e;obtain ⟨e2,e3⟩:=Q7 e2;exact ⟨y::x::xs,.swap x y xs,by rw [DY,DY,<-e1,<-e2,<-e3]⟩
 | trans h1 h2 i1 i2=>
  intro xs e;obtain ⟨ys,p,e1⟩:=i2 e;obtain ⟨zs,p2,e2⟩:=i1 e1;exact ⟨zs,p2.trans p,e2⟩
section
variable {X:Cx}{K:CT}
theorem Gk {ajd:List (Addr×Obj)}{Z : St}{H:Hp}{s:AP}{b:Addr}(I:CQ X ajd Z H s)(h:HJ X.K H b (k.map V.int)):o9 s.heap (.ref b) k:=by
 obtain ⟨its,r,⟨o,ho,hc,n,hd⟩,_⟩:=I.tuple h;exact ⟨b,o,its.toArray,n,rfl,ho,hc,hd,by simpa using r⟩
def CW (ks:List (List Int)):Prop:=2<=ks.length->∀ k∈ks,k≠[]
theorem zal (hc:X.calm=true):fX X (.builtin "sorted") (fun vs H Q=>∃ a xs,vs=[.ref a]/\H a=FN (.ext (Ep a xs))/\Fj X.K H xs/\CW (xs.map (·.1)) /\
  ∀ ys:List (List Int×Addr×Mk),ys.Perm xs->(ys.map (·.1)).Pairwise (· < ·)->∀ l,H l=FX->Q (.ref l) (FQ H l (.lst (ys.map fun y=>V.ref y.2.1)))):=by
 intro ajd s Z H vs us Q I r ⟨a,xs,ev,hx,hk,c1,q⟩;subst ev;obtain ⟨u,rfl,ru⟩:=vals1 r;cases ru;obtain ⟨⟨z,y,nd,o,es,ep,g1,g2,g3,g4⟩,_⟩:=I.hok a _ hx;have ek:es.toList.map (·.key)=xs.map fun x=>Value.ref x.2.1:=by
  rw [g4,KC];rfl
 have p:∀ zs:List (List Int×Addr×Mk),(∀ x∈zs,x∈xs)->LQ (fun k v=>o9 s.heap v k) (zs.map (·.1)) (zs.map fun x=>Value.ref x.2.1):=fun zs hz=>by
  induction zs with
  | nil=>exact .nil
  | cons x zs ih=>exact .cons (Gk I (hk x (hz x KD))) (ih fun y hy=>hz y (Jo _ hy))
 have le:es.size=xs.length:=by rw [<-Ua,g4,DX]
 refine zai (I.ok.hd hc) y ⟨o,g1,g2,g3⟩ (by rw [le];exact z) (ks:=xs.map (·.1)) (by rw [ek];exact p xs fun _ h=>h) (show 2<=(xs.map (·.1)).length->∀ k∈xs.map (·.1),k≠[] from c1) nd fun h' tk l out ks' c keep hl e pr pm pw po=>?_;rw [ek] at po;obtain ⟨ys,py,eo⟩:=uI po rfl;have hy:=p ys fun x hx=>py.mem_iff.mp hx
 have eks:ks'=ys.map (·.1):=by
  rw [eo] at pr;exact (keys_map qu pr).1.trans (keys_map qu hy).1.symm
 rw [eks] at pw;refine ⟨.ref l,_,I.laid (t':=tk) keep hl<|show eE X.prog X.w _ h' _ (.lst<|ys.map fun y=>V.ref y.2.1) from ⟨by rw [DX,py.length_eq];exact z,out.toList,c,?_,by simpa using e⟩,rfl,q ys py pw l<|I.hok.fresh hl⟩;rw [eo];clear eo pr eks pw hy py po;induction ys with
 | nil=>exact .nil
 | cons y ys ih=>exact .cons rfl ih
def Hy:MC:=fun ws h Q=>match ws with
 | [.loc n]=>(match h.c n with
  | some (.dtt kvs)=>CW (kvs.map (·.1))/\∀ ks:List (List Int),ks.Perm (kvs.map (·.1))->ks.Pairwise (· < ·)->Q (.lst (ks.map fun k=>.tup (k.map .int))) h
  | _=>False)
 | _=>False
theorem afO (hc:X.calm=true):fG X (.builtin "sorted") Hy:=⟨_,zal hc,by
 intro H μ h vs ws Qw Q R r m k;unfold Hy at m;split at m
 ·rename_i n;split at m
  ·rename_i kvs ec;obtain ⟨p,xs,vs',hp,hx,e1,e2,r3,r4⟩:=R.dttAt ec;obtain ⟨v,rfl,r1⟩:=jk r;rw [CK] at r1;obtain ⟨p',rfl,hp'⟩:=r1;have ep:p'=p:=by rw [hp] at hp';exact (Gz hp').symm
   subst ep;obtain ⟨m1,m2⟩:=m;rw [e1] at m1 m2;refine ⟨p',xs,rfl,hx,jE e1 r3,m1,fun ys py pw l hl=>?_⟩;refine k _ _ ⟨μ,_,h,(Ex.laid hl).ext,R.laid hl,?_,m2 (ys.map (·.1)) (py.map _) pw⟩;refine .lstNew R hl ?_;have kk:=jE e1 r3;have go:∀ zs:List (List Int×Addr×Mk),(∀ z∈zs,z∈xs)->aM X.K H μ ((zs.map (·.1)).map fun k=>W.tup (k.map .int)) (zs.map fun y=>V.ref y.2.1):=fun zs hz=>by
    induction zs with
    | nil=>exact .nil
    | cons z zs ih=>
     refine aM.cons ?_<|ih fun y hy=>hz y<|Jo _ hy
     rw [CK];exact ⟨z.2.1,z.1.map V.int,rfl,kk z<|hz z KD,jx _⟩
   exact go ys fun z hz=>py.mem_iff.mp hz
  ·exact m.elim
 ·exact m.elim⟩
end
section
variable {X:Cx}{o:Expr}{mo:ME}{ma:MA}{apos ajf:Pos}
def JF:MM:=fun x ws h Q=>match x,ws with
 | .loc n,[y,z]=>(match h.c n,Ka y with
  | some (.dtt kvs),FN k=>Q ((yQ kvs k).getD z) h
  | _,_=>False)
 | _,_=>False
def Hq (h:Gh)(x:W)(P:Prop):Prop:=match x with
 | .loc n=>(match h.c n with
  | some (.dtt _)=>P
  | _=>False)
 | _=>False
def aaj (r:MM)(mo:ME)(ma:MA):ME:=fun Z h Q=>mo Z h fun x h1=>Hq h1 x (ma Z h1 fun xs h2=>r x xs h2 Q)
theorem Xr (hu:X.A.units+30<JQ)(ho:DE X o mo)(ha:Kq X [e1,e2] ma)
  (hbase:VN o "get" X.env (eval o X.env)=eval o X.env:=by rfl)
  (hfew:((K5 ajf (Fo [e1,e2] X.env)).all (fun x=>!x.1)&&(backToKw ajf (TY [] X.env)).all (fun x=>x.1.isSome)
   && decide (([e1,e2]:List Expr).length+([]:List Mv).length+(if ([]:List Mv).isEmpty then 0 else 1)<30))=true:=by rfl)
  (hline:(apos.endLine==ajf.line)=true:=by rfl) (hst:Fo [e1,e2] X.env=(false,eval e1 X.env)::Fo [e2] X.env:=by rfl) (hplain:(K5 ajf (Fo [e2] X.env)).any (·.1)=false:=by rfl) :
  DE X (.Call (.Attribute o "get" apos) [e1,e2] [] ajf) (aaj JF mo ma):=by
 intro ajd s Z H Q I ⟨μ,h,Zw,Qw,R,S,m,k⟩;refine wpAny_Call_method_late hbase hfew hline rfl<|Fz (ho ajd s Z H _ I ⟨μ,h,Zw,_,R,S,m,fun _ _ z=>z⟩) fun u s1 ⟨x,H1,I1,rx,μ1,wx,h1,e1',R1,r1,il⟩=>?_
 unfold Hq at il;split at il
 ·rename_i n;split at il
  ·rename_i kv0 ec0;have r0:=r1;rw [CK] at r1;obtain ⟨a,rfl,ha'⟩:=r1;obtain rfl:u=Value.ref a:=rx;obtain ⟨p,xs,vs,hp,hx,_⟩:=R1.dttAt ec0;have ep:p=a:=by rw [ha'] at hp;exact (Gz hp).symm
   subst ep;obtain ⟨⟨z,y,nd,ob,es,epo,g1,g2,g3,g4⟩,_⟩:=I1.hok p _ hx;refine ⟨"dict", "dict.get",PySem.F.plainAttrs_dict,Ws,PySem.F.type_dict_get,⟨ob,g1,g2.1⟩,fun b e=>by cases e;exact ⟨ob,g1,g2.2.1⟩,?_⟩;have hA:=ha ajf ajd s1 Z H1 _ I1 ⟨μ1,h1,Zw,_,R1,S.ext e1',il,fun _ _ z=>z⟩;rw [hst] at hA |-
   refine Calls.callWith_builtin (by show (false||(K5 ajf<|Fo [e2] X.env).any (·.1))=false;rw [hplain] <;> rfl)<|Calls.evalArgs_plain ?_
   refine Fz hA fun us s2 ⟨ys,H2,I2,r2,μ2,ws,h2,e2',R2,rs,m2⟩=>?_;unfold JF at m2;split at m2
   ·rename_i n' y' z' e3;cases e3;split at m2
    ·rename_i kvs kk ec ek;obtain ⟨v1,v2,rfl,ry,rz⟩:=Ea rs;obtain ⟨b,rfl,hb⟩:=jM ry ek;obtain ⟨u1,u2,rfl,ru1,ru2⟩:=vals2 r2;cases ru1;obtain ⟨p2,xs2,vs2,hp2,hx2,q1,q2,q3,q4⟩:=R2.dttAt ec;have r0':=e2'.r _ _ r0;rw [CK] at r0';obtain ⟨a2,ea,ha2⟩:=r0';cases ea;have ep2:p2=p:=by rw [ha2] at hp2;exact (Gz hp2).symm
     subst ep2;obtain ⟨_,hd2,dd⟩:=zL I2 hx2 (jE q1 q3);obtain ⟨t1,t2⟩:=tM q1 q2 q4 kk;refine call_meetsIn Ws dd.typeIs PySem.F.entry_dict_get (PySem.F.args_dict_get_3 _ _ _) (meetsH_dict_get_default (tupleKind<|RV X.prog X.w) p2 b hd2 u2) ⟨tupleKind_room_in1<|by lia,kk,xs2,wX I2 hb,dd,?_⟩;cases ev:yQ kvs kk with
     | some wv=>
      rw [ev] at m2;obtain ⟨pp,v,a1,a2,a3⟩:=t1 wv ev;rw [a1];exact ⟨v,H2,I2.tok _,a2,k _ _ ⟨μ2,wv,h2,e1'.trans e2',R2,a3,m2⟩⟩
     | none=>
      rw [ev] at m2 t2;have a1:atKey xs2 kk=FX:=by
       cases e:atKey xs2 kk with
       | none=>rfl
       | some _=>rw [e] at t2;cases t2
      rw [a1];exact ⟨v2,H2,I2.tok _,ru2,k _ _ ⟨μ2,z',h2,e1'.trans e2',R2,rz,m2⟩⟩
    ·exact m2.elim
   ·exact m2.elim
  ·exact il.elim
 ·exact il.elim
end
section
variable {X:Cx}{K:CT}
theorem zaN (hc:X.calm=true):fX X (.builtin "min") (fun xs H Q=>∃ (p:Addr) (ns:List Int),xs=[.ref p]/\Jy X.K H p (ns.map V.int)/\0<ns.length/\∀ M,M∈ns->(∀ a,a∈ns->M<=a)->Q (.int M) H):=by
 intro ajd s Z H xs us Q I r ⟨p,ns,e,hS,hne,q⟩;subst e;obtain ⟨u,rfl,ru⟩:=vals1 r;cases ru;obtain ⟨its,rv,pl,hz⟩:=I.list hS;have aje:its.length=ns.length:=by rw [<-rv.length,DX]
 have all:AllInts its.toArray:=fun v hv=>by
  obtain ⟨i,hi,e⟩:=Array.mem_iff_getElem.mp hv;obtain ⟨t,e2⟩:=xY (i:=i) (v:=v) rv (by rw [<-e];simp at hi |-);exact ⟨_,t,e2⟩
 obtain ⟨ys,ey⟩:=all.items;have hl:=pl.isList;rw [ey] at hl;have hys:ys.size=ns.length:=by
  have:=congrArg Array.size ey
  simp [intItems] at this;lia
 have num:∀ i,i<ns.length->numAt ys i=ns.getD i 0:=fun i hi=>by
  obtain ⟨t,e2⟩:=xY (i:=i) (v:=its[i]'(by lia)) rv (HD (by lia));have e3:(intItems ys)[i]?=FN (its[i]'(by lia)):=by rw [<-ey];simp
  obtain ⟨t',e4⟩:=intItems_at e3;rw [e2] at e4;injection e4 with e5 _
  exact e5.symm
 refine min_intList (I.ok.hd hc) hl (by lia) fun v h' tk hv hk=>?_;obtain ⟨t,rfl⟩:=intItems_at hv;obtain ⟨h1,h2⟩:=argBest_lt (numAt ys) (ys.size - 1);refine ⟨.int _,H,I.kept (h':=h') (t':=tk) hk,⟨t,rfl⟩,q _ ?_ fun a ha=>?_⟩
 ·rw [num _ (by lia),MF,HD (by lia)];exact Qm _
 ·obtain ⟨j,hj,e⟩:=Wi.mp ha;have:=h2 j (by lia)
  rw [num j hj,MF,HD hj] at this;rw [<-e];exact this
def Qg:MC:=fun ws h Q=>match ws with
 | [w]=>(match dM h w with
  | some us=>∃ ns:List Int,us=ns.map W.int/\0<ns.length/\∀ M,M∈ns->(∀ a,a∈ns->M<=a)->Q (.int M) h
  | none=>False)
 | _=>False
theorem afD (hc:X.calm=true):fG X (.builtin "min") Qg:=⟨_,zaN hc,by
 intro H μ h vs ws Qw Q R r m k;unfold Qg at m;split at m
 ·split at m
  ·rename_i w us ev;obtain ⟨v,e,rv⟩:=jk r;obtain ⟨p,ys,ex,hs,rs⟩:=cR R rv ev;obtain ⟨ns,eu,hne,m⟩:=m;subst e ex;rw [eu] at rs;have:=sH rs
   subst this;exact ⟨p,ns,rfl,hs,hne,fun M hM ha=>k _ _<|.int R<|m M hM ha⟩
  ·exact m.elim
 ·exact m.elim⟩
variable {o e:Expr}{mo:ME}{ma:MA}{apos ajf:Pos}
end
section
variable {prog:Ei}{w:Dq}{A:FZ}{E:Mk->AP->Prop}{L I:Addr}{ns:List Int}{its:List Mk}
def Gr (ns:List Int)(j:Nat)(b:Int):Prop:=b∈ns/\∀ k,k<j->ns.getD k 0<=b
end
section
variable {X:Cx}
end
section
open AutoSeq1 (wpAny_loadPart')
end
section
variable {prog:Ei}{w:Dq}{A:FZ}{E:Mk->AP->Prop}{s:AP}
end
section
variable {X:Cx}{K:CT}
end
section
variable {prog:Ei}{w:Dq}{A:FZ}{L I:Addr}{its:List Mk}
end
section
variable {X:Cx}{K:CT}
def aaE (h:Gh)(x y:W):Option Src:=match rA x,y with
 | some as,.loc n=>(match h.c n with
  | some (.lst bs)=>FN ⟨pJ as bs,FN (n,bs)⟩
  | _=>FX)
 | _,_=>FX
end
theorem lex_lt:∀ k l:List Int,HT.lexLt k l=decide (k<l)
 | [],[]=>by simp [HT.lexLt]
 | [],b::l=>by simp [HT.lexLt]
 | a::k,[]=>by simp [HT.lexLt]
 | a::k,b::l=>by
  unfold HT.lexLt;by_cases e:a=b
  ·subst e;rw [if_pos (by first | rfl | simp),lex_lt k l];exact decide_eq_decide.mpr (by rw [RJ];simp [Int.lt_irrefl])
  ·rw [if_neg (by simpa using e)];exact decide_eq_decide.mpr (by rw [RJ];simp [e])
section
variable {X:Cx}
def V1:M2:=fun x y h Q=>match Ka x,Ka y with
 | some k,FN l=>Q (.bl (decide (k<l))) h
 | _,_=>False
theorem abm (hu:X.A.units+30<JQ):Lf X (Ku .Lt) V1:=⟨_,ahr (by lia),by
 intro H μ h x y wx wy Qw Q R rx ry m k;unfold V1 at m;split at m
 ·rename_i kk ll e1 e2;obtain ⟨a,ea,ha⟩:=jM rx e1;obtain ⟨b,eb,hb⟩:=jM ry e2;rw [<-lex_lt] at m;exact ⟨a,b,kk,ll,ea,eb,ha,hb,k _ _<|.bl R m⟩
 ·exact m.elim⟩
end
section
variable {prog:Ei}{w:Dq}{A:FZ}{E:Mk->AP->Prop}{s:AP}
theorem qP:typeLookup (.type "tuple") "keys" = pure FX:=by rw [typeLookup_type,builtinLookup_eq_fast];kernel_rfl
theorem adO {a:Addr}{o:Obj}{xs:Array Mk}{k:Nat}{Q:Option Mk->AP->Prop}(hx:s.heap.get? a=FN o)(hc:o.cls=.type "tuple")(hdat:o.data=.seq xs k)(hd:o.dict=FX)(hA:A.handled=FX)
  (h:∀ h' tk,(∀ b ob,s.heap.get? b=FN ob->h'.get? b=FN ob)->Q FX { s with heap:=h',toks:=tk }):Cu (Cp prog w) A (getAttr? (.ref a) "keys") Q E s:=by
 obtain ⟨c,dct,dat,sl⟩:=o;simp only at hc hdat hd;subst hc hdat hd;obtain ⟨hp,g,d,tk,os⟩:=s;have hT:∀ tk',(⟨hp,g,d,tk',os⟩:AP).TypeIs (.ref a) "tuple":=fun _=>⟨_,hx,rfl⟩
 have f1:=sub_AttributeError;have f3:=F.slot_tuple_getattribute.lookup;have f4:=F.slot_tuple_getattribute.bind (.ref a);have f5:=am_tuple_getattr_none;unfold getAttr? getAttrBy? getAttrBy;repeat (any_goals (first | assumption | exact hT _ | ((with_reducible show Cu _ _ (call (Value.builtin "tuple.__getattribute__") _ _) _ _ _);refine call_meets F.slot_tuple_getattribute (hT _) am_entry_tuple_getattribute (F.args_tuple_getattribute_2 _ _) (meets_getattribute_miss_tuple a xs k sl "keys" _ qP (by decide) (by size_fits)) ⟨hx,hA,fun h' tk' e hx'=>?_⟩) | wp_step))
 obtain ⟨t',u',he⟩:=hx'.there;show Cu _ _ (getattributeRaised _ _ _ _ _ _ _) _ _ _;unfold getattributeRaised;repeat (any_goals (first | assumption | wp_step))
 exact h _ _ hx'.keeps
theorem vH:entryFor table "dict.update.loop" = FN RG.«dict.update.loop»:=entryFor_of_tree (by kernel_rfl)
theorem mD:plainId "dict.update.loop" = true:=by decide +kernel
abbrev Nq (prog:Ei)(w:Dq):=tupleKind (RV prog w)
theorem Fd {h h':Heap}{a:Addr}(x:(Nq prog w).is h k a)(m:∀ b o,h.get? b=FN o->h'.get? b=FN o):(Nq prog w).is h' k a:=by
 obtain ⟨o,its,n,ho,r⟩:=x;exact ⟨o,its,n,m _ _ ho,r⟩
theorem sX {h0 h h':Heap}{xs:List (List Int×Addr×Mk)}(x:Ui (Nq prog w) h d xs)(hd:∀ o,h.get? d=FN o->h'.get? d=FN o)(hk:∀ y∈xs,(Nq prog w).is h' y.1 y.2.1):Ui (Nq prog w) h' d xs:=by
 obtain ⟨o,es,ep,e1,e2,e3,e4,_,e6⟩:=x;exact ⟨o,es,ep,hd o e1,e2,e3,e4,hk,e6⟩
theorem adK {I:Addr}{items:Array Mk}{fp:List Addr}{St:Nat->Heap->Prop}(W:Walks prog w A.in1 I fp [I] items.size (fun i v=>items[i]?=FN v) St)(hdf:d∉fp)(hu:A.in1.units<JQ)(h0:Heap)(hd0:h0.get? d=FX)(hI0:h0.get? I=FX)
  {ps:List (List Int×Addr×Mk)} (hp:items.size=ps.length) (hk:∀ (j:Nat) (p:List Int×Addr×Mk),ps[j]?=FN p->∃ q,items[j]?=FN (.ref q)/\IsTup h0 q #[.ref p.2.1,p.2.2]/\(Nq prog w).is h0 p.1 p.2.1) (nd:(ps.map (·.1)).Nodup) (hz:ps.length<=FP) :
  ∀ (k j:Nat) (s:AP) (t:Tok),ps.length - j=k->j<=ps.length->St j s.heap->Ui (Nq prog w) s.heap d (ps.take j)->(∀ b o,h0.get? b=FN o->s.heap.get? b=FN o) ->
  (∀ h' tk,Ui (Nq prog w) h' d ps->(∀ b o,h0.get? b=FN o->h'.get? b=FN o)->R (.ok (.ret .none)) { s with heap:=h',toks:=tk }) ->
  QV (Cp prog w) A (.builtin "dict.update.loop" ⟨[.ref d,.ref I,.int (j:Int) t,.none],[]⟩) R s:=by
 have dI:d≠I:=fun e=>hdf (W.sub d (by rw [e];simp))
 have keys:∀ (j:Nat) (h':Heap),(∀ b o,h0.get? b=FN o->h'.get? b=FN o)->∀ y∈ps.take j,(Nq prog w).is h' y.1 y.2.1:=fun j h' m y hy=>by
  obtain ⟨i,hi,e⟩:=Wi.mp (Vb hy);obtain ⟨q,_,_,hq⟩:=hk i y (by rw [<-e];exact HD hi);exact Fd hq m
 intro k;induction k with
 | zero=>
  intro j s t hkj hj st hm h00 hR;have ej:j=ps.length:=by lia
  refine Tg vH ?_;rw [V0 mD _];show Cu _ A.in1 (Nh (.ref I) >>= _) _ _ s;refine CN<|W.done s _ _ (by rw [hp,<-ej];exact st) fun h' tk hk'=>?_
  have m:∀ b o,h0.get? b=FN o->h'.get? b=FN o:=fun b o e=>hk' b o (by intro z;rw [Kp.mp z,hI0] at e;cases e) (h00 b o e)
  have hm':Ui (Nq prog w) h' d ps:=by
   rw [ej,Kl] at hm;refine sX (h0:=h0) hm (fun o e=>hk' d o (by simpa using dI) e) fun y hy=>keys ps.length h' m y (by rw [Kl];exact hy)
  exact CN<|Cz<|Cz<|hR h' tk hm' m
 | succ k ih=>
  intro j s t hkj hj st hm h00 hR;have hlt:j<ps.length:=by lia
  have ep:ps[j]?=FN ps[j]:=HD hlt;generalize ps[j]=p at ep;obtain ⟨q,eq,hq,hkey⟩:=hk j p ep;refine Tg vH ?_;rw [V0 mD _];show Cu _ A.in1 (Nh (.ref I) >>= _) _ _ s;refine CN<|W.item j s _ _ (by rw [hp];exact hlt) st fun v h' tk hP st' hk'=>?_
  have ev:v=.ref q:=by rw [eq] at hP;exact (Gz hP).symm
  subst ev;have m:∀ b o,h0.get? b=FN o->h'.get? b=FN o:=fun b o e=>hk' b o (by intro z;rw [Kp.mp z,hI0] at e;cases e) (h00 b o e)
  have hm':Ui (Nq prog w) h' d (ps.take j):=sX (h0:=h0) hm (fun o e=>hk' d o (by simpa using dI) e) (keys j h' m);obtain ⟨oq,goq,cq,nq,dq⟩:=hq;have goq':=m _ _ goq;refine CN<|NK<|CN<|wpAny_tryCatch ?_
  unfold Builtin.Dict.pairItems;refine CN<|Qn (T := "tuple") ⟨oq,goq',cq⟩ ?_
  rw [if_pos (by decide)];refine CN<|Sq goq' dq<|Cz ?_
  show Cu _ _ (holding [_,_] (dictSet d _ _)) _ _ _;have hno:atKey (ps.take j) p.1=FX:=by
   unfold atKey;rw [Option.map_eq_none_iff,List.find?_eq_none];intro y hy;have hn:p.1∉(ps.take j).map (·.1):=by
    have e1:ps=ps.take j++p::ps.drop (j+1):=by
     conv=>lhs;rw [<-Wk j ps]
     congr 1
     rw [Ut hlt];congr 1
     rw [HD hlt] at ep;exact Gz ep
    rw [e1,Hl,List.nodup_append] at nd;intro z;exact nd.2.2 _ z p.1 (by simp) rfl
   intro z;exact hn<|Hj.mpr ⟨y,hy,by simpa using z⟩
  refine NK<|wpAny_dictSet_heap (hsz:=by rw [Qh];lia) hu (Fd hkey m) hm' fun h2 hd2 hs2=>?_
  rw [storedH_new hno] at hd2;have et:ps.take j++[(p.1,p.2.1,p.2.2)]=ps.take (j+1):=by rw [KN,ep];rfl
  rw [et] at hd2;have keep2:∀ b o,b≠d->h'.get? b=FN o->h2.get? b=FN o:=fun b o hb e=>hs2.extBut b o hb e
  refine Cz ⟨Uj mD _,?_⟩;have ej:((j:Int)+1)=((j+1:Nat):Int):=by lia
  show QV _ _ (.builtin "dict.update.loop" ⟨[.ref d,.ref I,.int ((j:Int)+1) 0,.none],[]⟩) _ _;rw [ej];refine ih (j+1) _ 0 (by lia) hlt (W.frame _ _ _ st' fun b hb o e=>keep2 b o (fun z=>hdf<|z ▸ hb) e) hd2 (fun b o e=>keep2 b o (fun z=>by rw [z,hd0] at e;cases e)<|m b o e) fun h3 tk3 d3 m3=>hR h3 tk3 d3 m3
theorem tR {T:Addr}{items:Array Mk}{Q:Mk->AP->Prop}(hh:A.handled=FX)(hu:A.units+30<JQ)
  (src:∃ o n,s.heap.get? T=FN o/\o.cls=.type "tuple"/\o.data=.seq items n/\o.dict=FX)
  {ps:List (List Int×Addr×Mk)} (hp:items.size=ps.length) (hk:∀ (j:Nat) (p:List Int×Addr×Mk),ps[j]?=FN p->∃ q,items[j]?=FN (.ref q)/\IsTup s.heap q #[.ref p.2.1,p.2.2]/\(Nq prog w).is s.heap p.1 p.2.1) (nd:(ps.map (·.1)).Nodup) (hz:ps.length<=FP)
  (h:∀ h' tk,Ui (Nq prog w) h' s.heap.objs.size ps->(∀ b o,s.heap.get? b=FN o->h'.get? b=FN o)->Q (.ref s.heap.objs.size) { s with heap:=h',toks:=tk }) :
  Cu (Cp prog w) A (call (.type "dict") [.ref T]) Q E s:=by
 have hhA:A.in1.in1.handled=FX:=hh;have hu2:A.in1.in1.units<JQ:=by
  have:A.in1.in1.units=A.units+1+1:=rfl
  lia
 have hT0:T<s.heap.objs.size:=by
  obtain ⟨o,_,e,_⟩:=src;exact G9 e
 refine callType_codes (Q₁:=fun obj s₁=>obj=.ref s.heap.objs.size/\s₁ = { s with heap:=s.heap.push { cls:=.type "dict",data:=.dict #[] } }) F.kt_called_dict (F.kt_typeCall_dict_1 _) F.entry_dict_init (kt_code_dict_new _ ⟨rfl,rfl⟩) ?_;rintro obj s₁ ⟨rfl,rfl⟩;have hTd:({ s with heap:=s.heap.push { cls:=.type "dict",data:=.dict #[] } }:AP).TypeIs (.ref s.heap.objs.size) "dict":=⟨_,K4 _ rfl,rfl⟩
 refine ⟨hTd,F.args_dict_init_2 _ _,?_⟩;unfold RG.«dict.__init__»;refine CN ?_;unfold Builtin.Dict.selfAndRest;refine CN<|wpAny_notOrdered_dict hTd ?_
 show Cu _ _ (pure (s.heap.objs.size,[Value.ref T])) _ _ _;refine Cz ?_;show Cu _ _ (Builtin.Dict.updateFrom "dict.__init__" s.heap.objs.size (.ref T) [] .none) _ _ _;unfold Builtin.Dict.updateFrom;have loop:∀ (h1:Heap) (tk1:Nat),(∀ b ob,(s.heap.push { cls:=.type "dict",data:=.dict #[] }).get? b=FN ob->h1.get? b=FN ob)->∀ (h2:Heap) (fp:List Addr) (St:Nat->Heap->Prop),h1.objs.size∉([s.heap.objs.size]:List Addr)->(∀ b ob,h1.get? b=FN ob->h2.get? b=FN ob)->s.heap.objs.size∉fp->Walks prog w A.in1.in1 h1.objs.size fp [h1.objs.size] items.size (fun i v=>items[i]?=FN v) St->St 0 h2 ->
   QV (Cp prog w) A.in1 (.builtin "dict.update.loop" ⟨[.ref s.heap.objs.size,.ref h1.objs.size,Q0 0,.none],[]⟩) (wants (fun r s₂=>r=.none/\Q (.ref s.heap.objs.size) s₂) E) { s with heap:=h2,toks:=tk1 }:=by
  intro h1 tk1 m1 h2 fp St hne m2 hfp W st;have hd1:=m1 _ _ (K4 s.heap (o:={ cls:=.type "dict",data:=.dict #[] }) rfl);refine adK (A:=A.in1) W hfp hu2 s.heap (X4<|Dg _) (X4<|Lx<|G9 hd1) hp hk nd hz ps.length 0 _ _ rfl (Ko _) st ?_ (fun b o e=>m2 b o<|m1 b o<|GD _ e) fun h' tk d m=>⟨rfl,h h' tk d m⟩;exact ⟨_,#[],0,m2 _ _ hd1,⟨rfl,rfl,rfl⟩,rfl,rfl,(fun x hx=>absurd hx M7),List.nodup_nil⟩
 obtain ⟨o,n,g1,g2,g3,g4⟩:=src;have g1':(s.heap.push { cls:=.type "dict",data:=.dict #[] }).get? T=FN o:=GD _ g1;refine CN<|Qn (T := "tuple") ⟨o,g1',g2⟩ ?_
 rw [if_pos (by decide)];refine CN<|adO g1' g2 g3 g4 hhA fun h1 tk1 m1=>?_
 rw [if_pos (show (FX:Option Mk).isNone=true from rfl)];refine CN<|Nj ?_
 have hT:h1.IsTuple T items:=⟨o,m1 _ _ g1',g2,n,g3⟩
 refine CN<|wpAny_pyIter_tuple hT ?_
 have hlt:T<h1.objs.size:=G9 (m1 _ _ g1');have hd1:=G9 (m1 _ _ (K4 s.heap (o:={ cls:=.type "dict",data:=.dict #[] }) rfl));refine Cz ⟨Uj mD _,?_⟩;exact loop h1 tk1 m1 _ _ _ (by simpa using Ml hd1) (fun b ob e=>GD _ e) (by simp only [Ge,M7,or_false,not_or];exact ⟨Gq hd1,Ml hT0⟩) (Walks.tuple hhA _ T (Gq hlt) items) ⟨⟨_,K4 _ rfl,rfl,rfl⟩,hT.push _⟩
end
section
variable {X:Cx}{K:CT}
abbrev Tt (K:CT)(H:Hp)(y:V)(p:List Int×Addr×V):Prop:=∃ q,y=V.ref q/\HJ K H q [.ref p.2.1,p.2.2]/\HJ K H p.2.1 (p.1.map V.int)
theorem wW {ajd:List (Addr×Obj)}{Z : St}{H:Hp}{s:AP}(I:CQ X ajd Z H s):∀ {ys:List V} {ps:List (List Int×Addr×V)} {its:List Mk},CR ys its->LQ (Tt X.K H) ys ps ->
  ∃ xs:List (List Int×Addr×Mk),xs.map (·.1)=ps.map (·.1)/\xs.map (·.2.1)=ps.map (·.2.1)/\CR (ps.map (·.2.2)) (xs.map (·.2.2))/\∀ (j:Nat) (p:List Int×Addr×Mk),xs[j]?=FN p->∃ q,its[j]?=FN (.ref q)/\IsTup s.heap q #[.ref p.2.1,p.2.2]/\(Nq X.prog X.w).is s.heap p.1 p.2.1
 | _,_,_,.nil,.nil=>⟨[],rfl,rfl,.nil,fun j p e=>by simp at e⟩
 | _,_,_,.cons r rv,.cons (b:=p) hp pp=>by
  obtain ⟨xs,a1,a2,a3,a4⟩:=wW I rv pp;obtain ⟨q,rfl,h1,h2⟩:=hp;cases r;obtain ⟨js,r2,ht,_⟩:=I.tuple h1;cases r2 with
  | cons r3 r4=>
   cases r4 with
   | cons r5 r6=>
    cases r6;cases r3;rename_i v;refine ⟨(p.1,p.2.1,v)::xs,by simp [a1],by simp [a2],.cons r5 a3,fun j z e=>?_⟩;cases j with
    | zero=>
     simp at e;subst e;exact ⟨q,rfl,ht,wX I h2⟩
    | succ j=>
     obtain ⟨q',b1,b2⟩:=a4 j z (by simpa using e);exact ⟨q',by simpa using b1,b2⟩
theorem zan (hc:X.calm=true)(hu:X.A.units+30<JQ):fX X (.type "dict") (fun vs H Q=>∃ (T:Addr) (ys:List V) (ps:List (List Int×Addr×V)),vs=[.ref T]/\HJ X.K H T ys/\LQ (Tt X.K H) ys ps/\(ps.map (·.1)).Nodup /\
  ∀ d,H d=FX->∀ xs:List (List Int×Addr×Mk),xs.map (·.1)=ps.map (·.1)->xs.map (·.2.1)=ps.map (·.2.1)->CR (ps.map (·.2.2)) (xs.map (·.2.2))->Q (.ref d) (FQ H d (.ext (Ep d xs)))):=by
 intro ajd s Z H vs us Q I r ⟨T,ys,ps,ev,hS,pp,nd,q⟩;subst ev;obtain ⟨u,rfl,ru⟩:=vals1 r;cases ru;obtain ⟨its,rv,⟨o,g1,g2,⟨n,g3⟩,g4⟩,hz⟩:=I.tupO hS;obtain ⟨xs,a1,a2,a3,a4⟩:=wW I rv pp;have e1:ys.length=its.length:=rv.length;have e2:ys.length=ps.length:=V3 pp;have e3:xs.length=ps.length:=by have:=congrArg QZ a1;simpa using this
 refine tR (I.ok.hd hc) hu ⟨o,n,g1,g2,g3,g4⟩ (ps:=xs) (by rw [Jl];lia) (fun j p e=>by
  obtain ⟨q,b1,b2⟩:=a4 j p e;exact ⟨q,by rw [List.getElem?_toArray];exact b1,b2⟩) (by rw [a1];exact nd) (by lia) fun h' tk d m=>?_
 have y:(s.heap.objs.size==M5)=false:=(adQ (P:=X.prog) (w:=X.w) (H:=H) s.heap I.big).2.1;exact ⟨.ref s.heap.objs.size,_,I.laid (a:=s.heap.objs.size) (o:=.ext (Ep s.heap.objs.size xs)) (t':=tk) m (Dg _)<|Fi (P:=X.prog) (w:=X.w) (by lia) y d,rfl,q _ (I.hok.fresh<|Dg _) xs a1 a2 a3⟩
def nY:List W->Option (List (List Int×W))
 | []=>FN []
 | .tup [k,v]::r=>(match Ka k with
  | some ks=>(nY r).map ((ks,v)::·)
  | none=>FX)
 | _=>FX
theorem wg {H:Hp}{μ : Mu}:∀ {us:List W} {ys:List V} {ps:List (List Int×W)},aM K H μ us ys->nY us=FN ps->∃ qs:List (List Int×Addr×V),LQ (Tt K H) ys qs/\qs.map (·.1)=ps.map (·.1)/\aM K H μ (ps.map fun x=>W.tup (x.1.map W.int)) (qs.map fun x=>V.ref x.2.1)/\aM K H μ (ps.map (·.2)) (qs.map (·.2.2))
 | [],ys,ps,r,e=>by
  rw [aM] at r;cases e;subst r;exact ⟨[],.nil,rfl,by rw [KJ,KJ,aM],by rw [KJ,KJ,aM]⟩
 | w::us,ys,ps,r,e=>by
  rw [aM] at r;obtain ⟨y,yr,rfl,ra,r⟩:=r;unfold nY at e;split at e
  ·rename_i h;cases h
  ·rename_i k v us' h;cases h;split at e
   ·rename_i ks ek;cases q:nY us with
    | none=>rw [q] at e;cases e
    | some cs=>
     rw [q] at e;cases (show FN ((ks,v)::cs)=FN ps from e)
     obtain ⟨qs,p1,p2,p3,p4⟩:=wg r q;rw [CK] at ra;obtain ⟨b,zs,rfl,hb,rz⟩:=ra;obtain ⟨z1,z2,rfl,rk,rw'⟩:=Ea rz;obtain ⟨kb,rfl,hkb⟩:=jM rk ek;refine ⟨(ks,kb,z2)::qs,.cons ⟨b,rfl,hb,hkb⟩ p1,by simp [p2],?_,?_⟩
     ·rw [DY,DY,aM];exact ⟨_,_,rfl,by rw [CK];exact ⟨kb,_,rfl,hkb,pF ks⟩,p3⟩
     ·rw [DY,DY,aM];exact ⟨_,_,rfl,rw',p4⟩
   ·cases e
  ·cases e
def Bq:MC:=fun ws h Q=>match ws with
 | [.tup us]=>(match nY us with
  | some ps=>(ps.map (·.1)).Nodup/\Q (.loc h.nx) (h.new (.dtt ps))
  | none=>False)
 | _=>False
theorem agQ (hc:X.calm=true)(hu:X.A.units+30<JQ):fG X (.type "dict") Bq:=⟨_,zan hc hu,by
 intro H μ h vs ws Qw Q R r m k;unfold Bq at m;split at m
 ·split at m
  ·rename_i us _ ps ek;obtain ⟨v,e,rv⟩:=jk r;rw [CK] at rv;obtain ⟨p,ys,ex,hs,rs⟩:=rv;obtain ⟨qs,p1,p2,p3,p4⟩:=wg rs ek;subst e ex;refine ⟨p,ys,qs,rfl,hs,p1,by rw [p2];exact m.1,fun d hd xs a1 a2 a3=>?_⟩;have xt:=(Ex.newCell (o:=.ext (Ep d xs)) R hd).ext;have e3:(xs.map fun x=>V.ref x.2.1)=qs.map fun x=>V.ref x.2.1:=by
    have:(xs.map (·.2.1)).map V.ref=(qs.map (·.2.1)).map V.ref:=by rw [a2]
    rw [KC,KC] at this;exact this
   have R1:Ej X.K (μ.put h.nx d) (FQ H d (.ext (Ep d xs))) (h.new (.dtt ps)):=R.newCell hd trivial ⟨xs,qs.map (·.2.2),bF,(by rw [a1,p2]),a3,by rw [e3];exact xt.s p3,xt.s p4⟩;exact k _ _ ⟨_,.loc h.nx,_,xt,R1,by rw [CK];exact ⟨d,rfl,Mu.put_same⟩,m.2⟩
  ·exact m.elim
 ·exact m.elim⟩
end
section
variable {prog:Ei}{w:Dq}{A:FZ}{E:Mk->AP->Prop}{s:AP}{r l:Addr}{items:Array Mk}
theorem yV {Q:List Mk->AP->Prop}(hh:A.handled=FX)(hit:s.heap.IsRevIter r l ((items.size:Int) - 1))(hl:s.heap.IsList l items)(hne:l≠r)(hn:items.size<=FP)
  (hQ:∀ (h':Heap) (tk:Nat) (acc':Array Mk),s.heap.objs.size<h'.objs.size->(∀ b o,b≠r->s.heap.get? b=FN o->h'.get? b=FN o)->ItemsOf (fun i v=>items[items.size - 1 - i]?=FN v) acc' items.size->Q acc'.toList { s with heap:=h',toks:=tk }):Cu (Cp prog w) A (collect (.ref r)) Q E s:=by
 have lr:r<s.heap.objs.size:=by obtain ⟨_,e,_⟩:=hit;exact G9 e
 have ll:l<s.heap.objs.size:=by obtain ⟨_,e,_⟩:=hl;exact G9 e
 unfold collect;refine CN<|wpAny_runValue<|Tg F.entry_proto_collect ?_
 rw [V0 F.plain_proto_collect _];show Cu _ A.in1 (newList [] >>= fun l=>again (.builtin "list.__iadd__" ⟨[l,.ref r],[]⟩)) _ _ s;refine CN<|NP ?_
 refine Cz ⟨Uj F.plain_list_iadd _,Tg F.entry_list_iadd ?_⟩;rw [V0 F.plain_list_iadd _];show Cu _ A.in1 (X8 (.ref s.heap.objs.size) (.ref r) (.ref s.heap.objs.size)) _ _ _;have hS₁ : (s.heap.push { cls:=.type "list",data:=.seq ([]:List Mk).toArray }).get? s.heap.objs.size=FN { cls:=.type "list",data:=.seq #[] 0 }:=K4 _ rfl;refine adA (A:=A) (R:=fun (r:Result) s'=>match r with
  | .ok (.ret v)=>Cu (Cp prog w) A (match v with
   | .ref a=>do
    match (<-load a).data with
    | .seq xs _=>pure xs.toList
    | _=>unsupported "internal:collect"
   | _=>unsupported "internal:collect") Q E s'
  | .ok _=>False
  | .error e=>E e s') (s:={ s with heap:=s.heap.push { cls:=.type "list",data:=.seq ([]:List Mk).toArray } }) hh (hit.at fun o e=>GD _ e) (hl.at fun o e=>GD _ e) hne _ (Ml lr) (Ml ll) _ _ hS₁ (fun h' tk acc' c' hk hS' hacc=>?_) hn
 show Cu _ A (load s.heap.objs.size >>= _) _ _ _;refine CN<|wpAny_load hS' ?_
 exact Cz<|hQ h' tk acc' (G9 hS') (fun b o hb e=>hk b o (Gq<|G9 e) hb<|GD _ e) hacc
theorem zu {Q₁ : Mk->AP->Prop}(hh:A.handled=FX)(hit:s.heap.IsRevIter r l ((items.size:Int) - 1))(hl:s.heap.IsList l items)(hne:l≠r)(hn:items.size<=FP)
  (h:∀ (h':Heap) (tk:Nat) (acc':Array Mk),s.heap.objs.size<h'.objs.size->(∀ b o,b≠r->s.heap.get? b=FN o->h'.get? b=FN o)->ItemsOf (fun i v=>items[items.size - 1 - i]?=FN v) acc' items.size->Q₁ (.ref h'.objs.size) { s with heap:=h'.push { cls:=.type "tuple",data:=.seq acc' },toks:=tk }) :
  QV (Cp prog w) A (.call (.builtin "tuple.__new__") ⟨[.type "tuple",.ref r],[]⟩) (wants Q₁ E) s:=by
 refine codeAny_of_tree ?_;show Cu _ A.in1 (do checkBuiltinCall "tuple.__new__" ⟨[.type "tuple",.ref r],[]⟩;again (.builtin "tuple.__new__" ⟨[.type "tuple",.ref r],[]⟩)) _ _ s;refine CN<|wpAny_of_eq (F.newCall_tuple_1 _)<|Cz ⟨Uj F.plain_tuple_new _,Tg F.entry_tuple_new ?_⟩
 rw [V0 F.plain_tuple_new _];have hsub:=sub_tuple_self;have hinit:=init_tuple_lookup;have hmh:=madeHere_tuple;have hTI:=hit.typeIs;have hhA:A.in1.handled=FX:=hh
 wp_walk using Qn hTI,yV hhA hit hl hne hn
 intro h' tk acc hs hm hacc;show Cu _ _ (Ue acc.toList.toArray >>= fun v=>ret v) _ _ _;unfold Ue;refine CN<|NP ?_ (by show acc.toList.toArray.size<=FP;simp only [Array.toArray_toList];rw [hacc.1];exact hn)
 refine Cz ?_;have e:acc.toList.toArray=acc:=by simp
 rw [e];exact h h' tk acc hs hm hacc
theorem zB {Q:Mk->AP->Prop}(hh:A.handled=FX)(hit:s.heap.IsRevIter r l ((items.size:Int) - 1))(hl:s.heap.IsList l items)(hne:l≠r)(hn:items.size<=FP)
  (h:∀ (h':Heap) (tk:Nat) (acc':Array Mk),s.heap.objs.size<h'.objs.size->(∀ b o,b≠r->s.heap.get? b=FN o->h'.get? b=FN o)->ItemsOf (fun i v=>items[items.size - 1 - i]?=FN v) acc' items.size->Q (.ref h'.objs.size) { s with heap:=h'.push { cls:=.type "tuple",data:=.seq acc' },toks:=tk }) :
  Cu (Cp prog w) A (call (.type "tuple") [.ref r]) Q E s:=by
 refine callType_codes (Q₁:=fun obj s₁=>s₁.TypeIs obj "tuple"/\Q obj s₁) F.called_tuple (F.typeCall_tuple_1 _) F.entry_object_init
  (zu (A:=A.in1) hh hit hl hne hn fun h' tk acc hs hm hacc=>⟨⟨_,K4 _ rfl,rfl⟩,h h' tk acc hs hm hacc⟩) fun obj s₁ h₁=>?_
 exact ⟨h₁.1,F.args_object_init_2 obj _,object_init_meets F.called_tuple.init.lookup F.called_tuple.made (by decide) prog w A.in1 _ s₁ ⟨h₁.1,rfl,h₁.2⟩⟩
end
section
variable {X:Cx}
def yD (me:ME):ME:=fun Z h Q=>me Z h fun x h1=>match dM h1 x with
 | some us=>Q (.tup us.reverse) h1
 | none=>False
theorem zbl {me:ME}{p p' pos pos':Pos}(hc:X.calm=true)(hl:Gl X "tuple")(hlm:X.mg "tuple" = FX)(hr:Gl X "reversed")(hrm:X.mg "reversed" = FX)(he:DE X e1 me)
  (h1:Fo [.Call (.Name "reversed" p') [e1] [] pos'] X.env=(false,eval (.Call (.Name "reversed" p') [e1] [] pos') X.env)::Fo [] X.env:=by rfl) (hp1:(K5 pos (Fo [] X.env)).any (·.1)=false:=by rfl)
  (h2:Fo [e1] X.env=(false,eval e1 X.env)::Fo [] X.env:=by rfl) (hp2:(K5 pos' (Fo [] X.env)).any (·.1)=false:=by rfl) :
  DE X (.Call (.Name "tuple" p) [.Call (.Name "reversed" p') [e1] [] pos'] [] pos) (yD me):=by
 intro ajd s Z H Q I ⟨μ,g,Zw,Qw,R,S,m,q⟩;refine Vn<|ou I hl hlm N7 ?_ (by decide)<|by decide
 refine Vq ?_ h1 hp1;rw [h1];show Cu _ _ (spliced ((false,eval _ X.env)::K5 pos (Fo [] X.env))) _ _ s;refine Calls.spliced_cons ?_;refine Vn<|ou I hr hrm boot_reversed ?_ (by decide)<|by decide
 refine Vq ?_ h2 hp2;rw [h2];show Cu _ _ (spliced ((false,eval e1 X.env)::K5 pos' (Fo [] X.env))) _ _ s;refine Calls.spliced_cons<|Fz (he ajd s Z H _ I ⟨μ,g,Zw,_,R,S,m,fun v H1 z=>z⟩) fun u s1 ⟨x,H1,I1,rx,μ1,wx,g1,x1,R1,r1,m1⟩=>?_
 refine Calls.spliced_nil ?_;split at m1
 ·rename_i us ev;obtain ⟨a,xs,ex,hs,rs⟩:=cR R1 r1 ev;subst ex;obtain rfl:u=Value.ref a:=rx;obtain ⟨its,r,pl,hz⟩:=I1.list hs;have aje:=r.length;refine call_reversed_list pl.isList ?_;refine Calls.spliced_nil ?_;have la:a<s1.heap.objs.size:=by obtain ⟨_,e,_⟩:=pl.isList;exact G9 e
  have gi:(s1.heap.push (revObj a ((its.toArray.size:Int) - 1))).IsRevIter s1.heap.objs.size a ((its.toArray.size:Int) - 1):=⟨_,K4 _ rfl,rfl,rfl⟩
  refine zB (I1.ok.hd hc) gi (pl.isList.at fun o e=>GD _ e) (Gq la) (by rw [Jl,<-aje];exact hz) fun h' tk acc' hsz kp it=>?_;have ea:acc'.toList=its.reverse:=by
   refine List.ext_getElem? fun j=>?_;by_cases hj:j<its.length
   ·have hj':j<acc'.toList.length:=by rw [Ua,it.1,Jl];exact hj
    have h3:=it.2 j (acc'.toList[j]) (by rw [<-U4];exact HD hj');rw [HD hj',List.getElem?_reverse hj,<-h3,Jl];simp
   ·rw [List.getElem?_eq_none (by rw [Ua,it.1,Jl];lia),List.getElem?_eq_none (by rw [List.length_reverse];lia)]
  have kp':∀ b o,s1.heap.get? b=FN o->h'.get? b=FN o:=fun b o eb=>kp b o (Gq (G9 eb)) (GD _ eb)
  have hge:s1.heap.objs.size<=h'.objs.size:=by
   have:(s1.heap.push (revObj a ((its.toArray.size:Int) - 1))).objs.size=s1.heap.objs.size+1:=RD _ _
   rw [this] at hsz;lia
  have hf:H1 h'.objs.size=FX:=I1.hok.fresh hge;refine ⟨.ref h'.objs.size,_,I1.laid (a:=h'.objs.size) (o:=.tup xs.reverse) (t':=tk) (fun b o eb=>GD _<|kp' b o eb) hge<|show eE X.prog X.w _ _ _ (.tup xs.reverse) from ⟨by rw [List.length_reverse];exact hz,acc'.toList,by rw [ea];exact zaV r,by simpa using Gn.new h' acc'⟩,rfl,?_⟩;exact q _ _ ⟨μ1,.tup us.reverse,g1,x1.trans (Ex.laid hf).ext,R1.laid hf,.tupNew hf<|BZ rs,m1⟩
 ·exact m1.elim
end
section
variable {P:Ei}{w:Dq}{A:FZ}{E:Mk->AP->Prop}{s:AP}
def abN (_:Heap)(v:Mk)(k:List Int):Prop:=∃ i t,v=.int i t/\k=[i]
theorem wu:S6 abN:=⟨fun ⟨_,_,e,k⟩ ⟨_,_,e',k'⟩=>by subst e k k';cases e';rfl,fun x _=>x⟩
theorem uN {h:Heap}:∀ {ks:List Int} {vs:List Mk},CR (ks.map V.int) vs↔Ny abN h (ks.map ([·])) vs
 | [],_=>⟨fun h=>by cases h;exact .nil,fun h=>by cases h;exact .nil⟩
 | k::ks,_=>⟨fun h=>by
   cases h with
   | cons r h=>
    obtain ⟨t,e⟩:=r;exact .cons ⟨k,t,e,rfl⟩<|uN.mp h,fun h=>by
   cases h with
   | cons r h=>
    obtain ⟨_,t,e,k'⟩:=r;cases k'
    exact .cons ⟨t,e⟩ (uN.mpr h)⟩
theorem Om {i j:Int}:[i] < [j]↔i<j:=by rw [RJ];simp
theorem YQ {ks:List Int}{vs:List Mk}(v:CR (ks.map V.int) vs):SkT P w A wu oneType' (ks.map ([·])) vs:=by
 refine ⟨fun h2 _ q=>?_,fun p E Q x y mx my q=>?_⟩
 ·have kd:keyKind' vs.toArray=pure oneType':=by
   match vs,v,h2 with
   | v1::v2::vs,v,_=>exact keyKind_ints (intsAre_of v)
  exact wpAny_of_eq kd q
 ·obtain ⟨k,hk,hx⟩:=(keys_map wu p).2 x mx;obtain ⟨l,_,hy⟩:=(keys_map wu p).2 y my;unfold RP at q;rw [gH wu hx,gH wu hy] at q;obtain ⟨i,t,rfl,rfl⟩:=hx;obtain ⟨j,u,rfl,rfl⟩:=hy;rw [keyLt'_oneType];refine oneLt_int ?_;have e:decide ([i] < [j])=decide (i<j):=decide_eq_decide.mpr Om;rw [<-e,<-decide_eq_decide.mpr (m9 (l:=[j]) hk)];exact q
theorem yJ {es:Array QW}{ks:List Int}{Q:Mk->AP->Prop}(hh:A.handled=FX)(nd0:(d==M5)=false)(x:Dc s.heap d es ep)(hz:es.size<=FP)
  (p:CR (ks.map V.int) (es.toList.map (·.key))) (nd:ks.Nodup)
  (q:∀ (h':Heap) (tk:Nat) (l:Addr) (out:Array Mk) (ks':List Int) (c:Nat),(∀ b o,s.heap.get? b=FN o->h'.get? b=FN o)->s.heap.objs.size<=l->h'.get? l=FN (Mz "list" out c)->CR (ks'.map V.int) out.toList->ks'.Perm ks->ks'.Pairwise (· < ·)->Q (.ref l) { s with heap:=h',toks:=tk }) :
  Cu (Cp P w) A (call (.builtin "sorted") [.ref d]) Q E s:=by
 refine nT (YQ p) (pX (A:=A.in1) hh nd0 x hz) (uN.mp p) (T6.mpr<|nd.imp fun h e=>h (Q7 e).1) (by simpa using hz) fun h' tk l out ks' c k1 k2 k3 g1 g2 g3 _=>?_;obtain ⟨js,pj,rfl⟩:=uI g2 rfl;exact q h' tk l out js c k1 k2 k3 (uN.mpr g1) pj<|(T6.mp g3).imp Om.mp
end
section
variable {X:Cx}{K:CT}
def DR {β : Type}(kvs:List (Key×β))(ks:List Int):Prop:=kvs.map (·.1)=ks.map Sum.inl
theorem Ar {ks:List Int}:∀ {kvs:List (Key×V)} {vs:List (Key×Mk)} {ks:List Int},KV kvs vs->DR kvs ks->vs.map (·.1)=ks.map Sum.inl
 | [],_,ks,.nil,e=>by
  have:ks=[]:=by cases ks with
   | nil=>rfl
   | cons a l=>simp [DR] at e
  subst this;rfl
 | x::kvs,_,ks,.cons r t,e=>by
  cases ks with
  | nil=>simp [DR] at e
  | cons k ks=>
   unfold DR at e;rw [DY,DY] at e;obtain ⟨e1,e2⟩:=Q7 e;rw [DY,DY,Ar (ks:=ks) t e2,<-r.1,e1]
theorem wZ:∀ {es:List QW} {vs:List (Key×Mk)} {ks:List Int},PySem.Pairs (cG X.prog X.w) es vs->vs.map (·.1)=ks.map Sum.inl->CR (ks.map V.int) (es.map (·.key))/\es.length=vs.length
 | _,_,ks,.nil,e=>by
  have:ks=[]:=by cases ks with
   | nil=>rfl
   | cons a l=>simp at e
  subst this;exact ⟨.nil,rfl⟩
 | _,_,ks,.cons h1 h2 t,e=>by
  cases ks with
  | nil=>simp at e
  | cons k ks=>
   rw [DY,DY] at e;obtain ⟨e1,e2⟩:=Q7 e;obtain ⟨i1,i2⟩:=wZ (ks:=ks) t e2;refine ⟨.cons ?_ i1,by rw [K7,K7,i2]⟩;rcases bV h1 with ⟨i,u,q1,q2⟩ | ⟨x,u,q1,q2⟩
   ·rw [e1] at q1;injection q1 with q1
    exact ⟨u,by rw [q1];exact q2⟩
   ·rw [e1] at q1;exact nomatch q1
theorem aev (hc:X.calm=true):fX X (.builtin "sorted") (fun vs H Q=>∃ a kvs ks,vs=[.ref a]/\H a=FN (.dK kvs)/\DR kvs ks /\
  ∀ js:List Int,js.Perm ks->js.Pairwise (· < ·)->∀ l,H l=FX->Q (.ref l) (FQ H l (.lst (js.map V.int)))):=by
 intro ajd s Z H vs us Q I r ⟨a,kvs,ks,ev,hx,hi,q⟩;subst ev;obtain ⟨u,rfl,ru⟩:=vals1 r;cases ru;obtain ⟨z,y,vs,rel,dd⟩:=Jv I.hok hx;have hl:kvs.length=vs.length:=V3 rel;have kk:=Ar (ks:=ks) rel hi;obtain ⟨o,es,ep,g1,g2,g3,_,g4,g5⟩:=dd;obtain ⟨p1,p2⟩:=wZ (X:=X) g4 kk;have pk:CR (ks.map V.int) (es.toList.map (·.key))/\ks.Nodup/\es.size=vs.length:=by
  refine ⟨p1,?_,by rw [<-p2,Ua]⟩;rw [kk] at g5;exact (T6.mp g5).imp fun h e=>h<|by rw [e]
 refine yJ (I.ok.hd hc) y ⟨o,g1,g2,g3⟩ (by rw [pk.2.2];lia) pk.1 pk.2.1 fun h' tk l out ks' c keep hl' e pr pm pw=>?_;have l1:ks'.length=out.toList.length:=by have:=pr.length;simpa using this
 have l2:=pm.length_eq;have l3:ks.length=vs.length:=by have:=congrArg QZ kk;simpa using this.symm
 exact ⟨.ref l,_,I.laid (t':=tk) keep hl'<|show eE X.prog X.w _ h' _ (.lst<|ks'.map V.int) from ⟨by rw [DX];lia,out.toList,c,pr,by simpa using e⟩,rfl,q ks' pm pw l<|I.hok.fresh hl'⟩
def Hg:MC:=fun ws h Q=>match ws with
 | [.loc n]=>(match h.c n with
  | some (.dct kvs)=>∃ ks:List Int,DR kvs ks/\∀ js:List Int,js.Perm ks->js.Pairwise (· < ·)->Q (.lst (js.map .int)) h
  | _=>False)
 | _=>False
theorem BJ {H:Hp}{μ : Mu}:∀ {kvs:List (Key×W)} {kvv:List (Key×V)} {ks:List Int},nW K H μ kvs kvv->DR kvs ks->DR kvv ks
 | [],_,ks,.nil,e=>e
 | x::kvs,_,ks,.cons r t,e=>by
  cases ks with
  | nil=>simp [DR] at e
  | cons k ks=>
   unfold DR at e |-
   rw [DY,DY] at e;obtain ⟨e1,e2⟩:=Q7 e;have:=BJ (ks:=ks) t e2
   unfold DR at this;rw [DY,DY,this,<-r.1,e1]
theorem zbM (hc:X.calm=true):fG X (.builtin "sorted") Hg:=⟨_,aev hc,by
 intro H μ h vs ws Qw Q R r m k;unfold Hg at m;split at m
 ·rename_i n;split at m
  ·rename_i kvs ec;obtain ⟨p,kvv,hp,hx,rf⟩:=R.dctAt ec;obtain ⟨v,rfl,r1⟩:=jk r;rw [CK] at r1;obtain ⟨p',rfl,hp'⟩:=r1;have ep:p'=p:=by rw [hp] at hp';exact (Gz hp').symm
   subst ep;obtain ⟨ks,m1,m2⟩:=m;refine ⟨p',kvv,ks,rfl,hx,BJ rf m1,fun js pj sj l hl=>?_⟩;exact k _ _ ⟨μ,_,h,(Ex.laid hl).ext,R.laid hl,.lstNew R hl<|pF js,m2 js pj sj⟩
  ·exact m.elim
 ·exact m.elim⟩
def Uh:ME:=fun _ h Q=>Q (.loc h.nx) (h.new (.dct []))
theorem ahG {pos:Pos}:DE X (.Dict [] [] pos) Uh:=zbd.of fun Z H Q ⟨μ,g,Zw,Qw,R,S,m,q⟩ p hp=>by
 have R1:Ej X.K (μ.put g.nx p) (FQ H p (.dK [])) (g.new (.dct [])):=R.newCell hp trivial ⟨[],bF,.nil⟩;exact q _ _ ⟨_,.loc g.nx,_,(Ex.newCell R hp).ext,R1,by rw [CK];exact ⟨p,rfl,Mu.put_same⟩,m⟩
end
section
variable {X:Cx}{o:Expr}{mo:ME}{ma:MA}{apos ajf:Pos}
def Km:MM:=fun x ws h Q=>match x,ws with
 | .loc n,[y,z]=>(match h.c n,Yn y with
  | some (.dct kvs),FN k=>Q ((mK kvs k).getD z) h
  | _,_=>False)
 | _,_=>False
def Iw (h:Gh)(x:W)(P:Prop):Prop:=match x with
 | .loc n=>(match h.c n with
  | some (.dct _)=>P
  | _=>False)
 | _=>False
def aav (r:MM)(mo:ME)(ma:MA):ME:=fun Z h Q=>mo Z h fun x h1=>Iw h1 x (ma Z h1 fun xs h2=>r x xs h2 Q)
theorem Aq {K:CT}{H:Hp}{μ : Mu}{k:Key}:∀ {kvs:List (Key×W)} {kvv:List (Key×V)},nW K H μ kvs kvv->(∀ w,mK kvs k=FN w->∃ v,El kvv k=FN v/\CK K H μ w v)/\(mK kvs k=FX->El kvv k=FX)
 | [],_,.nil=>⟨fun w e=>by simp [mK] at e,fun _=>rfl⟩
 | x::kvs,y::_,.cons r t=>by
  obtain ⟨i1,i2⟩:=Aq (k:=k) t;unfold mK El at *;rw [QF,QF];by_cases c:x.1=k
  ·have c2:y.1=k:=r.1.symm.trans c;rw [decide_eq_true c];simp only [c2,decide_true];exact ⟨fun w e=>by cases e;exact ⟨_,rfl,r.2⟩,fun e=>by cases e⟩
  ·have c2:¬ y.1=k:=fun e=>c (r.1.trans e)
   rw [decide_eq_false c];simp only [c2,decide_false];exact ⟨i1,i2⟩
theorem aib (hu:X.A.units+30<JQ)(ho:DE X o mo)(ha:Kq X [e1,e2] ma)
  (hbase:VN o "get" X.env (eval o X.env)=eval o X.env:=by rfl)
  (hfew:((K5 ajf (Fo [e1,e2] X.env)).all (fun x=>!x.1)&&(backToKw ajf (TY [] X.env)).all (fun x=>x.1.isSome)
   && decide (([e1,e2]:List Expr).length+([]:List Mv).length+(if ([]:List Mv).isEmpty then 0 else 1)<30))=true:=by rfl)
  (hline:(apos.endLine==ajf.line)=true:=by rfl) (hst:Fo [e1,e2] X.env=(false,eval e1 X.env)::Fo [e2] X.env:=by rfl) (hplain:(K5 ajf (Fo [e2] X.env)).any (·.1)=false:=by rfl) :
  DE X (.Call (.Attribute o "get" apos) [e1,e2] [] ajf) (aav Km mo ma):=by
 intro ajd s Z H Q I ⟨μ,h,Zw,Qw,R,S,m,k⟩;refine wpAny_Call_method_late hbase hfew hline rfl<|Fz (ho ajd s Z H _ I ⟨μ,h,Zw,_,R,S,m,fun _ _ z=>z⟩) fun u s1 ⟨x,H1,I1,rx,μ1,wx,h1,e1',R1,r1,il⟩=>?_
 unfold Iw at il;split at il
 ·rename_i n;split at il
  ·rename_i kv0 ec0;have r0:=r1;rw [CK] at r1;obtain ⟨a,rfl,ha'⟩:=r1;obtain rfl:u=Value.ref a:=rx;obtain ⟨p,kvv,hp,hx,_⟩:=R1.dctAt ec0;have ep:p=a:=by rw [ha'] at hp;exact (Gz hp).symm
   subst ep;obtain ⟨z,y,vs0,ab6,dd0⟩:=Jv I1.hok hx;obtain ⟨ob,es,epo,g1,g2,_⟩:=id dd0;refine ⟨"dict", "dict.get",PySem.F.plainAttrs_dict,Ws,PySem.F.type_dict_get,⟨ob,g1,g2.1⟩,fun b e=>by cases e;exact ⟨ob,g1,g2.2.1⟩,?_⟩;have hA:=ha ajf ajd s1 Z H1 _ I1 ⟨μ1,h1,Zw,_,R1,S.ext e1',il,fun _ _ z=>z⟩;rw [hst] at hA |-
   refine Calls.callWith_builtin (by show (false||(K5 ajf<|Fo [e2] X.env).any (·.1))=false;rw [hplain] <;> rfl)<|Calls.evalArgs_plain ?_
   refine Fz hA fun us s2 ⟨ys,H2,I2,r2,μ2,ws,h2,e2',R2,rs,m2⟩=>?_;unfold Km at m2;split at m2
   ·rename_i n' y' z' e3;cases e3;split at m2
    ·rename_i kvs kk ec ek;obtain ⟨v1,v2,rfl,ry,rz⟩:=Ea rs;have ev1:=lV ry ek;subst ev1;obtain ⟨u1,u2,rfl,ru1,ru2⟩:=vals2 r2;obtain ⟨p2,kvv2,hp2,hx2,rf2⟩:=R2.dctAt ec;have r0':=e2'.r _ _ r0;rw [CK] at r0';obtain ⟨a2,ea,ha2⟩:=r0';cases ea;have ep2:p2=p:=by rw [ha2] at hp2;exact (Gz hp2).symm
     subst ep2;obtain ⟨z2,hd2,vs2,rel2,dd⟩:=Jv I2.hok hx2;obtain ⟨t1,t2⟩:=Aq (k:=kk) rf2;refine call_meetsIn Ws dd.typeIs PySem.F.entry_dict_get (PySem.F.args_dict_get_3 _ _ _) (meets_dict_get_default (cG X.prog X.w) p2 (yp ru1) hd2 u2) ⟨_,dd.mapOf,?_⟩;have hv:=(rel2.val kk).getD ru2;cases ev:mK kvs kk with
     | some wv=>
      rw [ev] at m2;obtain ⟨v,a1,a3⟩:=t1 wv ev;rw [a1] at hv;exact ⟨v,H2,I2.tok _,hv,k _ _ ⟨μ2,wv,h2,e1'.trans e2',R2,a3,m2⟩⟩
     | none=>
      rw [ev] at m2;rw [t2 ev] at hv;exact ⟨v2,H2,I2.tok _,hv,k _ _ ⟨μ2,z',h2,e1'.trans e2',R2,rz,m2⟩⟩
    ·exact m2.elim
   ·exact m2.elim
  ·exact il.elim
 ·exact il.elim
end
section
variable {prog:Ei}{w:Dq}{A:FZ}{E:Mk->AP->Prop}{L I:Addr}{ns:List Int}{its:List Mk}
end
section
variable {X:Cx}
end
section
variable {X:Cx}{a b o i:Expr}{td ty:TE}{pos:Pos}
theorem fG.or {f:Mk}{m1 m2:MC}(h1:fG X f m1)(h2:fG X f m2):fG X f (fun ws h Q=>m1 ws h Q\/m2 ws h Q):=by
 obtain ⟨r1,c1,s1⟩:=h1;obtain ⟨r2,c2,s2⟩:=h2;refine ⟨_,fX.or c1 c2,?_⟩;intro H μ h vs ws Qw Q R r m k;rcases m with m | m
 ·exact .inl<|s1 R r m k
 ·exact .inr<|s2 R r m k
def BL:MC:=fun ws h Q=>Hy ws h Q\/Hg ws h Q
theorem aeE (hc:X.calm=true):fG X (.builtin "sorted") BL:=(afO hc).or (zbM hc)
def Ti:M2:=fun x y h Q=>Yj x y h Q\/Mw x y h Q
theorem aex (hu:X.A.units+30<JQ)(ho:PE X o td)(hi:PE X i ty)(hs:UW i):PE X (.Subscript o i pos) (fun Z H Q=>td Z H fun x H1=>ty Z H1 fun y H2=>(∃ a xs k b p v,x=.ref a/\H2 a=FN (.ext (Ep a xs))/\Fj X.K H2 xs/\y=.ref b/\HJ X.K H2 b (k.map V.int)/\atKey xs k=FN p/\RelV v p.2/\Q v H2)\/∃ a kvs k v,x=.ref a/\Rd H2 a (.dK kvs)/\y=kV k/\El kvs k=FN v/\Q v H2):=by
 intro ajd s Z H Q I h;refine yP PySem.F.slot_dict_getitem.lookup hs<|Fz (ho ajd s Z H _ I h) fun u s1 ⟨x,H1,I1,rx,q1⟩=>Fz (hi ajd s1 Z H1 _ I1 q1) fun iv s2 ⟨y,H2,I2,ry,q2⟩=>?_
 rcases q2 with ⟨a,xs,k,b,p,v,ex,e,hk,ey,hb,l,rv,q2⟩ | ⟨a,kvs,k,v,ex,e,ey,l,q2⟩
 ·subst ex ey;obtain rfl:u=Value.ref a:=rx;obtain rfl:iv=Value.ref b:=ry;obtain ⟨z,hd,dd⟩:=zL I2 e hk;exact ⟨dd.typeIs,wpAny_getItem_heap (tupleKind_room_in1<|by lia) (wX I2 hb) dd l ⟨v,H2,I2.tok _,rv,q2⟩⟩
 ·subst ex ey;obtain rfl:u=Value.ref a:=rx;obtain ⟨z,hd,vs,rel,dd⟩:=RN I2.hok e;obtain ⟨w',hw,rw'⟩:=J8.some_of (v:=v) (o:=valueAt vs k) (by rw [<-l];exact rel.val k);exact ⟨dd.typeIs,wpAny_getItem_of (yp ry) dd.mapOf hw ⟨v,H2,I2.tok _,rw',q2⟩⟩
theorem Vg (hu:X.A.units+30<JQ)(ha:DE X a ma)(hb:DE X b mb)(hs:UW b):DE X (.Subscript a b pos) (CG Ti ma mb):=(aex hu ha hb hs).of fun Z H Q h=>two h fun {H2 μ2 h2 x y wx wy Qw} R r1 r2 m k=>by
 rcases m with m | m
 ·unfold Yj at m;split at m
  ·rename_i n kk e;split at m
   ·rename_i kvs ec;split at m
    ·rename_i w ev;obtain ⟨p,xs,vs,hp,hx,e1,e2,r3,r4⟩:=R.dttAt ec;rw [CK] at r1;obtain ⟨p',ex,hp'⟩:=r1;have ep:p'=p:=by rw [hp] at hp';exact (Gz hp').symm
     subst ep;obtain ⟨b',eb,hb'⟩:=jM r2 e;obtain ⟨q,v,h3,h4,h5⟩:=(tM e1 e2 r4 kk).1 w ev;exact .inl ⟨p',xs,kk,b',q,v,ex,hx,jE e1 r3,eb,hb',h3,h4,k _ _ ⟨μ2,w,h2,.refl,R,h5,m⟩⟩
    ·exact m.elim
   ·exact m.elim
  ·exact m.elim
 ·unfold Mw at m;split at m
  ·rename_i n kk e;split at m
   ·rename_i kvs ec;split at m
    ·rename_i w ev;obtain ⟨p,kvv,hp,hx,rf⟩:=R.dctAt ec;rw [CK] at r1;obtain ⟨p',e1,hp'⟩:=r1;have ep:p'=p:=by rw [hp] at hp';exact (Gz hp').symm
     subst ep;obtain ⟨v,e2,rv⟩:=rf.val ev;exact .inr ⟨p',kvv,kk,v,e1,.inl hx,lV r2 e,e2,k _ _ ⟨μ2,w,h2,.refl,R,rv,m⟩⟩
    ·exact m.elim
   ·exact m.elim
  ·exact m.elim
end
section
variable {P:Ei}{w:Dq}{A:FZ}{E:Mk->AP->Prop}{s:AP}
def vC (h:Heap)(v:Mk)(k:List Int):Prop:=∃ a b o n c t,v=.ref a/\h.get? a=FN o/\o.cls=.type "tuple"/\o.data=.seq #[.ref b,.int c t] n/\o9 h (.ref b) k
theorem vC.fn {h:Heap}{v:Mk}{k l:List Int}(x:vC h v k)(y:vC h v l):k=l:=by
 obtain ⟨a,b,o,n,c,t,rfl,ga,_,da,va⟩:=x;obtain ⟨a',b',o',n',c',t',e,gb,_,db,vb⟩:=y;cases e;rw [ga] at gb;cases gb;rw [da] at db;cases db;exact va.fn vb
theorem vC.of {h h':Heap}{v:Mk}{k:List Int}(x:vC h v k)(e:∀ b o,o.cls=.type "tuple"->h.get? b=FN o->h'.get? b=FN o):vC h' v k:=by
 obtain ⟨a,b,o,n,c,t,rfl,ga,ca,da,r⟩:=x;exact ⟨a,b,o,n,c,t,rfl,e a o ca ga,ca,da,r.of fun b o _ hc hb=>e b o hc hb⟩
theorem o9.key {h:Heap}{b:Addr}(x:o9 h (.ref b) k):IsTupleKey (RV P w) h k b:=by
 obtain ⟨a,o,its,n,e,ga,ca,da,va⟩:=x;cases e;exact ⟨o,its,n,ga,ca,da,uM va⟩
theorem o9.isTup {h:Heap}{b:Addr}(x:o9 h (.ref b) k):∃ its,IsTup h b its/\N6 its.toList k:=by
 obtain ⟨a,o,its,n,e,ga,ca,da,va⟩:=x;cases e;exact ⟨its,⟨o,ga,ca,n,da⟩,intsAre_of va⟩
theorem afg {x y:Mk}{Q:Bool->AP->Prop}(hu:A.units<JQ)(hx:vC s.heap x k)(hy:vC s.heap y l)(hxy:k=l->x=y)(q:Q (decide (k<l)) s):Cu (Cp P w) A (keyLt' (tuples' false) x y) Q E s:=by
 obtain ⟨a,b,o,n,c,t,rfl,ga,_,da,va⟩:=hx;obtain ⟨a',b',o',n',c',t',rfl,gb,_,db,vb⟩:=hy;refine PySem.W.kat_lt ga da gb db ?_;refine PySem.W.kat_cons<|wpAny_eqBool_tuple hu (va.key (P:=P) (w:=w)) vb.key<|PySem.W.kat_go (fun e=>?_) fun e=>?_
 ·have ek:k=l:=of_decide_eq_true e;have ea:=hxy ek;cases ea;rw [ga] at gb;cases gb;rw [da] at db;cases db;refine PySem.W.kat_yes<|PySem.W.kat_cons<|wpAny_eqBool_int<|PySem.W.kat_go (fun _=>PySem.W.kat_yes<|PySem.W.kat_nil ?_) fun e=>?_
  ·have:decide (k<l)=false:=by rw [ek];exact decide_eq_false (Ur _)
   rw [this] at q;exact q
  ·simp at e
 ·refine PySem.W.kat_no<|PySem.W.kat_one _ _ ?_
  obtain ⟨i1,t1,n1⟩:=va.isTup;obtain ⟨i2,t2,n2⟩:=vb.isTup;refine HT.rZ t1 t2 n1 n2 hu ?_;rw [lex_lt];exact q
theorem ado {x:Mk}{Q:Option Mk->AP->Prop}(hx:vC s.heap x k)(q:∀ b,o9 s.heap (.ref b) k->Q (FN (.ref b)) s):Cu (Cp P w) A (firstOfTuple' x) Q E s:=by
 obtain ⟨a,b,o,n,c,t,rfl,ga,ca,da,va⟩:=hx;refine CN<|Qn (T := "tuple") ⟨o,ga,ca⟩ ?_
 rw [if_neg (by decide)];refine CN<|listItems_at ga da ?_
 exact Cz<|q b va
theorem qK:∀ {vs:List Mk} {ks:List (List Int)} {Q:List (Option Mk)->AP->Prop},LQ (fun k v=>vC s.heap v k) ks vs->(∀ us:List Mk,us.length=vs.length->(∀ u∈us,∃ b k,u=.ref b/\o9 s.heap (.ref b) k)->Q (us.map FN) s)->Cu (Cp P w) A (vs.mapM firstOfTuple') Q E s
 | [],_,Q,h,q=>by
  cases h;exact Cz<|q [] rfl fun _ h=>nomatch h
 | v::vs,ks,Q,h,q=>by
  cases h with
  | @cons k _ ks' _ r h=>
   rw [List.mapM_cons];refine CN<|ado r fun b hb=>CN ?_
   refine qK h fun us hl hu=>Cz ?_;refine q (.ref b::us) (by simp [hl]) fun u hm=>?_;rcases Ge.mp hm with rfl | hm
   ·exact ⟨b,_,rfl,hb⟩
   ·exact hu u hm
theorem wH:∀ {us:List Mk} {Q:List Mk->AP->Prop},(∀ u∈us,∃ b k,u=Value.ref b/\o9 s.heap (.ref b) k)->Q (us.map fun _=>.type "tuple") s->Cu (Cp P w) A (us.mapM typeOf) Q E s
 | [],Q,_,q=>Cz q
 | u::us,Q,h,q=>by
  rw [List.mapM_cons];obtain ⟨b,k,rfl,x⟩:=h u KD;obtain ⟨a,o,its,n,e,ga,ca,_⟩:=x;cases e;exact CN<|Qn (T := "tuple") ⟨o,ga,ca⟩<|CN<|wH (fun v hv=>h v<|Jo _ hv)<|Cz q
theorem zau {vs:List Mk}{Q:Sg->AP->Prop}(h:LQ (fun k v=>vC s.heap v k) ks vs)(h1:1<=vs.length)(q:Q (tuples' false) s):Cu (Cp P w) A (keyKind' vs.toArray) Q E s:=by
 rw [keyKind'_eq,List.mapM_toArray];refine CN<|wpAny_map ?_
 refine qK h fun us hl hu=>?_;rw [if_pos (by simp)];refine CN<|Nj<|CN ?_
 have ef:(us.map FN).toArray.filterMap id=us.toArray:=by
  rw [List.filterMap_toArray];simp
 rw [ef,oneTypeOnly'_eq,List.mapM_toArray];refine CN<|wpAny_map<|wH hu ?_
 obtain ⟨u,us',rfl⟩:∃ u us',us=u::us':=List.exists_cons_of_ne_nil fun e=>by rw [e] at hl;simp at hl;lia
 show Cu _ _ (pure (if _ then FN (Value.type "tuple") else FX)) _ _ s;rw [if_pos (by simp)];exact Cz<|Cz q
theorem G3 {f:Mk->List Int}:∀ {vs:List Mk},(vs.map f).Nodup->∀ x∈vs,∀ y∈vs,f x=f y->x=y
 | [],_,_,h,_,_,_=>nomatch h
 | v::vs,nd,x,hx,y,hy,e=>by
  rw [DY,R6] at nd;rcases Ge.mp hx with h1 | h1
  ·rcases Ge.mp hy with h2 | h2
   ·rw [h1,h2]
   ·exact absurd (by rw [<-h1,e];exact Hj.mpr ⟨y,h2,rfl⟩) nd.1
  ·rcases Ge.mp hy with h2 | h2
   ·exact absurd (by rw [<-h2,<-e];exact Hj.mpr ⟨x,h1,rfl⟩) nd.1
   ·exact G3 nd.2 x h1 y h2 e
theorem jw:S6 vC:=⟨vC.fn,vC.of⟩
theorem agg {vs:List Mk}(hu:A.units<JQ)(nd:ks.Nodup):SkT P w A jw (tuples' false) ks vs:=by
 refine ⟨fun h2 p q=>zau p (Lx h2) q,fun p E Q x y mx my q=>?_⟩;obtain ⟨ek,g⟩:=keys_map jw p;obtain ⟨k,hk,hx⟩:=g x mx;obtain ⟨l,_,hy⟩:=g y my;refine afg hu hx hy (fun e=>?_) ?_
 ·refine G3 (by rw [<-ek];exact nd) x mx y my ?_;rw [gH jw hx,gH jw hy,e]
 ·unfold RP at q;rw [gH jw hx,gH jw hy] at q;rw [<-decide_eq_decide.mpr (m9 (ks:=ks) (l:=l) hk)];exact q
theorem zJ {vs:List Mk}{Q:Mk->AP->Prop}(hu:A.units+30<JQ)(x:s.heap.IsList d vs.toArray)(hz:vs.length<=FP)
  (p:LQ (fun k v=>vC s.heap v k) ks vs) (nd:ks.Nodup)
  (q:∀ (h':Heap) (tk:Nat) (l:Addr) (out:Array Mk) (ks':List (List Int)) (c:Nat),(∀ b o,s.heap.get? b=FN o->h'.get? b=FN o)->s.heap.objs.size<=l->h'.get? l=FN (Mz "list" out c)->LQ (fun k v=>vC s.heap v k) ks' out.toList->ks'.Perm ks->ks'.Pairwise (· < ·)->out.toList.Perm vs->Q (.ref l) { s with heap:=h',toks:=tk }) :
  Cu (Cp P w) A (call (.builtin "sorted") [.ref d]) Q E s:=by
 refine nT (agg (by rw [in1_units,in1_units];lia) nd) (fun q=>collect_list x (q _ s.toks (fun b o hb=>(Sy _ _<|Ji<|Gq<|G9 hb).trans (GD _ hb)) ?_) hz) p nd hz q;have g0:(s.heap.push (Mz "list" #[] 0)).get? s.heap.objs.size=FN (Mz "list" #[] 0):=K4 _ rfl;exact G9<|get?_update_seq g0 (·++vs.toArray)
end
section
variable {X:Cx}
abbrev Pr:=Addr×Addr×List Int×Int
def Js (K:CT)(H:Hp)(t:Pr):Prop:=HJ K H t.1 [.ref t.2.1,.int t.2.2.2]/\HJ K H t.2.1 (t.2.2.1.map V.int)
theorem afb {ajd:List (Addr×Obj)}{Z : St}{H:Hp}{s:AP}{t:Pr}(I:CQ X ajd Z H s)(h:Js X.K H t):vC s.heap (.ref t.1) t.2.2.1:=by
 obtain ⟨its,r,⟨o,ho,hc,n,hd⟩,_⟩:=I.tuple h.1;cases r with
 | cons r1 r=>
  cases r with
  | cons r2 r=>
   cases r;cases r1;obtain ⟨tk,rfl⟩:=r2;exact ⟨t.1,t.2.1,o,n,t.2.2.2,tk,rfl,ho,hc,hd,Gk I h.2⟩
def ahn (X:Cx):List V->Hp->VK->Prop:=fun vs H Q=>∃ a ts,vs=[.ref a]/\Jy X.K H a (ts.map fun t:Pr=>V.ref t.1)/\(∀ t∈ts,Js X.K H t)/\(ts.map (·.2.2.1)).Nodup /\
  ∀ us:List Pr,us.Perm ts->(us.map (·.2.2.1)).Pairwise (· < ·)->∀ l,H l=FX->Q (.ref l) (FQ H l (.lst (us.map fun t=>V.ref t.1)))
theorem zao (hu:X.A.units+30<JQ):fX X (.builtin "sorted") (ahn X):=by
 intro ajd s Z H vs us Q I r ⟨a,ts,ev,hx,hk,nd,q⟩;subst ev;obtain ⟨u,rfl,ru⟩:=vals1 r;cases ru;obtain ⟨its,rv,pl,z⟩:=I.list hx;have ei:its=ts.map fun t=>Value.ref t.1:=by
  have go:∀ (ts:List Pr) (its:List Mk),CR (ts.map fun t=>V.ref t.1) its->its=ts.map fun t=>Value.ref t.1:=fun ts=>by
   induction ts with
   | nil=>intro its h;cases h;rfl
   | cons t ts ih=>
    intro its h;cases h with
    | cons r h=>
     cases r;rw [ih _ h];rfl
  exact go ts its rv
 have p:∀ zs:List Pr,(∀ x∈zs,x∈ts)->LQ (fun k v=>vC s.heap v k) (zs.map (·.2.2.1)) (zs.map fun x=>Value.ref x.1):=fun zs hz=>by
  induction zs with
  | nil=>exact .nil
  | cons x zs ih=>exact .cons (afb I (hk x (hz x KD))) (ih fun y hy=>hz y (Jo _ hy))
 have zl:its.length<=FP:=by rw [ei,DX];rw [DX] at z;exact z
 refine zJ hu pl.isList zl (ks:=ts.map (·.2.2.1)) (by rw [ei];exact p ts fun _ h=>h) nd fun h' tk l out ks' c keep hl e pr pm pw po=>?_;rw [ei] at po;obtain ⟨ys,py,eo⟩:=uI po rfl;have hy:=p ys fun x hx=>py.mem_iff.mp hx
 have eks:ks'=ys.map (·.2.2.1):=by
  rw [eo] at pr;exact (keys_map jw pr).1.trans (keys_map jw hy).1.symm
 rw [eks] at pw;refine ⟨.ref l,_,I.laid (t':=tk) keep hl<|show eE X.prog X.w _ h' _ (.lst<|ys.map fun y=>V.ref y.1) from ⟨by rw [DX,py.length_eq];rw [DX] at z;exact z,out.toList,c,?_,by simpa using e⟩,rfl,q ys py pw l<|I.hok.fresh hl⟩;rw [eo];clear eo pr eks pw hy py po;induction ys with
 | nil=>exact .nil
 | cons y ys ih=>exact .cons rfl ih
def Qt (t:List Int×Int):W:=.tup [.tup (t.1.map .int),.int t.2]
def Ig:MC:=fun ws h Q=>match ws with
 | [w]=>(match dM h w with
  | some us=>∃ ts:List (List Int×Int),us=ts.map Qt/\(ts.map (·.1)).Nodup/\∀ rs:List (List Int×Int),rs.Perm ts->(rs.map (·.1)).Pairwise (· < ·)->Q (.lst (rs.map Qt)) h
  | none=>False)
 | _=>False
theorem O6 {H:Hp}{μ : Mu}:∀ {ts:List (List Int×Int)} {xs:List V},aM X.K H μ (ts.map Qt) xs->∃ zs:List Pr,xs=zs.map (fun t=>V.ref t.1)/\zs.map (·.2.2)=ts/\∀ t∈zs,Js X.K H t
 | [],xs,r=>by
  rw [KJ,aM] at r;exact ⟨[],r,rfl,fun _ h=>nomatch h⟩
 | t::ts,xs,r=>by
  rw [DY,aM] at r;obtain ⟨v,vs',rfl,r1,r2⟩:=r;obtain ⟨zs,e1,e2,e3⟩:=O6 r2;unfold Qt at r1;rw [CK] at r1;obtain ⟨p,ys,rfl,hs,hr⟩:=r1;rw [aM] at hr;obtain ⟨v1,vs1,rfl,a1,a2⟩:=hr;rw [aM] at a2;obtain ⟨v2,vs2,rfl,b1,b2⟩:=a2;rw [aM] at b2;subst b2;rw [CK] at a1;obtain ⟨b,ys,rfl,hb,hr⟩:=a1;rw [pN hr] at hb;rw [CK] at b1;subst b1;refine ⟨(p,b,t.1,t.2)::zs,by rw [DY,<-e1],by rw [DY,e2],fun u hu=>?_⟩;rcases Ge.mp hu with rfl | hu
  ·exact ⟨hs,hb⟩
  ·exact e3 u hu
theorem afE (hu:X.A.units+30<JQ):fG X (.builtin "sorted") Ig:=⟨_,zao hu,by
 intro H μ h vs ws Qw Q R r m k;unfold Ig at m;split at m
 ·split at m
  ·rename_i w us ev;obtain ⟨v,e,rv⟩:=jk r;obtain ⟨p,ys,ex,hs,rs⟩:=cR R rv ev;obtain ⟨ts,eu,nd,m⟩:=m;subst e ex;rw [eu] at rs;obtain ⟨zs,e1,e2,e3⟩:=O6 rs;have ek:zs.map (·.2.2.1)=ts.map (·.1):=by rw [<-e2,KC];rfl
   refine ⟨p,zs,rfl,by rw [<-e1];exact hs,e3,by rw [ek];exact nd,fun us pu pw l hl=>?_⟩;have pw2:((us.map (·.2.2)).map (·.1)).Pairwise (· < ·):=by rw [KC];exact pw
   have q:=m (us.map (·.2.2)) (by rw [<-e2];exact pu.map _) pw2;refine k _ _ ⟨μ,_,h,(Ex.laid hl).ext,R.laid hl,?_,q⟩;refine .lstNew R hl ?_;have go:∀ zz:List Pr,(∀ z∈zz,z∈zs)->aM X.K H μ ((zz.map (·.2.2)).map Qt) (zz.map fun y=>V.ref y.1):=fun zz hz=>by
    induction zz with
    | nil=>exact .nil
    | cons z zz ih=>
     refine aM.cons ?_<|ih fun y hy=>hz y<|Jo _ hy
     obtain ⟨g1,g2⟩:=e3 z (hz z KD);unfold Qt;rw [CK];refine ⟨z.1,_,rfl,g1,aM.cons ?_<|aM.one<|by rw [CK]⟩;rw [CK];exact ⟨z.2.1,_,rfl,g2,jx _⟩
   exact go us fun z hz=>pu.mem_iff.mp hz
  ·exact m.elim
 ·exact m.elim⟩
theorem oF:∀ {ns:List Int} {vs:List Mk},CR (ns.map V.int) vs->N6 vs ns
 | [],vs,h=>by cases h;exact .nil
 | n::ns,vs,h=>by
  cases h with
  | cons r h=>
   obtain ⟨t,rfl⟩:=r;exact .cons _ _<|oF h
theorem oH:∀ {ns:List Int} {vs:List Mk},N6 vs ns->CR (ns.map V.int) vs
 | _,_,.nil=>.nil
 | _,_,.cons _ _ h=>.cons ⟨_,rfl⟩ (oH h)
theorem zap:fX X (.builtin "sorted") (fun vs H Q=>∃ a ns,vs=[.ref a]/\Jy X.K H a ((ns:List Int).map V.int)/\ns.length<64 /\
  ∀ ms:List Int,ms.Perm ns->ms.Pairwise (·<=·)->∀ l,H l=FX->Q (.ref l) (FQ H l (.lst (ms.map V.int)))):=by
 intro ajd s Z H vs us Q I r ⟨a,ns,ev,hx,h64,q⟩;subst ev;obtain ⟨u,rfl,ru⟩:=vals1 r;cases ru;obtain ⟨its,rv,pl,z⟩:=I.list hx;have hI:=oF rv;refine sorted_ints pl.isList hI (by rw [IntsAre.length hI];exact h64) fun out ms a1 a2 a3=>?_;obtain ⟨e,he⟩:=sortedAll_at s.heap its out;have hl:s.heap.objs.size<=s.heap.objs.size+1:=QX _;refine ⟨.ref<|s.heap.objs.size+1,_,I.laid (t':=s.toks) (fun _ _=>sortedAll_old) hl<|show eE X.prog X.w _ _ _ (.lst<|ms.map V.int) from ⟨by rw [DX,a2.length_eq];exact Dk (Lx h64) (by decide),out.toList,e,oH a1,by simpa using he⟩,rfl,q ms a2 a3 _<|I.hok.fresh hl⟩
def Bm:MC:=fun ws h Q=>match ws with
 | [w]=>(match dM h w with
  | some us=>∃ ns:List Int,us=ns.map .int/\ns.length<64/\∀ ms:List Int,ms.Perm ns->ms.Pairwise (·<=·)->Q (.lst (ms.map .int)) h
  | none=>False)
 | _=>False
theorem Ga:fG X (.builtin "sorted") Bm:=⟨_,zap,by
 intro H μ h vs ws Qw Q R r m k;unfold Bm at m;split at m
 ·split at m
  ·rename_i w us ev;obtain ⟨v,e,rv⟩:=jk r;obtain ⟨p,ys,ex,hs,rs⟩:=cR R rv ev;obtain ⟨ns,eu,h64,m⟩:=m;subst e ex;rw [eu] at rs;rw [pN rs] at hs;refine ⟨p,ns,rfl,hs,h64,fun ms pm pw l hl=>?_⟩;refine k _ _ ⟨μ,_,h,(Ex.laid hl).ext,R.laid hl,?_,m ms pm pw⟩;exact .lstNew R hl<|jx _
  ·exact m.elim
 ·exact m.elim⟩
end
def Fk (P:Ei)(w:Dq)(K:CT)(mg:Str->Option Mk)(base:Heap)(k:Nat)(x:Str)(ms:CP):Prop:=∃ f fd ps,rK P w K mg base NT k f fd ps (lift K ms)/\mg x=FN (.ref f)/\Rp K (.ref f)=true/\Binds K fd ps []
def At (K:CT)(mg:Str->Option Mk)(x:Str)(st:Stmt)(ps:List Str):Prop:=∃ f fd,TQ K x x st f fd/\mg x=FN (.ref f)/\Binds K fd ps []
section
variable {X:Cx}{e e3 e4:Expr}{es:List Expr}{mc md:ME}{pos:Pos}{k:Nat}{zl:List Str}{x:Str}{p:Pos}
theorem vV (i:Nat)(hN:X.N[i]?=FN x:=by with_unfolding_all rfl)(hv:Vis X.env.scope x:=by with_unfolding_all first | exact Or.inl rfl | exact Or.inr (Or.inl rfl) | exact Or.inr (Or.inr rfl))(hd:(x==("__debug__" : Str))=false:=by decide)(hcd:(x==("__classdict__" : Str))=false:=by decide):DE X (.Name x pos) (aA i):=dv i (pv i hN hv hd hcd)
theorem aC (h1:DE X e ma)(h2:Kq X es mr)(s:Fw e=false:=by with_unfolding_all rfl):Kq X (e::es) (ao ma mr):=zby h1 h2 (bU s)
theorem a1 (h1:DE X e ma)(s:Fw e=false:=by with_unfolding_all rfl):Kq X [e] (ao ma aJ):=aC h1 jX s
theorem a2 (h1:DE X e ma)(h2:DE X e2 mb)(s1:Fw e=false:=by with_unfolding_all rfl)(s2:Fw e2=false:=by with_unfolding_all rfl):Kq X [e,e2] (ao ma (ao mb aJ)):=aC h1 (a1 h2 s2) s1
theorem a3 (h1:DE X e ma)(h2:DE X e2 mb)(h3:DE X e3 mc)(s1:Fw e=false:=by with_unfolding_all rfl)(s2:Fw e2=false:=by with_unfolding_all rfl)(s3:Fw e3=false:=by with_unfolding_all rfl):Kq X [e,e2,e3] (ao ma (ao mb (ao mc aJ))):=aC h1 (a2 h2 h3 s2 s3) s1
theorem Dd {j:Nat}(F:Fk X.prog X.w X.K X.mg X.base j x ms)(ha:Kq X (e::es) mr)(hr:o7 k X.A:=by with_unfolding_all assumption)(hk:j<=k:=by decide)(hg:Gl X x:=by with_unfolding_all rfl)(hdb:(x==("__debug__" : Str))=false:=by decide)(h1:Fw e=false:=by with_unfolding_all rfl)(h2:noStar es=true:=by with_unfolding_all rfl):
  DE X (.Call (.Name x p) (e::es) [] pos) (aL ms EF mr):=by
 obtain ⟨f,fd,ps,a,b,c,d⟩:=F;exact agM (a.mono hk) hr hg b c d ha hdb (bU h1)<|d7 h2
theorem HY {id:String}{mc:MC}(hc:fG X (.builtin id) mc)(hv:Rf x=FN (.builtin id))(ha:Kq X (e::es) mr)(z:∀ n∈zl,X.mg n=FX:=by with_unfolding_all assumption)(hz:x∈zl:=by decide)(hg:Gl X x:=by with_unfolding_all rfl)(hn:x ≠ "__name__":=by decide)(hdb:(x==("__debug__" : Str))=false:=by decide)
  (h1:Fw e=false:=by with_unfolding_all rfl) (h2:noStar es=true:=by with_unfolding_all rfl):DE X (.Call (.Name x p) (e::es) [] pos) (Eu mc mr):=afN hc hg (z _ hz) hv ha hn hdb (bU h1) (d7 h2)
theorem dct {T:String}{mc:MC}(hc:fG X (.type T) mc)(hv:Rf x=FN (.type T))(ha:Kq X (e::es) mr)(z:∀ n∈zl,X.mg n=FX:=by with_unfolding_all assumption)(hz:x∈zl:=by decide)(hg:Gl X x:=by with_unfolding_all rfl)(hn:x ≠ "__name__":=by decide)(hdb:(x==("__debug__" : Str))=false:=by decide)
  (h1:Fw e=false:=by with_unfolding_all rfl) (h2:noStar es=true:=by with_unfolding_all rfl):DE X (.Call (.Name x p) (e::es) [] pos) (Eu mc mr):=afI hc hg (z _ hz) hv ha hn hdb (bU h1) (d7 h2)
theorem Gd (i:Nat){pos':Pos}(he:DE X e ma)(hN:X.N.Nodup:=by with_unfolding_all assumption)(hi:X.N[i]?=FN x:=by with_unfolding_all rfl)(hx:Loc X.env.scope x:=by with_unfolding_all first | exact Or.inl rfl | exact Or.inr rfl)(hs:swapsWith e (FN (.Name x pos')) pos.line X.env=pure false:=by with_unfolding_all rfl)
  (hf:X.fn x=true\/X.env.scope.names.lookup x=FN .local:=by with_unfolding_all first | exact .inl rfl | exact .inr rfl):DS X (.Assign [.Name x pos'] e pos) (bY ma (kI i)):=ahJ hN hi hx he hs hf
theorem Hs (i:Nat)(hN:X.N.Nodup:=by with_unfolding_all assumption)(hi:X.N[i]?=FN x:=by with_unfolding_all rfl)(hx:Loc X.env.scope x:=by with_unfolding_all first | exact Or.inl rfl | exact Or.inr rfl)(hf:X.fn x=true\/X.env.scope.names.lookup x=FN .local:=by with_unfolding_all first | exact .inl rfl | exact .inr rfl):DG X (.Name x pos) (kI i):=agq (uf hN hi hx hf)
theorem DK {a b:Expr}(ha:DE X a ma)(hb:DE X b mb)(hs:yh b:=by with_unfolding_all (intro _ _;rfl)):DE X (.Subscript a b pos) (CG Cw ma mb):=acs ha hb hs
theorem HX {a b:Expr}{op:CmpOp}{m2:M2}(ho:Lf X (Ku op) m2)(ha:DE X a ma)(hb:DE X b mb)(hm:Tn op b=false:=by with_unfolding_all first | exact Oi _ | rfl):DT X (.Compare a [op] [b] pos) (bG (CG m2 ma mb)):=ahv ho ha hb hm
theorem cce {a b:Expr}{op:CmpOp}{m2:M2}(ho:Lf X (Ku op) m2)(ha:DE X a ma)(hb:DE X b mb)(hm:Tn op b=false:=by with_unfolding_all first | exact Oi _ | rfl):DE X (.Compare a [op] [b] pos) (CG m2 ma mb):=Zr ho ha hb hm
theorem dl1 {scope:Scope}{iter:Expr}(ix:List Nat)(hi:RM X (.Name x p) iter mi)(ht:∀ C s H fp,Vf (blk X scope (iI X [x] ix) C s H fp) ifs tt)(he:∀ C s H fp,DE (blk X scope (iI X [x] ix) C s H fp) elt te)(B:jc X scope [x] ix:=by with_unfolding_all exact dD rfl)(hc:X.calm=true:=by with_unfolding_all assumption)
  (hs:∀ v,Tj iter X.env v=pure v:=by with_unfolding_all (intro _;rfl)):DE X (.ListComp elt [⟨.Name x p,iter,ifs,0⟩] scope pos) (Hi Ib ix mi tt te):=aam ix hc B vK (vG B) hi ht he hs
theorem Nf {scope:Scope}{iter:Expr}(ix:List Nat)(hi:RM X (.Name x p) iter mi)(he:∀ C s H fp,DE (blk X scope (iI X [x] ix) C s H fp) elt te)(B:jc X scope [x] ix:=by with_unfolding_all exact dD rfl)(hc:X.calm=true:=by with_unfolding_all assumption)
  (hs:∀ v,Tj iter X.env v=pure v:=by with_unfolding_all (intro _;rfl)):DE X (.ListComp elt [⟨.Name x p,iter,[],0⟩] scope pos) (Hi Ib ix mi jG te):=dl1 ix hi (fun _ _ _ _=>j7) he B hc hs
theorem qq (hr:o7 k X.A:=by with_unfolding_all assumption):X.A.units+30<JQ:=acF hr
theorem hh (hc:X.calm=true:=by with_unfolding_all assumption):X.calm=true:=hc
theorem Nu {a:Expr}{tg:Expr}(ha:Kq X [a] mr)(z:∀ n∈zl,X.mg n=FX:=by with_unfolding_all assumption)(hz:("range" : Str)∈zl:=by decide)(hg:Gl X "range":=by with_unfolding_all rfl)(hs:Fw a=false:=by with_unfolding_all rfl):RM X tg (.Call (.Name "range" p) [a] [] pos) (fK mr):=zax hg (z _ hz) ha (Pz hs)
end
theorem fk {P:Ei}{w:Dq}{K:CT}{mg:Str->Option Mk}{base:Heap}{x:Str}{st:Stmt}{ps zl:List Str}(N:List Str){k:Nat}{pure:Bool}{body:Dm->MS}(T:At K mg x st ps)(z:∀ n∈zl,mg n=FX)
  (hb:∀ (f:Addr) (cdv:Mk) (A:FZ) (outer:List Env) (s:AP) (H:Hp) (E:XK),o7 k (A.deeper (envOfC x (bT st) s.heap.objs.size f cdv))->N.Nodup->(Mq NT P w K mg base N x (bT st) f cdv A outer s H E).nox.calm=true->(∀ n∈zl,mg n=FX)->S8 (Mq NT P w K mg base N x (bT st) f cdv A outer s H E).nox (iG st) (body EF))
  (S:mV N ps (bT st):=by exact ⟨rfl,rfl,rfl,by decide +kernel,rfl,by decide +kernel,by decide +kernel⟩) (hk:9<=k:=by decide):Fk P w K mg base (k+1) x (Gi ps.length N.length pure body):=by
 obtain ⟨f,fd,F,m,b⟩:=T;exact ⟨f,fd,ps,ab3 F S fun cdv A outer s H E hr=>hb f cdv A outer s H E hr S.nd (hr.calm hk) z,m,F.kp,b⟩
section
variable {X:Cx}{e:Expr}
end
section
variable {X:Cx}{o:Expr}{mo:ME}{ma:MA}{apos ajf:Pos}
end
section
variable {X:Cx}
end
section
variable {prog:Ei}{w:Dq}{A:FZ}{E:Mk->AP->Prop}{s:AP}
end
section
variable {X:Cx}{K:CT}
end
section
variable {X:Cx}{c:Expr}{t:MT}
end
end L2
namespace My
open PySem L2 PyProof.Rows
def nZ:List (Key×W):=[(.inr "free",(.str "spot")),(.inr "join",(.str "line")),(.inr "meet",(.str "spot")),(.inr "curve",(.str "curve")),(.inr "about",(.str "line")),(.inr "pole",(.str "spot")),(.inr "other",(.str "spot"))]
def top (i:Nat):Stmt:=PySem.Challenge.pw_easelroom_k72_ties_and_claims_at_numbers.main.body.getD i (.Pass ⟨0,0,0,0⟩)
abbrev Rm:Stmt:=top 58
def sO (E:Dm):MS:=
  (cC (aA 2))
def vq:CP:=Gi 2 7 true fun E=>
  (bD (bY (fW (ao (iR aJ) aJ)) (kI 2))
  (bD (lD (fK (ao (aA 1) aJ)) (kI 3) (bD (bY (rF aJ) (kI 4))
  (bD (lD (Hr (aA 2)) (kI 5) (bD (bY (mIf (bG (CG Nz (aA 3) (mC (.int 0)))) (CG dB (CG Cw (aA 5) (CG xW (aA 3) (mC (.int 1)))) (mC (.int 1))) (mC (.int 0))) (kI 6))
  (oV (Cq jh (aA 4) (ao (Hi Ib [5] (GQ (ao (aA 6) (ao (aA 0) aJ))) jG (CG dB (aA 1) (iR (ao (aA 0) aJ)))) aJ)))))
  (bY (aA 4) (kI 2)))))
  (sO E)))
def Bt:CP:=vq
def qx:CP:=Gi 2 2 false fun E=>
  (cC (Za nZ (CG Cw (CG Cw (aA 0) (aA 1)) (mC (.int 0)))))
def wN:CP:=qx
def dU (E:Dm):MS:=
  (cC (aA 1))
def cP:CP:=Gi 1 2 false fun E=>
  (bD (bY (Eu dO (ao (Hi Ib [0] (Hr (Eu BL (ao (aA 0) aJ))) (bG (CG MN (CG Ti (aA 1) (aA 0)) (mC (.int 0)))) (iR (ao (aA 0) (ao (CG Ti (aA 1) (aA 0)) aJ)))) aJ)) (kI 1))
  (bD (iY (bG (CG Nz (Eu Gb (ao (aA 1) aJ)) (mC (.int 600)))) (vP "TooMuch" E) cH)
  (dU E)))
def fV:CP:=cP
def jR (aiE:CP)(E:Dm):MS:=
  (cC (aL aiE E (ao (aA 3) aJ)))
def jf (aiE:CP):CP:=Gi 3 6 true fun E=>
  (bD (bY (Eu Bq (ao (aA 0) aJ)) (kI 3))
  (bD (lD (Hr (aA 1)) (jr 2 (cX (kI 4) (cX (kI 5) Ag))) (bY (CG dB (aaj JF (aA 3) (ao (aA 4) (ao (mC (.int 0)) aJ))) (CG oh (aA 2) (aA 5))) (En (aA 3) (aA 4) JM)))
  (jR aiE E)))
def gk:CP:=jf fV
def JK (aiY:CP):CP:=Gi 2 2 false fun E=>
  (cC (aL aiY E (ao (aA 0) (ao (aA 1) (ao (mC (.int 1)) aJ)))))
def wM:CP:=JK gk
def yj (aiY:CP):CP:=Gi 2 2 false fun E=>
  (cC (aL aiY E (ao (aA 0) (ao (aA 1) (ao (mUn Zi (mC (.int 1))) aJ)))))
def yX:CP:=yj gk
def rW (E:Dm):MS:=
  (cC (aA 1))
def uJ:CP:=Gi 1 3 false fun E=>
  (bD (bY (mC (.int 0)) (kI 1))
  (bD (lD (Hr (aA 0)) (kI 2) (bY (CG dB (CG oh (aA 1) (mC (.int 65536))) (aA 2)) (kI 1)))
  (rW E)))
def zV:CP:=uJ
def oM (E:Dm):MS:=
  (cC (yD (aA 2)))
def nP:CP:=Gi 2 4 true fun E=>
  (bD (bY (rF aJ) (kI 2))
  (bD (lD (fK (ao (aA 1) aJ)) (kI 3) (bD (oV (Cq eN (aA 2) (ao (CG Hf (aA 0) (mC (.int 65536))) aJ)))
  (bY (CG Kv (aA 0) (mC (.int 65536))) (kI 0))))
  (oM E)))
def rT:CP:=nP
def gD (aiI:CP):CP:=Gi 1 1 false fun E=>
  (cC (Hi (owT 2) [] (Hr (aA 0)) jG (iR (ao (aL aiI E (ao (aA 0) aJ)) (ao (aA 1) aJ)))))
def jO:CP:=gD zV
def gB:CP:=Gi 1 3 false fun E=>
  (lD (Hr (aA 0)) (jr 2 (cX (kI 1) (cX (kI 2) Ag))) (iY (yZ (Eu YF (ao (Hi Ib [] (Hr (aA 1)) jG (CG Nz (aA 0) (mC (.int 60)))) aJ))) (vP "TooMuch" E) cH))
def jY:CP:=gB
def wO (aiE aiS aiQ aiT:CP)(E:Dm):MS:=
  (bD (bY (mIf (yZ (aA 0)) (Eu Gb (ao (CG Cw (CG Cw (aA 0) (mC (.int 0))) (mC (.int 0))) aJ)) (mC (.int 0))) (kI 9))
  (bD (bY (aL aiE E (ao (aA 2) aJ)) (kI 10))
  (bD (bY (Eu dO (ao (Hi (owT 2) [9] (Hr (aA 10)) jG (iR (ao (aL aiS E (ao (aA 0) (ao (aA 2) aJ))) (ao (aA 1) aJ)))) aJ)) (kI 11))
  (bD (oV (aL aiT E (ao (aA 11) aJ)))
  (cC (aA 11))))))
def wL (aiE aiS aiQ aiT:CP)(E:Dm):MS:=
  (bD (bY Uh (kI 2))
  (bD (bY (aL aiQ E (ao (aA 1) aJ)) (kI 3))
  (bD (lD (Hr (aL aiQ E (ao (aA 0) aJ))) (jr 2 (cX (kI 4) (cX (kI 5) Ag))) (lD (Hr (aA 3)) (jr 2 (cX (kI 6) (cX (kI 7) Ag))) (bD (bY (CG dB (aA 4) (aA 6)) (kI 8))
  (bY (CG dB (aav Km (aA 2) (ao (aA 8) (ao (mC (.int 0)) aJ))) (CG oh (aA 5) (aA 7))) (En (aA 2) (aA 8) qD)))))
  (wO aiE aiS aiQ aiT E))))
def yH (aiE aiS aiQ aiT:CP):CP:=Gi 2 12 true fun E=>
  (bD (iY (bG (CG Nz (CG oh (Eu Gb (ao (aA 0) aJ)) (Eu Gb (ao (aA 1) aJ))) (mC (.int 20000)))) (vP "TooMuch" E) cH)
  (wL aiE aiS aiQ aiT E))
def tY:CP:=yH fV rT jO jY
def gC (ajc aiR:CP):CP:=Gi 4 4 false fun E=>
  (cC (aL ajc E (ao (aL aiR E (ao (CG Cw (aA 0) (aA 2)) (ao (CG Cw (aA 1) (aA 3)) aJ))) (ao (aL aiR E (ao (CG Cw (aA 0) (aA 3)) (ao (CG Cw (aA 1) (aA 2)) aJ))) aJ))))
def d8:CP:=gC yX tY
def j9 (aiO:CP):CP:=Gi 2 2 false fun E=>
  (cC (iR (ao (aL aiO E (ao (aA 0) (ao (aA 1) (ao (mC (.int 1)) (ao (mC (.int 2)) aJ))))) (ao (aL aiO E (ao (aA 0) (ao (aA 1) (ao (mC (.int 2)) (ao (mC (.int 0)) aJ))))) (ao (aL aiO E (ao (aA 0) (ao (aA 1) (ao (mC (.int 0)) (ao (mC (.int 1)) aJ))))) aJ)))))
def fD:CP:=j9 d8
def pY (aiU aiR:CP)(E:Dm):MS:=
  (cC (aA 2))
def qQ (aiU aiR:CP):CP:=Gi 2 5 false fun E=>
  (bD (bY (iR aJ) (kI 2))
  (bD (lD (Zb (ao (aA 0) (ao (aA 1) aJ))) (jr 2 (cX (kI 3) (cX (kI 4) Ag))) (bY (aL aiU E (ao (aA 2) (ao (aL aiR E (ao (aA 3) (ao (aA 4) aJ))) aJ))) (kI 2)))
  (pY aiU aiR E)))
def gP:CP:=qQ wM tY
def nO (aiC aiD:CP):CP:=Gi 3 3 false fun E=>
  (cC (aL aiD E (ao (aL aiC E (ao (aA 0) (ao (aA 1) aJ))) (ao (aA 2) aJ))))
def jJ:CP:=nO fD gP
def qp (aiU:CP):CP:=Gi 1 1 false fun E=>
  (cC (aL aiU E (ao (aA 0) (ao (aA 0) aJ))))
def vQ:CP:=qp wM
def lE (aiZ:CP):CP:=Gi 1 1 false fun E=>
  (cC (iR (ao (iR (ao (aL aiZ E (ao (CG Cw (aA 0) (mC (.int 0))) aJ)) (ao (CG Cw (aA 0) (mC (.int 1))) (ao (CG Cw (aA 0) (mC (.int 3))) aJ)))) (ao (iR (ao (CG Cw (aA 0) (mC (.int 1))) (ao (aL aiZ E (ao (CG Cw (aA 0) (mC (.int 2))) aJ)) (ao (CG Cw (aA 0) (mC (.int 4))) aJ)))) (ao (iR (ao (CG Cw (aA 0) (mC (.int 3))) (ao (CG Cw (aA 0) (mC (.int 4))) (ao (aL aiZ E (ao (CG Cw (aA 0) (mC (.int 5))) aJ)) aJ)))) aJ)))))
def fL:CP:=lE vQ
def iz (aiC:CP):CP:=Gi 1 1 false fun E=>
  (cC (iR (ao (aL aiC E (ao (CG Cw (aA 0) (mC (.int 1))) (ao (CG Cw (aA 0) (mC (.int 2))) aJ))) (ao (aL aiC E (ao (CG Cw (aA 0) (mC (.int 2))) (ao (CG Cw (aA 0) (mC (.int 0))) aJ))) (ao (aL aiC E (ao (CG Cw (aA 0) (mC (.int 0))) (ao (CG Cw (aA 0) (mC (.int 1))) aJ))) aJ)))))
def lY:CP:=iz fD
def jA (aiD:CP):CP:=Gi 2 2 false fun E=>
  (cC (Eu dO (ao (Hi Ib [1] (Hr (aA 0)) jG (aL aiD E (ao (aA 0) (ao (aA 1) aJ)))) aJ)))
def iZ:CP:=jA gP
def cW (aiD ajb:CP):CP:=Gi 3 3 false fun E=>
  (cC (aL aiD E (ao (aA 1) (ao (aL ajb E (ao (aA 0) (ao (aA 2) aJ))) aJ))))
def bM:CP:=cW gP iZ
def kJ (aiA:CP):CP:=Gi 1 1 false fun E=>
  (cC (aL aiA E (ao (CG Cw (aA 0) (mC (.int 0))) (ao (CG Cw (aA 0) (mC (.int 1))) (ao (CG Cw (aA 0) (mC (.int 2))) aJ)))))
def qJ:CP:=kJ jJ
def Ri (aip ait:CP):CP:=Gi 3 4 false fun E=>
  (bD (bY (CG Cw (aA 1) (CG Cw (CG Cw (aA 0) (aA 2)) (mC (.int 2)))) (kI 3))
  (cC (aL ait E (ao (aL aip E (ao (CG Cw (aA 1) (CG Cw (CG Cw (aA 0) (aA 2)) (mC (.int 1)))) aJ)) (ao (aA 3) (ao (aA 3) aJ))))))
def Yh:CP:=Ri fL bM
def mF (aiW aiO aiC:CP)(E:Dm):MS:=
  (cC (Hi Ib [0,1] (Hr (aL aiW E (ao (Eu Gb (ao (aA 0) aJ)) (ao (mC (.int 2)) aJ)))) jG (aL aiO E (ao (aA 1) (ao (aA 2) (ao (CG Cw (aA 0) (mC (.int 0))) (ao (CG Cw (aA 0) (mC (.int 1))) aJ)))))))
def kY (aiW aiO aiC:CP):CP:=Gi 2 2 false fun E=>
  (bD (iY (bG (CG Jd (Eu Gb (ao (aA 0) aJ)) (mC (.int 3)))) (cC (Eu o8 (ao (aL aiC E (ao (aA 0) (ao (aA 1) aJ))) aJ))) cH)
  (mF aiW aiO aiC E))
def qW:CP:=kY Bt d8 fD
def sZ (aja aiD aip ait:CP)(E:Dm):MS:=
  (cC (aL ait E (ao (aL aip E (ao (CG Cw (aA 2) (mC (.int 1))) aJ)) (ao (CG Cw (aA 2) (mC (.int 0))) (ao (CG Cw (aA 2) (mC (.int 0))) aJ)))))
def uY (aja aiD aip ait:CP):CP:=Gi 3 3 false fun E=>
  (bD (iY (bG (CG Jd (aL aja E (ao (aA 0) (ao (CG Cw (aA 1) (mC (.int 2))) aJ))) (mC (.str "line")))) (cC (aL aiD E (ao (CG Cw (aA 2) (mC (.int 0))) (ao (CG Cw (aA 2) (mC (.int 1))) aJ)))) cH)
  (sZ aja aiD aip ait E))
def zY:CP:=uY wN gP fL bM
def j4 (aiA aip aiF ait aiG aiH aiB:CP)(E:Dm):MS:=
  (cC (fW (ao (aL aiA E (ao (CG Cw (aA 3) (mC (.int 0))) (ao (CG Cw (aA 3) (mC (.int 1))) (ao (CG Cw (aA 3) (mC (.int 2))) aJ)))) aJ)))
def gJ (aiA aip aiF ait aiG aiH aiB:CP)(E:Dm):MS:=
  (bD (iY (bG (CG Jd (CG Cw (aA 2) (mC (.int 0))) (mC (.str "parted")))) (cC (fW (ao (aL aiG E (ao (aL aip E (ao (CG Cw (aA 3) (mC (.int 0))) aJ)) aJ)) aJ))) cH)
  (j4 aiA aip aiF ait aiG aiH aiB E))
def dZ (aiA aip aiF ait aiG aiH aiB:CP)(E:Dm):MS:=
  (bD (iY (bG (CG Jd (CG Cw (aA 2) (mC (.int 0))) (mC (.str "touch")))) (cC (fW (ao (aL ait E (ao (aL aiF E (ao (aL aip E (ao (CG Cw (aA 3) (mC (.int 1))) aJ)) aJ)) (ao (CG Cw (aA 3) (mC (.int 0))) (ao (CG Cw (aA 3) (mC (.int 0))) aJ)))) aJ))) cH)
  (gJ aiA aip aiF ait aiG aiH aiB E))
def cF (aiA aip aiF ait aiG aiH aiB:CP)(E:Dm):MS:=
  (bD (iY (bG (CG Jd (CG Cw (aA 2) (mC (.int 0))) (mC (.str "on")))) (cC (fW (ao (aL aiB E (ao (aA 0) (ao (aA 2) (ao (aA 3) aJ)))) aJ))) cH)
  (dZ aiA aip aiF ait aiG aiH aiB E))
def jj (aiA aip aiF ait aiG aiH aiB:CP):CP:=Gi 3 4 false fun E=>
  (bD (bY (Hi Ib [1] (Hr (mSl YK (aA 2) (Fb (mC (.int 1))) p8)) jG (CG Cw (aA 1) (aA 0))) (kI 3))
  (bD (iY (bG (CG Jd (CG Cw (aA 2) (mC (.int 0))) (mC (.str "same")))) (cC (aL aiH E (ao (CG Cw (aA 3) (mC (.int 0))) (ao (CG Cw (aA 3) (mC (.int 1))) aJ)))) cH)
  (cF aiA aip aiF ait aiG aiH aiB E)))
def jt:CP:=jj jJ fL lY bM qJ qW zY
def adq (E:Dm):MS:=
  (cC (mC (.int 0)))
def Bs:CP:=Gi 2 2 false fun E=>
  (bD (iY (bG (CG kLt (aA 1) (Eu Gb (ao (aA 0) aJ)))) (cC (CG Cw (aA 0) (aA 1))) cH)
  (adq E))
def uW:CP:=Bs
def JC:CP:=Gi 1 1 false fun E=>
  (cC (rF (ao (CG CJ (Eu yL (ao (aA 0) aJ)) (Eu Np (ao (CG kGe (Eu yL (ao (aA 0) aJ)) (CG W8 (mC (.int 10)) (mC (.int 18)))) aJ))) (ao (CG Hf (Eu yL (ao (aA 0) aJ)) (mC (.int 2147483647))) aJ))))
def xX:CP:=JC
def adu (E:Dm):MS:=
  (bD (bY (CG Hf (CG dB (CG oh (CG Cw (aA 0) (mC (.int 1))) (mC (.int 48271))) (mC (.int 11))) (mC (.int 2147483647))) (En (aA 0) (mC (.int 1)) Mj))
  (cC (CG Hf (CG Kv (CG Hf (CG oh (CG Cw (aA 0) (mC (.int 1))) (CG dB (CG Kv (CG Cw (aA 0) (mC (.int 1))) (mC (.int 65536))) (mC (.int 7)))) (mC (.int 2147483629))) (mC (.int 32))) (aA 1))))
def z9:CP:=Gi 2 3 false fun E=>
  (bD (iY (bG (CG Nz (CG Cw (aA 0) (mC (.int 0))) (mC (.int 0)))) (bD (bY (CG Hf (CG Cw (aA 0) (mC (.int 0))) (aA 1)) (kI 2))
  (bD (bY (CG Kv (CG Cw (aA 0) (mC (.int 0))) (aA 1)) (En (aA 0) (mC (.int 0)) Mj))
  (cC (aA 2)))) cH)
  (adu E))
def g8:CP:=z9
def Ah:CP:=Gi 1 2 false fun E=>
  (bD (bY (Ii [(.inr "free",(fW aJ)),(.inr "join",(fW (ao (mC (.str "spot")) (ao (mC (.str "spot")) aJ)))),(.inr "meet",(fW (ao (mC (.str "line")) (ao (mC (.str "line")) aJ)))),(.inr "about",(fW (ao (mC (.str "curve")) (ao (mC (.str "spot")) aJ))))]) (kI 1))
  (bD (bY (fW (ao (mC (.str "spot")) (ao (mC (.str "spot")) (ao (mC (.str "spot")) (ao (mC (.str "spot")) (ao (mC (.str "spot")) aJ)))))) (En (aA 1) (mC (.str "curve")) qD))
  (bD (bY (fW (ao (mC (.str "curve")) (ao (mC (.str "line")) aJ))) (En (aA 1) (mC (.str "pole")) qD))
  (bD (bY (fW (ao (mC (.str "curve")) (ao (mC (.str "spot")) (ao (mC (.str "spot")) aJ)))) (En (aA 1) (mC (.str "other")) qD))
  (cC (CG Mw (aA 1) (aA 0)))))))
def zT:CP:=Ah
def rY (E:Dm):MS:=
  (cC (CG Cw (fW (ao (mC (.str "spot")) (ao (mC (.str "curve")) aJ))) (Eu Np (ao (CG Jd (CG Cw (aA 0) (mC (.int 0))) (mC (.str "curve"))) aJ))))
def vA:CP:=Gi 1 1 false fun E=>
  (bD (iY (Nr (bG (CG Jd (CG Cw (aA 0) (mC (.int 0))) (mC (.str "join")))) (bG (CG Jd (CG Cw (aA 0) (mC (.int 0))) (mC (.str "about"))))) (cC (mC (.str "line"))) cH)
  (rY E))
def lO:CP:=vA
def uG (aij aiv:CP):CP:=Gi 3 4 false fun E=>
  (bD (bY (Hi Ib [1,2] (fK (ao (Eu Gb (ao (aA 1) aJ)) aJ)) (bG (CG Jd (aL aiv E (ao (CG Cw (aA 1) (aA 0)) aJ)) (aA 2))) (aA 0)) (kI 3))
  (cC (CG Cw (aA 3) (aL aij E (ao (aA 0) (ao (Eu Gb (ao (aA 3) aJ)) aJ))))))
def pB:CP:=uG g8 lO
def pZ (aij aiV aiv aiK:CP)(E:Dm):MS:=
  (cC (Eu dO (ao (CG dB (fW (ao (aA 5) aJ)) (Hi Ib [0,1] (Hr (aL aiV E (ao (aA 5) aJ))) jG (aL aiK E (ao (aA 1) (ao (aA 2) (ao (aA 0) aJ)))))) aJ)))
def yM (aij aiV aiv aiK:CP):CP:=Gi 3 7 false fun E=>
  (bD (bY (Hi Ib [] (Hr (aA 1)) jG (aL aiv E (ao (aA 0) aJ))) (kI 3))
  (bD (bY (fW (ao (mC (.str "join")) (ao (mC (.str "meet")) (ao (mC (.str "curve")) (ao (mC (.str "about")) (ao (mC (.str "pole")) (ao (mC (.str "other")) (ao (mC (.str "join")) (ao (mC (.str "meet")) (ao (mC (.str "join")) (ao (mC (.str "meet")) aJ))))))))))) (kI 4))
  (bD (bY (CG Cw (aA 4) (aL aij E (ao (aA 0) (ao (mC (.int 10)) aJ)))) (kI 5))
  (bD (bY (Hi Ib [3] (Hr (aL aiV E (ao (aA 5) aJ))) (bG (CG zE (aA 0) (aA 1))) (aA 0)) (kI 6))
  (bD (iY (Nr (bG (CG kLt (Eu Gb (ao (aA 1) aJ)) (aA 2))) (bG (CG Nz (Eu Gb (ao (aA 6) aJ)) (mC (.int 0))))) (bY (CG Cw (fW (ao (mC (.str "join")) (ao (mC (.str "free")) aJ))) (Eu Np (ao (CG kLt (Eu Gb (ao (aA 1) aJ)) (aA 2)) aJ))) (kI 5)) cH)
  (pZ aij aiV aiv aiK E))))))
def Hh:CP:=yM g8 zT lO pB
def qC:CP:=Gi 2 8 false fun E=>
  (bD (bY (aA 0) (jr 3 (cX (kI 2) (cX (kI 3) (cX (kI 4) Ag)))))
  (bD (bY (aA 1) (jr 3 (cX (kI 5) (cX (kI 6) (cX (kI 7) Ag)))))
  (cC (iR (ao (CG xW (CG oh (aA 3) (aA 7)) (CG oh (aA 4) (aA 6))) (ao (CG xW (CG oh (aA 4) (aA 5)) (CG oh (aA 2) (aA 7))) (ao (CG xW (CG oh (aA 2) (aA 6)) (CG oh (aA 3) (aA 5))) aJ)))))))
def p7:CP:=qC
def zj:CP:=Gi 2 2 false fun E=>
  (cC (CG dB (CG dB (CG oh (CG Cw (aA 0) (mC (.int 0))) (CG Cw (aA 1) (mC (.int 0)))) (CG oh (CG Cw (aA 0) (mC (.int 1))) (CG Cw (aA 1) (mC (.int 1))))) (CG oh (CG Cw (aA 0) (mC (.int 2))) (CG Cw (aA 1) (mC (.int 2))))))
def q9:CP:=zj
def uq (air aik:CP):CP:=Gi 3 3 false fun E=>
  (cC (aL aik E (ao (aL air E (ao (aA 0) (ao (aA 1) aJ))) (ao (aA 2) aJ))))
def Cj:CP:=uq p7 q9
def lq:CP:=Gi 1 7 false fun E=>
  (bD (bY (aA 0) (jr 6 (cX (kI 1) (cX (kI 2) (cX (kI 3) (cX (kI 4) (cX (kI 5) (cX (kI 6) Ag))))))))
  (cC (fW (ao (iR (ao (CG oh (mC (.int 2)) (aA 1)) (ao (aA 2) (ao (aA 4) aJ)))) (ao (iR (ao (aA 2) (ao (CG oh (mC (.int 2)) (aA 3)) (ao (aA 5) aJ)))) (ao (iR (ao (aA 4) (ao (aA 5) (ao (CG oh (mC (.int 2)) (aA 6)) aJ)))) aJ))))))
def j8:CP:=lq
def qI (aik aix:CP):CP:=Gi 2 2 false fun E=>
  (cC (Eu dO (ao (Hi Ib [1] (Hr (aL aix E (ao (aA 0) aJ))) jG (aL aik E (ao (aA 0) (ao (aA 1) aJ)))) aJ)))
def mj:CP:=qI q9 j8
def Br (E:Dm):MS:=
  (cC (aA 2))
def Ey:CP:=Gi 2 8 false fun E=>
  (bD (bY (mC (.int 0)) (kI 2))
  (bD (lD (Hr (aA 0)) (jr 2 (cX (kI 3) (cX (kI 4) Ag))) (bD (lD (Zb (ao (aA 3) (ao (aA 1) aJ))) (jr 2 (cX (kI 5) (cX (kI 6) Ag))) (lD (fK (ao (aA 5) aJ)) (kI 7) (bY (CG oh (aA 4) (aA 6)) (kI 4))))
  (bY (CG dB (aA 2) (aA 4)) (kI 2))))
  (Br E)))
def JX:CP:=Ey
def gA (E:Dm):MS:=
  (cC (mC (.bl true)))
def jN (E:Dm):MS:=
  (bD (bY (mC .non) (kI 2))
  (bD (lD (Hr (aA 0)) (kI 3) (bD (iY (Nr (Eo (yZ (Eu Kc (ao (aA 3) (ao (mC (.ty "tuple")) aJ))))) (Nr (bG (CG MN (Eu Gb (ao (aA 3) aJ)) (mC (.int 2)))) (Nr (Eo (yZ (Eu Kc (ao (CG Cw (aA 3) (mC (.int 0))) (ao (mC (.ty "tuple")) aJ))))) (bG (CG MN (Eu Gb (ao (CG Cw (aA 3) (mC (.int 0))) aJ)) (aA 1)))))) (cC (mC (.bl false))) cH)
  (bD (lD (Hr (CG dB (Eu o8 (ao (CG Cw (aA 3) (mC (.int 0))) aJ)) (fW (ao (CG Cw (aA 3) (mC (.int 1))) aJ)))) (kI 4) (iY (Nr (Eo (yZ (Eu Kc (ao (aA 4) (ao (mC (.ty "int")) aJ))))) (yZ (Eu Kc (ao (aA 4) (ao (mC (.ty "bool")) aJ))))) (cC (mC (.bl false))) cH))
  (bD (iY (Nr (bG (CG kLt (Eu Qg (ao (CG dB (fW (ao (mC (.int 0)) aJ)) (Eu o8 (ao (CG Cw (aA 3) (mC (.int 0))) aJ))) aJ)) (mC (.int 0)))) (Nr (bG (CG Jd (CG Cw (aA 3) (mC (.int 1))) (mC (.int 0)))) (WY (bG (CG Gp (aA 2) (mC .non))) (Eo (bG (CG V1 (aA 2) (CG Cw (aA 3) (mC (.int 0))))))))) (cC (mC (.bl false))) cH)
  (bY (CG Cw (aA 3) (mC (.int 0))) (kI 2))))))
  (gA E)))
def ju:CP:=Gi 2 5 false fun E=>
  (bD (iY (Eo (yZ (Eu Kc (ao (aA 0) (ao (mC (.ty "tuple")) aJ))))) (cC (mC (.bl false))) cH)
  (jN E))
def jC:CP:=ju
def nQ (aij:CP)(E:Dm):MS:=
  (cC (fW (ao (iR (ao (CG wD (iR (ao (mC (.int 0)) aJ)) (aA 1)) (ao (CG xW (aL aij E (ao (aA 0) (ao (mC (.int 5)) aJ))) (mC (.int 2))) aJ))) (ao (iR (ao (aA 6) (ao (aA 4) aJ))) (ao (iR (ao (aA 7) (ao (CG xW (aL aij E (ao (aA 0) (ao (mC (.int 3)) aJ))) (mC (.int 1))) aJ))) aJ)))))
def nR (aij:CP)(E:Dm):MS:=
  (bD (bY (CG wD (iR (ao (mC (.int 1)) aJ)) (aA 1)) (kI 7))
  (bD (iY (bG (CG Jd (aA 3) (mC (.int 2)))) (cC (fW (ao (iR (ao (CG wD (iR (ao (mC (.int 0)) aJ)) (aA 1)) (ao (aA 4) aJ))) (ao (iR (ao (aA 6) (ao (CG xW (aL aij E (ao (aA 0) (ao (mC (.int 5)) aJ))) (mC (.int 2))) aJ))) aJ)))) cH)
  (nQ aij E)))
def nC (aij:CP)(E:Dm):MS:=
  (bD (bY (aL aij E (ao (aA 0) (ao (aA 1) aJ))) (kI 5))
  (bD (bY (Eu dO (ao (Hi Ib [5] (fK (ao (aA 1) aJ)) jG (Eu Np (ao (CG Jd (aA 0) (aA 1)) aJ))) aJ)) (kI 6))
  (bD (iY (Nr (bG (CG Nz (aA 1) (mC (.int 2)))) (bG (CG Jd (aA 3) (mC (.int 1))))) (cC (fW (ao (iR (ao (aA 6) (ao (aA 4) aJ))) aJ))) cH)
  (nR aij E))))
def uz (aij:CP):CP:=Gi 3 8 false fun E=>
  (bD (bY (aL aij E (ao (aA 0) (ao (mC (.int 4)) aJ))) (kI 3))
  (bD (bY (CG xW (aL aij E (ao (aA 0) (ao (CG dB (CG oh (mC (.int 2)) (aA 2)) (mC (.int 1))) aJ))) (aA 2)) (kI 4))
  (bD (iY (Nr (bG (CG Jd (aA 3) (mC (.int 0)))) (bG (CG Jd (aA 1) (mC (.int 0))))) (cC (fW (ao (iR (ao (CG wD (iR (ao (mC (.int 0)) aJ)) (aA 1)) (ao (aA 4) aJ))) aJ))) cH)
  (nC aij E))))
def BK:CP:=uz g8
def qX (aiX:CP)(E:Dm):MS:=
  (cC (Eu dO (ao (aA 4) aJ)))
def pP (aiX:CP):CP:=Gi 4 6 false fun E=>
  (bD (bY (rF aJ) (kI 4))
  (bD (lD (fK (ao (CG dB (mC (.int 3)) (CG CJ (mC (.int 3)) (Eu Np (ao (CG Jd (aA 2) (mC (.str "curve"))) aJ)))) aJ)) (kI 5) (oV (Cq eN (aA 4) (ao (Eu dO (ao (Eu Ig (ao (Hi Ib [] (Hr (aL aiX E (ao (aA 0) (ao (aA 1) (ao (aA 3) aJ))))) (bG (CG MN (CG Cw (aA 0) (mC (.int 1))) (mC (.int 0)))) (aA 0)) aJ)) aJ)) aJ))))
  (qX aiX E)))
def wA:CP:=pP BK
def kZ (aij aiv aiK:CP)(E:Dm):MS:=
  (cC (Eu dO (ao (CG dB (fW (ao (aA 3) aJ)) (Hi Ib [0,1] (Hr (CG Mw (aA 5) (aA 3))) jG (aL aiK E (ao (aA 1) (ao (aA 2) (ao (aA 0) aJ)))))) aJ)))
def qY (aij aiv aiK:CP):CP:=Gi 2 6 false fun E=>
  (bD (bY (Hi Ib [] (Hr (aA 1)) jG (aL aiv E (ao (aA 0) aJ))) (kI 2))
  (bD (bY (CG Cw (fW (ao (mC (.str "same")) (ao (mC (.str "on")) (ao (mC (.str "row")) (ao (mC (.str "bunch")) (ao (mC (.str "touch")) (ao (mC (.str "parted")) (ao (mC (.str "row")) (ao (mC (.str "on")) aJ))))))))) (aL aij E (ao (aA 0) (ao (mC (.int 8)) aJ)))) (kI 3))
  (bD (bY (CG Cw (aA 2) (aL aij E (ao (aA 0) (ao (Eu Gb (ao (aA 2) aJ)) aJ)))) (kI 4))
  (bD (bY (Ii [(.inr "same",(fW (ao (aA 4) (ao (aA 4) aJ)))),(.inr "row",(fW (ao (mC (.str "spot")) (ao (mC (.str "spot")) (ao (mC (.str "spot")) aJ))))),(.inr "bunch",(fW (ao (mC (.str "line")) (ao (mC (.str "line")) (ao (mC (.str "line")) aJ)))))]) (kI 5))
  (bD (bY (fW (ao (mC (.str "spot")) (ao (CG Cw (fW (ao (mC (.str "line")) (ao (mC (.str "curve")) aJ))) (aL aij E (ao (aA 0) (ao (mC (.int 2)) aJ)))) aJ))) (En (aA 5) (mC (.str "on")) qD))
  (bD (bY (fW (ao (mC (.str "line")) (ao (mC (.str "curve")) aJ))) (En (aA 5) (mC (.str "touch")) qD))
  (bD (bY (fW (ao (mC (.str "curve")) aJ)) (En (aA 5) (mC (.str "parted")) qD))
  (bD (iY (bG (CG Nz (Eu Gb (ao (Hi Ib [2] (Hr (CG Mw (aA 5) (aA 3))) (bG (CG zE (aA 0) (aA 1))) (aA 0)) aJ)) (mC (.int 0)))) (bY (mC (.str "same")) (kI 3)) cH)
  (kZ aij aiv aiK E)))))))))
def vD:CP:=qY g8 lO pB
def lZ (air aik aiy aix ain:CP)(E:Dm):MS:=
  (bD (bY (fW (ao (aL air E (ao (CG Cw (aA 8) (mC (.int 1))) (ao (CG Cw (aA 8) (mC (.int 2))) aJ))) (ao (aL air E (ao (CG Cw (aA 8) (mC (.int 2))) (ao (CG Cw (aA 8) (mC (.int 0))) aJ))) (ao (aL air E (ao (CG Cw (aA 8) (mC (.int 0))) (ao (CG Cw (aA 8) (mC (.int 1))) aJ))) aJ)))) (kI 9))
  (cC (fW (ao (Eu yL (ao (aL aik E (ao (CG Cw (aA 1) (mC (.int 0))) (ao (Eu dO (ao (Hi Ib [1] (Hr (aA 9)) jG (aL aik E (ao (aA 0) (ao (CG Cw (aA 1) (mC (.int 0))) aJ)))) aJ)) aJ))) aJ)) aJ))))
def gZ (air aik aiy aix ain:CP)(E:Dm):MS:=
  (bD (bY (aL aix E (ao (CG Cw (aA 1) (mUn Zi (mC (.int 1)))) aJ)) (kI 8))
  (bD (iY (bG (CG Jd (CG Cw (aA 2) (mC (.int 0))) (mC (.str "parted")))) (cC (fW (ao (Eu yL (ao (aL aiy E (ao (CG Cw (aA 8) (mC (.int 0))) (ao (CG Cw (aA 8) (mC (.int 1))) (ao (CG Cw (aA 8) (mC (.int 2))) aJ)))) aJ)) aJ))) cH)
  (lZ air aik aiy aix ain E)))
def eY (air aik aiy aix ain:CP)(E:Dm):MS:=
  (bD (iY (Nr (bG (CG Jd (CG Cw (aA 2) (mC (.int 0))) (mC (.str "row")))) (bG (CG Jd (CG Cw (aA 2) (mC (.int 0))) (mC (.str "bunch"))))) (cC (fW (ao (Eu yL (ao (aL aiy E (ao (CG Cw (aA 1) (mC (.int 0))) (ao (CG Cw (aA 1) (mC (.int 1))) (ao (CG Cw (aA 1) (mC (.int 2))) aJ)))) aJ)) aJ))) cH)
  (gZ air aik aiy aix ain E))
def dG (air aik aiy aix ain:CP)(E:Dm):MS:=
  (bD (iY (bG (CG Jd (CG Cw (aA 2) (mC (.int 0))) (mC (.str "on")))) (cC (fW (ao (Eu yL (ao (aL aik E (ao (CG Cw (aA 1) (mC (.int 0))) (ao (aL ain E (ao (CG Cw (aA 1) (mC (.int 1))) (ao (CG Cw (aA 1) (mC (.int 0))) aJ))) aJ))) aJ)) aJ))) cH)
  (eY air aik aiy aix ain E))
def cQ (air aik aiy aix ain:CP)(E:Dm):MS:=
  (bD (iY (WY (bG (CG Jd (CG Cw (aA 2) (mC (.int 0))) (mC (.str "on")))) (bG (CG Jd (Eu Gb (ao (CG Cw (aA 1) (mC (.int 1))) aJ)) (mC (.int 3))))) (cC (fW (ao (Eu yL (ao (aL aik E (ao (CG Cw (aA 1) (mC (.int 0))) (ao (CG Cw (aA 1) (mC (.int 1))) aJ))) aJ)) aJ))) cH)
  (dG air aik aiy aix ain E))
def cA (air aik aiy aix ain:CP):CP:=Gi 3 10 true fun E=>
  (bD (iY (bG (CG Jd (CG Cw (aA 2) (mC (.int 0))) (mC (.str "same")))) (bD (bY (aA 1) (jr 2 (cX (kI 3) (cX (kI 4) Ag))))
  (bD (bY (rF aJ) (kI 5))
  (bD (lD (fK (ao (Eu Gb (ao (aA 3) aJ)) aJ)) (kI 6) (lD (fK (ao (aA 6) aJ)) (kI 7) (oV (Cq eN (aA 5) (ao (Eu yL (ao (CG xW (CG oh (CG Cw (aA 3) (aA 6)) (CG Cw (aA 4) (aA 7))) (CG oh (CG Cw (aA 3) (aA 7)) (CG Cw (aA 4) (aA 6)))) aJ)) aJ)))))
  (cC (Eu Bm (ao (aA 5) aJ)))))) cH)
  (cQ air aik aiy aix ain E))
def pO:CP:=cA p7 q9 Cj j8 mj
def jg (aiq aiw aij aiv aiz:CP)(E:Dm):MS:=
  (cC (aA 3))
def mZ (aiq aiw aij aiv aiz:CP):CP:=Gi 3 7 true fun E=>
  (bD (bY (rF aJ) (kI 3))
  (bD (lD (fK (ao (Eu Gb (ao (aA 1) aJ)) aJ)) (kI 4) (bD (bY (aL aiw E (ao (CG Kv (aL aiq E (ao (aA 0) (ao (CG dB (mC (.int 3)) (aA 4)) aJ))) (CG W8 (mC (.int 10)) (mC (.int 12)))) aJ)) (kI 5))
  (bD (bY (Hi Ib [1,4] (Hr (aA 3)) (bG (CG Jd (Eu Gb (ao (aA 0) aJ)) (CG dB (mC (.int 3)) (CG CJ (mC (.int 3)) (Eu Np (ao (CG Jd (CG Cw (CG Cw (aA 1) (aA 2)) (mC (.int 0))) (mC (.str "curve"))) aJ)))))) (aA 0)) (kI 6))
  (iY (WY (bG (CG Jd (aL aij E (ao (aA 5) (ao (mC (.int 4)) aJ))) (mC (.int 0)))) (bG (CG Nz (Eu Gb (ao (aA 6) aJ)) (mC (.int 0))))) (oV (Cq eN (aA 3) (ao (CG Cw (aA 6) (aL aij E (ao (aA 5) (ao (Eu Gb (ao (aA 6) aJ)) aJ)))) aJ))) (oV (Cq eN (aA 3) (ao (aL aiz E (ao (aA 5) (ao (aA 2) (ao (aL aiv E (ao (CG Cw (aA 1) (aA 4)) aJ)) (ao (mC (.int 4)) aJ))))) aJ)))))))
  (jg aiq aiw aij aiv aiz E)))
def sS:CP:=mZ uW xX g8 lO wA
def iM (aiM aio aiu aiL:CP)(E:Dm):MS:=
  (cC (mC (.bl true)))
def iU (aiM aio aiu aiL:CP)(E:Dm):MS:=
  (bD (lD (Hr (aA 4)) (kI 7) (bD (bY (Hi Ib [1,7] (Hr (mSl YK (aA 2) (Fb (mC (.int 1))) p8)) jG (Eu dO (ao (Hi Ib [2] (Hr (CG Cw (aA 1) (aA 0))) jG (aL aio E (ao (aA 0) (ao (aA 1) aJ)))) aJ))) (kI 8))
  (iY (bG (CG MN (Eu Bm (ao (Hi Ib [7] (Hr (aA 6)) jG (Eu yL (ao (aL aio E (ao (aA 0) (ao (aA 1) aJ))) aJ))) aJ)) (aL aiL E (ao (aA 0) (ao (aA 8) (ao (aA 2) aJ)))))) (cC (mC (.bl false))) cH)))
  (iM aiM aio aiu aiL E))
def iV (aiM aio aiu aiL:CP)(E:Dm):MS:=
  (bD (iY (bG (CG Nz (Eu Gb (ao (Hi Ib [3] (Hr (aA 6)) (Eo (yZ (aL aiu E (ao (aA 0) (ao (aA 1) aJ))))) (aA 0)) aJ)) (mC (.int 0)))) (cC (mC (.bl false))) cH)
  (iU aiM aio aiu aiL E))
def gF (aiM aio aiu aiL:CP):CP:=Gi 5 9 false fun E=>
  (bD (bY (fW (ao (Eu o8 (ao (aA 0) aJ)) (ao (Eu o8 (ao (aA 1) aJ)) aJ))) (kI 5))
  (bD (bY (aL aiM E (ao (CG Cw (aA 5) (mC (.int 0))) (ao (CG Cw (aA 5) (mC (.int 1))) (ao (aA 2) aJ)))) (kI 6))
  (bD (iY (Nr (Eo (yZ (Eu Kc (ao (aA 6) (ao (mC (.ty "list")) aJ))))) (bG (CG Vt (aA 5) (fW (ao (aA 0) (ao (aA 1) aJ)))))) (cC (mC (.bl false))) cH)
  (iV aiM aio aiu aiL E))))
def jQ:CP:=gF jt JX jC pO
def zQ (aiN aiq aiw aij ail aik ain aio aiu ais aiP aiJ:CP)(E:Dm):MS:=
  (cC (mC (.bl true)))
def yq (aiN aiq aiw aij ail aik ain aio aiu ais aiP aiJ:CP)(E:Dm):MS:=
  (bD (bY (aL aiw E (ao (aL aiq E (ao (aA 0) (ao (mC (.int 1)) aJ))) aJ)) (kI 7))
  (bD (lD (fK (ao (mC (.int 6)) aJ)) (kI 12) (iY (Eo (yZ (aL aiJ E (ao (aA 4) (ao (aA 6) (ao (aL ais E (ao (aA 7) (ao (aA 4) aJ))) (ao (aA 3) (ao (aA 8) aJ)))))))) (cC (mC (.bl false))) cH))
  (zQ aiN aiq aiw aij ail aik ain aio aiu ais aiP aiJ E)))
def yC (aiN aiq aiw aij ail aik ain aio aiu ais aiP aiJ:CP)(E:Dm):MS:=
  (bD (bY (aL aiP E (ao (aA 0) (ao (aA 4) (ao (aA 3) aJ)))) (kI 6))
  (bD (bY (aL aiw E (ao (aL aiq E (ao (aA 0) (ao (mC (.int 2)) aJ))) aJ)) (kI 7))
  (bD (bY (Hi Ib [3,7] (fK (ao (mC (.int 3)) aJ)) jG (Eu dO (ao (Hi Ib [2] (fK (ao (aA 1) aJ)) jG (CG xW (aL aij E (ao (aA 1) (ao (mC (.int 7)) aJ))) (mC (.int 3)))) aJ))) (kI 8))
  (bD (lD (fK (ao (aA 2) aJ)) (kI 5) (iY (bG (CG Jd (CG Cw (CG Cw (aA 4) (aA 5)) (mC (.int 0))) (mC (.str "other")))) (bD (bY (aL aiN E (ao (Eu o8 (ao (aA 4) aJ)) (ao (Eu o8 (ao (aA 6) aJ)) (ao (aA 5) aJ)))) (kI 9))
  (bD (iY (Eo (yZ (aL aiu E (ao (aA 9) (ao (aA 3) aJ))))) (cC (mC (.bl false))) cH)
  (lD (Hr (aA 8)) (kI 10) (bD (bY (Hi Ib [6,10] (Hr (mSl YK (CG Cw (aA 4) (aA 5)) (Fb (mC (.int 1))) p8)) jG (Eu dO (ao (Hi Ib [2] (Hr (CG Cw (aA 1) (aA 0))) jG (aL aio E (ao (aA 0) (ao (aA 1) aJ)))) aJ))) (kI 11))
  (iY (bG (CG MN (aL aio E (ao (aA 9) (ao (aA 10) aJ))) (aL aik E (ao (CG Cw (aA 11) (mC (.int 1))) (ao (aL ain E (ao (CG Cw (aA 11) (mC (.int 0))) (ao (CG Cw (aA 11) (mC (.int 1))) aJ))) aJ))))) (cC (mC (.bl false))) cH))))) cH))
  (yq aiN aiq aiw aij ail aik ain aio aiu ais aiP aiJ E)))))
def Ub (aiN aiq aiw aij ail aik ain aio aiu ais aiP aiJ:CP):CP:=Gi 1 13 false fun E=>
  (bD (bY (CG dB (mC (.int 1)) (CG Hf (aL aiq E (ao (aA 0) (ao (mC (.int 0)) aJ))) (mC (.int 7)))) (kI 1))
  (bD (bY (Eu Vd (ao (aA 1) (ao (CG dB (mC (.int 1)) (CG Hf (CG Kv (aL aiq E (ao (aA 0) (ao (mC (.int 0)) aJ))) (mC (.int 7))) (mC (.int 12)))) aJ))) (kI 2))
  (bD (bY (CG oh (mC (.int 2)) (Eu Vd (ao (mC (.int 0)) (ao (CG xW (aA 1) (mC (.int 4))) aJ)))) (kI 3))
  (bD (bY (rF aJ) (kI 4))
  (bD (lD (fK (ao (aA 2) aJ)) (kI 5) (oV (Cq eN (aA 4) (ao (aL ail E (ao (aL aiw E (ao (aL aiq E (ao (aA 0) (ao (CG dB (mC (.int 3)) (aA 5)) aJ))) aJ)) (ao (aA 4) (ao (aA 1) aJ)))) aJ))))
  (yC aiN aiq aiw aij ail aik ain aio aiu ais aiP aiJ E))))))
def Tz:CP:=Ub Yh uW xX g8 Hh q9 mj JX jC vD sS jQ
def zl:List Str:=["abs", "any", "bool", "dict", "int", "isinstance", "len", "list", "max", "min", "range", "reversed", "sorted", "tuple", "zip"]
structure Txt (P:Ei) (w:Dq) (K:CT) (mg:Str->Option Mk) (base:Heap):Prop where
 f0:At K mg "rising" (top 4) ["many", "size"]
 f1:At K mg "sort_of" (top 7) ["rows", "k"]
 f2:At K mg "sum_of_totals" (top 13) ["totals"]
 f3:At K mg "with_times" (top 14) ["one", "other", "factor"]
 f4:At K mg "plus" (top 15) ["one", "other"]
 f5:At K mg "minus" (top 16) ["one", "other"]
 f6:At K mg "packed" (top 17) ["powers"]
 f7:At K mg "unpacked" (top 18) ["key", "letters"]
 f8:At K mg "packed_terms" (top 19) ["one"]
 f9:At K mg "check_powers" (top 20) ["one"]
 f10:At K mg "times" (top 21) ["one", "other"]
 f11:At K mg "less_swapped" (top 23) ["one", "other", "i", "j"]
 f12:At K mg "sum_cross" (top 24) ["one", "other"]
 f13:At K mg "sum_dot" (top 25) ["one", "other"]
 f14:At K mg "sum_turn" (top 26) ["one", "other", "third"]
 f15:At K mg "doubled" (top 27) ["one"]
 f16:At K mg "sum_table" (top 28) ["curve"]
 f17:At K mg "turned_rows" (top 29) ["rows"]
 f18:At K mg "rows_times" (top 30) ["rows", "thing"]
 f19:At K mg "rows_on_both_sides" (top 31) ["rows", "one", "other"]
 f20:At K mg "rows_size" (top 32) ["rows"]
 f21:At K mg "tie" (top 33) ["rows", "things", "k"]
 f22:At K mg "same_sums" (top 34) ["one", "other"]
 f23:At K mg "on_sum" (top 35) ["rows", "claim", "told"]
 f24:At K mg "claim_sums" (top 36) ["rows", "things", "claim"]
 f25:At K mg "_law_cell" (top 38) ["_law_script", "_law_k"]
 f26:At K mg "_law_bag" (top 39) ["_law_cell_here"]
 f27:At K mg "_law_draw" (top 40) ["_law_bag_here", "_law_many"]
 f28:At K mg "_law_asks" (top 41) ["_law_word"]
 f29:At K mg "_law_sort" (top 42) ["_law_row_here"]
 f30:At K mg "_law_pick" (top 43) ["_law_bag_here", "_law_rows", "_law_sort_here"]
 f31:At K mg "_law_row" (top 44) ["_law_bag_here", "_law_rows", "_law_frees"]
 f32:At K mg "_law_cross" (top 45) ["_law_one", "_law_other"]
 f33:At K mg "_law_dot" (top 46) ["_law_one", "_law_other"]
 f34:At K mg "_law_turn" (top 47) ["_law_one", "_law_other", "_law_third"]
 f35:At K mg "_law_rows_of" (top 48) ["_law_curve"]
 f36:At K mg "_law_times" (top 49) ["_law_curve", "_law_row_here"]
 f37:At K mg "_law_at" (top 50) ["_law_one", "_law_numbers_here"]
 f38:At K mg "_law_sum_good" (top 51) ["_law_thing_here", "_law_letters"]
 f39:At K mg "_law_part" (top 52) ["_law_bag_here", "_law_letters", "_law_top"]
 f40:At K mg "_law_thing" (top 53) ["_law_bag_here", "_law_letters", "_law_sort_here", "_law_top"]
 f41:At K mg "_law_claim" (top 54) ["_law_bag_here", "_law_rows"]
 f42:At K mg "_law_numbers" (top 55) ["_law_rows", "_law_some", "_law_claim_here"]
 f43:At K mg "_law_things" (top 56) ["_law_script", "_law_rows", "_law_letters"]
 f44:At K mg "_law_claim_good" (top 57) ["_law_rows", "_law_things_here", "_law_claim_here", "_law_letters", "_law_spots"]
 z:∀ n∈zl,mg n=FX
 g_MOST_TERMS:∃ n,mg "MOST_TERMS" = FN (.int 600 n)
 g_MOST_POWER:∃ n,mg "MOST_POWER" = FN (.int 60 n)
 g_MOST_PAIRS:∃ n,mg "MOST_PAIRS" = FN (.int 20000 n)
 g_FIELD:∃ n,mg "FIELD" = FN (.int 65536 n)
 K_MADE:∃ a,mg "MADE" = FN (.ref a)/\Y7 w K a nZ
section
variable {P:Ei}{w:Dq}{K:CT}{mg:Str->Option Mk}{base:Heap}(T:Txt P w K mg base)
include T
theorem adw:Fk P w K mg base 10 "rising" Bt:=by
 refine fk (k:=9) ["many", "size", "found", "taken", "longer", "places", "first"] T.f0 T.z ?_
 intros
 refine au ?_ ?_
 ·with_reducible exact Gd 2 (cu (a1 (dX jX)))
 refine au (cL Le hh (Nu<|a1<|vV 1) (Hs 3)<|au (Gd 4<|qO jX)<|au (cL Le hh (bJ<|vV 2) (Hs 5)<|au (Gd 6<|acj (HX J6 (vV 3) aF) (cB cV (DK (vV 5)<|cB qZ (vV 3) aF) aF) aF)<|aD<|jD<|zba (vV 4) (a1<|Nf [5] (zaL (by rfl) (by exact T.z _ (by decide))<|a2 (vV 6)<|vV 0)<|fun _ _ _ _=>(cB cV (vV 1)<|dX<|a1<|vV 0)) (by rfl) (yG<|by rfl) (by rfl) (bU<|by rfl)<|by rfl)<|aD<|Gd 2<|vV 4) ?_;exact aD<|aN<|vV 2
theorem zam:Fk P w K mg base 10 "sort_of" wN:=by
 refine fk (k:=9) ["rows", "k"] T.f1 T.z ?_
 intros
 obtain ⟨_,g_MADE,K_MADE⟩:=T.K_MADE;exact aD<|aN<|aao K_MADE (by rfl) g_MADE (DK (DK (vV 0)<|vV 1) aF) (by intro _ _;rfl)
theorem iJ:Fk P w K mg base 10 "sum_of_totals" fV:=by
 refine fk (k:=9) ["totals", "terms"] T.f2 T.z ?_
 intros
 obtain ⟨_,g_MOST_TERMS⟩:=T.g_MOST_TERMS;refine au (Gd 1<|dct dY N7<|a1<|dl1 [0] (bJ<|HY (aeE hh) XO<|a1<|vV 0) (fun _ _ _ _=>(kW<|HX (Uv qq) (Vg qq (vV 1) (vV 0) (by intro _ _;rfl)) aF))<|fun _ _ _ _=>(dX<|a2 (vV 0)<|Vg qq (vV 1) (vV 0) (by intro _ _;rfl))) ?_;refine au (cU (HX J6 (HY fu LR<|a1<|vV 1)<|dc (v:=.int 600) (kj (by rfl) g_MOST_TERMS ⟨_,rfl⟩)<|fun _ _=>Uu) (aD uZ) bA) ?_;exact aD<|aN<|vV 1
theorem mq:Fk P w K mg base 11 "with_times" gk:=by
 refine fk (k:=10) ["one", "other", "factor", "totals", "powers", "number"] T.f3 T.z ?_
 intros
 refine au (Gd 3<|dct (agQ hh qq) boot_dict<|a1<|vV 0) ?_;refine au (cL Le hh (bJ<|vV 1) (fP hh<|aY (Hs 4)<|aY (Hs 5) fJ)<|aD<|gj (cB cV (Xr qq (vV 3) (a2 (vV 4) aF) (by rfl) (Y0 (by rfl)<|by rfl) (by rfl) (bU<|by rfl)<|d7<|by rfl)<|cB fQ (vV 2)<|vV 5)<|jT (vV 3) (vV 4) (afk qq) adV) ?_;exact aD<|aN<|Dd (iJ T)<|a1<|vV 3
theorem Ju:Fk P w K mg base 12 "plus" wM:=by
 refine fk (k:=11) ["one", "other"] T.f4 T.z ?_
 intros
 exact aD<|aN<|Dd (mq T)<|a3 (vV 0) (vV 1) aF
theorem aeI:Fk P w K mg base 12 "minus" yX:=by
 refine fk (k:=11) ["one", "other"] T.f5 T.z ?_
 intros
 exact aD<|aN<|Dd (mq T)<|a3 (vV 0) (vV 1)<|Ww aF
theorem zaC:Fk P w K mg base 10 "packed" zV:=by
 refine fk (k:=9) ["powers", "key", "power"] T.f6 T.z ?_
 intros
 obtain ⟨_,g_FIELD⟩:=T.g_FIELD;refine au (Gd 1 aF) ?_;refine au (cL Le hh (bJ<|vV 0) (Hs 2)<|aD<|Gd 1<|cB cV (cB fQ (vV 1)<|dc (v:=.int 65536) (kj (by rfl) g_FIELD ⟨_,rfl⟩)<|fun _ _=>Uu)<|vV 2) ?_;exact aD<|aN<|vV 1
theorem yN:Fk P w K mg base 10 "unpacked" rT:=by
 refine fk (k:=9) ["key", "letters", "powers", "taken"] T.f7 T.z ?_
 intros
 obtain ⟨_,g_FIELD⟩:=T.g_FIELD;refine au (Gd 2<|qO jX) ?_;refine au (cL Le hh (Nu<|a1<|vV 1) (Hs 3)<|au (jD<|jL (vV 2) (a1<|cB wk (vV 0)<|dc (v:=.int 65536) (kj (by rfl) g_FIELD ⟨_,rfl⟩)<|fun _ _=>Uu) (by rfl) (yG<|by rfl) (by rfl) (bU<|by rfl)<|by rfl)<|aD<|Gd 0<|cB Ef (vV 0)<|dc (v:=.int 65536) (kj (by rfl) g_FIELD ⟨_,rfl⟩)<|fun _ _=>Uu) ?_;exact aD<|aN<|zbl hh (by rfl) (by exact T.z _ (by decide)) (by rfl) (by exact T.z _ (by decide)) (vV 2) (bU<|by rfl) (d7<|by rfl) (bU<|by rfl)<|d7<|by rfl
theorem jz:Fk P w K mg base 11 "packed_terms" jO:=by
 refine fk (k:=10) ["one"] T.f8 T.z ?_
 intros
 exact aD<|aN<|aam [] hh (dD<|by rfl) W3 (U3 hh<|dD<|by rfl) (bJ<|vV 0) (fun _ _ _ _=>j7)<|fun _ _ _ _=>(dX<|a2 (Dd (zaC T)<|a1<|vV 0)<|vV 1)
theorem rC:Fk P w K mg base 10 "check_powers" jY:=by
 refine fk (k:=9) ["one", "powers", "number"] T.f9 T.z ?_
 intros
 obtain ⟨_,g_MOST_POWER⟩:=T.g_MOST_POWER;exact aD<|cL Le hh (bJ<|vV 0) (fP hh<|aY (Hs 1)<|aY (Hs 2) fJ)<|aD<|cU (ji<|HY (aaZ hh) boot_any<|a1<|Nf [] (bJ<|vV 1)<|fun _ _ _ _=>(cce J6 (vV 0)<|dc (v:=.int 60) (kj (by rfl) g_MOST_POWER ⟨_,rfl⟩)<|fun _ _=>Uu)) (aD uZ) bA
theorem vg:Fk P w K mg base 12 "times" tY:=by
 refine fk (k:=11) ["one", "other", "totals", "others", "key", "number", "other_key", "other_number", "place", "letters", "product", "unpacked_terms"] T.f10 T.z ?_
 intros
 obtain ⟨_,g_MOST_PAIRS⟩:=T.g_MOST_PAIRS;refine au (cU (HX J6 (cB fQ (HY fu LR<|a1<|vV 0)<|HY fu LR<|a1<|vV 1)<|dc (v:=.int 20000) (kj (by rfl) g_MOST_PAIRS ⟨_,rfl⟩)<|fun _ _=>Uu) (aD uZ) bA) ?_;refine au ?_ ?_
 ·with_reducible exact Gd 2 ahG
 refine au (Gd 3<|Dd (jz T)<|a1<|vV 1) ?_;refine au (cL Le hh (bJ<|Dd (jz T)<|a1<|vV 0) (fP hh<|aY (Hs 4)<|aY (Hs 5) fJ)<|aD<|cL Le hh (bJ<|vV 3) (fP hh<|aY (Hs 6)<|aY (Hs 7) fJ)<|au (Gd 8<|cB cV (vV 4)<|vV 6)<|aD<|gj (cB cV (aib qq (vV 2) (a2 (vV 8) aF) (by rfl) (Y0 (by rfl)<|by rfl) (by rfl) (bU<|by rfl)<|d7<|by rfl)<|cB fQ (vV 5)<|vV 7)<|jT (vV 2) (vV 8) set_dict iB) ?_;refine au (Gd 9<|acj (ji<|vV 0) (HY fu LR<|a1<|DK (DK (vV 0) aF) aF) aF) ?_;refine au (Gd 10<|Dd (iJ T)<|a1<|vV 2) ?_;refine au (Gd 11<|dct dY N7<|a1<|aam [9] hh (dD<|by rfl) W3 (U3 hh<|dD<|by rfl) (bJ<|vV 10) (fun _ _ _ _=>j7)<|fun _ _ _ _=>(dX<|a2 (Dd (yN T)<|a2 (vV 0)<|vV 2)<|vV 1)) ?_;refine au (jD<|Dd (rC T)<|a1<|vV 11) ?_;exact aD<|aN<|vV 11
theorem dH:Fk P w K mg base 13 "less_swapped" d8:=by
 refine fk (k:=12) ["one", "other", "i", "j"] T.f11 T.z ?_
 intros
 exact aD<|aN<|Dd (aeI T)<|a2 (Dd (vg T)<|a2 (DK (vV 0)<|vV 2)<|DK (vV 1)<|vV 3)<|Dd (vg T)<|a2 (DK (vV 0)<|vV 3)<|DK (vV 1)<|vV 2
theorem d9:Fk P w K mg base 14 "sum_cross" fD:=by
 refine fk (k:=13) ["one", "other"] T.f12 T.z ?_
 intros
 exact aD<|aN<|dX<|a3 (Dd (dH T)<|aC (vV 0)<|a3 (vV 1) aF aF) (Dd (dH T)<|aC (vV 0)<|a3 (vV 1) aF aF)<|Dd (dH T)<|aC (vV 0)<|a3 (vV 1) aF aF
theorem jK:Fk P w K mg base 13 "sum_dot" gP:=by
 refine fk (k:=12) ["one", "other", "total", "mine", "its"] T.f13 T.z ?_
 intros
 refine au (Gd 2<|dX jX) ?_;refine au (cL Le hh (Oj (by rfl) (by exact T.z _ (by decide)) (a2 (vV 0)<|vV 1) (bU<|by rfl)<|d7<|by rfl) (fP hh<|aY (Hs 3)<|aY (Hs 4) fJ)<|aD<|Gd 2<|Dd (Ju T)<|a2 (vV 2)<|Dd (vg T)<|a2 (vV 3)<|vV 4) ?_;exact aD<|aN<|vV 2
theorem qF:Fk P w K mg base 15 "sum_turn" jJ:=by
 refine fk (k:=14) ["one", "other", "third"] T.f14 T.z ?_
 intros
 exact aD<|aN<|Dd (jK T)<|a2 (Dd (d9 T)<|a2 (vV 0)<|vV 1)<|vV 2
theorem nj:Fk P w K mg base 13 "doubled" vQ:=by
 refine fk (k:=12) ["one"] T.f15 T.z ?_
 intros
 exact aD<|aN<|Dd (Ju T)<|a2 (vV 0)<|vV 0
theorem fZ:Fk P w K mg base 14 "sum_table" fL:=by
 refine fk (k:=13) ["curve"] T.f16 T.z ?_
 intros
 refine aD ?_;with_reducible exact aN (dX (a3 (dX (a3 (Dd (by with_unfolding_all exact nj T) (a1 (DK (vV 0) aF))) (DK (vV 0) aF) (DK (vV 0) aF))) (dX (a3 (DK (vV 0) aF) (Dd (by with_unfolding_all exact nj T) (a1 (DK (vV 0) aF))) (DK (vV 0) aF))) (dX (a3 (DK (vV 0) aF) (DK (vV 0) aF) (Dd (by with_unfolding_all exact nj T) (a1 (DK (vV 0) aF)))))))
theorem rJ:Fk P w K mg base 15 "turned_rows" lY:=by
 refine fk (k:=14) ["rows"] T.f17 T.z ?_
 intros
 exact aD<|aN<|dX<|a3 (Dd (d9 T)<|a2 (DK (vV 0) aF)<|DK (vV 0) aF) (Dd (d9 T)<|a2 (DK (vV 0) aF)<|DK (vV 0) aF)<|Dd (d9 T)<|a2 (DK (vV 0) aF)<|DK (vV 0) aF
theorem ug:Fk P w K mg base 14 "rows_times" iZ:=by
 refine fk (k:=13) ["rows", "thing"] T.f18 T.z ?_
 intros
 exact aD<|aN<|dct dY N7<|a1<|Nf [1] (bJ<|vV 0)<|fun _ _ _ _=>(Dd (jK T)<|a2 (vV 0)<|vV 1)
theorem cI:Fk P w K mg base 15 "rows_on_both_sides" bM:=by
 refine fk (k:=14) ["rows", "one", "other"] T.f19 T.z ?_
 intros
 exact aD<|aN<|Dd (jK T)<|a2 (vV 1)<|Dd (ug T)<|a2 (vV 0)<|vV 2
theorem wj:Fk P w K mg base 16 "rows_size" qJ:=by
 refine fk (k:=15) ["rows"] T.f20 T.z ?_
 intros
 exact aD<|aN<|Dd (qF T)<|a3 (DK (vV 0) aF) (DK (vV 0) aF)<|DK (vV 0) aF
theorem ahL:Fk P w K mg base 16 "tie" Yh:=by
 refine fk (k:=15) ["rows", "things", "k", "spot"] T.f21 T.z ?_
 intros
 refine au (Gd 3<|DK (vV 1)<|DK (DK (vV 0)<|vV 2) aF) ?_;exact aD<|aN<|Dd (cI T)<|a3 (Dd (fZ T)<|a1<|DK (vV 1)<|DK (DK (vV 0)<|vV 2) aF) (vV 3)<|vV 3
theorem wQ:Fk P w K mg base 15 "same_sums" qW:=by
 refine fk (k:=14) ["one", "other"] T.f22 T.z ?_
 intros
 refine au (cU (HX (mR qq) (HY fu LR<|a1<|vV 0) aF) (aD<|aN<|dct qN Td<|a1<|Dd (d9 T)<|a2 (vV 0)<|vV 1) bA) ?_;exact aD<|aN<|Nf [0,1] (bJ<|Dd (adw T)<|a2 (HY fu LR<|a1<|vV 0) aF)<|fun _ _ _ _=>(Dd (dH T)<|aC (vV 1)<|a3 (vV 2) (DK (vV 0) aF)<|DK (vV 0) aF)
theorem zaB:Fk P w K mg base 16 "on_sum" zY:=by
 refine fk (k:=15) ["rows", "claim", "told"] T.f23 T.z ?_
 intros
 refine au (cU (HX (mR qq) (Dd (zam T)<|a2 (vV 0)<|DK (vV 1) aF) aX) (aD<|aN<|Dd (jK T)<|a2 (DK (vV 2) aF)<|DK (vV 2) aF) bA) ?_;exact aD<|aN<|Dd (cI T)<|a3 (Dd (fZ T)<|a1<|DK (vV 2) aF) (DK (vV 2) aF)<|DK (vV 2) aF
theorem uT:Fk P w K mg base 17 "claim_sums" jt:=by
 refine fk (k:=16) ["rows", "things", "claim", "told"] T.f24 T.z ?_
 intros
 refine au (yt [1] (i:=3) (by assumption) (by rfl) (by exact Or.inl rfl) hh (dD<|by rfl) vK (vG<|dD<|by rfl) (bJ<|T4 (vV 2) (zA aF) yd) (fun _ _ _ _=>j7)<|fun _ _ _ _=>(DK (vV 1)<|vV 0)) ?_;refine au (cU (HX (mR qq) (DK (vV 2) aF) aX) (aD<|aN<|Dd (wQ T)<|a2 (DK (vV 3) aF)<|DK (vV 3) aF) bA) ?_;refine au (cU (HX (mR qq) (DK (vV 2) aF) aX) (aD<|aN<|cu<|a1<|Dd (zaB T)<|a3 (vV 0) (vV 2)<|vV 3) bA) ?_;refine au (cU (HX (mR qq) (DK (vV 2) aF) aX) (aD<|aN<|cu<|a1<|Dd (cI T)<|a3 (Dd (rJ T)<|a1<|Dd (fZ T)<|a1<|DK (vV 3) aF) (DK (vV 3) aF)<|DK (vV 3) aF) bA) ?_;refine au (cU (HX (mR qq) (DK (vV 2) aF) aX) (aD<|aN<|cu<|a1<|Dd (wj T)<|a1<|Dd (fZ T)<|a1<|DK (vV 3) aF) bA) ?_;exact aD<|aN<|cu<|a1<|Dd (qF T)<|a3 (DK (vV 3) aF) (DK (vV 3) aF)<|DK (vV 3) aF
theorem gQ:Fk P w K mg base 10 "_law_cell" uW:=by
 refine fk (k:=9) ["_law_script", "_law_k"] T.f25 T.z ?_
 intros
 refine au (cU (HX Zj (vV 1)<|HY fu LR<|a1<|vV 0) (aD<|aN<|DK (vV 0)<|vV 1) bA) ?_;exact aD<|aN aF
theorem pD:Fk P w K mg base 10 "_law_bag" xX:=by
 refine fk (k:=9) ["_law_cell_here"] T.f26 T.z ?_
 intros
 exact aD<|aN<|qO<|a2 (cB GZ (HY rG Ra<|a1<|vV 0)<|dct Dh boot_int<|a1<|cce acB (HY rG Ra<|a1<|vV 0)<|cB VD aF aF)<|cB wk (HY rG Ra<|a1<|vV 0) aF
theorem bR:Fk P w K mg base 10 "_law_draw" g8:=by
 refine fk (k:=9) ["_law_bag_here", "_law_many", "_law_found"] T.f27 T.z ?_
 intros
 refine au (cU (HX J6 (DK (vV 0) aF) aF) (au (Gd 2<|cB wk (DK (vV 0) aF)<|vV 1)<|au (gj (cB Ef (DK (vV 0) aF)<|vV 1)<|jT (vV 0) aF set_list Bg)<|aD<|aN<|vV 2) bA) ?_;refine au (gj (cB wk (cB cV (cB fQ (DK (vV 0) aF) aF) aF) aF)<|jT (vV 0) aF set_list Bg) ?_;exact aD<|aN<|cB wk (cB Ef (cB wk (cB fQ (DK (vV 0) aF)<|cB cV (cB Ef (DK (vV 0) aF) aF) aF) aF) aF)<|vV 1
theorem wI:Fk P w K mg base 10 "_law_asks" zT:=by
 refine fk (k:=9) ["_law_word", "_law_asks_here"] T.f28 T.z ?_
 intros
 refine au ?_ ?_
 ·with_reducible exact Gd 1 (O9 (Mt.cons (cu jX) (Mt.cons (cu (a2 aX aX)) (Mt.cons (cu (a2 aX aX)) (Mt.cons (cu (a2 aX aX)) Mt.nil)))) (by with_unfolding_all exact List.cons_ne_nil _ _) (by with_unfolding_all exact Qj rfl))
 refine au (gj (cu<|aC aX<|aC aX<|a3 aX aX aX)<|jT (vV 1) aX set_dict iB) ?_;refine au (gj (cu<|a2 aX aX)<|jT (vV 1) aX set_dict iB) ?_;refine au (gj (cu<|a3 aX aX aX)<|jT (vV 1) aX set_dict iB) ?_;exact aD<|aN<|Rb (vV 1) (vV 0) (by intro _ _;rfl)
theorem lG:Fk P w K mg base 10 "_law_sort" lO:=by
 refine fk (k:=9) ["_law_row_here"] T.f29 T.z ?_
 intros
 refine au (cU (pA (HX (mR qq) (DK (vV 0) aF) aX)<|mH<|HX (mR qq) (DK (vV 0) aF) aX).pt (aD<|aN aX) bA) ?_;exact aD<|aN<|DK (cu<|a2 aX aX)<|dct Dh boot_int<|a1<|cce (mR qq) (DK (vV 0) aF) aX
theorem wB:Fk P w K mg base 11 "_law_pick" pB:=by
 refine fk (k:=10) ["_law_bag_here", "_law_rows", "_law_sort_here", "_law_numbers_here"] T.f30 T.z ?_
 intros
 refine au (yt [1,2] (i:=3) (by assumption) (by rfl) (by exact Or.inl rfl) hh (dD<|by rfl) vK (vG<|dD<|by rfl) (Nu<|a1<|HY fu LR<|a1<|vV 1) (fun _ _ _ _=>(kW<|HX (mR qq) (Dd (lG T)<|a1<|DK (vV 1)<|vV 0)<|vV 2))<|fun _ _ _ _=>(vV 0)) ?_;exact aD<|aN<|DK (vV 3)<|Dd (bR T)<|a2 (vV 0)<|HY fu LR<|a1<|vV 3
theorem zaR:Fk P w K mg base 12 "_law_row" Hh:=by
 refine fk (k:=11) ["_law_bag_here", "_law_rows", "_law_frees", "_law_sorts", "_law_words", "_law_word", "_law_lacking"] T.f31 T.z ?_
 intros
 refine au (Gd 3<|Nf [] (bJ<|vV 1)<|fun _ _ _ _=>(Dd (lG T)<|a1<|vV 0)) ?_;refine au (Gd 4<|cu<|aC aX<|aC aX<|aC aX<|aC aX<|aC aX<|aC aX<|aC aX<|a3 aX aX aX) ?_;refine au (Gd 5<|DK (vV 4)<|Dd (bR T)<|a2 (vV 0) aF) ?_;refine au (yt [3] (i:=6) (by assumption) (by rfl) (by exact Or.inl rfl) hh (dD<|by rfl) vK (vG<|dD<|by rfl) (bJ<|Dd (wI T)<|a1<|vV 5) (fun _ _ _ _=>(kW<|HX (Od qq) (vV 0)<|vV 1))<|fun _ _ _ _=>(vV 0)) ?_;refine au (cU (pA (HX Zj (HY fu LR<|a1<|vV 1)<|vV 2)<|mH<|HX J6 (HY fu LR<|a1<|vV 6) aF).pt (aD<|Gd 5<|DK (cu<|a2 aX aX)<|dct Dh boot_int<|a1<|cce Zj (HY fu LR<|a1<|vV 1)<|vV 2) bA) ?_;exact aD<|aN<|dct dY N7<|a1<|cB cV (cu<|a1<|vV 5)<|Nf [0,1] (bJ<|Dd (wI T)<|a1<|vV 5)<|fun _ _ _ _=>(Dd (wB T)<|a3 (vV 1) (vV 2)<|vV 0)
theorem jH:Fk P w K mg base 10 "_law_cross" p7:=by
 refine fk (k:=9) ["_law_one", "_law_other", "_law_a", "_law_b", "_law_c", "_law_d", "_law_e", "_law_f"] T.f32 T.z ?_
 intros
 refine au (gj (vV 0)<|fP hh<|aY (Hs 2)<|aY (Hs 3)<|aY (Hs 4) fJ) ?_;refine au (gj (vV 1)<|fP hh<|aY (Hs 5)<|aY (Hs 6)<|aY (Hs 7) fJ) ?_;exact aD<|aN<|dX<|a3 (cB qZ (cB fQ (vV 3)<|vV 7)<|cB fQ (vV 4)<|vV 6) (cB qZ (cB fQ (vV 4)<|vV 5)<|cB fQ (vV 2)<|vV 7)<|cB qZ (cB fQ (vV 2)<|vV 6)<|cB fQ (vV 3)<|vV 5
theorem iw:Fk P w K mg base 10 "_law_dot" q9:=by
 refine fk (k:=9) ["_law_one", "_law_other"] T.f33 T.z ?_
 intros
 exact aD<|aN<|cB cV (cB cV (cB fQ (DK (vV 0) aF)<|DK (vV 1) aF)<|cB fQ (DK (vV 0) aF)<|DK (vV 1) aF)<|cB fQ (DK (vV 0) aF)<|DK (vV 1) aF
theorem vU:Fk P w K mg base 11 "_law_turn" Cj:=by
 refine fk (k:=10) ["_law_one", "_law_other", "_law_third"] T.f34 T.z ?_
 intros
 exact aD<|aN<|Dd (iw T)<|a2 (Dd (jH T)<|a2 (vV 0)<|vV 1)<|vV 2
theorem oE:Fk P w K mg base 10 "_law_rows_of" j8:=by
 refine fk (k:=9) ["_law_curve", "_law_a", "_law_b", "_law_c", "_law_d", "_law_e", "_law_f"] T.f35 T.z ?_
 intros
 refine au (gj (vV 0)<|fP hh<|aY (Hs 1)<|aY (Hs 2)<|aY (Hs 3)<|aY (Hs 4)<|aY (Hs 5)<|aY (Hs 6) fJ) ?_;refine aD ?_;with_reducible exact aN (cu (a3 (dX (a3 (cB fQ aF (vV 1)) (vV 2) (vV 4))) (dX (a3 (vV 2) (cB fQ aF (vV 3)) (vV 5))) (dX (a3 (vV 4) (vV 5) (cB fQ aF (vV 6))))))
theorem rP:Fk P w K mg base 11 "_law_times" mj:=by
 refine fk (k:=10) ["_law_curve", "_law_row_here"] T.f36 T.z ?_
 intros
 exact aD<|aN<|dct dY N7<|a1<|Nf [1] (bJ<|Dd (oE T)<|a1<|vV 0)<|fun _ _ _ _=>(Dd (iw T)<|a2 (vV 0)<|vV 1)
theorem uD:Fk P w K mg base 10 "_law_at" JX:=by
 refine fk (k:=9) ["_law_one", "_law_numbers_here", "_law_found", "_law_powers", "_law_number", "_law_power", "_law_letter", "_law_lap"] T.f37 T.z ?_
 intros
 refine au (Gd 2 aF) ?_;refine au (cL Le hh (bJ<|vV 0) (fP hh<|aY (Hs 3)<|aY (Hs 4) fJ)<|au (cL Le hh (Oj (by rfl) (by exact T.z _ (by decide)) (a2 (vV 3)<|vV 1) (bU<|by rfl)<|d7<|by rfl) (fP hh<|aY (Hs 5)<|aY (Hs 6) fJ)<|aD<|cL Le hh (Nu<|a1<|vV 5) (Hs 7)<|aD<|Gd 4<|cB fQ (vV 4)<|vV 6)<|aD<|Gd 2<|cB cV (vV 2)<|vV 4) ?_;exact aD<|aN<|vV 2
theorem lX:Fk P w K mg base 10 "_law_sum_good" jC:=by
 refine fk (k:=9) ["_law_thing_here", "_law_letters", "_law_ahead", "_law_term", "_law_number"] T.f38 T.z ?_
 intros
 refine au (cU (mL<|ji<|HY Dz V7<|a2 (vV 0)<|dc (m7 (v:=.ty "tuple") (by rfl) (by exact T.z _ (by decide)) N7<|by rfl)<|fun _ _=>by rw [CK]) (aD<|aN Dr) bA) ?_;refine au (Gd 2 Vj) ?_;refine au (cL Le hh (bJ<|vV 0) (Hs 3)<|au (cU (pA (mL<|ji<|HY Dz V7<|a2 (vV 3)<|dc (m7 (v:=.ty "tuple") (by rfl) (by exact T.z _ (by decide)) N7<|by rfl)<|fun _ _=>by rw [CK])<|pA (HX (Uv qq) (HY fu LR<|a1<|vV 3) aF)<|pA (mL<|ji<|HY Dz V7<|a2 (DK (vV 3) aF)<|dc (m7 (v:=.ty "tuple") (by rfl) (by exact T.z _ (by decide)) N7<|by rfl)<|fun _ _=>by rw [CK])<|mH<|HX (Uv qq) (HY fu LR<|a1<|DK (vV 3) aF)<|vV 1).pt (aD<|aN Dr) bA)<|au (cL Le hh (bJ<|cB cV (dct qN Td<|a1<|DK (vV 3) aF)<|cu<|a1<|DK (vV 3) aF) (Hs 4)<|aD<|cU (pA (mL<|ji<|HY Dz V7<|a2 (vV 4)<|dc (m7 (v:=.ty "int") (by rfl) (by exact T.z _ (by decide)) boot_int<|by rfl)<|fun _ _=>by rw [CK])<|mH<|ji<|HY Dz V7<|a2 (vV 4)<|dc (m7 (v:=.ty "bool") (by rfl) (by exact T.z _ (by decide)) boot_bool<|by rfl)<|fun _ _=>by rw [CK]).pt (aD<|aN Dr) bA)<|au (cU (pA (HX Zj (HY (afD hh) boot_min<|a1<|cB cV (cu<|a1 aF)<|dct qN Td<|a1<|DK (vV 3) aF) aF)<|pA (HX (mR qq) (DK (vV 3) aF) aF)<|mH (Ip (HX Yy (vV 2) Vj)<|zM<|mL<|HX (abm qq) (vV 2)<|DK (vV 3) aF).pt).pt (aD<|aN Dr) bA)<|aD<|Gd 2<|DK (vV 3) aF) ?_;exact aD<|aN Dr
theorem aed:Fk P w K mg base 11 "_law_part" BK:=by
 refine fk (k:=10) ["_law_bag_here", "_law_letters", "_law_top", "_law_way", "_law_number", "_law_letter", "_law_powers", "_law_both"] T.f39 T.z ?_
 intros
 refine au (Gd 3<|Dd (bR T)<|a2 (vV 0) aF) ?_;refine au (Gd 4<|cB qZ (Dd (bR T)<|a2 (vV 0)<|cB cV (cB fQ aF<|vV 2) aF)<|vV 2) ?_;refine au ?_ ?_
 ·with_reducible exact cU (pA (HX (mR qq) (vV 3) aF) (mH (HX (mR qq) (vV 1) aF))).pt (aD (aN (cu (a1 (dX (a2 (cB BW (dX (a1 aF)) (vV 1)) (vV 4))))))) bA
 refine au (Gd 5<|Dd (bR T)<|a2 (vV 0)<|vV 1) ?_;refine au (Gd 6<|dct dY N7<|a1<|Nf [5] (Nu<|a1<|vV 1)<|fun _ _ _ _=>(dct Dh boot_int<|a1<|cce (mR qq) (vV 0)<|vV 1)) ?_;refine au ?_ ?_
 ·with_reducible exact cU (pA (HX J6 (vV 1) aF) (mH (HX (mR qq) (vV 3) aF))).pt (aD (aN (cu (a1 (dX (a2 (vV 6) (vV 4))))))) bA
 refine au (Gd 7<|cB BW (dX<|a1 aF)<|vV 1) ?_;refine au ?_ ?_
 ·with_reducible exact cU (HX (mR qq) (vV 3) aF) (aD (aN (cu (a2 (dX (a2 (cB BW (dX (a1 aF)) (vV 1)) (vV 4))) (dX (a2 (vV 6) (cB qZ (Dd (by with_unfolding_all exact bR T) (a2 (vV 0) aF)) aF))))))) bA
 refine aD ?_;try unfold nQ
 with_reducible exact aN (cu (a3 (dX (a2 (cB BW (dX (a1 aF)) (vV 1)) (cB qZ (Dd (by with_unfolding_all exact bR T) (a2 (vV 0) aF)) aF))) (dX (a2 (vV 6) (vV 4))) (dX (a2 (vV 7) (cB qZ (Dd (by with_unfolding_all exact bR T) (a2 (vV 0) aF)) aF)))))
theorem zaf:Fk P w K mg base 12 "_law_thing" wA:=by
 refine fk (k:=11) ["_law_bag_here", "_law_letters", "_law_sort_here", "_law_top", "_law_said", "_law_k"] T.f40 T.z ?_
 intros
 refine au (Gd 4<|qO jX) ?_;refine au (cL Le hh (Nu<|a1<|cB cV aF<|cB GZ aF<|dct Dh boot_int<|a1<|cce (mR qq) (vV 2) aX) (Hs 5)<|aD<|jD<|jL (vV 4) (a1<|dct dY N7<|a1<|HY (afE qq) XO<|a1<|dl1 [] (bJ<|Dd (aed T)<|a3 (vV 0) (vV 1)<|vV 3) (fun _ _ _ _=>(kW<|HX (Uv qq) (DK (vV 0) aF) aF))<|fun _ _ _ _=>(vV 0)) (by rfl) (yG<|by rfl) (by rfl) (bU<|by rfl)<|by rfl) ?_;exact aD<|aN<|dct dY N7<|a1<|vV 4
theorem adP:Fk P w K mg base 12 "_law_claim" vD:=by
 refine fk (k:=11) ["_law_bag_here", "_law_rows", "_law_sorts", "_law_word", "_law_first", "_law_asks_here"] T.f41 T.z ?_
 intros
 refine au (Gd 2<|Nf [] (bJ<|vV 1)<|fun _ _ _ _=>(Dd (lG T)<|a1<|vV 0)) ?_;refine au (Gd 3<|DK (cu<|aC aX<|aC aX<|aC aX<|aC aX<|aC aX<|a3 aX aX aX)<|Dd (bR T)<|a2 (vV 0) aF) ?_;refine au (Gd 4<|DK (vV 2)<|Dd (bR T)<|a2 (vV 0)<|HY fu LR<|a1<|vV 2) ?_;refine au ?_ ?_
 ·with_reducible exact Gd 5 (O9 (Mt.cons (cu (a2 (vV 4) (vV 4))) (Mt.cons (cu (a3 aX aX aX)) (Mt.cons (cu (a3 aX aX aX)) Mt.nil))) (by with_unfolding_all exact List.cons_ne_nil _ _) (by with_unfolding_all exact Qj rfl))
 refine au ?_ ?_
 ·with_reducible exact gj (hs:=by with_unfolding_all rfl) (hw:=by with_unfolding_all rfl) (h1:=by with_unfolding_all rfl) (cu (a2 aX (DK (cu (a2 aX aX)) (Dd (by with_unfolding_all exact bR T) (a2 (vV 0) aF))))) (jT (ha:=by with_unfolding_all (intro _;rfl)) (vV 5) aX set_dict iB)
 refine au (gj (cu<|a2 aX aX)<|jT (vV 5) aX set_dict iB) ?_;refine au (gj (cu<|a1 aX)<|jT (vV 5) aX set_dict iB) ?_;refine au (cU (HX J6 (HY fu LR<|a1<|dl1 [2] (bJ<|Rb (vV 5) (vV 3) (by intro _ _;rfl)) (fun _ _ _ _=>(kW<|HX (Od qq) (vV 0)<|vV 1))<|fun _ _ _ _=>(vV 0)) aF) (aD<|Gd 3 aX) bA) ?_;exact aD<|aN<|dct dY N7<|a1<|cB cV (cu<|a1<|vV 3)<|Nf [0,1] (bJ<|Rb (vV 5) (vV 3) (by intro _ _;rfl))<|fun _ _ _ _=>(Dd (wB T)<|a3 (vV 1) (vV 2)<|vV 0)
theorem xr:Fk P w K mg base 12 "_law_numbers" pO:=by
 refine fk (k:=11) ["_law_rows", "_law_some", "_law_claim_here", "_law_one", "_law_other", "_law_found", "_law_i", "_law_j", "_law_table", "_law_swung"] T.f42 T.z ?_
 intros
 refine au (cU (HX (mR qq) (DK (vV 2) aF) aX) (au (gj (vV 1)<|fP hh<|aY (Hs 3)<|aY (Hs 4) fJ)<|au (Gd 5<|qO jX)<|au (cL Le hh (Nu<|a1<|HY fu LR<|a1<|vV 3) (Hs 6)<|aD<|cL Le hh (Nu<|a1<|vV 6) (Hs 7)<|aD<|jD<|jL (vV 5) (a1<|HY rG Ra<|a1<|cB qZ (cB fQ (DK (vV 3)<|vV 6)<|DK (vV 4)<|vV 7)<|cB fQ (DK (vV 3)<|vV 7)<|DK (vV 4)<|vV 6) (by rfl) (yG<|by rfl) (by rfl) (bU<|by rfl)<|by rfl)<|aD<|aN<|HY Ga XO<|a1<|vV 5) bA) ?_;refine au (cU (Ip (HX (mR qq) (DK (vV 2) aF) aX)<|zM<|HX (mR qq) (HY fu LR<|a1<|DK (vV 1) aF) aF).pt (aD<|aN<|cu<|a1<|HY rG Ra<|a1<|Dd (iw T)<|a2 (DK (vV 1) aF)<|DK (vV 1) aF) bA) ?_;refine au (cU (HX (mR qq) (DK (vV 2) aF) aX) (aD<|aN<|cu<|a1<|HY rG Ra<|a1<|Dd (iw T)<|a2 (DK (vV 1) aF)<|Dd (rP T)<|a2 (DK (vV 1) aF)<|DK (vV 1) aF) bA) ?_;refine au (cU (pA (HX (mR qq) (DK (vV 2) aF) aX)<|mH<|HX (mR qq) (DK (vV 2) aF) aX).pt (aD<|aN<|cu<|a1<|HY rG Ra<|a1<|Dd (vU T)<|a3 (DK (vV 1) aF) (DK (vV 1) aF)<|DK (vV 1) aF) bA) ?_;refine au (Gd 8<|Dd (oE T)<|a1<|DK (vV 1)<|Ww aF) ?_;refine au (cU (HX (mR qq) (DK (vV 2) aF) aX) (aD<|aN<|cu<|a1<|HY rG Ra<|a1<|Dd (vU T)<|a3 (DK (vV 8) aF) (DK (vV 8) aF)<|DK (vV 8) aF) bA) ?_;refine au (Gd 9<|cu<|a3 (Dd (jH T)<|a2 (DK (vV 8) aF)<|DK (vV 8) aF) (Dd (jH T)<|a2 (DK (vV 8) aF)<|DK (vV 8) aF)<|Dd (jH T)<|a2 (DK (vV 8) aF)<|DK (vV 8) aF) ?_;exact aD<|aN<|cu<|a1<|HY rG Ra<|a1<|Dd (iw T)<|a2 (DK (vV 1) aF)<|dct dY N7<|a1<|Nf [1] (bJ<|vV 9)<|fun _ _ _ _=>(Dd (iw T)<|a2 (vV 0)<|DK (vV 1) aF)
theorem yK:Fk P w K mg base 13 "_law_things" sS:=by
 refine fk (k:=12) ["_law_script", "_law_rows", "_law_letters", "_law_things_here", "_law_k", "_law_bag_here", "_law_ahead"] T.f43 T.z ?_
 intros
 refine au (Gd 3<|qO jX) ?_;refine au (cL Le hh (Nu<|a1<|HY fu LR<|a1<|vV 1) (Hs 4)<|au (Gd 5<|Dd (pD T)<|a1<|cB Ef (Dd (gQ T)<|a2 (vV 0)<|cB cV aF<|vV 4)<|cB VD aF aF)<|au (yt [1,4] (i:=6) (by assumption) (by rfl) (by exact Or.inl rfl) hh (dD<|by rfl) vK (vG<|dD<|by rfl) (bJ<|vV 3) (fun _ _ _ _=>(kW<|HX (mR qq) (HY fu LR<|a1<|vV 0)<|cB cV aF<|cB GZ aF<|dct Dh boot_int<|a1<|cce (mR qq) (DK (DK (vV 1)<|vV 2) aF) aX))<|fun _ _ _ _=>(vV 0))<|aD<|cU (Ip (HX (mR qq) (Dd (bR T)<|a2 (vV 5) aF) aF)<|zM<|HX J6 (HY fu LR<|a1<|vV 6) aF).pt (aD<|jD<|jL (vV 3) (a1<|DK (vV 6)<|Dd (bR T)<|a2 (vV 5)<|HY fu LR<|a1<|vV 6) (by rfl) (yG<|by rfl) (by rfl) (bU<|by rfl)<|by rfl) (aD<|jD<|jL (vV 3) (a1<|Dd (zaf T)<|aC (vV 5)<|a3 (vV 2) (Dd (lG T)<|a1<|DK (vV 1)<|vV 4) aF) (by rfl) (yG<|by rfl) (by rfl) (bU<|by rfl)<|by rfl)) ?_;exact aD<|aN<|vV 3
theorem qU:Fk P w K mg base 18 "_law_claim_good" jQ:=by
 refine fk (k:=17) ["_law_rows", "_law_things_here", "_law_claim_here", "_law_letters", "_law_spots", "_law_handed", "_law_found", "_law_numbers_here", "_law_some"] T.f44 T.z ?_
 intros
 refine au (Gd 5<|cu<|a2 (dct qN Td<|a1<|vV 0)<|dct qN Td<|a1<|vV 1) ?_;refine au (Gd 6<|Dd (uT T)<|a3 (DK (vV 5) aF) (DK (vV 5) aF)<|vV 2) ?_;refine au (cU (pA (mL<|ji<|HY Dz V7<|a2 (vV 6)<|dc (m7 (v:=.ty "list") (by rfl) (by exact T.z _ (by decide)) Td<|by rfl)<|fun _ _=>by rw [CK])<|mH<|HX (abb qq) (vV 5)<|cu<|a2 (vV 0)<|vV 1).pt (aD<|aN Dr) bA) ?_;refine au (cU (HX J6 (HY fu LR<|a1<|dl1 [3] (bJ<|vV 6) (fun _ _ _ _=>(kW<|mL<|ji<|Dd (lX T)<|a2 (vV 0)<|vV 1))<|fun _ _ _ _=>(vV 0)) aF) (aD<|aN Dr) bA) ?_;refine au (cL Le hh (bJ<|vV 4) (Hs 7)<|au (yt [1,7] (i:=8) (by assumption) (by rfl) (by exact Or.inl rfl) hh (dD<|by rfl) vK (vG<|dD<|by rfl) (bJ<|T4 (vV 2) (zA aF) yd) (fun _ _ _ _=>j7)<|fun _ _ _ _=>(dct dY N7<|a1<|Nf [2] (bJ<|DK (vV 1)<|vV 0)<|fun _ _ _ _=>(Dd (uD T)<|a2 (vV 0)<|vV 1)))<|aD<|cU (HX (Uv qq) (HY Ga XO<|a1<|Nf [7] (bJ<|vV 6)<|fun _ _ _ _=>(HY rG Ra<|a1<|Dd (uD T)<|a2 (vV 0)<|vV 1))<|Dd (xr T)<|a3 (vV 0) (vV 8)<|vV 2) (aD<|aN Dr) bA) ?_;exact aD<|aN Dr
theorem afJ {f:Addr}{fd:Mi}(F:TQ K "law" "law" Rm f fd):rK P w K mg base NT 19 f fd ["_law_script"] (lift K Tz):=by
 have S:mV ["_law_script", "_law_frees", "_law_size", "_law_letters", "_law_rows", "_law_k", "_law_things_here", "_law_bag_here", "_law_spots", "_law_found", "_law_numbers_here", "_law_some", "_law_lap"] ["_law_script"] (bT Rm):=⟨rfl,rfl,rfl,by decide +kernel,rfl,by decide +kernel,by decide +kernel⟩
 refine ab3 (k:=18) F S fun _ _ _ _ _ _ hr=>?_;have hc:=hr.calm (by decide);have nd:=S.nd;have z:=T.z;refine au (Gd 1<|cB cV aF<|cB wk (Dd (gQ T)<|a2 (vV 0) aF) aF) ?_;refine au (Gd 2<|HY (Vv hh) boot_max<|a2 (vV 1)<|cB cV aF<|cB wk (cB Ef (Dd (gQ T)<|a2 (vV 0) aF) aF) aF) ?_;refine au (Gd 3<|cB fQ aF<|HY (Vv hh) boot_max<|a2 aF<|cB qZ (vV 1) aF) ?_;refine au (Gd 4<|qO jX) ?_;refine au (cL Le hh (Nu<|a1<|vV 2) (Hs 5)<|aD<|jD<|jL (vV 4) (a1<|Dd (zaR T)<|a3 (Dd (pD T)<|a1<|Dd (gQ T)<|a2 (vV 0)<|cB cV aF<|vV 5) (vV 4)<|vV 1) (by rfl) (yG<|by rfl) (by rfl) (bU<|by rfl)<|by rfl) ?_;refine au (Gd 6<|Dd (yK T)<|a3 (vV 0) (vV 4)<|vV 3) ?_;refine au (Gd 7<|Dd (pD T)<|a1<|Dd (gQ T)<|a2 (vV 0) aF) ?_;refine au (yt [3,7] (i:=8) (by assumption) (by rfl) (by exact Or.inl rfl) hh (dD<|by rfl) vK (vG<|dD<|by rfl) (Nu<|a1 aF) (fun _ _ _ _=>j7)<|fun _ _ _ _=>(dct dY N7<|a1<|Nf [2] (Nu<|a1<|vV 1)<|fun _ _ _ _=>(cB qZ (Dd (bR T)<|a2 (vV 1) aF) aF))) ?_;refine au (cL Le hh (Nu<|a1<|vV 2) (Hs 5)<|aD<|cU (HX (mR qq) (DK (DK (vV 4)<|vV 5) aF) aX) (au (Gd 9<|Dd (ahL T)<|a3 (dct qN Td<|a1<|vV 4) (dct qN Td<|a1<|vV 6)<|vV 5)<|au (cU (mL<|ji<|Dd (lX T)<|a2 (vV 9)<|vV 3) (aD<|aN Dr) bA)<|aD<|cL Le hh (bJ<|vV 8) (Hs 10)<|au (yt [6,10] (i:=11) (by assumption) (by rfl) (by exact Or.inl rfl) hh (dD<|by rfl) vK (vG<|dD<|by rfl) (bJ<|T4 (DK (vV 4)<|vV 5) (zA aF) yd) (fun _ _ _ _=>j7)<|fun _ _ _ _=>(dct dY N7<|a1<|Nf [2] (bJ<|DK (vV 1)<|vV 0)<|fun _ _ _ _=>(Dd (uD T)<|a2 (vV 0)<|vV 1)))<|aD<|cU (HX (Uv qq) (Dd (uD T)<|a2 (vV 9)<|vV 10)<|Dd (iw T)<|a2 (DK (vV 11) aF)<|Dd (rP T)<|a2 (DK (vV 11) aF)<|DK (vV 11) aF) (aD<|aN Dr) bA) bA) ?_;refine au (Gd 7<|Dd (pD T)<|a1<|Dd (gQ T)<|a2 (vV 0) aF) ?_;refine au (cL Le hh (Nu<|a1 aF) (Hs 12)<|aD<|cU (mL<|ji<|Dd (qU T)<|aC (vV 4)<|aC (vV 6)<|a3 (Dd (adP T)<|a2 (vV 7)<|vV 4) (vV 3)<|vV 8) (aD<|aN Dr) bA) ?_;exact aD<|aN Dr
end
variable {mg : Str->Option Mk}{K : CT}
def fO (x:Str)(s:Stmt)(oc:Mk)(od:Option Addr)(kV dc pm:Mk)(an:Option Addr)(cd ct:Mk)(sl:Array (Option Mk)):Option Obj:=FN ⟨oc,od,.func (Tp x x (nG s) (iG s) (bT s) .none kV dc pm an cd ct),sl⟩
def sR (f:Addr):Option (Option Mk):=FN (FN (.ref f))
def fj (K:CT)(x:Str)(s:Stmt):Prop:=∃ f oc od kV dc pm an cd ct sl,Kz K Jk x=sR f/\K.lookup f=fO x s oc od kV dc pm an cd ct sl/\WT K cd x=true/\Rp K (.ref f)=true
variable {x : Str}
theorem NZ {s:Stmt}{f:Addr}{oc:Mk}{od:Option Addr}{kV dc pm:Mk}{an:Option Addr}{cd ct:Mk}{sl:Array (Option Mk)}(a:Kz K Jk x=sR f)(l:K.lookup f=fO x s oc od kV dc pm an cd ct sl)(c:WT K cd x=true)(k:Rp K (.ref f)=true):fj K x s:=⟨f,oc,od,kV,dc,pm,an,cd,ct,sl,a,l,c,k⟩
theorem bQ {h:Heap}{st:Stmt}{ps:List Str}(X:K.In h)(G:h.Ns Jk mg)(H:fj K x st)(hb:∀ (kV doc pm:Mk) (an:Option Addr) (cdv ct:Mk) (us:List Mk),us.length=ps.length->bindArgs (Tp x x (nG st) (iG st) (bT st) .none kV doc pm an cdv ct) ⟨us,[]⟩=pure (ps.zip us):=by intro _ _ _ _ _ _ us hl;first | (match us,hl with | [_],_=>rfl) | (match us,hl with | [_,_],_=>rfl) | (match us,hl with | [_,_,_],_=>rfl) | (match us,hl with | [_,_,_,_],_=>rfl) | (match us,hl with | [_,_,_,_,_],_=>rfl)):At K mg x st ps:=by
 obtain ⟨f,oc,od,kV,dc,pm,an,cd,ct,sl,a,l,c,k⟩:=H;exact ⟨f,_,Gs (st:=st) l c k,Tq X G a,(Gs (st:=st) l c k).binds hb⟩
theorem zc {n:Str}{l:List Str}(a:mg n=FX)(b:∀ m∈l,mg m=FX):∀ m∈n::l,mg m=FX:=List.forall_mem_cons.2 ⟨a,b⟩
theorem all_mk {l:PySem.W.OpenLaw}{w:Dq}{h:Heap}{fa:Addr}(hlaw:∀ ns:List Int,ns.length<=63->Tz [.kls (ns.map W.int)] g0 (fun w _=>w=.bl true) EF)(X:K.In h)(G:h.Ns Jk mg)(hfa:mg "law" = FN (.ref fa))
  (h0:fj K "rising" (top 4))
  (h1:fj K "sort_of" (top 7))
  (h2:fj K "sum_of_totals" (top 13))
  (h3:fj K "with_times" (top 14))
  (h4:fj K "plus" (top 15))
  (h5:fj K "minus" (top 16))
  (h6:fj K "packed" (top 17))
  (h7:fj K "unpacked" (top 18))
  (h8:fj K "packed_terms" (top 19))
  (h9:fj K "check_powers" (top 20))
  (h10:fj K "times" (top 21))
  (h11:fj K "less_swapped" (top 23))
  (h12:fj K "sum_cross" (top 24))
  (h13:fj K "sum_dot" (top 25))
  (h14:fj K "sum_turn" (top 26))
  (h15:fj K "doubled" (top 27))
  (h16:fj K "sum_table" (top 28))
  (h17:fj K "turned_rows" (top 29))
  (h18:fj K "rows_times" (top 30))
  (h19:fj K "rows_on_both_sides" (top 31))
  (h20:fj K "rows_size" (top 32))
  (h21:fj K "tie" (top 33))
  (h22:fj K "same_sums" (top 34))
  (h23:fj K "on_sum" (top 35))
  (h24:fj K "claim_sums" (top 36))
  (h25:fj K "_law_cell" (top 38))
  (h26:fj K "_law_bag" (top 39))
  (h27:fj K "_law_draw" (top 40))
  (h28:fj K "_law_asks" (top 41))
  (h29:fj K "_law_sort" (top 42))
  (h30:fj K "_law_pick" (top 43))
  (h31:fj K "_law_row" (top 44))
  (h32:fj K "_law_cross" (top 45))
  (h33:fj K "_law_dot" (top 46))
  (h34:fj K "_law_turn" (top 47))
  (h35:fj K "_law_rows_of" (top 48))
  (h36:fj K "_law_times" (top 49))
  (h37:fj K "_law_at" (top 50))
  (h38:fj K "_law_sum_good" (top 51))
  (h39:fj K "_law_part" (top 52))
  (h40:fj K "_law_thing" (top 53))
  (h41:fj K "_law_claim" (top 54))
  (h42:fj K "_law_numbers" (top 55))
  (h43:fj K "_law_things" (top 56))
  (h44:fj K "_law_claim_good" (top 57))
  (h45:fj K "law" (top 58))
  (z_abs:Kz K Jk "abs" = FN FX)
  (z_any:Kz K Jk "any" = FN FX)
  (z_bool:Kz K Jk "bool" = FN FX)
  (z_dict:Kz K Jk "dict" = FN FX)
  (z_int:Kz K Jk "int" = FN FX)
  (z_isinstance:Kz K Jk "isinstance" = FN FX)
  (z_len:Kz K Jk "len" = FN FX)
  (z_list:Kz K Jk "list" = FN FX)
  (z_max:Kz K Jk "max" = FN FX)
  (z_min:Kz K Jk "min" = FN FX)
  (z_range:Kz K Jk "range" = FN FX)
  (z_reversed:Kz K Jk "reversed" = FN FX)
  (z_sorted:Kz K Jk "sorted" = FN FX)
  (z_tuple:Kz K Jk "tuple" = FN FX)
  (z_zip:Kz K Jk "zip" = FN FX)
  {nZ:Addr} {nk_MADE:Nat} {t_MADE_0:_} {qk_MADE_0:_} {t_MADE_1:_} {qk_MADE_1:_} {t_MADE_2:_} {qk_MADE_2:_} {t_MADE_3:_} {qk_MADE_3:_} {t_MADE_4:_} {qk_MADE_4:_} {t_MADE_5:_} {qk_MADE_5:_} {t_MADE_6:_} {qk_MADE_6:_}
  (gk_MADE:Kz K Jk "MADE" = FN (FN (.ref nZ))) (sk_MADE:(nZ==M5)=false)
  (lk_MADE:K.lookup nZ=FN ⟨.type "dict",FX,.dict #[⟨Te w.params "free",.str "free" qk_MADE_0,(.str "spot" t_MADE_0)⟩,⟨Te w.params "join",.str "join" qk_MADE_1,(.str "line" t_MADE_1)⟩,⟨Te w.params "meet",.str "meet" qk_MADE_2,(.str "spot" t_MADE_2)⟩,⟨Te w.params "curve",.str "curve" qk_MADE_3,(.str "curve" t_MADE_3)⟩,⟨Te w.params "about",.str "about" qk_MADE_4,(.str "line" t_MADE_4)⟩,⟨Te w.params "pole",.str "pole" qk_MADE_5,(.str "spot" t_MADE_5)⟩,⟨Te w.params "other",.str "other" qk_MADE_6,(.str "spot" t_MADE_6)⟩] nk_MADE,#[]⟩)
  (g_MOST_TERMS:∃ n,Kz K Jk "MOST_TERMS" = FN (FN (.int 600 n)))
  (g_MOST_POWER:∃ n,Kz K Jk "MOST_POWER" = FN (FN (.int 60 n)))
  (g_MOST_PAIRS:∃ n,Kz K Jk "MOST_PAIRS" = FN (FN (.int 20000 n)))
  (g_FIELD:∃ n,Kz K Jk "FIELD" = FN (FN (.int 65536 n)))
  : ∃ fd:Mi,(∀ (s:AP) (v:Mk),BindsTo s fd ⟨[v],[]⟩ [("_law_script",v)])/\∀ base:Heap,K.In base->base.Ns Jk mg->rK l.prog w K mg base NT 19 fa fd ["_law_script"] (Lb K):=by
 have T:∀ base,Txt l.prog w K mg base:=fun _=>⟨bQ X G h0,bQ X G h1,bQ X G h2,bQ X G h3,bQ X G h4,bQ X G h5,bQ X G h6,bQ X G h7,bQ X G h8,bQ X G h9,bQ X G h10,bQ X G h11,bQ X G h12,bQ X G h13,bQ X G h14,bQ X G h15,bQ X G h16,bQ X G h17,bQ X G h18,bQ X G h19,bQ X G h20,bQ X G h21,bQ X G h22,bQ X G h23,bQ X G h24,bQ X G h25,bQ X G h26,bQ X G h27,bQ X G h28,bQ X G h29,bQ X G h30,bQ X G h31,bQ X G h32,bQ X G h33,bQ X G h34,bQ X G h35,bQ X G h36,bQ X G h37,bQ X G h38,bQ X G h39,bQ X G h40,bQ X G h41,bQ X G h42,bQ X G h43,bQ X G h44,zc (Nx X G z_abs) (zc (Nx X G z_any) (zc (Nx X G z_bool) (zc (Nx X G z_dict) (zc (Nx X G z_int) (zc (Nx X G z_isinstance) (zc (Nx X G z_len) (zc (Nx X G z_list) (zc (Nx X G z_max) (zc (Nx X G z_min) (zc (Nx X G z_range) (zc (Nx X G z_reversed) (zc (Nx X G z_sorted) (zc (Nx X G z_tuple) (zc (Nx X G z_zip) (fun _ h=>nomatch h))))))))))))))),g_MOST_TERMS.imp fun _ e=>Tq X G e,g_MOST_POWER.imp fun _ e=>Tq X G e,g_MOST_PAIRS.imp fun _ e=>Tq X G e,g_FIELD.imp fun _ e=>Tq X G e,⟨_,Tq X G gk_MADE,⟨sk_MADE,by decide +kernel,by decide,_,_,lk_MADE,(Ax.cons RB (fun _ _=>Q9) (Ax.cons RB (fun _ _=>Q9) (Ax.cons RB (fun _ _=>Q9) (Ax.cons RB (fun _ _=>Q9) (Ax.cons RB (fun _ _=>Q9) (Ax.cons RB (fun _ _=>Q9) (Ax.cons RB (fun _ _=>Q9) Ax.nil)))))))⟩⟩⟩
 obtain ⟨f,oc,od,kV,dc,pm,an,cd,ct,sl,a,l,c,k⟩:=h45;have e:=hfa.symm.trans (Tq X G a);cases e;exact ⟨_,fun s v=>.of_eq rfl,fun base _ _=>aii hlaw<|afJ (T base)<|Gs (st:=Rm) l c k⟩
variable {XP : (Str->Option Mk)->Heap->Prop}
theorem walk {l:PySem.W.OpenLaw}{q:Ei}{loose:List Str}{YP:Dq->Heap->Prop}{d:DefRec}{K:Params->CT}(hn:l.most=FN 63)(hdf:d.params.defaults=[])
  (hY:∀ (w:Dq) (h:Heap),YP w h->(K w.params).In h)
  (F:∀ (w:Dq) (mg:Str->Option Mk) (fa:Addr) (h:Heap),(K w.params).In h->h.Ns Jk mg->mg d.name=FN (.ref fa) ->
   ∃ fd:Mi,(∀ (s:AP) (u:Mk),BindsTo s fd ⟨[u],[]⟩ [("_law_script",u)])/\∀ base:Heap,(K w.params).In base->base.Ns Jk mg->rK l.prog w (K w.params) mg base NT 19 fa fd ["_law_script"] (Lb (K w.params))) :
  PySem.W.WalkO q loose XP YP l.row.toRowW d [] (fun f vs=>PySem.call f vs):=
 L2.Ft (n:=63) (k:=19) (x := "_law_script") (CX:=fun _=>NT) (sp:=fun w=>Lb (K w.params)) hn (by decide) hdf ⟨fun _=>rfl,by decide,by decide⟩ hY F (fun _ _ a ns hl hO hS=>⟨a,ns,rfl,hS,hO,hl,fun _=>rfl⟩) fun _ _ _ _ _ z=>z
local macro_rules | `(tactic| trivial) => `(tactic| with_reducible exact Sm.lit (by decide))
local macro_rules | `(tactic| trivial) => `(tactic| with_reducible exact Sm.zero)
local macro_rules | `(tactic| trivial) => `(tactic| with_reducible exact Sm.neg (by trivial))
local macro_rules | `(tactic| trivial) => `(tactic| with_reducible exact Sm.sub (by trivial) (by trivial))
local macro_rules | `(tactic| trivial) => `(tactic| with_reducible exact Sm.add (by trivial) (by trivial))
local macro_rules | `(tactic| trivial) => `(tactic| with_reducible exact Sm.mul (by trivial) (by trivial))
local macro_rules | `(tactic| trivial) => `(tactic| with_reducible assumption)
theorem oU (h:Gh)(n:Nat)(c:Cell):(h.set n c).c n=FN c:=by show (if n=n then FN c else h.c n)=FN c;rw [if_pos rfl]
variable {h : Gh}{m n : Nat}
theorem jy {c:Cell}(e:m≠n):(h.set n c).c m=h.c m:=by show (if m=n then FN c else h.c m)=_;rw [if_neg e]
theorem Ed (h:Gh)(c:Cell):(h.new c).c h.nx=FN c:=by show (if h.nx=h.nx then FN c else h.c h.nx)=FN c;rw [if_pos rfl]
theorem tB {c:Cell}(e:m≠h.nx):(h.new c).c m=h.c m:=by show (if m=h.nx then FN c else h.c m)=_;rw [if_neg e]
variable {ws : List W}
theorem dJ (e:h.c n=FN (.lst ws)):view h (.loc n)=FN ws:=by simp only [view,dM,e]
def M8 (n:Nat)(h h':Gh):Prop:=h'.nx=h.nx/\∀ m,m≠n->h'.c m=h.c m
theorem M8.trans {n:Nat}{a b c:Gh}(x:M8 n a b)(y:M8 n b c):M8 n a c:=⟨y.1.trans x.1,fun m e=>(y.2 m e).trans (x.2 m e)⟩
theorem M8.set {n:Nat}{h:Gh}{c:Cell}:M8 n h (h.set n c):=⟨rfl,fun _ e=>jy e⟩
theorem eX {a b:Int}(h:0<b):a.fmod b=a % b:=Int.fmod_eq_emod_of_nonneg a (Int.le_of_lt h)
theorem ux {a b:Int}(h:0<b):a.fdiv b=a / b:=Int.fdiv_eq_ediv_of_nonneg a (Int.le_of_lt h)
variable {c : Bool}
theorem XD {A B:Prop}(e:c=true)(h:A):Jr c A B:=by subst e;exact h
theorem Mh {c:Prop}[Decidable c]{A B:Prop}(h1:c->A)(h2:¬ c->B):Jr (decide c) A B:=by
 by_cases h:c
 ·rw [decide_eq_true h];exact h1 h
 ·rw [decide_eq_false h];exact h2 h
variable {g : MG}
theorem bW {ws0:List W}{b:MS}{D:bO}(I:Nat->Sw->Gh->Prop)
  (step:∀ (i:Nat) (w:W) (Z : Sw) (h:Gh) (N:Sw->Gh->Prop),(∀ Z' h',I (i+1) Z' h'->N Z' h')->ws[i]?=FN w->I i Z h->g w Z h fun Z1 h1=>b { D with nx:=N,ct:=N,bk:=D.nx } Z1 h1)
  (fin:∀ Z h,I ws.length Z h->D.nx Z h):∀ {Z : Sw} {h:Gh},I 0 Z h->gG ⟨ws0,FX⟩ g b D ws Z h:=by
 induction ws generalizing I with
 | nil=>intro Z h h0;exact fin Z h h0
 | cons w ws ih=>
  intro Z h h0;refine step 0 w Z h _ (fun Z' h' q=>?_) rfl h0;exact ih (fun i=>I<|i+1) (fun i w Z h N hN e hi=>step (i+1) w Z h N hN (by simpa using e) hi) (fun Z h q=>fin Z h q) q
variable {ix : List Nat}{te : ME}{tt : MT}{Z : Sw}{own : W->Option (List W)}{Q : WK}
theorem dF {ws0:List W}(I:Nat->List W->Gh->Prop)
  (step:∀ (i:Nat) (w:W) (acc:List W) (h:Gh) (N:List W->Gh->Prop),(∀ acc' h',I (i+1) acc' h'->N acc' h')->ws[i]?=FN w->I i acc h ->
   ∃ vs,own w=FN vs/\tt (vs.map FN++jZ ix Z) h fun c h1=>Jr c (te (vs.map FN++jZ ix Z) h1 fun v h2=>N (acc++[v]) h2) (N acc h1))
  (fin:∀ acc h,I ws.length acc h->Q (.lst acc) h):∀ {acc:List W} {h:Gh},I 0 acc h->rE ⟨ws0,FX⟩ own ix tt te Z Q ws acc h:=by
 induction ws generalizing I with
 | nil=>intro acc h h0;exact fin acc h h0
 | cons w ws ih=>
  intro acc h h0;obtain ⟨vs,ev,q⟩:=step 0 w acc h _ (fun acc' h' q=>ih (fun i=>I (i+1)) (fun i w acc h N hN e hi=>step (i+1) w acc h N hN (by simpa using e) hi) (fun acc h q=>fin acc h q) q) rfl h0;show (match own w with
   | some vs=>_
   | none=>False)
  rw [ev];exact q
variable {i : Nat}{w : W}
theorem zO {lo:Int}(e:(xQ lo n)[i]?=FN w):i<n/\w=.int (lo+(i:Int)):=by
 have hi:i<n:=by
  have:=(Lk.mp e).1
  simpa [xQ] using this
 unfold xQ at e;rw [GP,List.getElem?_range hi] at e;exact ⟨hi,(Gz e).symm⟩
theorem u5 {lo:Int}:(xQ lo n).length=n:=by simp [xQ]
variable {j : Int}{ma : MA}
theorem aeQ {b:MS}{D:bO}(hm:∀ R,ma Z h R=R [.int j] h)(h1:-(2^62)<=j)(h2:j<2^62)(I:Nat->Sw->Gh->Prop)
  (step:∀ (i:Nat) (Z : Sw) (h:Gh) (N:Sw->Gh->Prop),(∀ Z' h',I (i+1) Z' h'->N Z' h')->i<j.toNat->I i Z h->g (.int (i:Int)) Z h fun Z1 h1=>b { D with nx:=N,ct:=N,bk:=D.nx } Z1 h1)
  (fin:∀ Z h,I j.toNat Z h->D.nx Z h) (h0:I 0 Z h):lD (fK ma) g b D Z h:=by
 unfold lD fK;rw [hm];refine vR.mk h1 h2 ?_;refine bW I (fun i w Z h N hN e hi=>?_) (fun Z h q=>fin Z h (by rw [u5] at q;exact q)) h0;obtain ⟨hlt,rfl⟩:=zO e;rw [Int.zero_add];exact step i Z h N hN hlt hi
variable {ns : List Int}
theorem aey {k:Int}(h0:0<=k)(h1:k<((ns.map W.int).length:Int)):Lz (ns.map W.int) k=FN (.int (ns.getD k.toNat 0)):=by
 have hk:k.toNat<ns.length:=by rw [DX] at h1;lia
 have e:(ns.map W.int)[k.toNat]?=FN (.int (ns.getD k.toNat 0)):=by
  rw [GP,HD hk,MF,HD hk];rfl
 have:=bK e
 rwa [show ((k.toNat:Nat):Int)=k by lia] at this
theorem ints_get (e:(ns.map W.int)[i]?=FN w):∃ n,ns[i]?=FN n/\w=.int n:=by
 rw [GP] at e;cases q:ns[i]? with
 | none=>rw [q] at e;cases e
 | some n=>rw [q] at e;exact ⟨n,rfl,(Gz e).symm⟩
theorem lg (a b:Int):Fy (.int a) (.int b)=(a==b):=by rw [Fy]
abbrev Tr:=Int×Int×Int
def tl (t:Tr):List Int:=[t.1,t.2.1,t.2.2]
def tw (t:Tr):W:=.tup [.int t.1,.int t.2.1,.int t.2.2]
def sc (k:Int)(t:Tr):Tr:=(t.1*k,t.2.1*k,t.2.2*k)
def crs (p q:Tr):Tr:=(p.2.1*q.2.2 - p.2.2*q.2.1,p.2.2*q.1 - p.1*q.2.2,p.1*q.2.1 - p.2.1*q.1)
def dt3 (p q:Tr):Int:=p.1*q.1+p.2.1*q.2.1+p.2.2*q.2.2
theorem ray {p q:Tr}(hp:p≠(0,0,0))(h:crs p q=(0,0,0)):∃ s t:Int,s≠0/\sc s q=sc t p:=by
 obtain ⟨a,b,c⟩:=p;obtain ⟨x,y,z⟩:=q;have h1:b*z - c*y=0:=congrArg (·.1) h;have h2:c*x - a*z=0:=congrArg (·.2.1) h;have h3:a*y - b*x=0:=congrArg (·.2.2) h;by_cases ha:a=0
 ·by_cases hb:b=0
  ·by_cases hc:c=0
   ·exact absurd (by rw [ha,hb,hc]) hp
   ·refine ⟨c,z,hc,?_⟩;simp only [sc];refine Prod.ext ?_ (Prod.ext ?_ ?_) <;> simp only <;> grind
  ·refine ⟨b,y,hb,?_⟩;simp only [sc];refine Prod.ext ?_ (Prod.ext ?_ ?_) <;> simp only <;> grind
 ·refine ⟨a,x,ha,?_⟩;simp only [sc];refine Prod.ext ?_ (Prod.ext ?_ ?_) <;> simp only <;> grind
theorem flat {n p q r:Tr}(hn:n≠(0,0,0))(hp:dt3 n p=0)(hq:dt3 n q=0)(hr:dt3 n r=0):dt3 (crs p q) r=0:=by
 obtain ⟨n1,n2,n3⟩:=n;obtain ⟨p1,p2,p3⟩:=p;obtain ⟨q1,q2,q3⟩:=q;obtain ⟨r1,r2,r3⟩:=r;simp only [dt3,crs] at *;generalize hd:(p2*q3 - p3*q2)*r1+(p3*q1 - p1*q3)*r2+(p1*q2 - p2*q1)*r3=d;have e1:n1*d=0:=by grind
 have e2:n2*d=0:=by grind
 have e3:n3*d=0:=by grind
 by_cases h:d=0
 ·exact h
 ·have f:∀ x:Int,x*d=0->x=0:=fun x e=>by
   rcases Int.mul_eq_zero.mp e with e | e
   ·exact e
   ·exact absurd e h
  exact absurd (by rw [f _ e1,f _ e2,f _ e3]) hn
theorem W2 (p q:Tr):Fy (tw p) (tw q)=decide (p=q):=by
 obtain ⟨a,b,c⟩:=p;obtain ⟨x,y,z⟩:=q;unfold tw;rw [Fy,nH,nH,nH,nH,lg,lg,lg];by_cases ha:a=x <;> by_cases hb:b=y <;> by_cases hc:c=z <;> simp [ha,hb,hc]
theorem qL (e:h.c n=FN (.lst ws)):dM h (.loc n)=FN ws:=by simp only [dM,e]
theorem Jb:∀ bs:List Bool,J7 (bs.map W.bl)=FN bs
 | []=>rfl
 | b::bs=>by rw [DY,J7,Jb bs];rfl
theorem Fq {s:Src}(I:Nat->List W->Gh->Prop)
  (go:∀ i acc h,I i acc h->∀ P:Prop,P->s.go h P)
  (step:∀ (i:Nat) (w:W) (acc:List W) (h:Gh) (N:List W->Gh->Prop),(∀ acc' h',I (i+1) acc' h'->N acc' h')->ws[i]?=FN w->I i acc h ->
   ∃ vs,own w=FN vs/\tt (vs.map FN++jZ ix Z) h fun c h1=>Jr c (te (vs.map FN++jZ ix Z) h1 fun v h2=>N (acc++[v]) h2) (N acc h1))
  (fin:∀ acc h,I ws.length acc h->Q (.lst acc) h):∀ {acc:List W} {h:Gh},I 0 acc h->rE s own ix tt te Z Q ws acc h:=by
 induction ws generalizing I with
 | nil=>intro acc h h0;exact go 0 acc h h0 _ (fin acc h h0)
 | cons w ws ih=>
  intro acc h h0;obtain ⟨vs,ev,q⟩:=step 0 w acc h _ (fun acc' h' q=>ih (fun i=>I (i+1)) (fun i=>go (i+1)) (fun i w acc h N hN e hi=>step (i+1) w acc h N hN (by simpa using e) hi) (fun acc h q=>fin acc h q) q) rfl h0;refine go 0 acc h h0 _ ?_;show (match own w with
   | some vs=>_
   | none=>False)
  rw [ev];exact q
theorem zaU {s:Src}{b:MS}{D:bO}(I:Nat->Sw->Gh->Prop)(go:∀ i Z h,I i Z h->∀ P:Prop,P->s.go h P)
  (step:∀ (i:Nat) (w:W) (Z : Sw) (h:Gh) (N:Sw->Gh->Prop),(∀ Z' h',I (i+1) Z' h'->N Z' h')->ws[i]?=FN w->I i Z h->g w Z h fun Z1 h1=>b { D with nx:=N,ct:=N,bk:=D.nx } Z1 h1)
  (fin:∀ Z h,I ws.length Z h->D.nx Z h):∀ {Z : Sw} {h:Gh},I 0 Z h->gG s g b D ws Z h:=by
 induction ws generalizing I with
 | nil=>intro Z h h0;exact go 0 Z h h0 _ (fin Z h h0)
 | cons w ws ih=>
  intro Z h h0;refine go 0 Z h h0 _ ?_;refine step 0 w Z h _ (fun Z' h' q=>?_) rfl h0;exact ih (fun i=>I<|i+1) (fun i=>go<|i+1) (fun i w Z h N hN e hi=>step (i+1) w Z h N hN (by simpa using e) hi) (fun Z h q=>fin Z h q) q
theorem ahx {us:List W}(e:h.c n=FN (.lst us))(hz:us.length<FP)(k:Q .non (h.set n (.lst (us++[w])))):eN (.loc n) [w] h Q:=by
 show (match h.c n with
  | some (Cell.lst us)=>_
  | _=>False)
 rw [e];exact ⟨hz,k⟩
theorem YC {us zs:List W}(e:h.c n=FN (.lst us))(hz:us.length+zs.length<=FP)(k:Q .non (h.set n (.lst (us++zs)))):jh (.loc n) [.lst zs] h Q:=by
 dsimp only [jh];rw [e];exact eG.mk hz k
theorem agY (hm:∀ R,ma Z h R=R [.int j] h)(h1:-(2^62)<=j)(h2:j<2^62)(hz:j.toNat<=FP)(I:Nat->List W->Gh->Prop)
  (step:∀ (i:Nat) (acc:List W) (h:Gh) (N:List W->Gh->Prop),(∀ acc' h',I (i+1) acc' h'->N acc' h')->i<j.toNat->I i acc h ->
   ∃ vs,own (.int (i:Int))=FN vs/\tt (vs.map FN++jZ ix Z) h fun c h1=>Jr c (te (vs.map FN++jZ ix Z) h1 fun v h2=>N (acc++[v]) h2) (N acc h1))
  (fin:∀ acc h,I j.toNat acc h->Q (.lst acc) h) (h0:I 0 [] h):Hi own ix (fK ma) tt te Z h Q:=by
 unfold Hi fK;rw [hm];refine vR.mk h1 h2<|eG.mk (by rw [u5];exact hz) ?_
 refine dF I (fun i w acc h N hN e hi=>?_) (fun acc h q=>fin acc h (by rw [u5] at q;exact q)) h0;obtain ⟨hlt,rfl⟩:=zO e;rw [Int.zero_add];exact step i acc h N hN hlt hi
theorem zH (a b:Str):Fy (.str a) (.str b)=(a==b):=by rw [Fy]
def K1 (h:Gh)(n:Nat):Prop:=∃ a b,h.c n=FN (.lst [.int a,.int b])/\0<=b/\b<2147483647
def mJ (c:CP):Prop:=∀ {h:Gh} {n:Nat} {many:Int} {Q:WK} {E:Dm},K1 h n->0<many->Sm 60 many->(∀ d h',0<=d->d<many->K1 h' n->M8 n h h'->Q (.int d) h')->c [.loc n,.int many] h Q E
theorem rR:mJ z9:=by
 intro h n many Q E hb hm hs k;obtain ⟨a,b,e,b0,b1⟩:=hb;have hm0:many≠0:=by lia
 have ev:=dJ e;have bag:∀ {h':Gh} {a b:Int},h'.c n=FN (.lst [.int a,.int b])->0<=b->b<2147483647->K1 h' n:=fun e h0 h1=>⟨_,_,e,h0,h1⟩
 show (match view h (.loc n) with
  | some ws=>_
  | none=>False)
 rw [ev];refine su (fun _=>?_)<|fun _=>?_
 ·show (match view h (.loc n) with
   | some ws=>_
   | none=>False)
  rw [ev];refine And.intro hm0 ?_;show (match view h (.loc n) with
   | some ws=>_
   | none=>False)
  rw [ev];refine And.intro ⟨hm0,60,by decide,hs⟩ ?_;show (match h.c n with
   | some (Cell.lst ws)=>_
   | _=>False)
  rw [e];show Q (.int (a.fmod many)) (h.set n _);rw [eX hm];exact k _ _ (Us _ hm0) (Um _ hm) (bag (oU _ _ _) b0 b1) M8.set
 ·show (match view h (.loc n) with
   | some ws=>_
   | none=>False)
  rw [ev];refine And.intro (.of (m:=31) (n:=64) (CV (by lia)<|by lia) (.lit rfl) (by decide)<|by decide) ?_;refine And.intro (show (2147483647:Int)≠0 by decide) ?_;show (match h.c n with
   | some (Cell.lst ws)=>_
   | _=>False)
  rw [e];have c0:0<=(b*48271+11).fmod 2147483647:=by rw [eX (by decide)];exact Us _ (by decide)
  have c1:(b*48271+11).fmod 2147483647<2147483647:=by rw [eX (by decide)];exact Um _ (by decide)
  have e2:(h.set n (.lst [.int a,.int ((b*48271+11).fmod 2147483647)])).c n=FN (.lst [.int a,.int ((b*48271+11).fmod 2147483647)]):=oU _ _ _;have ev2:=dJ e2;have o2:M8 n h (h.set n (.lst [.int a,.int ((b*48271+11).fmod 2147483647)])):=M8.set;show (match view (h.set n (.lst [.int a,.int ((b*48271+11).fmod 2147483647)])) (.loc n) with
   | some ws=>_
   | none=>False)
  rw [ev2];show (match view (h.set n (.lst [.int a,.int ((b*48271+11).fmod 2147483647)])) (.loc n) with
   | some ws=>_
   | none=>False)
  rw [ev2];generalize (b*48271+11).fmod 2147483647=c at *;refine And.intro ⟨by decide,64,by decide,.lit rfl⟩ ?_;have q0:0<=c.fdiv 65536:=by rw [ux (by decide)];lia
  have q1:c.fdiv 65536<2147483647:=by rw [ux (by decide)];lia
  refine And.intro (.of (m:=31) (n:=40) (CV (by lia)<|by lia) (CV (by lia)<|by lia) (by decide)<|by decide) ?_;refine And.intro (show (2147483629:Int)≠0 by decide) ?_;refine And.intro ⟨by decide,64,by decide,.lit rfl⟩ ?_;refine And.intro hm0 ?_;show Q (.int (Int.fmod _ many)) (h.set n (.lst [.int a,.int c]));rw [eX hm];exact k _ _ (Us _ hm0) (Um _ hm) (bag e2 c0 c1) o2
def ql (c:CP):Prop:=∀ {h:Gh} {ns:List Int} {k:Int} {Q:WK} {E:Dm},0<=k->Q (.int (ns.getD k.toNat 0)) h->c [.kls (ns.map .int),.int k] h Q E
theorem PB:ql Bs:=by
 intro h ns k Q E h0 q;show br (decide (k<((ns.map W.int).length:Int))) _ _;refine su (fun hk=>?_)<|fun hk=>?_
 ·conv=>whnf
  rw [aey h0 hk];exact q
 ·have e:ns.getD k.toNat 0=0:=by
   rw [MF,List.getElem?_eq_none (by rw [DX] at hk;lia)];rfl
  rw [e] at q;exact q
def tK (Q:Bool->Gh->Prop):WK:=fun w h=>match w with
 | .bl c=>Q c h
 | _=>False
def uK (Q:Bool->Gh->Prop):WK:=fun w h=>match Zd h w with
 | some b=>Q b h
 | none=>False
def aK (b:ME)(Z : Sw)(Q:WK):WK:=fun x h=>match x with
 | .bl true=>b Z h Q
 | .bl false=>Q (.bl false) h
 | _=>False
def oK (b:ME)(Z : Sw)(Q:WK):WK:=fun x h=>match x with
 | .bl false=>b Z h Q
 | .bl true=>Q (.bl true) h
 | _=>False
def nK (Q:WK):WK:=fun x h=>match x with
 | .bl c=>Q (.bl (!c)) h
 | _=>False
def iK (R:Src->Gh->Prop):WK:=fun w h=>match Pu h w with
 | some s=>R s h
 | none=>False
def xK (f:Str->Bool)(Q:WK):WK:=fun w h=>match w with
 | .exc n=>Q (.bl (f n)) h
 | .exa n _=>Q (.bl (f n)) h
 | _=>False
def pK (Q:Option Int->Gh->Prop):WK:=fun w h=>match w with
 | .int i=>Q (FN i) h
 | _=>False
def ab5 (g:MG)(b:MS)(D:bO)(Z : Sw):Src->Gh->Prop:=fun s h=>gG s g b D s.ws Z h
def SM (own:W->Option (List W))(ix:List Nat)(tt:MT)(te:ME)(Z : Sw)(Q:WK):Src->Gh->Prop:=fun s h=>eG s.ws.length (rE s own ix tt te Z Q s.ws [] h)
def rgK (R:Src->Gh->Prop):List W->Gh->Prop:=fun ws h=>match ws with
 | [.int j]=>vR j (R ⟨xQ 0 j.toNat,FX⟩ h)
 | _=>False
def zpK (R:Src->Gh->Prop):List W->Gh->Prop:=fun ws h=>match ws with
 | [x,y]=>(match Oh h x y with
  | some s=>R s h
  | none=>False)
 | _=>False
theorem aH {m u:MS}{D:bO}(x:m { D with nx:=u D } Z h):bD m u D Z h:=x
variable {N : Sw->Gh->Prop}
theorem bB {b c:Sw->Gh->Prop}{r:WK}(x:N Z h):bO.nx ⟨N,r,b,c⟩ Z h:=x
theorem acZ {b c:Sw->Gh->Prop}{r:WK}(x:b Z h):bO.bk ⟨N,r,b,c⟩ Z h:=x
theorem acA {b c:Sw->Gh->Prop}{r:WK}(x:c Z h):bO.ct ⟨N,r,b,c⟩ Z h:=x
theorem fY {b c:Sw->Gh->Prop}{r:WK}(x:r w h):bO.rt ⟨N,r,b,c⟩ w h:=x
theorem agu {D:bO}(x:D.rt w h):bO.rt (bO.lost D) w h:=x
theorem ahy {D:bO}(x:D.nx (Z.map fun _=>FX) h):bO.nx (bO.lost D) Z h:=x
theorem aW {D:bO}(x:D.nx Z h):cH D Z h:=x
theorem aQ {m:ME}{D:bO}(x:m Z h fun w h1=>g w Z h1 D.nx):bY m g D Z h:=x
theorem iy {m:ME}{D:bO}(x:m Z h fun _ h1=>D.nx Z h1):oV m D Z h:=x
theorem aU {m:ME}{D:bO}(x:m Z h D.rt):cC m D Z h:=x
variable {E : Dm}
theorem lM {c:Str}{D:bO}(x:E ⟨c,[]⟩ h):vP c E D Z h:=x
theorem bw {t:MT}{a b:MS}{D:bO}(x:t Z h fun c h1=>br c (a D Z h1) (b D Z h1)):iY t a b D Z h:=x
theorem Lg {t:MT}{a b:ME}(x:t Z h fun c h1=>br c (a Z h1 Q) (b Z h1 Q)):mIf t a b Z h Q:=x
variable {d : Str}
theorem Yz {mb:Dm->MS}{mh:MS}{D:bO}(x:mb (fun x h'=>Jr (Qu x.cls d) (mh D.lost (Z.set i (FN (Y5 x))) h') False) D Z h):acy i d mb mh D Z h:=x
theorem jq {g:QL}(e:w=.tup ws)(b:M4 ws.length n=true)(x:g ws Z h N):jr n g w Z h N:=by
 subst e;unfold jr;dsimp only;rw [b];exact x
theorem Ew {g:QL}(e:w=.lst ws)(b:M4 ws.length n=true)(x:g ws Z h N):jr n g w Z h N:=by
 subst e;unfold jr;dsimp only;rw [b];exact x
theorem Xm {g:QL}(e:w=.tup ws)(b:M4 ws.length n=true)(x:g ws Z h N):abY n g w Z h N:=by
 subst e;unfold abY;dsimp only;rw [b];exact x
theorem cO {r:QL}(x:g w Z h fun Z1 h1=>r ws Z1 h1 N):cX g r (w::ws) Z h N:=x
theorem mz (x:N Z h):Ag [] Z h N:=x
theorem ak (e:Z[i]?=FN (FN w))(x:Q w h):aA i Z h Q:=by
 unfold aA;rw [e];exact x
theorem aP (x:Q w h):mC w Z h Q:=x
theorem aG {r:M2}{ma mb:ME}(x:ma Z h fun a h1=>mb Z h1 fun b h2=>r a b h2 Q):CG r ma mb Z h Q:=x
theorem Kf {r:W->Gh->WK->Prop}{ma:ME}(x:ma Z h fun a h1=>r a h1 Q):mUn r ma Z h Q:=x
theorem Ae {i:Int}(x:Q (.int (-i)) h):Zi (.int i) h Q:=x
theorem aj {a:ME}{r:MA}{Q:List W->Gh->Prop}(x:a Z h fun w h1=>r Z h1 fun ws h2=>Q (w::ws) h2):ao a r Z h Q:=x
theorem aq {Q:List W->Gh->Prop}(x:Q [] h):aJ Z h Q:=x
variable {P : Prop}
theorem aZ (e:RW n 1000=true)(x:P):eG n P:=by
 unfold eG;rw [e];exact x
theorem cM {t:MA}(x:t Z h fun ws h1=>eG ws.length (Q (.tup ws) h1)):iR t Z h Q:=x
theorem cZ {t:MA}(x:t Z h fun ws h1=>eG ws.length (Q (.lst ws) h1)):fW t Z h Q:=x
theorem aB {c:CP}(x:ma Z h fun ws h1=>c ws h1 Q E):aL c E ma Z h Q:=x
theorem bC {r:MC}(x:ma Z h fun ws h1=>r ws h1 Q):Eu r ma Z h Q:=x
theorem aV {m:ME}{Q:Bool->Gh->Prop}(x:m Z h (tK Q)):bG m Z h Q:=x
theorem gW {Q:Bool->Gh->Prop}(x:Q c h):tK Q (.bl c) h:=x
theorem gU {m:ME}{Q:Bool->Gh->Prop}(x:m Z h (uK Q)):yZ m Z h Q:=x
theorem Eb {b:Bool}{Q:Bool->Gh->Prop}(e:Zd h w=FN b)(x:Q b h):uK Q w h:=by
 unfold uK;rw [e];exact x
theorem jU {t:MT}{Q:Bool->Gh->Prop}(x:t Z h fun c h1=>Q (!c) h1):Eo t Z h Q:=x
theorem mQ {t u:MT}{Q:Bool->Gh->Prop}(x:t Z h fun c h1=>br c (u Z h1 Q) (Q false h1)):WY t u Z h Q:=x
theorem lW {t u:MT}{Q:Bool->Gh->Prop}(x:t Z h fun c h1=>br c (Q true h1) (u Z h1 Q)):Nr t u Z h Q:=x
theorem cD {Q:Bool->Gh->Prop}(x:Q true h):jG Z h Q:=x
theorem agI {a b:ME}(x:a Z h (aK b Z Q)):aaB a b Z h Q:=x
theorem Xe {a b:ME}(x:a Z h (oK b Z Q)):acU a b Z h Q:=x
theorem ahs {a:ME}(x:a Z h (nK Q)):Z0 a Z h Q:=x
theorem aco {b:ME}(x:br c (b Z h Q) (Q (.bl false) h)):aK b Z Q (.bl c) h:=by
 cases c with
 | true=>exact x.1 rfl
 | false=>exact x.2 rfl
theorem ade {b:ME}(x:br c (Q (.bl true) h) (b Z h Q)):oK b Z Q (.bl c) h:=by
 cases c with
 | true=>exact x.1 rfl
 | false=>exact x.2 rfl
theorem acY (x:Q (.bl (!c)) h):nK Q (.bl c) h:=x
theorem ahN {f:Str->Bool}{m:ME}(x:m Z h (xK f Q)):acT f m Z h Q:=x
theorem acI {f:Str->Bool}{n:Str}(x:Q (.bl (f n)) h):xK f Q (.exc n) h:=x
variable {a : Prop}
theorem oY {b:Prop}(x:a):br true a b:=Cy rfl x
theorem eV {b:Prop}(x:b):br false a b:=iT rfl x
theorem ahh {b:Prop}(x:b):br (!true) a b:=eV x
theorem Xk {b:Prop}(x:a):br (!false) a b:=oY x
theorem cj {b:Prop}(x:a):Jr true a b:=x
theorem Bb {b:Prop}(x:b):Jr false a b:=x
theorem oN {i:Int}(x:Q (.int (i - j)) h):xW (.int i) (.int j) h Q:=x
theorem dW {i:Int}(x:Q (.int (i+j)) h):dB (.int i) (.int j) h Q:=x
theorem jP {i:Int}(c:qM i j)(x:Q (.int (i*j)) h):oh (.int i) (.int j) h Q:=⟨c,x⟩
theorem G4 {i:Int}(c:Iu i j)(x:Q (.int (i.fdiv j)) h):Kv (.int i) (.int j) h Q:=⟨c,x⟩
theorem Fx {i:Int}(c:j≠0)(x:Q (.int (i.fmod j)) h):Hf (.int i) (.int j) h Q:=⟨c,x⟩
theorem YD {i:Int}(x:Q (.bl (decide (i<j))) h):kLt (.int i) (.int j) h Q:=x
theorem tX {i:Int}(x:Q (.bl (decide (i>j))) h):Nz (.int i) (.int j) h Q:=x
theorem mY {i:Int}(x:Q (.bl (decide (i=j))) h):Jd (.int i) (.int j) h Q:=by
 have e:Fy (.int i) (.int j)=decide (i=j):=lg i j;show Q (.bl (Fy (.int i) (.int j))) h;rw [e];exact x
theorem yO {i:Int}(x:Q (.bl (decide (i≠j))) h):MN (.int i) (.int j) h Q:=by
 have e:(!Fy (.int i) (.int j))=decide (i≠j):=by rw [lg];by_cases z:i=j <;> simp [z]
 show Q (.bl (!Fy (.int i) (.int j))) h;rw [e];exact x
theorem aaJ {i j:Bool}(x:Q (.bl (decide (i=j))) h):Jd (.bl i) (.bl j) h Q:=by
 have e:Fy (.bl i) (.bl j)=decide (i=j):=by rw [Fy];cases i <;> cases j <;> rfl
 show Q (.bl (Fy (.bl i) (.bl j))) h;rw [e];exact x
theorem aaF {i j:Bool}(x:Q (.bl (decide (i≠j))) h):MN (.bl i) (.bl j) h Q:=by
 have e:(!Fy (.bl i) (.bl j))=decide (i≠j):=by rw [Fy];cases i <;> cases j <;> rfl
 show Q (.bl (!Fy (.bl i) (.bl j))) h;rw [e];exact x
theorem U0 {p q:Tr}(x:Q (.bl (decide (p=q))) h):Jd (tw p) (tw q) h Q:=by
 show Q (.bl (Fy (tw p) (tw q))) h;rw [W2];exact x
theorem W9 {p q:Tr}(x:Q (.bl (decide (p≠q))) h):MN (tw p) (tw q) h Q:=by
 have e:(!Fy (tw p) (tw q))=decide (p≠q):=by rw [W2];by_cases z:p=q <;> simp [z]
 show Q (.bl (!Fy (tw p) (tw q))) h;rw [e];exact x
theorem abz {p:Tr}{a b c:Int}(x:Q (.bl (decide (p=(a,b,c)))) h):Jd (tw p) (.tup [.int a,.int b,.int c]) h Q:=U0 (q:=(a,b,c)) x
theorem aa8 {p:Tr}{a b c:Int}(x:Q (.bl (decide (p≠(a,b,c)))) h):MN (tw p) (.tup [.int a,.int b,.int c]) h Q:=W9 (q:=(a,b,c)) x
theorem bI {x:W}{i:Int}(e:view h x=FN ws)(a:Lz ws i=FN w)(k:Q w h):Cw x (.int i) h Q:=by
 unfold Cw;dsimp only;rw [e];dsimp only;rw [a];exact k
theorem qH {T:String}{b:Bool}(e:Zf h w T=FN b)(x:Q (.bl b) h):Kc [w,.ty T] h Q:=by
 unfold Kc;dsimp only;rw [e];exact x
theorem cN {xs:List W}(e:view h w=FN xs)(x:Q (.int (xs.length:Int)) h):Gb [w] h Q:=by
 unfold Gb;dsimp only;rw [e];exact x
theorem dz {us:List W}(x:Q (.tup us) h):dO [.lst us] h Q:=x
variable {bs : List Bool}
theorem Pq {us:List W}(e:dM h w=FN us)(b:J7 us=FN bs)(x:Q (.bl (bs.any id)) h):YF [w] h Q:=by
 unfold YF;dsimp only;rw [e];dsimp only;rw [b];exact x
theorem Yw {us:List W}(e:dM h w=FN us)(b:J7 us=FN bs)(x:Q (.bl (bs.all id)) h):abL [w] h Q:=by
 unfold abL;dsimp only;rw [e];dsimp only;rw [b];exact x
theorem agG {us:List W}(e:dM h w=FN us)(b:u6 us=FN ns)(x:Q (.int ns.sum) h):ab7 [w] h Q:=by
 unfold ab7;dsimp only;rw [e];dsimp only;rw [b];exact x
theorem oJ {i:Int}(x:Q (.int (if i<0 then -i else i)) h):yL [.int i] h Q:=x
theorem Ad {b:Bool}(x:Q (.int (if b then 1 else 0)) h):Np [.bl b] h Q:=x
theorem dN {mi:MI}{b:MS}{D:bO}(x:mi Z h (ab5 g b D Z)):lD mi g b D Z h:=x
variable {o : Option (Nat×List W)}
theorem dR {b:MS}{D:bO}(x:gG ⟨ws,o⟩ g b D ws Z h):ab5 g b D Z ⟨ws,o⟩ h:=x
theorem IK {b:MS}{D:bO}(x:D.nx Z h):gG ⟨ws,FX⟩ g b D [] Z h:=x
theorem uR {r:List W}{b:MS}{D:bO}(x:g w Z h fun Z1 h1=>b { D with nx:=gG ⟨ws,FX⟩ g b D r,ct:=gG ⟨ws,FX⟩ g b D r,bk:=D.nx } Z1 h1):gG ⟨ws,FX⟩ g b D (w::r) Z h:=x
variable {R : Src->Gh->Prop}
theorem eZ {m:ME}(x:m Z h (iK R)):Hr m Z h R:=x
theorem pL (e:Pu h w=FN ⟨ws,o⟩)(x:R ⟨ws,o⟩ h):iK R w h:=by
 unfold iK;rw [e];exact x
theorem eU (x:ma Z h (rgK R)):fK ma Z h R:=x
theorem aaS (x:R ⟨[.int 0,.int 1,.int 2],FX⟩ h):rgK R [.int 3] h:=x
theorem abl (x:R ⟨[.int 0,.int 1],FX⟩ h):rgK R [.int 2] h:=x
theorem Fe (x:ma Z h (zpK R)):Zb ma Z h R:=x
variable {as : List W}
theorem TX {a b:W}{bs:List W}{zs:List W}(e:rA a=FN as)(e':rA b=FN bs)(z:pJ as bs=zs)(x:R ⟨zs,FX⟩ h):zpK R [a,b] h:=by
 subst z;have es:Oh h a b=FN ⟨pJ as bs,FX⟩:=by unfold Oh;rw [e,e']
 unfold zpK;dsimp only;rw [es];exact x
theorem Z8 {b:W}{bs:List W}{zs:List W}(e:h.c n=FN (.lst as))(e':rA b=FN bs)(z:pJ as bs=zs)(x:R ⟨zs,FN (n,as)⟩ h):zpK R [.loc n,b] h:=by
 subst z;have es:Oh h (.loc n) b=FN ⟨pJ as bs,FN (n,as)⟩:=by unfold Oh;rw [e'];dsimp only [rA];rw [e]
 unfold zpK;dsimp only;rw [es];exact x
theorem ab2 {bs:List W}:pJ [] bs=[]:=by cases bs <;> rfl
theorem abP {a:W}:pJ (a::as) []=[]:=rfl
theorem aaE {a b:W}{bs l:List W}(e:pJ as bs=l):pJ (a::as) (b::bs)=.tup [a,b]::l:=by rw [pJ,e]
theorem gn {mi:MI}(x:mi Z h (SM own ix tt te Z Q)):Hi own ix mi tt te Z h Q:=x
theorem J1 (e:RW ws.length 1000=true)(x:rE ⟨ws,o⟩ own ix tt te Z Q ws [] h):SM own ix tt te Z Q ⟨ws,o⟩ h:=aZ e x
variable {acc : List W}
theorem Aj (x:Q (.lst acc) h):rE ⟨ws,FX⟩ own ix tt te Z Q [] acc h:=x
theorem jW {r vs:List W}(e:own w=FN vs)(x:tt (vs.map FN++jZ ix Z) h fun c h1=>Jr c (te (vs.map FN++jZ ix Z) h1 fun v h2=>rE ⟨ws,FX⟩ own ix tt te Z Q r (acc++[v]) h2) (rE ⟨ws,FX⟩ own ix tt te Z Q r acc h1)):rE ⟨ws,FX⟩ own ix tt te Z Q (w::r) acc h:=by
 unfold rE;show match own w with
  | some vs=>tt (vs.map FN++jZ ix Z) h fun c h1=>Jr c (te (vs.map FN++jZ ix Z) h1 fun v h2=>rE ⟨ws,FX⟩ own ix tt te Z Q r (acc++[v]) h2) (rE ⟨ws,FX⟩ own ix tt te Z Q r acc h1)
  | none=>False
 rw [e];exact x
variable {body : Dm->MS}
theorem aaM {N:Nat}(hl:M4 ws.length n=true)(x:body E { nx:=fun _ h'=>Q .non h',rt:=Q } (ws.map FN++Ja (N - ws.length) FX) h):Gi n N false body ws h Q E:=by
 unfold Gi;rw [hl];exact x
variable {r : W->Option Int->Option Int->Gh->WK->Prop}
theorem Mf {m:ME}{l u:MO}(x:m Z h fun a h1=>l Z h1 fun lo h2=>u Z h2 fun hi h3=>r a lo hi h3 Q):mSl r m l u Z h Q:=x
theorem uV {m:ME}{Q:Option Int->Gh->Prop}(x:m Z h (pK Q)):Fb m Z h Q:=x
theorem Y9 {i:Int}{Q:Option Int->Gh->Prop}(x:Q (FN i) h):pK Q (.int i) h:=x
def p3K (i j k:Nat)(D:bO)(Z : Sw):List W->Gh->Prop:=fun ws h=>match ws with
 | [x,y,z]=>D.nx (((Z.set i (FN x)).set j (FN y)).set k (FN z)) h
 | _=>False
theorem zbv {j k:Nat}{ta:MA}{D:bO}(x:ta Z h (p3K i j k D Z)):aaL i j k ta D Z h:=x
theorem afW {xs:List W}{n:Int}{b:Prop}(e:decide ((xs.length:Int)≠n)=false)(x:b):br (decide ((xs.length:Int)≠n)) a b:=iT e x
theorem ahS {b:Prop}(e:bs.all id=true)(x:b):br (!(bs.all id)) a b:=iT (by rw [e];rfl) x
theorem aa1 {n:Str}{b:Prop}(e:Qu n d=true)(x:a):Jr (Qu n d) a b:=XD e x
theorem aa4 {n:Str}{b:Prop}(e:Qu n d=true)(x:a):br (Qu n d) a b:=Cy e x
theorem Zo {n:Str}{b:Prop}(e:Qu n d=false)(x:b):br (Qu n d) a b:=iT e x
theorem Ux {α : Type}{a x:α}{l:List α}:(a::l).set 0 x=x::l:=rfl
theorem UL {α : Type}{a x:α}{l l':List α}(e:l.set n x=l'):(a::l).set (n+1) x=a::l':=by rw [List.set_cons_succ,e]
theorem gw {Z':Sw}(e:Z.set i (FN w) = Z')(x:N Z' h):kI i w Z h N:=by
 subst e;exact x
theorem nV {Z':Sw}(x:N Z' h)(e:Z.set i (FN w) = Z':=by repeat (first | with_reducible exact Ux | with_reducible apply UL)):kI i w Z h N:=gw e x
theorem abr {j k:Nat}{D:bO}{Z1 Z2 Z3:Sw}{x y z:W}(e1:Z.set i (FN x) = Z1)(e2:Z1.set j (FN y) = Z2)(e3:Z2.set k (FN z) = Z3)(q:D.nx Z3 h):p3K i j k D Z [x,y,z] h:=by
 subst e1 e2 e3;exact q
def ini (ws:List W)(n:Nat):Sw:=ws.map FN++Ja (n - ws.length) FX
theorem acd:ini [] 0=[]:=rfl
theorem ab1 {l:Sw}(e:ini [] n=l):ini [] (n+1)=FX::l:=by
 subst e;rfl
theorem abH {l:Sw}(e:ini ws n=l):ini (w::ws) (n+1)=FN w::l:=by
 subst e;unfold ini;rw [K7,Nat.add_sub_add_right];rfl
theorem cT {N:Nat}(hl:M4 ws.length n=true)(e:ini ws N = Z)(x:body E { nx:=fun _ h'=>Q .non h',rt:=Q } Z h):Gi n N false body ws h Q E:=by
 subst e;exact aaM hl x
theorem Zt {n:Str}{fs:List (Str×W)}{mh:MS}{D:bO}{Z':Sw}(e:Qu n d=true)(s:Z.set i (FN (Y5 ⟨n,fs⟩)) = Z')(x:mh D Z' h):Jr (Qu (Xw.mk n fs).cls d) (mh D (Z.set i (FN (Y5 (Xw.mk n fs)))) h) False:=by
 subst s;exact XD e x
theorem agn {mi:MI}(x:Hi own ix mi tt te Z h (abV Q)):acz own ix mi tt te Z h Q:=x
theorem Fv {mo mi:ME}{ms:Uo}(x:mo Z h fun o h1=>mi Z h1 fun i h2=>ms o i w h2 fun h3=>N Z h3):En mo mi ms w Z h N:=x
theorem afR {r us:List W}{b:MS}{D:bO}(e:h.c n=FN (.lst us))(x:g w Z h fun Z1 h1=>b { D with nx:=gG ⟨ws,FN (n,us)⟩ g b D r,ct:=gG ⟨ws,FN (n,us)⟩ g b D r,bk:=D.nx } Z1 h1):gG ⟨ws,FN (n,us)⟩ g b D (w::r) Z h:=⟨e,x⟩
theorem adJ {us:List W}{b:MS}{D:bO}(e:h.c n=FN (.lst us))(x:D.nx Z h):gG ⟨ws,FN (n,us)⟩ g b D [] Z h:=⟨e,x⟩
theorem afe {us:List W}(e:h.c n=FN (.lst us))(x:Q (.lst acc) h):rE ⟨ws,FN (n,us)⟩ own ix tt te Z Q [] acc h:=⟨e,x⟩
theorem zbC {us r vs:List W}(ec:h.c n=FN (.lst us))(e:own w=FN vs)(x:tt (vs.map FN++jZ ix Z) h fun c h1=>Jr c (te (vs.map FN++jZ ix Z) h1 fun v h2=>rE ⟨ws,FN (n,us)⟩ own ix tt te Z Q r (acc++[v]) h2) (rE ⟨ws,FN (n,us)⟩ own ix tt te Z Q r acc h1)):rE ⟨ws,FN (n,us)⟩ own ix tt te Z Q (w::r) acc h:=by
 unfold rE;refine ⟨ec,?_⟩;show match own w with
  | some vs=>tt (vs.map FN++jZ ix Z) h fun c h1=>Jr c (te (vs.map FN++jZ ix Z) h1 fun v h2=>rE ⟨ws,FN (n,us)⟩ own ix tt te Z Q r (acc++[v]) h2) (rE ⟨ws,FN (n,us)⟩ own ix tt te Z Q r acc h1)
  | none=>False
 rw [e];exact x
theorem acf (e:h.c n=FN (.lst ws))(x:R ⟨ws,FN (n,ws)⟩ h):iK R (.loc n) h:=pL (by simp only [Pu,e]) x
theorem ZV {i:Int}(e:h.c n=FN (.lst ws))(a:Lz ws i=FN w)(k:Q w h):Cw (.loc n) (.int i) h Q:=bI (dJ e) a k
theorem iW {N:Nat}(hl:M4 ws.length n=true)(e:ini ws N = Z)(x:body E { nx:=fun _ h'=>j6 true h .non h' Q,rt:=fun w h'=>j6 true h w h' Q } Z h):Gi n N true body ws h Q E:=by
 subst e;unfold Gi;rw [hl];exact x
theorem aeN {a b:List W}(e:RW (a.length+b.length) 1000=true)(x:Q (.lst (a++b)) h):dB (.lst a) (.lst b) h Q:=aZ e x
theorem ZW {a b:Bool}(x:Q (.bl (a==b)) h):kIs (.bl a) (.bl b) h Q:=x
theorem afz {a b:Bool}(x:Q (.bl (!(a==b))) h):Gp (.bl a) (.bl b) h Q:=x
theorem oR {a b:Str}(x:Q (.bl (decide (a=b))) h):Jd (.str a) (.str b) h Q:=by
 have e:Fy (.str a) (.str b)=decide (a=b):=by rw [Fy];by_cases z:a=b <;> simp [z]
 show Q (.bl (Fy (.str a) (.str b))) h;rw [e];exact x
theorem aa9 {a b:Str}(x:Q (.bl (decide (a≠b))) h):MN (.str a) (.str b) h Q:=by
 have e:(!Fy (.str a) (.str b))=decide (a≠b):=by rw [Fy];by_cases z:a=b <;> simp [z]
 show Q (.bl (!Fy (.str a) (.str b))) h;rw [e];exact x
theorem Xj {b:Prop}(e:bs.any id=false)(x:b):br (bs.any id) a b:=iT e x
local macro_rules | `(tactic| rfl') => `(tactic| repeat (first
 | with_reducible (first | refine aH ?_ | refine aQ ?_ | refine aB ?_ | refine aj ?_ | refine aq ?_)
 | ((with_reducible apply ak);exact rfl) | with_reducible refine aP ?_ | with_reducible refine aG ?_ | with_reducible refine gw (by repeat (first | with_reducible exact Ux | with_reducible apply UL)) ?_ | with_reducible (first | refine agu ?_ | refine ahy ?_ | refine bB ?_ | refine fY ?_ | refine acZ ?_ | refine acA ?_)
 | with_reducible (first | refine bw ?_ | refine Lg ?_ | refine aU ?_ | refine iy ?_ | refine aW ?_ | refine Yz ?_ | refine lM ?_)
 | with_reducible (first | refine aV ?_ | refine gW ?_ | refine gU ?_) | ((with_reducible apply Eb);exact rfl) | with_reducible (first | refine jU ?_ | refine mQ ?_ | refine lW ?_ | refine cD ?_)
 | with_reducible (first | refine agI ?_ | refine Xe ?_ | refine ahs ?_ | refine aco ?_ | refine ade ?_ | refine acY ?_ | refine ahN ?_ | refine acI ?_)
 | with_reducible (first | refine oY ?_ | refine eV ?_ | refine ahh ?_ | refine Xk ?_ | refine cj ?_ | refine Bb ?_)
 | with_reducible refine cM ?_ | with_reducible refine cZ ?_ | ((with_reducible apply aZ);exact rfl) | with_reducible (first | refine bC ?_ | refine Kf ?_ | refine Ae ?_)
 | ((with_reducible apply jq);exact rfl;exact rfl) | ((with_reducible apply Ew);exact rfl;exact rfl) | ((with_reducible apply Xm);exact rfl;exact rfl) | with_reducible refine cO ?_ | with_reducible refine mz ?_
 | with_reducible refine oN ?_ | with_reducible refine dW ?_ | ((with_reducible apply jP);exact qM.of (by trivial) (by trivial) (by lia) (by lia)) | with_reducible refine YD ?_ | with_reducible refine tX ?_
 | with_reducible (first | refine mY ?_ | refine yO ?_ | refine aaJ ?_ | refine aaF ?_ | refine U0 ?_ | refine W9 ?_ | refine abz ?_ | refine aa8 ?_)
 | ((with_reducible apply bI);exact rfl;exact rfl) | ((with_reducible apply qH);exact rfl) | ((with_reducible apply cN);exact rfl) | with_reducible refine dz ?_ | ((with_reducible apply Pq);exact rfl;exact rfl) | ((with_reducible apply Yw);exact rfl;exact rfl) | ((with_reducible apply agG);exact rfl;exact rfl) | with_reducible refine Ad ?_ | with_reducible refine oJ ?_
 | with_reducible (first | refine dN ?_ | refine dR ?_ | refine IK ?_ | refine uR ?_ | refine eZ ?_) | ((with_reducible apply pL);exact rfl) | with_reducible (first | refine eU ?_ | refine aaS ?_ | refine abl ?_ | refine Fe ?_) | ((with_reducible apply TX);exact rfl;exact rfl;(repeat (first | with_reducible exact ab2 | with_reducible exact abP | with_reducible apply aaE)))
 | with_reducible refine gn ?_ | ((with_reducible apply J1);exact rfl) | with_reducible refine Aj ?_ | ((with_reducible apply jW);exact rfl) | ((with_reducible apply cT);exact rfl;repeat (first | with_reducible exact acd | with_reducible apply abH | with_reducible apply ab1)) | with_reducible (first | refine Mf ?_ | refine uV ?_ | refine Y9 ?_ | refine zbv ?_) | with_reducible refine abr (by repeat (first | with_reducible exact Ux | with_reducible apply UL)) (by repeat (first | with_reducible exact Ux | with_reducible apply UL)) (by repeat (first | with_reducible exact Ux | with_reducible apply UL)) ?_ | ((with_reducible apply afW);exact rfl) | ((with_reducible apply ahS);exact rfl) | ((with_reducible apply Zt);decide +kernel;(repeat (first | with_reducible exact Ux | with_reducible apply UL))) | ((with_reducible apply aa1);decide +kernel) | ((with_reducible apply aa4);decide +kernel) | ((with_reducible apply Zo);decide +kernel) | with_reducible refine agn ?_ | with_reducible refine Fv ?_ | ((with_reducible apply acf);(with_reducible assumption)) | ((with_reducible apply afR);(with_reducible assumption)) | ((with_reducible apply adJ);(with_reducible assumption)) | ((with_reducible apply afe);(with_reducible assumption)) | ((with_reducible apply zbC);(with_reducible assumption);exact rfl) | ((with_reducible apply ZV);(with_reducible assumption);exact rfl) | ((with_reducible apply Z8);(with_reducible assumption);exact rfl;(repeat (first | with_reducible exact ab2 | with_reducible exact abP | with_reducible apply aaE))) | ((with_reducible apply iW);exact rfl;(repeat (first | with_reducible exact acd | with_reducible apply abH | with_reducible apply ab1))) | ((with_reducible apply aeN);exact rfl) | with_reducible (first | refine ZW ?_ | refine afz ?_ | refine oR ?_ | refine aa9 ?_) | ((with_reducible apply Xj);decide +kernel)))
theorem qb {r:MM}{mo:ME}(x:mo Z h fun x h1=>CZ h1 x (ma Z h1 fun xs h2=>r x xs h2 Q)):Cq r mo ma Z h Q:=x
theorem kO {us:List W}(e:h.c n=FN (.lst us))(p:P):CZ h (.loc n) P:=by
 simp only [CZ,e];exact p
theorem mW (hm:∀ R,ma Z h R=R ws h)(hz:RW ws.length 1000=true)(x:∀ g:Gh,g.c h.nx=FN (.lst ws)->(∀ n,n≠h.nx->g.c n=h.c n)->g.nx=h.nx+1->Q (.loc h.nx) g):rF ma Z h Q:=by
 unfold rF;rw [hm];exact aZ hz<|x _ (Ed _ _) (fun _ e=>tB e) rfl
theorem abx {us zs:List W}(e:h.c n=FN (.lst us))(hz:us.length+zs.length<=1000)(k:∀ g:Gh,g.c n=FN (.lst (us++zs))->(∀ m,m≠n->g.c m=h.c m)->g.nx=h.nx->Q .non g):jh (.loc n) [.lst zs] h Q:=
 YC e (Dk hz (by decide)) (k _ (oU _ _ _) (fun _ e=>jy e) rfl)
theorem Dl {us:List W}(e:h.c n=FN (.lst us))(hz:us.length<=1000)(k:∀ g:Gh,g.c n=FN (.lst (us++[w]))->(∀ m,m≠n->g.c m=h.c m)->g.nx=h.nx->Q .non g):eN (.loc n) [w] h Q:=
 ahx e (QK hz (by decide)) (k _ (oU _ _ _) (fun _ e=>jy e) rfl)
def rng (a m:Nat):List Nat:=List.range' a (m - a)
theorem Hv {a x:Nat}:x∈rng a m↔a<=x/\x<m:=by
 unfold rng;rw [List.mem_range'_1];lia
theorem Ao (a m:Nat):xQ (a:Int) ((m:Int) - (a:Int)).toNat=(rng a m).map fun x:Nat=>W.int (x:Int):=by
 unfold xQ rng;rw [List.range'_eq_map_range,KC,show ((m:Int) - (a:Int)).toNat=m - a by lia];refine U9 fun x _=>?_;simp
theorem adC (m:Nat):xQ 0 ((m:Nat):Int).toNat=(rng 0 m).map fun x:Nat=>W.int (x:Int):=by
 have:=Ao 0 m
 rw [show ((m:Int) - ((0:Nat):Int)).toNat=((m:Nat):Int).toNat by lia] at this;exact this
def abM (R:Src->Gh->Prop):List W->Gh->Prop:=fun ws h=>match ws with
 | [.int i,.int j]=>vR i (vR j (R ⟨xQ i (j - i).toNat,FX⟩ h))
 | _=>False
theorem aeB (x:ma Z h (abM R)):GQ ma Z h R:=x
theorem agh {a:Int}(ha:a=(n:Int))(h1:n<=1000)(h2:m<=1000)(x:R ⟨(rng n m).map fun x:Nat=>W.int (x:Int),FX⟩ h):abM R [.int a,.int (m:Int)] h:=by
 subst ha;rw [<-Ao] at x;exact vR.mk (by lia) (by lia)<|vR.mk (by lia) (by lia) x
theorem oZ (h2:m<=1000)(x:R ⟨(rng 0 m).map fun x:Nat=>W.int (x:Int),FX⟩ h):rgK R [.int (m:Int)] h:=by
 rw [<-adC] at x;exact vR.mk (by lia) (by lia) x
def nxt (l:List Nat):Nat:=match l.getLast? with
 | none=>0
 | some x=>x+1
def grow (m:Nat)(l:List Nat):List (List Nat):=(rng (nxt l) m).map fun p=>l++[p]
def Gf (m:Nat):Nat->List (List Nat)
 | 0=>[[]]
 | k+1=>(Gf m k).flatMap (grow m)
def sy (l:List Nat):W:=.tup (l.map fun x:Nat=>.int (x:Int))
theorem Ca {m:Nat}:∀ {k:Nat} {l:List Nat},l∈Gf m k->l.length=k
 | 0,l,h=>by
  rw [Gf,Kp] at h;rw [h];rfl
 | k+1,l,h=>by
  rw [Gf,List.mem_flatMap] at h;obtain ⟨u,hu,hl⟩:=h;obtain ⟨p,_,rfl⟩:=Hj.mp hl;rw [Jt,Ca hu];rfl
theorem agK:∀ {k:Nat} {l:List Nat},l∈Gf m k->nxt l<=m
 | 0,l,h=>by
  rw [Gf,Kp] at h;rw [h];exact Ko _
 | k+1,l,h=>by
  rw [Gf,List.mem_flatMap] at h;obtain ⟨u,hu,hl⟩:=h;obtain ⟨p,hp,rfl⟩:=Hj.mp hl;have:=(Hv.mp hp).2
  unfold nxt;rw [List.getLast?_append];simp;lia
theorem adp:∀ m,m<=12->∀ k,k<=4->(Gf m k).length<=1000:=by
 have:(Ma 13).all (fun m=>(Ma 5).all fun k=>decide ((Gf m k).length<=1000))=true:=by decide +kernel
 intro m hm k hk;rw [QG] at this;have h1:=this m (WR.mpr (by lia));rw [QG] at h1;exact of_decide_eq_true<|h1 k<|WR.mpr<|by lia
def Zm (h:Gh)(w:W)(ws:List W):Prop:=w=.lst ws\/∃ n,w=.loc n/\h.c n=FN (.lst ws)
theorem zbr {b:MS}{D:bO}{α : Type}{v:α->W}{xs:List α}(hv:Z[i]?=FN (FN w))(e:Zm h w (xs.map v))(I:Nat->Sw->Gh->Prop)
  (go:∀ i Z h',I i Z h'->Zm h' w (xs.map v))
  (step:∀ (i:Nat) (x:α) (Z : Sw) (h:Gh) (N:Sw->Gh->Prop),(∀ Z' h',I (i+1) Z' h'->N Z' h')->xs[i]?=FN x->I i Z h->g (v x) Z h fun Z1 h1=>b { D with nx:=N,ct:=N,bk:=D.nx } Z1 h1)
  (fin:∀ Z h,I xs.length Z h->D.nx Z h) (h0:I 0 Z h):lD (Hr (aA i)) g b D Z h:=by
 unfold lD Hr aA;rw [hv];dsimp only;have gen:∀ s:Src,Pu h w=FN s->s.ws=xs.map v->(∀ h',Zm h' w (xs.map v)->∀ P:Prop,P->s.go h' P)->(match Pu h w with
   | some s=>gG s g b D s.ws Z h
   | none=>False):=by
  intro s es ew hg;rw [es];show gG s g b D s.ws Z h;rw [ew];refine zaU I (fun i Z h' hi=>hg h'<|go i Z h' hi) (fun i w Z h N hN e hi=>?_) (fun Z h q=>fin Z h<|by rwa [DX] at q) h0;rw [GP] at e;cases q:xs[i]? with
  | none=>rw [q] at e;cases e
  | some x=>
   rw [q] at e;cases e;exact step i x Z h N hN q hi
 rcases e with rfl | ⟨n,rfl,e⟩
 ·exact gen ⟨xs.map v,FX⟩ rfl rfl fun _ _ _ p=>p
 ·refine gen ⟨xs.map v,FN (n,xs.map v)⟩ (by simp only [Pu,e]) rfl fun h' e' P p=>⟨?_,p⟩;rcases e' with e' | ⟨n',e',q⟩
  ·cases e'
  ·cases e';exact q
theorem adZ {a b:List W}(hz:a.length+b.length<=1000)(x:Q (.tup (a++b)) h):dB (.tup a) (.tup b) h Q:=by
 cases a with
 | nil=>exact x
 | cons a0 a=>exact eG.mk (Dk (by simpa using hz) (by decide:1000<=FP)) x
theorem zbw {l:List Nat}(hm:m<=12)(hl:l.length<=4)(hn:nxt l<=m)(h5:Z[5]?=FN (FN (sy l)))(h6:Z[6]?=FN (FN (.int (nxt l:Int))))(h0:Z[0]?=FN (FN (.int (m:Int))))(x:Q (.lst ((grow m l).map sy)) h):
  Hi Ib [5] (GQ (ao (aA 6) (ao (aA 0) aJ))) jG (CG dB (aA 1) (iR (ao (aA 0) aJ))) Z h Q:=by
 refine gn<|aeB<|aj<|ak h6<|aj<|ak h0<|aq ?_
 refine agh rfl (by lia) (by lia) ?_;have hb:jZ [5] Z = [FN (sy l)]:=by
  show [(Z[5]?).getD FX]=_;rw [h5];rfl
 have hz:((rng (nxt l) m).map fun x:Nat=>W.int (x:Int)).length<=FP:=by
  rw [DX];unfold rng;rw [U6];exact Dk (by lia) (by decide:12<=FP)
 refine eG.mk hz ?_;refine dF (fun i acc h'=>h'=h/\acc=(((rng (nxt l) m).take i).map fun p=>l++[p]).map sy) ?_ ?_ ⟨rfl,rfl⟩
 ·rintro i w acc h' N hN e ⟨rfl,rfl⟩;rw [GP] at e;cases q:(rng (nxt l) m)[i]? with
  | none=>rw [q] at e;cases e
  | some p=>
   rw [q] at e;cases e;refine ⟨[W.int (p:Int)],rfl,?_⟩;rw [hb];refine cD<|cj<|aG<|ak rfl<|cM<|aj<|ak rfl<|aq<|aZ rfl ?_
   refine adZ (a:=l.map fun x:Nat=>.int (x:Int)) (by rw [DX];simp;lia) ?_;refine hN _ _ ⟨rfl,?_⟩;rw [KN,q];simp [sy]
 ·rintro acc h' ⟨rfl,rfl⟩;rw [DX,Kl];exact x
def Jj (c0:CP):Prop:=∀ {h:Gh} {m k:Nat} {Q:WK} {E:Dm},m<=12->k<=4->Q (.lst ((Gf m k).map sy)) h->c0 [.int (m:Int),.int (k:Int)] h Q E
theorem zbx {l:List Nat}(h:l.length=i+1):∃ x,l.getLast?=FN x/\Lz (l.map fun x:Nat=>W.int (x:Int)) (i:Int)=FN (.int (x:Int)):=by
 have hi:i<l.length:=by lia
 refine ⟨l[i],?_,?_⟩
 ·rw [List.getLast?_eq_getElem?,h,Nat.add_sub_cancel,HD hi]
 ·exact bK (by rw [GP,HD hi];rfl)
theorem abU (n:Nat):∀ l:List Nat,K9 n (l.map fun x:Nat=>W.int (x:Int))
 | []=>by simp [K9]
 | x::l=>by
  have:=abU n l
  rw [DY,K9];exact ⟨by simp [Lo],this⟩
theorem zbA (n:Nat)(l:List Nat):Lo n (sy l):=by
 unfold sy;rw [Lo];exact abU n l
theorem vf (n:Nat):∀ ls:List (List Nat),K9 n (ls.map sy)
 | []=>by simp [K9]
 | l::ls=>by
  have:=vf n ls
  rw [DY,K9];exact ⟨zbA n l,this⟩
theorem eO {a x:Nat}(e:(rng a m)[i]?=FN x):x=a+i/\x<m:=by
 have hx:=Hv.mp (KH e);unfold rng at e;have hl:=(Lk.mp e).1;rw [U6] at hl;rw [HD (by rw [U6];exact hl),List.getElem_range'] at e;have:=Gz e
 lia
theorem aeR:Jj vq:=by
 intro h m k Q E hm hk q;unfold vq;refine iW rfl (Z:=[FN<|.int (m:Int),FN<|.int (k:Int),FX,FX,FX,FX,FX]) rfl ?_;refine aH<|aQ<|cZ<|aj<|cM<|aq<|aZ rfl<|aq<|aZ rfl ?_
 refine nV<|bB ?_
 refine aH<|dN<|eU<|aj<|ak rfl<|aq<|oZ (by lia)<|dR ?_
 refine bW (fun i Z h'=>∃ w s3 s4 s5 s6,Z = [FN<|.int (m:Int),FN<|.int (k:Int),FN w,s3,s4,s5,s6]/\(w=.lst ((Gf m i).map sy)\/∃ n,w=.loc n/\h.nx<=n/\n<h'.nx/\h'.c n=FN (.lst<|(Gf m i).map sy))/\h.nx<=h'.nx/\∀ n,n<h.nx->h'.c n=h.c n) ?_ ?_ ⟨_,_,_,_,_,rfl,.inl rfl,Dg _,fun _ _=>rfl⟩
 ·rintro i w0 Z h' N hN e ⟨w,s3,s4,s5,s6,rfl,hw,hx,ho⟩;rw [GP] at e;cases qe:(rng 0 k)[i]? with
  | none=>rw [qe] at e;cases e
  | some i'=>
   rw [qe] at e;cases e;obtain ⟨ei,hik⟩:=eO qe;rw [VJ] at ei;subst ei;refine nV ?_;refine aH<|aQ<|mW (ws:=[]) (fun R=>rfl) rfl fun g eg og xg=>?_
   refine nV<|bB ?_
   refine aH ?_;have sw:∀ g':Gh,(∀ n,n≠h'.nx->g'.c n=h'.c n)->Zm g' w ((Gf m i').map sy):=by
    intro g' hg;rcases hw with rfl | ⟨n,rfl,h1,h2,h3⟩
    ·exact .inl rfl
    ·exact .inr ⟨n,rfl,by rw [hg n<|by lia];exact h3⟩
   refine zbr (i:=2) (w:=w) (v:=sy) (xs:=Gf m i') rfl (sw g og) (fun j Z g'=>∃ s5 s6,Z = [FN<|.int (m:Int),FN<|.int (k:Int),FN w,FN<|.int (i':Int),FN<|.loc h'.nx,s5,s6]/\g'.c h'.nx=FN (.lst<|(((Gf m i').take j).flatMap (grow m)).map sy)/\g'.nx=h'.nx+1/\∀ n,n≠h'.nx->g'.c n=h'.c n) ?_ ?_ ?_ ⟨_,_,rfl,eg,xg,og⟩
   ·rintro j Z g' ⟨s5,s6,rfl,h1,h2,h3⟩;exact sw g' h3
   ·rintro j l Z g' N2 hN2 el ⟨s5,s6,rfl,h1,h2,h3⟩;have ml:=KH el;have ll:=Ca ml;have ln:=agK ml;refine nV ?_;have fin:∀ Z,Z = [FN (.int (m:Int)),FN (.int (k:Int)),FN w,FN (.int (i':Int)),FN (.loc h'.nx),FN (sy l),FN (.int (nxt l:Int))]->oV (Cq jh (aA 4) (ao (Hi Ib [5] (GQ (ao (aA 6) (ao (aA 0) aJ))) jG (CG dB (aA 1) (iR (ao (aA 0) aJ)))) aJ)) { nx:=N2,rt:=fun w h'=>j6 true h w h' Q,bk:=fun _ _=>False,ct:=N2 } Z g':=by
     rintro Z rfl;refine iy<|qb<|ak rfl<|kO h1<|aj<|zbw hm (by lia) ln rfl rfl rfl<|aq<|abx h1 ?_ fun g2 e2 o2 x2=>?_
     ·rw [DX,DX,<-Jt,show grow m l=[l].flatMap (grow m) by simp,<-List.flatMap_append];have hp:(Gf m i').take (j+1)=(Gf m i').take j++[l]:=by rw [KN,el];rfl
      rw [<-hp];have hr:=adp m hm (i'+1) (by lia);rw [Gf,<-Wk (j+1) (Gf m i'),List.flatMap_append,Jt] at hr;lia
     ·refine hN2 _ _ ⟨_,_,rfl,?_,by rw [x2];exact h2,fun n hn=>by rw [o2 n hn];exact h3 n hn⟩;rw [e2,KN,el,List.flatMap_append,Hl];simp
    refine aH<|aQ<|Lg<|aV<|aG<|ak rfl<|aP<|tX<|gW ?_
    refine su (fun hp=>?_) fun hp=>?_
    ·obtain ⟨x,ex,ax⟩:=zbx (l:=l) (i:=i' - 1) (by lia);have en:nxt l=x+1:=by unfold nxt;rw [ex]
     refine aG<|aG<|ak rfl<|aG<|ak rfl<|aP<|oN<|bI (x:=sy l) (i:=(i':Int) - 1) (w:=.int (x:Int)) rfl ?_<|aP<|dW ?_
     ·rw [show (i':Int) - 1=((i' - 1:Nat):Int) by lia];exact ax
     ·refine gw (Z':=[FN<|.int (m:Int),FN<|.int (k:Int),FN w,FN<|.int (i':Int),FN<|.loc h'.nx,FN<|sy l,FN<|.int (nxt l:Int)]) (by rw [en];rfl)<|bB<|fin _ rfl
    ·have l0:l=[]:=Qo (by lia);have en:nxt l=0:=by rw [l0];rfl
     refine aP ?_;refine gw (Z':=[FN<|.int (m:Int),FN<|.int (k:Int),FN w,FN<|.int (i':Int),FN<|.loc h'.nx,FN<|sy l,FN<|.int (nxt l:Int)]) (by rw [en];rfl)<|bB<|fin _ rfl
   ·rintro Z g' ⟨s5,s6,rfl,h1,h2,h3⟩;rw [Kl] at h1;refine bB ?_;refine aQ ?_;refine ak rfl ?_;refine nV<|bB ?_
    exact hN _ _ ⟨_,_,_,_,_,rfl,.inr ⟨_,rfl,hx,by lia,h1⟩,by lia,fun n hn=>by rw [h3 n<|by lia];exact ho n hn⟩
 ·rintro Z h' ⟨w,s3,s4,s5,s6,rfl,hw,hx,ho⟩;have hl:((rng 0 k).map fun x:Nat=>W.int (x:Int)).length=k:=by
   rw [DX];unfold rng;rw [U6];lia
  rw [hl] at hw;unfold sO;refine bB ?_;refine aU ?_;refine ak rfl ?_;refine fY ?_;refine ⟨fun n c hn e=>by rw [ho n hn];exact e,?_⟩;rcases hw with rfl | ⟨n,rfl,h1,h2,h3⟩
  ·exact .inl ⟨by rw [Lo];exact vf _ _,q⟩
  ·exact .inr ⟨n,_,rfl,h1,h3,vf _ _,q⟩
abbrev Tm:=List Int×Int
def Kg (t:Tm):W:=.tup [.tup (t.1.map .int),.int t.2]
def Dj (ts:List Tm):W:=.tup (ts.map Kg)
def adH (h h':Gh):Prop:=h.nx<=h'.nx/\∀ n,n<h.nx->h'.c n=h.c n
def Pw (ps:List Int):Prop:=∀ p∈ps,0<=p/\p<=60
theorem Xx {i:Int}(c:Zx i j)(x:Q (.int (i^j.toNat)) h):W8 (.int i) (.int j) h Q:=⟨c,x⟩
theorem tH (n:Nat):∀ l:List Int,K9 n (l.map .int)
 | []=>by simp [K9]
 | x::l=>by rw [DY,K9];exact ⟨by simp [Lo],tH n l⟩
def LC (ts:List Tm):List (List Int×W):=ts.map fun t=>(t.1,.int t.2)
def xT (ts:List Tm)(k:List Int)(n:Int):List Tm:=if ts.any (fun t=>decide (t.1=k)) then ts.map (fun t=>if t.1=k then (t.1,n) else t) else ts++[(k,n)]
theorem Bu:∀ (ts:List Tm) (k:List Int),yQ (LC ts) k=((ts.find? fun t=>decide (t.1=k)).map fun t=>W.int t.2)
 | [],k=>rfl
 | t::ts,k=>by
  show yQ ((t.1,.int t.2)::LC ts) k=_;rw [zZ,QF,Bu ts k];by_cases e:t.1=k
  ·simp [e]
  ·simp [e]
theorem afM (ts:List Tm)(k:List Int)(n:Int):Uw (LC ts) k (.int n)=LC (xT ts k n):=by
 have e:(yQ (LC ts) k).isSome=ts.any fun t=>decide (t.1=k):=by
  rw [Bu,Option.isSome_map,VB,List.find?_isSome,T3]
 unfold Uw xT;rw [e];by_cases c:(ts.any fun t=>decide (t.1=k))=true
 ·rw [if_pos c,if_pos c];unfold LC;rw [KC,KC];refine U9 fun t _=>?_;simp only [V4];by_cases e:t.1=k
  ·rw [if_pos e,if_pos e]
  ·rw [if_neg e,if_neg e]
 ·rw [if_neg c,if_neg c];simp [LC]
theorem Jx (ts:List Tm)(k:List Int)(n:Int):(xT ts k n).length<=ts.length+1:=by
 unfold xT;split
 ·rw [DX];lia
 ·simp
theorem sV (k:List Int):Ka (.tup (k.map .int))=FN k:=by
 show u6 (k.map .int)=FN k;induction k with
 | nil=>rfl
 | cons a k ih=>rw [DY];simp [u6,ih]
variable {k : List Int}{ts : List Tm}
theorem ahT {x:Int}{N:Gh->Prop}(e:h.c n=FN (.dtt (LC ts)))(hz:ts.length<=990)(q:∀ g:Gh,g.c n=FN (.dtt (LC (xT ts k x)))->(∀ m,m≠n->g.c m=h.c m)->g.nx=h.nx->N g):JM (.loc n) (.tup (k.map .int)) (.int x) h N:=by
 unfold JM;rw [sV];dsimp only;rw [e];dsimp only;refine eG.mk (Dk (m:=1000) (by unfold LC;rw [DX];lia)<|by decide) ?_;rw [afM];exact q _ (oU _ _ _) (fun _ e=>jy e) rfl
variable {t : Tm}
theorem abp (e:h.c n=FN (.dtt (LC ts)))(f:(ts.find? fun t=>decide (t.1=k))=FN t)(q:Q (.int t.2) h):Yj (.loc n) (.tup (k.map .int)) h Q:=by
 unfold Yj;rw [sV];dsimp only;rw [e];dsimp only;rw [Bu,f];exact q
theorem aec (ts:List Tm)(k:List Int)(n:Int)(nd:(ts.map (·.1)).Nodup):((xT ts k n).map (·.1)).Nodup:=by
 unfold xT;split
 ·rw [KC];have e:(((·.1):Tm->List Int) ∘ fun t:Tm=>if t.1=k then (t.1,n) else t)=(·.1):=by
   funext t;simp only [V4];split <;> rfl
  rw [e];exact nd
 ·rename_i c;rw [Hl,List.nodup_append];refine ⟨nd,by simp,fun a ha b hb e=>c ?_⟩;simp only [DY,KJ,Kp] at hb;obtain ⟨t,ht,e2⟩:=Hj.mp ha;rw [T3];exact ⟨t,ht,by simp [e2,e,hb]⟩
def getM (ts:List Tm)(k:List Int):Int:=((ts.find? fun t=>decide (t.1=k)).map (·.2)).getD 0
def Dp (ts:List Tm)(k:List Int)(v:Int):List Tm:=xT ts k (getM ts k+v)
def pH (ts:List Tm)(ks:List (List Int)):List Tm:=(ks.map fun k=>(k,getM ts k)).filter fun t=>decide (t.2≠0)
def lin (f:List Int->Int)(ts:List Tm):Int:=(ts.map fun t=>f t.1*t.2).sum
theorem dh (t:Tm)(ts:List Tm)(k:List Int):getM (t::ts) k=if t.1=k then t.2 else getM ts k:=by
 unfold getM;rw [QF];by_cases e:t.1=k
 ·rw [if_pos e,decide_eq_true e];rfl
 ·rw [if_neg e,decide_eq_false e]
theorem aef (ts us:List Tm)(k:List Int):getM (ts++us) k=if k∈ts.map (·.1) then getM ts k else getM us k:=by
 induction ts with
 | nil=>simp
 | cons t ts ih=>
  rw [W0,dh,dh,ih,DY];by_cases e:t.1=k
  ·rw [if_pos e,if_pos e,if_pos (by simp [e])]
  ·rw [if_neg e,if_neg e];by_cases m:k∈ts.map (·.1)
   ·rw [if_pos m,if_pos (Jo _ m)]
   ·rw [if_neg m,if_neg (fun q=>by rcases Ge.mp q with q | q;exact e q.symm;exact m q)]
theorem getM_none (h:k∉ts.map (·.1)):getM ts k=0:=by
 induction ts with
 | nil=>rfl
 | cons t ts ih=>
  rw [DY] at h;rw [dh,if_neg (fun e=>h (by simp [e])),ih fun m=>h (Jo _ m)]
theorem uL (nd:(ts.map (·.1)).Nodup)(h:t∈ts):getM ts t.1=t.2:=by
 induction ts with
 | nil=>cases h
 | cons u ts ih=>
  rw [DY,R6] at nd;rw [dh];rcases Ge.mp h with rfl | h
  ·rw [if_pos rfl]
  ·rw [if_neg (fun e=>nd.1 (by rw [e];exact Hj.mpr ⟨t,h,rfl⟩)),ih nd.2 h]
theorem Ie (ts:List Tm)(k:List Int):(ts.any fun t=>decide (t.1=k))=decide (k∈ts.map (·.1)):=by
 rw [VB,T3,decide_eq_true_iff,Hj];constructor
 ·rintro ⟨t,ht,e⟩;exact ⟨t,ht,by simpa using e⟩
 ·rintro ⟨t,ht,e⟩;exact ⟨t,ht,by simpa using e⟩
theorem get_map (ts:List Tm)(k r:List Int)(n:Int):getM (ts.map fun t=>if t.1=k then (t.1,n) else t) r=if r=k/\k∈ts.map (·.1) then n else getM ts r:=by
 induction ts with
 | nil=>simp [getM]
 | cons t ts ih=>
  rw [DY,dh,ih,dh,DY];by_cases e:t.1=k
  ·rw [if_pos e];dsimp only;by_cases q:t.1=r
   ·rw [if_pos q,if_pos ⟨by rw [<-q,e],by simp [e]⟩]
   ·rw [if_neg q,if_neg q,if_neg (fun z=>q (by rw [e,z.1])),if_neg (fun z=>q (by rw [e,z.1]))]
  ·rw [if_neg e];by_cases q:t.1=r
   ·rw [if_pos q,if_pos q,if_neg (fun z=>e (by rw [q,z.1]))]
   ·rw [if_neg q,if_neg q];by_cases m:r=k/\k∈ts.map (·.1)
    ·rw [if_pos m,if_pos ⟨m.1,Jo _ m.2⟩]
    ·rw [if_neg m,if_neg (fun z=>m ⟨z.1,by rcases Ge.mp z.2 with y | y;exact absurd y.symm e;exact y⟩)]
theorem zf (n:Int)(h:k∈ts.map (·.1)):xT ts k n=ts.map fun t=>if t.1=k then (t.1,n) else t:=by
 unfold xT;rw [Ie,if_pos (by simpa using h)]
theorem tO (n:Int)(h:k∉ts.map (·.1)):xT ts k n=ts++[(k,n)]:=by
 unfold xT;rw [Ie,if_neg (by simpa using h)]
theorem zbH (ts:List Tm)(k r:List Int)(n:Int):getM (xT ts k n) r=if r=k then n else getM ts r:=by
 by_cases h:k∈ts.map (·.1)
 ·rw [zf n h,get_map];by_cases q:r=k
  ·rw [if_pos q,if_pos ⟨q,h⟩]
  ·rw [if_neg q,if_neg (fun z=>q z.1)]
 ·rw [tO n h,aef];by_cases q:r=k
  ·rw [if_pos q,q,if_neg h,dh,if_pos rfl]
  ·rw [if_neg q];by_cases m:r∈ts.map (·.1)
   ·rw [if_pos m]
   ·rw [if_neg m,dh,if_neg (Ji q),getM_none m];rfl
theorem aeF (ts:List Tm)(k r:List Int)(v:Int):getM (Dp ts k v) r=getM ts r+if r=k then v else 0:=by
 unfold Dp;rw [zbH];by_cases q:r=k
 ·rw [if_pos q,if_pos q,q]
 ·rw [if_neg q,if_neg q,Int.add_zero]
theorem keys_map (ts:List Tm)(k:List Int)(n:Int):(ts.map fun t=>if t.1=k then (t.1,n) else t).map (·.1)=ts.map (·.1):=by
 rw [KC];refine U9 fun t _=>?_;simp only [V4];split <;> rfl
theorem pI (ts:List Tm)(k:List Int)(v:Int):(Dp ts k v).map (·.1)=if k∈ts.map (·.1) then ts.map (·.1) else ts.map (·.1)++[k]:=by
 unfold Dp;by_cases h:k∈ts.map (·.1)
 ·rw [zf _ h,keys_map,if_pos h]
 ·rw [tO _ h,if_neg h,Hl];rfl
variable {v : Int}
theorem wz (nd:(ts.map (·.1)).Nodup):((Dp ts k v).map (·.1)).Nodup:=aec ts k _ nd
theorem bN (f:List Int->Int)(t:Tm)(ts:List Tm):lin f (t::ts)=f t.1*t.2+lin f ts:=by unfold lin;simp
theorem j5 (f:List Int->Int)(ts us:List Tm):lin f (ts++us)=lin f ts+lin f us:=by unfold lin;simp
variable {f : List Int->Int}
theorem Ho {f:List Int->Int}{k:List Int}{n:Int}:∀ {ts:List Tm},(ts.map (·.1)).Nodup->k∈ts.map (·.1)->lin f (ts.map fun t=>if t.1=k then (t.1,n) else t)=lin f ts+f k*(n - getM ts k)
 | t::ts,nd,h=>by
  rw [DY,R6] at nd;rw [DY,bN,bN,dh];by_cases e:t.1=k
  ·have no:k∉ts.map (·.1):=e ▸ nd.1;have em:(ts.map fun t=>if t.1=k then (t.1,n) else t)=ts:=by
    refine (U9 fun u hu=>?_).trans (List.map_id _);rw [if_neg (fun q=>no (by rw [<-q];exact Hj.mpr ⟨u,hu,rfl⟩))];rfl
   rw [if_pos e,if_pos e,em];dsimp only;rw [e];grind
  ·rw [if_neg e,if_neg e,Ho nd.2 (by rcases Ge.mp h with q | q;exact absurd q.symm e;exact q)];lia
theorem Jg (nd:(ts.map (·.1)).Nodup):lin f (Dp ts k v)=lin f ts+f k*v:=by
 unfold Dp;by_cases h:k∈ts.map (·.1)
 ·rw [zf _ h,Ho nd h];grind
 ·rw [tO _ h,j5,getM_none h];unfold lin;simp
theorem zaQ {a b:List Int}(p:a.Perm b):a.sum=b.sum:=by
 induction p with
 | nil=>rfl
 | cons x _ ih=>simp only [List.sum_cons,ih]
 | swap x y l=>simp only [List.sum_cons];lia
 | trans _ _ ih1 ih2=>exact ih1.trans ih2
theorem nJ (f:List Int->Int):∀ ts:List Tm,lin f (ts.filter fun t=>decide (t.2≠0))=lin f ts
 | []=>rfl
 | t::ts=>by
  rw [Ul];by_cases e:t.2=0
  ·rw [if_neg (by simp [e]),nJ f ts,bN,e];lia
  ·rw [if_pos (by simp [e]),bN,bN,nJ f ts]
variable {ks : List (List Int)}{D : List Tm}
theorem afp (nd:(D.map (·.1)).Nodup)(p:ks.Perm (D.map (·.1))):lin f (pH D ks)=lin f D:=by
 unfold pH;rw [nJ];unfold lin;rw [KC,zaQ (p.map _),KC];congr 1
 refine U9 fun t ht=>?_;simp only [V4];rw [uL nd ht]
theorem Oc {u:Tm}(nd:(D.map (·.1)).Nodup)(p:∀ k∈ks,k∈D.map (·.1))(h:u∈pH D ks):u∈D/\u.2≠0:=by
 unfold pH at h;obtain ⟨h1,h2⟩:=List.mem_filter.mp h;obtain ⟨k,hk,rfl⟩:=Hj.mp h1;obtain ⟨t,ht,rfl⟩:=Hj.mp (p k hk);rw [uL nd ht] at h2 |-
 exact ⟨ht,by simpa using h2⟩
theorem aeD (D:List Tm)(ks:List (List Int)):(pH D ks).length<=ks.length:=by
 unfold pH;exact Dk (List.length_filter_le _ _) (by rw [DX];exact Dg _)
theorem GF (h:ks.Pairwise (· < ·)):((pH D ks).map (·.1)).Pairwise (· < ·):=by
 unfold pH;rw [T6];refine List.Pairwise.filter _ ?_;rw [T6];exact h
theorem fB (h:ks.Pairwise (· < ·)):ks.Nodup:=by
 unfold List.Nodup;refine h.imp fun {a b} h e=>?_;rw [e] at h;exact Ur _ h
def fr (l:Nat)(x:Int)(r k:List Int):Int:=if r=k.set l 0 then x^(k.getD l 0).toNat else 0
theorem Di {α : Type}{P:List α->Prop}(h0:P [])(h1:∀ ts t,P ts->P (ts++[t]))(ts:List α):P ts:=by
 have:∀ us:List α,P us.reverse:=fun us=>by
  induction us with
  | nil=>exact h0
  | cons a us ih=>rw [W5];exact h1 _ _ ih
 have:=this ts.reverse
 rwa [List.reverse_reverse] at this
theorem O4 (e:h.c n=FN (.dtt (LC ts)))(m:k∈ts.map (·.1))(q:Q (.int (getM ts k)) h):Yj (.loc n) (.tup (k.map .int)) h Q:=by
 cases f:ts.find? fun t=>decide (t.1=k) with
 | none=>
  obtain ⟨t,ht,e⟩:=Hj.mp m;exact absurd (List.find?_eq_none.mp f t ht)<|by simp [e]
 | some t=>
  have eg:getM ts k=t.2:=by unfold getM;rw [f];rfl
  rw [eg] at q;exact abp e f q
variable {L : Nat}
theorem afl (nd:(ts.map (·.1)).Nodup)(hL:∀ t∈ts,t.1.length=L):CW (ts.map (·.1)):=by
 intro h2 k hk e;obtain ⟨t,ht,e1⟩:=Hj.mp hk;have L0:L=0:=by rw [<-hL t ht,e1,e];rfl
 have all:∀ k∈ts.map (·.1),k=[]:=fun k hk=>by
  obtain ⟨u,hu,e2⟩:=Hj.mp hk;rw [<-e2];exact Qo<|by rw [hL u hu,L0]
 generalize ts.map (·.1)=ks at nd h2 all;match ks,nd,h2,all with
 | a::b::r,nd,_,all=>
  have ea:=all a (by simp);have eb:=all b (by simp);rw [ea,eb] at nd;simp at nd
 | [_],_,h2,_=>simp at h2
 | [],_,h2,_=>simp at h2
def Pv (ps:List Int):Prop:=∀ p∈ps,0<=p/\p<=61
theorem aeu (us:List W)(k:Nat):Bh us (FN (k:Int)) FX=us.drop k:=by
 unfold Bh;rw [HT.RZ,HT.Kh];by_cases h:k<=us.length
 ·rw [Nat.min_eq_left h,Vw (by rw [List.length_drop];exact Dg _)]
 ·rw [Nat.min_eq_right (by lia),List.drop_length,List.drop_of_length_le (by lia)];simp
theorem qT {Q:Option Int->Gh->Prop}(x:Q FX h):p8 Z h Q:=x
theorem ZF (e:h.c n=FN (.dtt (LC ts)))(q:Q (.int (getM ts k)) h):JF (.loc n) [.tup (k.map .int),.int 0] h Q:=by
 unfold JF;dsimp only;rw [e,sV];dsimp only;rw [Bu];have:(((ts.find? fun t=>decide (t.1=k)).map fun t=>W.int t.2).getD (.int 0))=.int (getM ts k):=by
  unfold getM;cases ts.find? fun t=>decide (t.1=k) <;> rfl
 rw [this];exact q
theorem zbz {kvs:List (List Int×W)}(e:h.c n=FN (.dtt kvs))(p:P):Hq h (.loc n) P:=by
 unfold Hq;dsimp only;rw [e];exact p
theorem ahg {r:MM}{mo:ME}(x:mo Z h fun x h1=>Hq h1 x (ma Z h1 fun xs h2=>r x xs h2 Q)):aaj r mo ma Z h Q:=x
theorem ZD (n:Nat)(t:Tm):Lo n (Kg t):=by
 unfold Kg;simp only [Lo,K9];exact ⟨tH _ _,trivial,trivial⟩
theorem Ph (n:Nat):∀ ts:List Tm,K9 n (ts.map Kg)
 | []=>by simp [K9]
 | t::ts=>by rw [DY,K9];exact ⟨ZD n t,Ph n ts⟩
theorem Vh (n:Nat)(ts:List Tm):Lo n (Dj ts):=by unfold Dj;rw [Lo];exact Ph n ts
theorem PX (n:Nat):∀ ss:List (List Tm),K9 n (ss.map Dj)
 | []=>by simp [K9]
 | s::ss=>by rw [DY,K9];exact ⟨Vh n s,PX n ss⟩
def pack (k:List Int):Int:=k.foldl (fun a p=>a*65536+p) 0
def Kb (L:Nat)(k:List Int):Prop:=k.length=L/\∀ p∈k,0<=p/\p<=100
theorem cY (k:List Int)(p:Int):pack (k++[p])=pack k*65536+p:=by unfold pack;rw [List.foldl_append];rfl
theorem rD {p:Int}(h:Kb (L+1) (k++[p])):Kb L k/\0<=p/\p<=100:=by
 refine ⟨⟨by have:=h.1;simp at this;lia,fun q hq=>h.2 q<|Rx _ hq⟩,h.2 p<|by simp⟩
theorem lF (h:k.length=L+1):∃ (a:List Int) (p:Int),k=a++[p]:=by
 refine ⟨k.dropLast,k.getLast (by intro e;rw [e] at h;simp at h),?_⟩;exact (List.dropLast_concat_getLast _).symm
theorem lN:∀ {L:Nat} {k l:List Int},Kb L k->Kb L l->pack k=pack l->k=l
 | 0,k,l,h1,h2,_=>by rw [Qo h1.1,Qo h2.1]
 | L+1,k,l,h1,h2,e=>by
  obtain ⟨a,p,rfl⟩:=lF h1.1;obtain ⟨b,q,rfl⟩:=lF h2.1;obtain ⟨ha,p0,p1⟩:=rD h1;obtain ⟨hb,q0,q1⟩:=rD h2;rw [cY,cY] at e;have e1:pack a=pack b:=by lia
  have e2:p=q:=by lia
  rw [lN ha hb e1,e2]
theorem HF:∀ {a b:List Int} {p q:Int},a.length=b.length->(a++[p]<b++[q]↔a<b\/a=b/\p<q)
 | [],[],p,q,_=>by simp [RJ]
 | [],_::_,_,_,h=>by simp at h
 | _::_,[],_,_,h=>by simp at h
 | x::a,y::b,p,q,h=>by
  have ih:=HF (a:=a) (b:=b) (p:=p) (q:=q) (by simpa using h);rw [W0,W0,RJ,RJ,ih];constructor
  ·rintro (h | ⟨h1,h2 | ⟨h2,h3⟩⟩)
   ·exact .inl<|.inl h
   ·exact .inl<|.inr ⟨h1,h2⟩
   ·exact .inr ⟨by rw [h1,h2],h3⟩
  ·rintro ((h | ⟨h1,h2⟩) | ⟨h1,h2⟩)
   ·exact .inl h
   ·exact .inr ⟨h1,.inl h2⟩
   ·obtain ⟨e1,e2⟩:=Q7 h1;exact .inr ⟨e1,.inr ⟨e2,h2⟩⟩
theorem Gy:∀ {L:Nat} {k l:List Int},Kb L k->Kb L l->(k<l↔pack k<pack l)
 | 0,k,l,h1,h2=>by
  rw [Qo h1.1,Qo h2.1];constructor
  ·intro h;exact absurd h (Ur _)
  ·intro h;exact absurd h (Int.lt_irrefl _)
 | L+1,k,l,h1,h2=>by
  obtain ⟨a,p,rfl⟩:=lF h1.1;obtain ⟨b,q,rfl⟩:=lF h2.1;obtain ⟨ha,p0,p1⟩:=rD h1;obtain ⟨hb,q0,q1⟩:=rD h2;have ih:=Gy ha hb;rw [HF (by rw [ha.1,hb.1]),cY,cY];constructor
  ·rintro (h | ⟨h,h'⟩)
   ·have:=ih.mp h;lia
   ·rw [h];lia
  ·intro h;rcases Int.lt_trichotomy (pack a) (pack b) with c | c | c
   ·exact .inl<|ih.mpr c
   ·exact .inr ⟨lN ha hb c,by lia⟩
   ·lia
def iD (k l:List Int):List Int:=List.zipWith (· + ·) k l
theorem z8 {l:List Int}(h:k.length=l.length):(iD k l).length=k.length:=by unfold iD;rw [List.length_zipWith,h,Nat.min_self]
theorem vX:∀ {k l:List Int} {p q:Int},k.length=l.length->iD (k++[p]) (l++[q])=iD k l++[p+q]
 | [],[],p,q,_=>rfl
 | [],_::_,_,_,h=>by simp at h
 | _::_,[],_,_,h=>by simp at h
 | x::a,y::b,p,q,h=>by
  show (x+y)::iD (a++[p]) (b++[q])=(x+y)::(iD a b++[p+q]);rw [vX (by simpa using h)]
theorem Bk:∀ {L:Nat} {k l:List Int},k.length=L->l.length=L->pack (iD k l)=pack k+pack l
 | 0,k,l,h1,h2=>by rw [Qo h1,Qo h2];rfl
 | L+1,k,l,h1,h2=>by
  obtain ⟨a,p,rfl⟩:=lF h1;obtain ⟨b,q,rfl⟩:=lF h2;have la:a.length=L:=by simpa using h1
  have lb:b.length=L:=by simpa using h2
  rw [vX (by rw [la,lb]),cY,cY,cY,Bk la lb];lia
theorem tV:∀ {k l:List Int} {p:Int},p∈iD k l->∃ a∈k,∃ b∈l,p=a+b
 | [],_,_,h=>by simp [iD] at h
 | _::_,[],_,h=>by simp [iD] at h
 | a::k,b::l,p,h=>by
  have h:p∈(a+b)::iD k l:=h;rcases Ge.mp h with rfl | h
  ·exact ⟨a,by simp,b,by simp,rfl⟩
  ·obtain ⟨x,hx,y,hy,e⟩:=tV h;exact ⟨x,Jo _ hx,y,Jo _ hy,e⟩
theorem zK:∀ {L:Nat} {k:List Int},Kb L k->0<=pack k/\(pack k).natAbs<2^(16*L)
 | 0,k,h=>by rw [Qo h.1];exact ⟨Int.le_refl _,by decide⟩
 | L+1,k,h=>by
  obtain ⟨a,p,rfl⟩:=lF h.1;obtain ⟨ha,p0,p1⟩:=rD h;obtain ⟨i0,i1⟩:=zK ha;rw [cY,Nat.mul_succ,QB];generalize 2^(16*L)=A at *;have:(2:Nat)^16=65536:=rfl
  rw [this];lia
def HS (k:List Int)(n:Int)(vs:List Tm)(D:List Tm):List Tm:=vs.foldl (fun D s=>Dp D (iD k s.1) (n*s.2)) D
def mU (us vs:List Tm):List Tm:=us.foldl (fun D t=>HS t.1 t.2 vs D) []
theorem fH (k:List Int)(n:Int)(vs D:List Tm)(s:Tm):HS k n (vs++[s]) D=Dp (HS k n vs D) (iD k s.1) (n*s.2):=by unfold HS;rw [List.foldl_append];rfl
theorem fU (us vs:List Tm)(t:Tm):mU (us++[t]) vs=HS t.1 t.2 vs (mU us vs):=by unfold mU;rw [List.foldl_append];rfl
variable {vs : List Tm}
theorem JR {n:Int}(h:(D.map (·.1)).Nodup):((HS k n vs D).map (·.1)).Nodup:=by
 refine Di (P:=fun vs=>((HS k n vs D).map (·.1)).Nodup) h (fun vs t ih=>?_) vs;rw [fH];exact wz ih
theorem nA (us vs:List Tm):((mU us vs).map (·.1)).Nodup:=by
 refine Di (P:=fun us=>((mU us vs).map (·.1)).Nodup) List.nodup_nil (fun us t ih=>?_) us;rw [fU];exact JR ih
theorem Aw (k:List Int)(n:Int)(vs D:List Tm):(HS k n vs D).length<=D.length+vs.length:=by
 refine Di (P:=fun vs=>(HS k n vs D).length<=D.length+vs.length) (Dg _) (fun vs t ih=>?_) vs;rw [fH,Jt,Wq];exact Dk (Jx ..)<|by lia
theorem tU (us vs:List Tm):(mU us vs).length<=us.length*vs.length:=by
 refine Di (P:=fun us=>(mU us vs).length<=us.length*vs.length) (Ko _) (fun us t ih=>?_) us;rw [fU,Jt,Wq,Nat.add_mul,Nat.one_mul];exact Dk (Aw ..)<|by lia
def dl (r k:List Int):Int:=if k=r then 1 else 0
theorem afX (k:List Int)(n:Int)(r:List Int)(D vs:List Tm):getM (HS k n vs D) r=getM D r+n*lin (fun l=>dl r (iD k l)) vs:=by
 refine Di (P:=fun vs=>getM (HS k n vs D) r=getM D r+n*lin (fun l=>dl r<|iD k l) vs) (by show getM D r=getM D r+n*0;lia) (fun vs t ih=>?_) vs;rw [fH,aeF,j5,ih];show _=_+n*(_+lin (fun l=>dl r (iD k l)) [t]);rw [bN];show _=_+n*(_+(dl r (iD k t.1)*t.2+0));unfold dl;by_cases c:iD k t.1=r
 ·rw [if_pos c.symm,if_pos c];grind
 ·rw [if_neg (Ji c),if_neg c];grind
theorem aeO (r:List Int)(us vs:List Tm):getM (mU us vs) r=lin (fun k=>lin (fun l=>dl r (iD k l)) vs) us:=by
 refine Di (P:=fun us=>getM (mU us vs) r=lin (fun k=>lin (fun l=>dl r<|iD k l) vs) us) rfl (fun us t ih=>?_) us;rw [fU,afX,ih,j5,bN];show _=_+(_+0);rw [Int.add_zero,Int.mul_comm]
theorem qy (f:List Int->Int)(c:Int):∀ us:List Tm,lin (fun k=>f k*c) us=lin f us*c
 | []=>by show (0:Int)=0*c;lia
 | t::us=>by rw [bN,bN,qy f c us];grind
def xR (D rs:List Tm):Prop:=∃ ks:List (List Int),ks.Perm (D.map (·.1))/\ks.Pairwise (· < ·)/\rs=pH D ks
def Ms (L:Nat)(us:List Tm):Prop:=us.length<=210/\(us.map (·.1)).Pairwise (· < ·)/\∀ t∈us,t.1.length=L/\t.2≠0/\Sm 1000 t.2/\∀ p∈t.1,0<=p/\p<=40
theorem JB {l:List Int}(hk:k.length=L/\∀ p∈k,0<=p/\p<=40)(hl:l.length=L/\∀ p∈l,0<=p/\p<=40):Kb L (iD k l):=by
 refine ⟨by rw [z8<|by rw [hk.1,hl.1],hk.1],fun p hp=>?_⟩;obtain ⟨a,ha,b,hb,rfl⟩:=tV hp;have:=hk.2 a ha
 have:=hl.2 b hb
 lia
theorem Jz (ht:t.1.length=L/\∀ p∈t.1,0<=p/\p<=40)(hv:∀ t∈vs,t.1.length=L/\∀ p∈t.1,0<=p/\p<=40)(hD:∀ k∈D.map (·.1),Kb L k):∀ k∈(HS t.1 t.2 vs D).map (·.1),Kb L k:=by
 revert hv
 refine Di (P:=fun vs=>(∀ t∈vs,t.1.length=L/\∀ p∈t.1,0<=p/\p<=40)->∀ k∈(HS t.1 t.2 vs D).map (·.1),Kb L k) (fun _=>hD) (fun vs s ih hv k hk=>?_) vs;rw [fH,pI] at hk;have hk:k∈(HS t.1 t.2 vs D).map (·.1)\/k=iD t.1 s.1:=by
  split at hk
  ·exact .inl hk
  ·rcases La.mp hk with hk | hk
   ·exact .inl hk
   ·exact .inr<|Kp.mp hk
 rcases hk with hk | rfl
 ·exact ih (fun u hu=>hv u<|Rx _ hu) k hk
 ·exact JB ht<|hv s<|by simp
variable {us : List Tm}
theorem xu (hu:∀ t∈us,t.1.length=L/\∀ p∈t.1,0<=p/\p<=40)(hv:∀ t∈vs,t.1.length=L/\∀ p∈t.1,0<=p/\p<=40):∀ k∈(mU us vs).map (·.1),Kb L k:=by
 revert hu
 refine Di (P:=fun us=>(∀ t∈us,t.1.length=L/\∀ p∈t.1,0<=p/\p<=40)->∀ k∈(mU us vs).map (·.1),Kb L k) (fun _ k hk=>by simp [mU] at hk) (fun us t ih hu=>?_) us;rw [fU];exact Jz (hu t<|by simp) hv<|ih fun u h=>hu u<|Rx _ h
def LK (D:List Tm):List (Key×W):=D.map fun t=>(.inl (pack t.1),.int t.2)
theorem GK (hD:∀ j∈D.map (·.1),Kb L j)(hk:Kb L k):mK (LK D) (.inl (pack k))=((D.find? fun t=>decide (t.1=k)).map fun t=>W.int t.2):=by
 unfold mK LK;induction D with
 | nil=>rfl
 | cons t D ih=>
  have ih:=ih fun j hj=>hD j (by rw [DY];exact Jo _ hj)
  rw [DY,QF,QF];by_cases c:t.1=k
  ·rw [decide_eq_true c,decide_eq_true (by rw [c])];rfl
  ·rw [decide_eq_false c,decide_eq_false (fun e=>c (lN (hD t.1 (by simp)) hk (Sum.inl.inj e)))];exact ih
theorem afV (hD:∀ j∈D.map (·.1),Kb L j)(hk:Kb L k):(mK (LK D) (.inl (pack k))).getD (.int 0)=.int (getM D k):=by
 rw [GK hD hk];unfold getM;cases D.find? fun t=>decide (t.1=k) <;> rfl
theorem aeY {n:Int}(hD:∀ j∈D.map (·.1),Kb L j)(hk:Kb L k):J9 (LK D) (.inl (pack k)) (.int n)=LK (xT D k n):=by
 have ea:((LK D).any fun kv=>decide (kv.1=Sum.inl (pack k)))=D.any fun t=>decide (t.1=k):=by
  unfold LK;rw [List.any_map,VB,T3,T3];constructor
  ·rintro ⟨t,ht,e⟩;simp only [V4,decide_eq_true_iff] at e;exact ⟨t,ht,decide_eq_true<|lN (hD t.1<|Hj.mpr ⟨t,ht,rfl⟩) hk<|Sum.inl.inj e⟩
  ·rintro ⟨t,ht,e⟩;rw [decide_eq_true_iff] at e;exact ⟨t,ht,by simp [e]⟩
 unfold J9 xT;rw [ea];by_cases c:(D.any fun t=>decide (t.1=k))=true
 ·rw [if_pos c,if_pos c];unfold LK;rw [KC,KC];refine U9 fun t ht=>?_;simp only [V4];by_cases e:t.1=k
  ·rw [if_pos e,if_pos (by rw [e])]
  ·rw [if_neg e,if_neg (fun z=>e (lN (hD t.1 (Hj.mpr ⟨t,ht,rfl⟩)) hk (Sum.inl.inj z)))]
 ·rw [if_neg c,if_neg c];simp [LK]
theorem JD:∀ {ks js:List Int},ks.Perm js->ks.Pairwise (· < ·)->js.Pairwise (· < ·)->ks=js
 | [],js,p,_,_=>p.symm.eq_nil.symm
 | a::ks,[],p,_,_=>p.eq_nil
 | a::ks,b::js,p,h1,h2=>by
  have e:a=b:=by
   have ma:a∈b::js:=p.mem_iff.mp (KD ..);have mb:b∈a::ks:=p.mem_iff.mpr (KD ..);rcases Ge.mp ma with e | ma
   ·exact e
   ·rcases Ge.mp mb with e | mb
    ·exact e.symm
    ·have:=(Qq.mp h1).1 b mb
     have:=(Qq.mp h2).1 a ma
     lia
  subst e;rw [JD (List.Perm.cons_inv p) (Qq.mp h1).2 (Qq.mp h2).2]
def Qk (a:List Int):List (List Int)->List (List Int)
 | []=>[a]
 | b::l=>if a<b then a::b::l else b::Qk a l
theorem qd (a:List Int):∀ l,(Qk a l).Perm (a::l)
 | []=>.refl _
 | b::l=>by
  unfold Qk;split
  ·exact .refl _
  ·exact (List.Perm.cons b<|qd a l).trans (List.Perm.swap a b l)
theorem Ce {a:List Int}:∀ {l:List (List Int)},l.Pairwise (· < ·)->a∉l->(Qk a l).Pairwise (· < ·)
 | [],_,_=>by simp [Qk]
 | b::l,h,n=>by
  rw [Qq] at h;unfold Qk;split
  ·rename_i c;rw [Qq];refine ⟨fun x hx=>?_,Qq.mpr h⟩;rcases Ge.mp hx with rfl | hx
   ·exact c
   ·exact List.lt_trans c<|h.1 x hx
  ·rename_i c;rw [Qq];refine ⟨fun x hx=>?_,Ce h.2 fun m=>n<|Jo _ m⟩;rcases Ge.mp ((qd a l).mem_iff.mp hx) with rfl | hx
   ·rcases List.le_iff_lt_or_eq.mp (List.not_lt.mp c) with h | h
    ·exact h
    ·exact absurd (by rw [h];exact KD ..) n
   ·exact h.1 x hx
theorem Rq:∀ (l:List (List Int)),l.Nodup->∃ ks:List (List Int),ks.Perm l/\ks.Pairwise (· < ·)
 | [],_=>⟨[],.refl _,.nil⟩
 | a::l,nd=>by
  rw [R6] at nd;obtain ⟨ks,p,s⟩:=Rq l nd.2;exact ⟨Qk a ks,(qd a ks).trans (p.cons a),Ce s fun m=>nd.1<|p.mem_iff.mp m⟩
def PkX (c0:CP):Prop:=∀ {h:Gh} {k:List Int} {L:Nat} {Q:WK} {E:Dm},Kb L k->L<=8->Q (.int (pack k)) h->c0 [.tup (k.map .int)] h Q E
theorem mX {b:MS}{D:bO}(hv:Z[i]?=FN (FN (.tup ws)))(x:gG ⟨ws,FX⟩ g b D ws Z h):lD (Hr (aA i)) g b D Z h:=dN (eZ (ak hv (pL rfl (dR x))))
theorem Ia (h:Kb L k)(i:Nat):Kb (min i L) (k.take i):=⟨by rw [Qh,h.1],fun p hp=>h.2 p (Vb hp)⟩
theorem ahH:PkX uJ:=by
 intro h k L Q E hk hL q;unfold uJ;refine cT rfl (Z:=[FN<|.tup<|k.map .int,FX,FX]) rfl<|aH<|aQ<|aP ?_
 refine nV<|bB ?_
 refine aH ?_;refine mX (ws:=k.map .int) rfl ?_;refine bW (fun i Z h'=>h'=h/\∃ s2:Option W,Z = [FN<|.tup<|k.map .int,FN<|.int<|pack<|k.take i,s2]) ?_ ?_ ⟨rfl,FX,rfl⟩
 ·rintro i w Z h' N hN e ⟨rfl,s2,rfl⟩;obtain ⟨p,ep,rfl⟩:=ints_get e;have sp:=(zK (Ia hk i)).2;have s1:Sm 128 (pack (k.take i)):=HB sp (Wg (by decide) (by lia));refine nV ?_;refine aQ<|aG<|aG<|ak rfl<|aP<|jP (.of s1 (n:=64) (.lit rfl) (by decide)<|by decide)<|ak rfl<|dW ?_
  refine gw (Z':=[FN<|.tup<|k.map .int,FN<|.int<|pack<|k.take<|i+1,FN<|.int p]) ?_<|bB<|hN _ _ ⟨rfl,_,rfl⟩
  rw [KN,ep];show _=[FN (W.tup (k.map .int)),FN (.int (pack (k.take i++[p]))),FN (.int p)];rw [cY];rfl
 ·rintro Z h' ⟨rfl,s2,rfl⟩;rw [DX,Kl];unfold rW;exact bB<|aU<|ak rfl<|fY q
def UnX (c0:CP):Prop:=∀ {h:Gh} {k:List Int} {L:Nat} {Q:WK} {E:Dm},Kb L k->L<=8->Q (.tup (k.map .int)) h->c0 [.int (pack k),.int (L:Int)] h Q E
theorem agX (h:Kb L k)(hi:i<L):(pack (k.take (L - i))).fmod 65536=k.getD (L - 1 - i) 0/\(pack (k.take (L - i))).fdiv 65536=pack (k.take (L - (i+1))):=by
 have lk:=h.1;have e1:L - i=(L - 1 - i)+1:=by lia
 have e2:L - (i+1)=L - 1 - i:=by lia
 have ek:k[L - 1 - i]?=FN (k[L - 1 - i]'(by lia)):=HD (by lia);have hb:=h.2 (k[L - 1 - i]'(by lia)) (Qm (by lia));rw [e2,e1,KN,ek];show (pack (k.take (L - 1 - i)++[k[L - 1 - i]'(by lia)])).fmod 65536=_/\(pack (k.take (L - 1 - i)++[k[L - 1 - i]'(by lia)])).fdiv 65536=_;rw [cY,MF,ek];have:=(zK (Ia h (L - 1 - i))).1
 rw [eX (by decide),ux (by decide)];constructor
 ·show _=k[L - 1 - i]'(by lia);lia
 ·lia
theorem aaA {us:List W}(hv:Z[i]?=FN (FN (.loc n)))(e:h.c n=FN (.lst us))(x:Q (.tup us.reverse) h):yD (aA i) Z h Q:=by
 refine ak hv ?_;show (match dM h (.loc n) with
  | some us=>Q (.tup us.reverse) h
  | none=>False)
 rw [qL e];exact x
def dg (k:List Int)(L i:Nat):List Int:=(Ma i).map fun j=>k.getD (L - 1 - j) 0
theorem Ye (h:k.length=L):(dg k L L).reverse=k:=by
 have ll:(dg k L L).length=L:=by unfold dg;simp
 refine List.ext_getElem (by rw [List.length_reverse,ll,h]) fun j h1 h2=>?_;rw [List.getElem_reverse];simp only [dg,List.getElem_map,List.getElem_range,DX,List.length_range];have:L - 1 - (L - 1 - j)=j:=by lia
 rw [this,MF,HD h2];rfl
theorem aai:UnX nP:=by
 intro h k L Q E hk hL q;unfold nP;refine iW rfl (Z:=[FN<|.int<|pack k,FN<|.int L,FX,FX]) rfl ?_;refine aH<|aQ<|mW (ws:=[]) (fun R=>rfl) rfl fun g eg og xg=>?_
 refine nV<|bB ?_
 refine aH ?_;refine aeQ (j:=(L:Int)) (fun _=>rfl) (by lia) (by lia) (fun i Z h'=>i<=L/\∃ s3:Option W,Z = [FN<|.int<|pack<|k.take<|L - i,FN<|.int L,FN<|.loc h.nx,s3]/\h'.c h.nx=FN (.lst<|(dg k L i).map .int)/\∀ n,n≠h.nx->h'.c n=h.c n) ?_ ?_ ⟨Ko _,FX,by rw [Nat.sub_zero,Vw (by rw [hk.1];exact Dg _)],eg,og⟩
 ·rintro i Z h' N hN hi ⟨_,s3,rfl,e2,o2⟩;have hi:i<L:=by lia
  obtain ⟨u1,u2⟩:=agX hk hi;refine nV ?_;refine aH<|iy<|qb<|ak rfl<|kO e2<|aj<|aG<|ak rfl<|aP<|Fx (by decide)<|aq ?_
  refine Dl e2 (by rw [DX];unfold dg;simp;lia) fun g2 a1 a2 a3=>bB ?_;refine aQ<|aG<|ak rfl<|aP<|G4 ⟨by decide,64,by decide,.lit rfl⟩ ?_
  rw [u2];refine nV<|bB ?_
  refine hN _ _ ⟨by lia,_,rfl,?_,fun n hn=>by rw [a2 n hn];exact o2 n hn⟩;rw [a1,u1];unfold dg;rw [List.range_succ,Hl,Hl];rfl
 ·rintro Z h' ⟨_,s3,rfl,e2,o2⟩;have eL:(L:Int).toNat=L:=by lia
  rw [eL] at e2;unfold oM;refine bB<|aU<|aaA rfl e2 ?_
  rw [<-List.map_reverse,Ye hk.1];exact ⟨fun n c hn ec=>by rw [o2 n<|by lia];exact ec,.inl ⟨by rw [Lo];exact tH _ _,q⟩⟩
def ptW (t:Tm):W:=.tup [.int (pack t.1),.int t.2]
def PtX (c0:CP):Prop:=∀ {h:Gh} {us:List Tm} {L:Nat} {Q:WK} {E:Dm},(∀ t∈us,Kb L t.1)->us.length<=1000->L<=8->Q (.lst (us.map ptW)) h->c0 [Dj us] h Q E
theorem acE {pk:CP}(hpk:PkX pk):PtX (gD pk):=by
 intro h us L Q E hu hz hL q;unfold gD;refine cT rfl (Z:=[FN<|Dj us]) rfl<|aU<|gn<|eZ<|ak rfl<|pL (ws:=us.map Kg) (o:=FX) rfl<|eG.mk (Dk (m:=1000) (by rw [DX];exact hz)<|by decide) ?_
 refine dF (fun i acc g=>g=h/\acc=(us.take i).map ptW) ?_ ?_ ⟨rfl,rfl⟩
 ·rintro i w acc g N hN e ⟨rfl,rfl⟩;rw [GP] at e;cases qe:us[i]? with
  | none=>rw [qe] at e;cases e
  | some t=>
   rw [qe] at e;cases e;refine ⟨[.tup<|t.1.map .int,.int t.2],rfl,cD<|cj<|cM<|aj<|aB<|aj<|ak rfl<|aq ?_⟩;refine hpk (hu t<|KH qe) hL<|aj<|ak rfl<|aq<|aZ rfl<|hN _ _ ⟨rfl,?_⟩
   rw [KN,qe,Hl];rfl
 ·rintro acc g ⟨rfl,rfl⟩;rw [DX,Kl];exact fY q
theorem Ob (e:h.c n=FN (.dct (LK D)))(hD:∀ j∈D.map (·.1),Kb L j)(m:k∈D.map (·.1))(q:Q (.int (getM D k)) h):Mw (.loc n) (.int (pack k)) h Q:=by
 show (match h.c n with
  | some (.dct kvs)=>(match mK kvs (.inl (pack k)) with
   | some w=>Q w h
   | none=>False)
  | _=>False)
 rw [e];show (match mK (LK D) (.inl (pack k)) with
  | some w=>Q w h
  | none=>False)
 rw [GK hD (hD k m)];cases f:D.find? fun t=>decide (t.1=k) with
 | none=>
  obtain ⟨t,ht,e⟩:=Hj.mp m;exact absurd (List.find?_eq_none.mp f t ht)<|by simp [e]
 | some t=>
  have eg:getM D k=t.2:=by unfold getM;rw [f];rfl
  rw [eg] at q;exact q
def itW (t:Tm):W:=.tup [.int (pack t.1),.int t.2]
def abQ (c0:CP):Prop:=∀ {h:Gh} {n:Nat} {D:List Tm} {L:Nat} {Q:WK} {E:Dm},h.c n=FN (.dct (LK D))->(∀ j∈D.map (·.1),Kb L j)->(D.map (·.1)).Nodup->D.length<=30000->(∀ rs,xR D rs->(rs.length<=600->Q (.tup (rs.map itW)) h)/\(600<rs.length->E ⟨"TooMuch",[]⟩ h))->c0 [.loc n] h Q E
def Xn (rs:List Tm):Prop:=∃ t∈rs,∃ p∈t.1,60<p
instance (rs:List Tm):Decidable (Xn rs):=by unfold Xn;infer_instance
def CpX (c0:CP):Prop:=∀ {h:Gh} {rs:List Tm} {L:Nat} {Q:WK} {E:Dm},(∀ t∈rs,t.1.length=L)->L<=8->rs.length<=600->(¬ Xn rs->Q .non h)->(Xn rs->E ⟨"TooMuch",[]⟩ h)->c0 [Dj rs] h Q E
theorem adh:CpX gB:=by
 intro h rs L Q E hl hL hz q1 q2;unfold gB;refine cT rfl (Z:=[FN<|Dj rs,FX,FX]) rfl ?_;refine mX (ws:=rs.map Kg) rfl ?_;refine bW (fun i Z h'=>h'=h/\(∀ t∈rs.take i,∀ p∈t.1,¬ 60<p)/\∃ s1 s2:Option W,Z = [FN<|Dj rs,s1,s2]) ?_ ?_ ⟨rfl,fun _ h=>by simp at h,FX,FX,rfl⟩
 ·rintro i w Z h' N hN e ⟨rfl,lo,s1,s2,rfl⟩;rw [GP] at e;cases qe:rs[i]? with
  | none=>rw [qe] at e;cases e
  | some t=>
   rw [qe] at e;cases e;have mt:=KH qe;have lt:=hl t mt;refine jq rfl rfl<|cO<|nV ?_
   refine cO<|nV ?_
   refine mz ?_;refine bw<|gU<|bC<|aj<|gn<|eZ<|ak rfl<|pL (ws:=t.1.map .int) (o:=FX) rfl<|eG.mk (Dk (m:=1000) (by rw [DX];lia)<|by decide) ?_
   refine dF (fun j acc g=>g=h'/\acc=((t.1.take j).map fun p=>decide<|p>60).map .bl) ?_ ?_ ⟨rfl,rfl⟩
   ·rintro j w acc g N' hN' e' ⟨rfl,rfl⟩;obtain ⟨p,ep,rfl⟩:=ints_get e';refine ⟨[.int p],rfl,cD<|cj<|aG<|ak rfl<|aP<|tX<|hN' _ _ ⟨rfl,?_⟩⟩;rw [KN,ep];simp
   ·rintro acc g ⟨rfl,rfl⟩;rw [DX,Kl];refine aq<|Pq (us:=(t.1.map fun p=>decide<|p>60).map .bl) (bs:=t.1.map fun p=>decide<|p>60) rfl (Jb _)<|Eb rfl ?_
    have ea:(t.1.map fun p=>decide (p>60)).any id=decide (∃ p∈t.1,60<p):=by
     rw [VB,List.any_map,T3,decide_eq_true_iff];constructor
     ·rintro ⟨p,hp,e⟩;exact ⟨p,hp,by simpa using e⟩
     ·rintro ⟨p,hp,e⟩;exact ⟨p,hp,by simpa using e⟩
    rw [ea];refine su (fun c=>lM<|q2 ⟨t,mt,c⟩) fun c=>aW<|hN _ _ ⟨rfl,fun u hu p hp h60=>?_,_,_,rfl⟩
    rw [KN,qe] at hu;rcases La.mp hu with hu | hu
    ·exact lo u hu p hp h60
    ·have:u=t:=by simpa using hu
     exact c ⟨p,by rw [<-this];exact hp,h60⟩
 ·rintro Z h' ⟨rfl,lo,s1,s2,rfl⟩;rw [DX,Kl] at lo;exact bB<|q1 fun ⟨t,ht,p,hp,h60⟩=>lo t ht p hp h60
def Over (us vs rs:List Tm):Prop:=20000<us.length*vs.length\/600<rs.length\/Xn rs
theorem agJ {x:Int}{N:Gh->Prop}(e:h.c n=FN (.dct (LK D)))(hD:∀ j∈D.map (·.1),Kb L j)(hk:Kb L k)(hz:D.length<=30000)(q:∀ g:Gh,g.c n=FN (.dct (LK (xT D k x)))->(∀ m,m≠n->g.c m=h.c m)->g.nx=h.nx->N g):qD (.loc n) (.int (pack k)) (.int x) h N:=by
 show (match h.c n with
  | some (.dct kvs)=>eG (kvs.length+1) (N (h.set n (.dct (J9 kvs (.inl (pack k)) (.int x)))))
  | _=>False)
 rw [e];refine eG.mk (Dk (m:=30001) (by unfold LK;rw [DX];lia)<|by decide) ?_;rw [aeY hD hk];exact q _ (oU _ _ _) (fun _ e=>jy e) rfl
theorem ahU (e:h.c n=FN (.dct (LK D)))(hD:∀ j∈D.map (·.1),Kb L j)(hk:Kb L k)(q:Q (.int (getM D k)) h):Km (.loc n) [.int (pack k),.int 0] h Q:=by
 show (match h.c n,(FN (Sum.inl (pack k)):Option Key) with
  | some (.dct kvs),FN k=>Q ((mK kvs k).getD (.int 0)) h
  | _,_=>False)
 rw [e];show Q ((mK (LK D) (.inl (pack k))).getD (.int 0)) h;rw [afV hD hk];exact q
variable {kvs : List (Key×W)}
theorem aeX (e:h.c n=FN (.dct kvs))(p:P):Iw h (.loc n) P:=by
 unfold Iw;dsimp only;rw [e];exact p
theorem ahM {r:MM}{mo:ME}(x:mo Z h fun x h1=>Iw h1 x (ma Z h1 fun xs h2=>r x xs h2 Q)):aav r mo ma Z h Q:=x
theorem aie (x:∀ g:Gh,g.c h.nx=FN (.dct (LK []))->(∀ n,n≠h.nx->g.c n=h.c n)->g.nx=h.nx+1->Q (.loc h.nx) g):Uh Z h Q:=x _ (Ed _ _) (fun _ e=>tB e) rfl
theorem adD (e:us[i]?=FN t):mU (us.take (i+1)) vs=HS t.1 t.2 vs (mU (us.take i) vs):=by
 rw [KN,e];exact fU ..
theorem zaD {n:Int}{s:Tm}(e:vs[i]?=FN s):HS k n (vs.take (i+1)) D=Dp (HS k n (vs.take i) D) (iD k s.1) (n*s.2):=by
 rw [KN,e];exact fH ..
theorem Ms.kb (h:Ms L us):∀ t∈us,t.1.length=L/\∀ p∈t.1,0<=p/\p<=40:=fun t ht=>⟨(h.2.2 t ht).1,(h.2.2 t ht).2.2.2⟩
variable {rs : List Tm}
theorem xR.facts (hD:∀ k∈D.map (·.1),Kb L k)(nd:(D.map (·.1)).Nodup)(a:xR D rs):(∀ t∈rs,Kb L t.1/\t.2≠0)/\(rs.map (·.1)).Pairwise (· < ·):=by
 obtain ⟨ks,pk,sk,rfl⟩:=a;refine ⟨fun t ht=>?_,GF sk⟩;have:=Oc nd (fun k hk=>pk.mem_iff.mp hk) ht
 exact ⟨hD t.1<|Hj.mpr ⟨t,this.1,rfl⟩,this.2⟩
theorem Af:∀ us:List Tm,nY (us.map Kg)=FN (LC us)
 | []=>rfl
 | t::us=>by
  show (match Ka (.tup (t.1.map W.int)) with
   | some ks=>(nY (us.map Kg)).map ((ks,W.int t.2)::·)
   | none=>FX)=_
  rw [sV,Af us];rfl
theorem YB (nd:(us.map (·.1)).Nodup)(x:∀ g:Gh,g.c h.nx=FN (.dtt (LC us))->(∀ n,n≠h.nx->g.c n=h.c n)->g.nx=h.nx+1->Q (.loc h.nx) g):Bq [Dj us] h Q:=by
 show (match nY (us.map Kg) with
  | some ps=>(ps.map (·.1)).Nodup/\Q (.loc h.nx) (h.new (.dtt ps))
  | none=>False)
 rw [Af];refine ⟨?_,x _ (Ed _ _) (fun _ e=>tB e) rfl⟩;have:(LC us).map (·.1)=us.map (·.1):=by unfold LC;rw [KC];rfl
 rw [this];exact nd
theorem Qe {h':Gh}(keep:∀ n,n<h.nx->h'.c n=h.c n)(q:Q (Dj us) h):j6 true h (Dj us) h' Q:=
 ⟨fun n c hn ec=>by rw [keep n hn];exact ec,.inl ⟨Vh _ _,q⟩⟩
def rm (f:Int)(us vs:List Tm):List Tm:=vs.foldl (fun D t=>Dp D t.1 (f*t.2)) us
theorem gR (f:Int)(us vs:List Tm)(t:Tm):rm f us (vs++[t])=Dp (rm f us vs) t.1 (f*t.2):=by unfold rm;rw [List.foldl_append];rfl
theorem jm {f:Int}(h:(us.map (·.1)).Nodup):((rm f us vs).map (·.1)).Nodup:=by
 refine Di (P:=fun vs=>((rm f us vs).map (·.1)).Nodup) h (fun vs t ih=>?_) vs;rw [gR];exact wz ih
theorem pC (f:Int)(us vs:List Tm):(rm f us vs).length<=us.length+vs.length:=by
 refine Di (P:=fun vs=>(rm f us vs).length<=us.length+vs.length) (Dg _) (fun vs t ih=>?_) vs;rw [gR,Jt,Wq];exact Dk (Jx ..)<|by lia
theorem vM {f:Int}:∀ k∈(rm f us vs).map (·.1),k∈us.map (·.1)\/k∈vs.map (·.1):=by
 refine Di (P:=fun vs=>∀ k∈(rm f us vs).map (·.1),k∈us.map (·.1)\/k∈vs.map (·.1)) (fun k h=>.inl h) (fun vs t ih k hk=>?_) vs;rw [gR,pI] at hk;rw [Hl,La];have hk:k∈(rm f us vs).map (·.1)\/k=t.1:=by
  split at hk
  ·exact .inl hk
  ·rcases La.mp hk with hk | hk
   ·exact .inl hk
   ·exact .inr<|Kp.mp hk
 rcases hk with hk | hk
 ·rcases ih k hk with h | h
  ·exact .inl h
  ·exact .inr<|.inl h
 ·exact .inr<|.inr<|by simp [hk]
def Ls (L:Nat)(us:List Tm):Prop:=us.length<=400/\(us.map (·.1)).Pairwise (· < ·)/\∀ t∈us,t.1.length=L/\t.2≠0/\Sm 1000 t.2
theorem ago {f:Int}(hu:Ls L us)(hv:Ls L vs):∀ t∈rm f us vs,t.1.length=L:=fun t ht=>by
 rcases vM t.1 (Hj.mpr ⟨t,ht,rfl⟩) with h | h
 ·obtain ⟨u,h1,h2⟩:=Hj.mp h;rw [<-h2];exact (hu.2.2 u h1).1
 ·obtain ⟨u,h1,h2⟩:=Hj.mp h;rw [<-h2];exact (hv.2.2 u h1).1
def ab8 (c0:CP):Prop:=∀ {h:Gh} {n:Nat} {ts:List Tm} {Q:WK} {E:Dm},h.c n=FN (.dtt (LC ts))->ts.length<=1000->CW (ts.map (·.1))->(∀ ks:List (List Int),ks.Perm (ts.map (·.1))->ks.Pairwise (· < ·)->((pH ts ks).length<=600->Q (Dj (pH ts ks)) h)/\(600<(pH ts ks).length->E ⟨"TooMuch",[]⟩ h))->c0 [.loc n] h Q E
theorem afj (hv:Z[0]?=FN (FN (.loc n)))(ec:h.c n=FN (.dct (LK D)))(hD:∀ j∈D.map (·.1),Kb L j)(nd:(D.map (·.1)).Nodup)(hz:D.length<=30000)
  (q:∀ rs,xR D rs->Q (.lst (rs.map itW)) h) :
  Hi Ib [0] (Hr (Eu BL (ao (aA 0) aJ))) (bG (CG MN (CG Ti (aA 1) (aA 0)) (mC (.int 0)))) (iR (ao (aA 0) (ao (CG Ti (aA 1) (aA 0)) aJ))) Z h Q:=by
 have eb:jZ [0] Z = [FN (.loc n)]:=by unfold jZ;rw [DY,hv];rfl
 refine gn<|eZ<|bC<|aj<|ak hv<|aq<|Or.inr ?_
 show (match h.c n with
  | some (.dct kvs)=>∃ ks:List Int,DR kvs ks/\∀ js:List Int,js.Perm ks->js.Pairwise (· < ·)->_
  | _=>False)
 rw [ec];refine ⟨(D.map (·.1)).map pack,by unfold DR LK;rw [KC,KC,KC];rfl,fun js pj sj=>?_⟩;obtain ⟨ks,pk,sk⟩:=Rq (D.map (·.1)) nd;have ej:js=ks.map pack:=by
  refine JD (pj.trans (pk.map pack).symm) sj ?_;rw [T6];exact List.Pairwise.imp_of_mem (fun {a b} ha hb h=>(Gy (hD a<|pk.mem_iff.mp ha)<|hD b<|pk.mem_iff.mp hb).mp h) sk
 subst ej;have q:=q _ ⟨ks,pk,sk,rfl⟩;have lk:ks.length=D.length:=by rw [pk.length_eq,DX]
 refine pL (ws:=(ks.map pack).map .int) (o:=FX) rfl<|eG.mk (Dk (m:=30000) (by rw [DX,DX];lia)<|by decide) ?_
 refine dF (fun i acc h'=>h'=h/\acc=(pH D<|ks.take i).map itW) ?_ ?_ ⟨rfl,rfl⟩
 ·rintro i w acc h' N hN e ⟨rfl,rfl⟩;rw [KC,GP] at e;cases qe:ks[i]? with
  | none=>rw [qe] at e;cases e
  | some k=>
   rw [qe] at e;cases e;have mk:=pk.mem_iff.mp (KH qe);refine ⟨[.int<|pack k],rfl,?_⟩;rw [eb];have eo:pH D (ks.take (i+1))=pH D (ks.take i)++([(k,getM D k)].filter fun t:Tm=>decide (t.2≠0)):=by
    unfold pH;rw [KN,qe,Hl,List.filter_append];rfl
   refine aV<|aG<|aG<|ak rfl<|ak rfl<|Or.inr<|Ob ec hD mk<|aP<|yO<|gW ?_
   refine Mh (fun ne=>?_) fun ne=>?_
   ·refine cM<|aj<|ak rfl<|aj<|aG<|ak rfl<|ak rfl<|Or.inr<|Ob ec hD mk<|aq<|aZ rfl ?_
    refine hN _ _ ⟨rfl,?_⟩;rw [eo,Ul,if_pos (by simpa using ne),Hl];rfl
   ·refine hN _ _ ⟨rfl,?_⟩;rw [eo,Ul,if_neg (by simpa using ne)];simp
 ·rintro acc h' ⟨rfl,rfl⟩;rw [DX,DX,Kl];exact q
theorem ags:abQ cP:=by
 intro h n D L Q E ec hD nd hz q;unfold cP;refine cT rfl (Z:=[FN<|.loc n,FX]) rfl<|aH<|aQ<|bC<|aj<|afj rfl ec hD nd hz fun rs hr=>aq<|dz ?_
 obtain ⟨q1,q2⟩:=q rs hr;refine nV<|bB ?_
 refine aH<|bw<|aV<|aG<|bC<|aj<|ak rfl<|aq<|cN (xs:=rs.map itW) rfl ?_
 rw [DX];refine aP<|tX<|gW<|su (fun c=>lM<|q2<|by lia) fun c=>aW<|bB ?_
 unfold dU;exact aU<|ak rfl<|fY<|q1<|by lia
theorem agv (hv:Z[0]?=FN (FN (.loc n)))(ec:h.c n=FN (.dtt (LC ts)))(hz:ts.length<=1000)(hs:CW (ts.map (·.1)))
  (q:∀ ks:List (List Int),ks.Perm (ts.map (·.1))->ks.Pairwise (· < ·)->Q (.lst ((pH ts ks).map Kg)) h) :
  Hi Ib [0] (Hr (Eu BL (ao (aA 0) aJ))) (bG (CG MN (CG Ti (aA 1) (aA 0)) (mC (.int 0)))) (iR (ao (aA 0) (ao (CG Ti (aA 1) (aA 0)) aJ))) Z h Q:=by
 have eb:jZ [0] Z = [FN (.loc n)]:=by unfold jZ;rw [DY,hv];rfl
 refine gn<|eZ<|bC<|aj<|ak hv<|aq<|Or.inl ?_
 show (match h.c n with
  | some (.dtt kvs)=>CW (kvs.map (·.1))/\∀ ks:List (List Int),ks.Perm (kvs.map (·.1))->ks.Pairwise (· < ·)->_
  | _=>False)
 rw [ec];have ek:(LC ts).map (·.1)=ts.map (·.1):=by unfold LC;rw [KC];rfl
 refine ⟨by rw [ek];exact hs,fun ks pk sk=>?_⟩;rw [ek] at pk;have q:=q ks pk sk;have lk:ks.length=ts.length:=by rw [pk.length_eq,DX]
 refine pL (ws:=ks.map fun k=>.tup<|k.map .int) (o:=FX) rfl<|eG.mk (Dk (m:=1000) (by rw [DX];lia)<|by decide) ?_
 refine dF (fun i acc h'=>h'=h/\acc=(pH ts<|ks.take i).map Kg) ?_ ?_ ⟨rfl,rfl⟩
 ·rintro i w acc h' N hN e ⟨rfl,rfl⟩;rw [GP] at e;cases qe:ks[i]? with
  | none=>rw [qe] at e;cases e
  | some k=>
   rw [qe] at e;cases e;have mk:=pk.mem_iff.mp (KH qe);refine ⟨[.tup<|k.map .int],rfl,?_⟩;rw [eb];have eo:pH ts (ks.take (i+1))=pH ts (ks.take i)++([(k,getM ts k)].filter fun t:Tm=>decide (t.2≠0)):=by
    unfold pH;rw [KN,qe,Hl,List.filter_append];rfl
   refine aV<|aG<|aG<|ak rfl<|ak rfl<|Or.inl<|O4 ec mk<|aP<|yO<|gW ?_
   refine Mh (fun ne=>?_) fun ne=>?_
   ·refine cM<|aj<|ak rfl<|aj<|aG<|ak rfl<|ak rfl<|Or.inl<|O4 ec mk<|aq<|aZ rfl ?_
    refine hN _ _ ⟨rfl,?_⟩;rw [eo,Ul,if_pos (by simpa using ne),Hl];rfl
   ·refine hN _ _ ⟨rfl,?_⟩;rw [eo,Ul,if_neg (by simpa using ne)];simp
 ·rintro acc h' ⟨rfl,rfl⟩;rw [DX,Kl];exact q
theorem YW:ab8 cP:=by
 intro h n ts Q E ec hz hs q;unfold cP;refine cT rfl (Z:=[FN<|.loc n,FX]) rfl<|aH<|aQ<|bC<|aj<|agv rfl ec hz hs fun ks pk sk=>aq<|dz ?_
 obtain ⟨q1,q2⟩:=q ks pk sk;refine nV<|bB ?_
 refine aH<|bw<|aV<|aG<|bC<|aj<|ak rfl<|aq<|cN (xs:=(pH ts ks).map Kg) rfl ?_
 rw [DX];refine aP<|tX<|gW<|su (fun c=>lM<|q2<|by lia) fun c=>aW<|bB ?_
 unfold dU;exact aU<|ak rfl<|fY<|q1<|by lia
def abG (f:Int)(us vs rs:List Tm):Prop:=∃ ks:List (List Int),ks.Perm ((rm f us vs).map (·.1))/\ks.Pairwise (· < ·)/\rs=pH (rm f us vs) ks
def WhX (c0:CP):Prop:=∀ {h:Gh} {us vs:List Tm} {f:Int} {L:Nat} {Q:WK} {E:Dm},Ls L us->Ls L vs->Sm 64 f->(∀ rs,abG f us vs rs->(rs.length<=600->Q (Dj rs) h)/\(600<rs.length->∀ h':Gh,E ⟨"TooMuch",[]⟩ h'))->c0 [Dj us,Dj vs,.int f] h Q E
theorem adG {f:Int}(e:vs[i]?=FN t):rm f us (vs.take (i+1))=Dp (rm f us (vs.take i)) t.1 (f*t.2):=by
 rw [KN,e];exact gR ..
theorem ac3 {so:CP}(hso:ab8 so):WhX (jf so):=by
 intro h us vs f L Q E hu hv sf q;have lu:=hu.1;have lv:=hv.1;unfold jf;refine iW rfl (Z:=[FN<|Dj us,FN<|Dj vs,FN<|.int f,FX,FX,FX]) rfl<|aH<|aQ<|bC<|aj<|ak rfl<|aq<|YB (fB hu.2.1) fun g eg og xg=>?_
 refine nV<|bB ?_
 refine aH ?_;refine mX (ws:=vs.map Kg) rfl ?_;refine bW (fun i Z h'=>∃ s4 s5:Option W,Z = [FN<|Dj us,FN<|Dj vs,FN<|.int f,FN<|.loc h.nx,s4,s5]/\h'.c h.nx=FN (.dtt<|LC<|rm f us<|vs.take i)/\∀ n,n≠h.nx->h'.c n=h.c n) ?_ ?_ ⟨FX,FX,rfl,eg,og⟩
 ·rintro i w Z h' N hN e ⟨s4,s5,rfl,e2,o2⟩;rw [GP] at e;cases qe:vs[i]? with
  | none=>rw [qe] at e;cases e
  | some t=>
   rw [qe] at e;cases e;have ld:=pC f us (vs.take i);rw [Qh] at ld;refine jq rfl rfl<|cO<|nV ?_
   refine cO<|nV ?_
   refine mz ?_;refine aQ<|aG<|ahg<|ak rfl<|zbz e2<|aj<|ak rfl<|aj<|aP<|aq<|ZF e2 ?_
   refine aG<|ak rfl<|ak rfl<|jP (.of sf (hv.2.2 t<|KH qe).2.2 (by decide) (by decide))<|dW<|Fv<|ak rfl<|ak rfl ?_
   refine ahT e2 (by lia) fun g2 a1 a2 a3=>bB<|hN _ _ ⟨_,_,rfl,?_,fun n hn=>by rw [a2 n hn];exact o2 n hn⟩
   rw [adG qe];exact a1
 ·rintro Z h' ⟨s4,s5,rfl,e2,o2⟩;rw [DX,Kl] at e2;unfold jR;refine bB<|aU<|aB<|aj<|ak rfl<|aq ?_
  refine hso e2 (Dk (pC f us vs)<|by lia) (afl (L:=L) (jm<|fB hu.2.1)<|ago hu hv) fun ks pk sk=>?_;obtain ⟨q1,q2⟩:=q _ ⟨ks,pk,sk,rfl⟩;exact ⟨fun l=>Qe (fun n hn=>o2 n<|by lia)<|q1 l,fun l=>q2 l h'⟩
def TK (f:Int)(c0:CP):Prop:=∀ {h:Gh} {us vs:List Tm} {L:Nat} {Q:WK} {E:Dm},Ls L us->Ls L vs->(∀ rs,abG f us vs rs->(rs.length<=600->Q (Dj rs) h)/\(600<rs.length->∀ h':Gh,E ⟨"TooMuch",[]⟩ h'))->c0 [Dj us,Dj vs] h Q E
theorem ahj {wt:CP}(hwt:WhX wt):TK 1 (JK wt):=by
 intro h us vs L Q E hu hv q;unfold JK;exact cT rfl (Z:=[FN<|Dj us,FN<|Dj vs]) rfl<|aU<|aB<|aj<|ak rfl<|aj<|ak rfl<|aj<|aP<|aq<|hwt hu hv (.lit rfl) q
theorem afi {wt:CP}(hwt:WhX wt):TK (-1) (yj wt):=by
 intro h us vs L Q E hu hv q;unfold yj;exact cT rfl (Z:=[FN<|Dj us,FN<|Dj vs]) rfl<|aU<|aB<|aj<|ak rfl<|aj<|ak rfl<|aj<|Kf<|aP<|Ae<|aq<|hwt hu hv (.lit rfl) q
theorem afs {b:MS}{D:bO}(hv:Z[i]?=FN (FN (.lst ws)))(x:gG ⟨ws,FX⟩ g b D ws Z h):lD (Hr (aA i)) g b D Z h:=dN (eZ (ak hv (pL rfl (dR x))))
theorem Oe {l:List W}:Lz (w::l) 0=FN w:=by
 unfold Lz QM;simp
theorem lets (hv:Z[0]?=FN (FN (Dj us)))(hl:∀ t∈us,t.1.length=L)(q:∀ l:Nat,(us≠[]->l=L)->Q (.int l) h):
  mIf (yZ (aA 0)) (Eu Gb (ao (CG Cw (CG Cw (aA 0) (mC (.int 0))) (mC (.int 0))) aJ)) (mC (.int 0)) Z h Q:=by
 cases us with
 | nil=>exact Lg (gU (ak hv (Eb (b:=false) rfl (eV (aP (q 0 fun n=>absurd rfl n))))))
 | cons t us=>
  refine Lg<|gU<|ak hv<|Eb (b:=true) rfl<|oY<|bC<|aj<|aG<|aG<|ak hv<|aP<|bI (ws:=(t::us).map Kg) rfl (w:=Kg t) (by rw [DY];exact Oe)<|aP<|bI (ws:=[.tup<|t.1.map .int,.int t.2]) rfl (w:=.tup (t.1.map .int)) Oe<|aq<|cN (xs:=t.1.map .int) rfl ?_
  rw [DX];exact q _ fun _=>hl t<|by simp
theorem ada {l:Nat}{un:CP}{E0:Dm}(hun:UnX un)(hv:Z[10]?=FN (FN (.tup (rs.map itW))))(hv9:Z[9]?=FN (FN (.int l)))(hr:∀ t∈rs,Kb L t.1)(hl:rs≠[]->l=L)(hL:L<=8)(hz:rs.length<=600)(q:Q (.lst (rs.map Kg)) h):
  Hi (owT 2) [9] (Hr (aA 10)) jG (iR (ao (aL un E0 (ao (aA 0) (ao (aA 2) aJ))) (ao (aA 1) aJ))) Z h Q:=by
 have eb:jZ [9] Z = [FN (.int l)]:=by unfold jZ;rw [DY,hv9];rfl
 refine gn<|eZ<|ak hv<|pL (ws:=rs.map itW) (o:=FX) rfl<|eG.mk (Dk (m:=1000) (by rw [DX];lia)<|by decide) ?_
 refine dF (fun i acc g=>g=h/\acc=(rs.take i).map Kg) ?_ ?_ ⟨rfl,rfl⟩
 ·rintro i w acc g N hN e ⟨rfl,rfl⟩;rw [GP] at e;cases qe:rs[i]? with
  | none=>rw [qe] at e;cases e
  | some t=>
   rw [qe] at e;cases e;have mt:=KH qe;have el:=hl (List.ne_nil_of_mem mt);subst el;refine ⟨[.int<|pack t.1,.int t.2],rfl,?_⟩;rw [eb];refine cD<|cj<|cM<|aj<|aB<|aj<|ak rfl<|aj<|ak rfl<|aq ?_
   refine hun (hr t mt) hL<|aj<|ak rfl<|aq<|aZ rfl<|hN _ _ ⟨rfl,?_⟩
   rw [KN,qe,Hl];rfl
 ·rintro acc g ⟨rfl,rfl⟩;rw [DX,Kl];exact q
def Zc (c0:CP):Prop:=∀ {h:Gh} {us vs:List Tm} {L:Nat} {Q:WK} {E:Dm},Ms L us->Ms L vs->L<=8->(∀ rs,xR (mU us vs) rs->(¬ Over us vs rs->Q (Dj rs) h)/\(Over us vs rs->∀ h':Gh,E ⟨"TooMuch",[]⟩ h'))->c0 [Dj us,Dj vs] h Q E
abbrev ht (us vs:List Tm)(h:Gh)(r:Sw):Sw:=FN (Dj us)::FN (Dj vs)::FN (.loc h.nx)::FN (.lst (vs.map ptW))::r
theorem zbu {so un pt cp:CP}(hso:abQ so)(hun:UnX un)(hpt:PtX pt)(hcp:CpX cp):Zc (yH so un pt cp):=by
 intro h us vs L Q E hu hv hL q;have lu:=hu.1;have lv:=hv.1;have ku:=hu.kb;have kv:=hv.kb;have kbu:∀ t∈us,Kb L t.1:=fun t ht=>⟨(ku t ht).1,fun p hp=>by have:=(ku t ht).2 p hp;lia⟩
 have kbv:∀ t∈vs,Kb L t.1:=fun t ht=>⟨(kv t ht).1,fun p hp=>by have:=(kv t ht).2 p hp;lia⟩
 have kD:=xu ku kv;obtain ⟨ks,pk,sk⟩:=Rq _ (nA us vs);have hO:xR (mU us vs) (pH (mU us vs) ks):=⟨ks,pk,sk,rfl⟩
 unfold yH;refine iW rfl (Z:=[FN<|Dj us,FN<|Dj vs,FX,FX,FX,FX,FX,FX,FX,FX,FX,FX]) rfl ?_;refine aH<|bw<|aV<|aG<|aG<|bC<|aj<|ak rfl<|aq<|cN (xs:=us.map Kg) rfl<|bC<|aj<|ak rfl<|aq<|cN (xs:=vs.map Kg) rfl ?_
 rw [DX,DX];refine jP (.of (n:=8) (m:=8) (by unfold Sm;show (us.length:Int).natAbs<256;lia) (by unfold Sm;show (vs.length:Int).natAbs<256;lia) (by decide)<|by decide)<|aP<|tX<|gW ?_
 have em:(us.length:Int)*(vs.length:Int)=((us.length*vs.length:Nat):Int):=by rw [Int.natCast_mul]
 rw [em];generalize ez:us.length*vs.length=z;refine su (fun c=>lM<|(q _ hO).2 (.inl<|by lia) _) fun c=>aW<|bB ?_
 have hz:us.length*vs.length<=20000:=by lia
 unfold wL;refine aH<|aQ<|aie fun g eg og xg=>?_
 refine nV<|bB ?_
 refine aH<|aQ<|aB<|aj<|ak rfl<|aq<|hpt kbv (by lia) hL ?_
 refine nV<|bB ?_
 refine aH<|dN<|eZ<|aB<|aj<|ak rfl<|aq<|hpt kbu (by lia) hL<|pL (ws:=us.map ptW) (o:=FX) rfl<|dR ?_
 refine bW (fun i Z h'=>∃ s4 s5 s6 s7 s8:Option W,Z = ht us vs h [s4,s5,s6,s7,s8,FX,FX,FX]/\h'.c h.nx=FN (.dct<|LK<|mU (us.take i) vs)/\h'.nx=h.nx+1/\∀ n,n≠h.nx->h'.c n=h.c n) ?_ ?_ ⟨FX,FX,FX,FX,FX,rfl,eg,xg,og⟩
 ·rintro i w Z h' N hN e ⟨s4,s5,s6,s7,s8,rfl,e2,x2,o2⟩;rw [GP] at e;cases qe:us[i]? with
  | none=>rw [qe] at e;cases e
  | some t=>
   rw [qe] at e;cases e;have mt:=KH qe;have zi:(us.take i).length*vs.length<=20000:=Dk (X3 _ (by rw [Qh];lia)) hz;have ldi:=Dk (tU (us.take i) vs) zi;have kDi:∀ k∈(mU (us.take i) vs).map (·.1),Kb L k:=xu (fun u hu=>ku u (Vb hu)) kv
   refine jq rfl rfl<|cO<|nV ?_
   refine cO<|nV ?_
   refine mz ?_;refine afs (ws:=vs.map ptW) rfl ?_;refine bW (fun j Z h'=>∃ s6 s7 s8:Option W,Z = ht us vs h [FN<|.int<|pack t.1,FN<|.int t.2,s6,s7,s8,FX,FX,FX]/\h'.c h.nx=FN (.dct<|LK<|HS t.1 t.2 (vs.take j)<|mU (us.take i) vs)/\h'.nx=h.nx+1/\∀ n,n≠h.nx->h'.c n=h.c n) ?_ ?_ ⟨s6,s7,s8,rfl,e2,x2,o2⟩
   ·rintro j w Z h2 N2 hN2 e' ⟨s6,s7,s8,rfl,e3,x3,o3⟩;rw [GP] at e';cases qf:vs[j]? with
    | none=>rw [qf] at e';cases e'
    | some s=>
     rw [qf] at e';cases e'
     have ms:=KH qf;have kDj:=Jz (t:=t) (vs:=vs.take j) (ku t mt) (fun u hu=>kv u (Vb hu)) kDi;have kz:=JB (ku t mt) (kv s ms);have lj:=Aw t.1 t.2 (vs.take j) (mU (us.take i) vs);rw [Qh] at lj;refine jq rfl rfl<|cO<|nV ?_
     refine cO<|nV ?_
     refine mz ?_;refine aH<|aQ<|aG<|ak rfl<|ak rfl<|dW ?_
     rw [<-Bk (ku t mt).1 (kv s ms).1];refine nV<|bB ?_
     refine aQ<|aG<|ahM<|ak rfl<|aeX e3<|aj<|ak rfl<|aj<|aP<|aq<|ahU e3 kDj kz ?_
     refine aG<|ak rfl<|ak rfl<|jP (.of (hu.2.2 t mt).2.2.1 (hv.2.2 s ms).2.2.1 (by decide) (by decide))<|dW<|Fv<|ak rfl<|ak rfl ?_
     refine agJ e3 kDj kz (by lia) fun g2 a1 a2 a3=>bB<|hN2 _ _ ⟨_,_,_,rfl,?_,by lia,fun n hn=>by rw [a2 n hn];exact o3 n hn⟩
     rw [zaD qf];exact a1
   ·rintro Z h2 ⟨s6,s7,s8,rfl,e3,x3,o3⟩;rw [DX,Kl] at e3;refine bB<|hN _ _ ⟨_,_,_,_,_,rfl,?_,x3,o3⟩
    rw [adD qe];exact e3
 ·rintro Z h' ⟨s4,s5,s6,s7,s8,rfl,e2,x2,o2⟩;rw [DX,Kl] at e2;have ge:adH h h':=⟨by lia,fun n hn=>o2 n (by lia)⟩
  refine bB ?_;unfold wO;refine aH<|aQ<|lets (L:=L) rfl (fun t ht=>(ku t ht).1) fun l el=>?_
  refine nV<|bB ?_
  refine aH<|aQ<|aB<|aj<|ak rfl<|aq ?_
  refine hso e2 kD (nA us vs) (Dk (tU us vs)<|by lia) fun rs hr=>?_;obtain ⟨q1,q2⟩:=q rs hr;have fr:=(hr.facts kD (nA us vs)).1;refine ⟨fun l6=>?_,fun l6=>q2 (.inr<|.inl l6) _⟩;have hne:rs≠[]->l=L:=fun n=>el fun eu=>n (by
   subst eu;obtain ⟨ks,pk,sk,rfl⟩:=hr;have:ks=[]:=pk.eq_nil
   rw [this];rfl)
  refine nV<|bB ?_
  refine aH<|aQ<|bC<|aj<|ada hun rfl rfl (fun t ht=>(fr t ht).1) hne hL l6<|aq<|dz ?_
  refine nV<|bB ?_
  refine aH<|iy<|aB<|aj<|ak rfl<|aq ?_
  refine hcp (fun t ht=>(fr t ht).1.1) hL l6 (fun lo=>bB<|aU<|ak rfl<|fY<|Qe (fun n hn=>ge.2 n hn)<|q1 fun o=>?_) fun hi=>q2 (.inr<|.inr hi) _;rcases o with o | o | o
  ·lia
  ·lia
  ·exact lo o
def mo (ps xs:List Int):Nat->Int
 | 0=>1
 | i+1=>mo ps xs i*(xs.getD i 0)^(ps.getD i 0).toNat
def wo (ts:List Tm)(xs:List Int)(L:Nat):Nat->Int
 | 0=>0
 | i+1=>wo ts xs L i+(ts.getD i ([],0)).2*mo (ts.getD i ([],0)).1 xs L
def Bd (xs:List Int):Prop:=∀ x∈xs,Sm 34 x
theorem Ij {x:Int}(k:Nat)(h:Sm 34 x):(x^k).natAbs<=2^(34*k):=by
 rw [Int.natAbs_pow,Nat.pow_mul];exact Nat.pow_le_pow_left (Lx h) k
variable {xs : List Int}
theorem Bd.get (h:Bd xs)(i:Nat):Sm 34 (xs.getD i 0):=by
 rw [MF];cases e:xs[i]? with
 | none=>exact (by unfold Sm;decide:Sm 34 0)
 | some x=>exact h x (KH e)
theorem Pw.get {ps:List Int}(h:Pw ps)(i:Nat):0<=ps.getD i 0/\ps.getD i 0<=60:=by
 rw [MF];cases e:ps[i]? with
 | none=>exact (by decide:(0:Int)<=0/\(0:Int)<=60)
 | some x=>exact h x (KH e)
theorem ahR {x p:Int}(h:Sm 34 x)(h1:p<=60):(x^p.toNat).natAbs<=2^2040:=
 Dk (Ij _ h) (Wg (by decide) (by lia))
theorem R9 {ps xs:List Int}(hx:Bd xs)(hp:Pw ps):∀ i,(mo ps xs i).natAbs<=2^(2040*i)
 | 0=>by simp [mo]
 | i+1=>by
  rw [mo,Ss,Nat.mul_succ,QB];exact WD (R9 hx hp i)<|ahR (hx.get i) (hp.get i).2
theorem Gu {k:Nat}{a b:Int}(h:Sm m a)(hb:b.natAbs<=2^k):Sm (m+k) (a*b):=by
 unfold Sm at *;rw [Ss,QB];exact Nat.mul_lt_mul_of_lt_of_le h hb<|Tc<|by decide
theorem uy {f g:List Int->Int}:∀ {us:List Tm},(∀ t∈us,f t.1=g t.1)->lin f us=lin g us
 | [],_=>rfl
 | t::us,h=>by rw [bN,bN,h t (by simp),uy fun u hu=>h u (Jo _ hu)]
theorem vo {r:List Int}:∀ {vs:List Tm},(vs.map (·.1)).Nodup->lin (dl r) vs=getM vs r
 | [],_=>rfl
 | t::vs,nd=>by
  rw [DY,R6] at nd;rw [bN,dh,vo nd.2];unfold dl;by_cases c:t.1=r
  ·rw [if_pos c,if_pos c,getM_none (c ▸ nd.1)];lia
  ·rw [if_neg c,if_neg c];lia
theorem zbb {g:List Int->Int}{n:Int}(nd:(D.map (·.1)).Nodup)(vs:List Tm):lin g (HS k n vs D)=lin g D+n*lin (fun l=>g (iD k l)) vs:=by
 refine Di (P:=fun vs=>lin g (HS k n vs D)=lin g D+n*lin (fun l=>g<|iD k l) vs) (by show lin g D=lin g D+n*0;lia) (fun vs t ih=>?_) vs;rw [fH,Jg (JR nd),ih,j5,bN];show _=_+n*(_+(g (iD k t.1)*t.2+0));grind
theorem agt (g:List Int->Int)(us vs:List Tm):lin g (mU us vs)=lin (fun k=>lin (fun l=>g (iD k l)) vs) us:=by
 refine Di (P:=fun us=>lin g (mU us vs)=lin (fun k=>lin (fun l=>g<|iD k l) vs) us) rfl (fun us t ih=>?_) us;rw [fU,zbb (nA us vs),ih,j5,bN];show _=_+(_+0);rw [Int.add_zero,Int.mul_comm]
theorem aeT {g:List Int->Int}(hg:∀ t∈us,∀ s∈vs,g (iD t.1 s.1)=g t.1*g s.1):lin g (mU us vs)=lin g us*lin g vs:=by
 rw [agt,<-qy];refine uy fun t ht=>?_;rw [Int.mul_comm,<-qy];refine uy fun s hs=>?_;rw [hg t ht s hs,Int.mul_comm]
theorem yW {g:List Int->Int}{f:Int}(nd:(us.map (·.1)).Nodup)(vs:List Tm):lin g (rm f us vs)=lin g us+f*lin g vs:=by
 refine Di (P:=fun vs=>lin g (rm f us vs)=lin g us+f*lin g vs) (by show lin g us=lin g us+f*0;lia) (fun vs t ih=>?_) vs;rw [gR,Jg (jm nd),ih,j5,bN];show _=_+f*(_+(g t.1*t.2+0));grind
theorem xR.lin {D rs:List Tm}(nd:(D.map (·.1)).Nodup)(a:xR D rs)(g:List Int->Int):lin g rs=lin g D:=by
 obtain ⟨ks,pk,_,rfl⟩:=a;exact afp nd pk
theorem HW {ts:List Tm}{xs:List Int}{L:Nat}:∀ i,i<=ts.length->wo ts xs L i=lin (fun k=>mo k xs L) (ts.take i)
 | 0,_=>rfl
 | i+1,h=>by
  have e:ts[i]?=FN (ts[i]'(by lia)):=HD _;rw [wo,HW i (by lia),KN,e,MF,e];show _=lin _ (ts.take i++[ts[i]'(by lia)]);rw [j5,bN];show _=_+(_+0);rw [Int.add_zero,Int.mul_comm];rfl
theorem Il:wo ts xs L ts.length=lin (fun k=>mo k xs L) ts:=by
 rw [HW _ (Dg _),Kl]
theorem GC:∀ {k l:List Int} {i:Nat},k.length=l.length->(iD k l).getD i 0=k.getD i 0+l.getD i 0
 | [],[],_,_=>rfl
 | [],_::_,_,h=>by simp at h
 | _::_,[],_,h=>by simp at h
 | a::k,b::l,0,_=>rfl
 | a::k,b::l,i+1,h=>by
  show (iD k l).getD i 0=k.getD i 0+l.getD i 0;exact GC<|by simpa using h
theorem G6 {k l xs:List Int}(hl:k.length=l.length)(hk:∀ i,0<=k.getD i 0)(hm:∀ i,0<=l.getD i 0):∀ i,mo (iD k l) xs i=mo k xs i*mo l xs i
 | 0=>rfl
 | i+1=>by
  rw [mo,mo,mo,G6 hl hk hm i,GC hl,Int.toNat_add (hk i) (hm i),Int.pow_add];grind
theorem Fg {f:List Int->Int}{B C:Nat}(hf:∀ k,(f k).natAbs<=B):∀ {us:List Tm},(∀ t∈us,t.2.natAbs<=C)->(lin f us).natAbs<=us.length*(B*C)
 | [],_=>Ko _
 | t::us,h=>by
  rw [bN,K7,Nat.succ_mul,Ug];refine Dk (Int.natAbs_add_le _ _)<|W7 ?_<|Fg hf fun u hu=>h u<|Jo _ hu
  rw [Ss];exact WD (hf _)<|h t<|by simp
theorem zaZ {n:Int}(vs:List Tm):∀ x∈(HS k n vs D).map (·.1),x∈D.map (·.1)\/∃ s∈vs,x=iD k s.1:=by
 refine Di (P:=fun vs=>∀ x∈(HS k n vs D).map (·.1),x∈D.map (·.1)\/∃ s∈vs,x=iD k s.1) (fun _ h=>.inl h) (fun vs s ih x hx=>?_) vs;rw [fH,pI] at hx;have hx:x∈(HS k n vs D).map (·.1)\/x=iD k s.1:=by
  split at hx
  ·exact .inl hx
  ·rcases La.mp hx with hx | hx
   ·exact .inl hx
   ·exact .inr<|Kp.mp hx
 rcases hx with hx | hx
 ·rcases ih x hx with h | ⟨u,hu,e⟩
  ·exact .inl h
  ·exact .inr ⟨u,Rx _ hu,e⟩
 ·exact .inr ⟨s,by simp,hx⟩
theorem zbq (us vs:List Tm):∀ x∈(mU us vs).map (·.1),∃ t∈us,∃ s∈vs,x=iD t.1 s.1:=by
 refine Di (P:=fun us=>∀ x∈(mU us vs).map (·.1),∃ t∈us,∃ s∈vs,x=iD t.1 s.1) (fun x h=>by simp [mU] at h) (fun us t ih x hx=>?_) us;rw [fU] at hx;rcases zaZ vs x hx with h | ⟨s,hs,e⟩
 ·obtain ⟨u,hu,s,hs,e⟩:=ih x h;exact ⟨u,Rx _ hu,s,hs,e⟩
 ·exact ⟨t,by simp,s,hs,e⟩
def Mb (L b p n:Nat)(us:List Tm):Prop:=us.length<=n/\(us.map (·.1)).Pairwise (· < ·)/\∀ t∈us,t.1.length=L/\t.2≠0/\Sm b t.2/\∀ q∈t.1,0<=q/\q<=(p:Int)
variable {b p : Nat}
theorem Mb.mono {L b p n b' p' n':Nat}{us:List Tm}(h:Mb L b p n us)(hb:b<=b')(hp:p<=p')(hn:n<=n'):Mb L b' p' n' us:=
 ⟨by have:=h.1;lia,h.2.1,fun t ht=>⟨(h.2.2 t ht).1,(h.2.2 t ht).2.1,(h.2.2 t ht).2.2.1.mono hb,fun q hq=>by have:=(h.2.2 t ht).2.2.2 q hq;lia⟩⟩
theorem Mb.ms (h:Mb L 1000 30 64 us):Ms L us:=⟨by have:=h.1;lia,h.2.1,fun t ht=>⟨(h.2.2 t ht).1,(h.2.2 t ht).2.1,(h.2.2 t ht).2.2.1,fun q hq=>by have:=(h.2.2 t ht).2.2.2 q hq;lia⟩⟩
theorem Mb.nn (h:Mb L b p n us)(ht:t∈us)(i:Nat):0<=t.1.getD i 0:=by
 rw [MF];cases e:t.1[i]? with
 | none=>exact Int.le_refl _
 | some x=>exact ((h.2.2 t ht).2.2.2 x (KH e)).1
theorem xR.mem (nd:(D.map (·.1)).Nodup)(a:xR D rs):rs.length<=D.length/\(rs.map (·.1)).Pairwise (· < ·)/\∀ t∈rs,t.1∈D.map (·.1)/\t.2≠0/\t.2=getM D t.1:=by
 obtain ⟨ks,pk,sk,rfl⟩:=a;have lo:=aeD D ks;rw [pk.length_eq,DX] at lo;refine ⟨lo,GF sk,fun t ht=>?_⟩;have:=Oc nd (fun k hk=>pk.mem_iff.mp hk) ht
 exact ⟨Hj.mpr ⟨t,this.1,rfl⟩,this.2,(uL nd this.1).symm⟩
theorem YS {c q:Nat}(hu:Mb L b p n us)(hv:Mb L c q m vs)(hn:n<=64)(hm:m<=64)(a:xR (mU us vs) rs):Mb L (b+c+13) (p+q) (n*m) rs:=by
 obtain ⟨h1,h2,h3⟩:=a.mem (nA us vs);have lm:=Dk (Dk h1 (tU us vs)) (WD hu.1 hv.1);refine ⟨lm,h2,fun t ht=>?_⟩;obtain ⟨k1,k2,k3⟩:=h3 t ht;obtain ⟨x,hx,s,hs,e⟩:=zbq us vs _ k1;refine ⟨by rw [e,z8<|by rw [(hu.2.2 x hx).1,(hv.2.2 s hs).1],(hu.2.2 x hx).1],k2,?_,fun z hz=>?_⟩
 ·rw [k3,aeO];have d1:∀ k l,(dl t.1 (iD k l)).natAbs<=1:=fun k l=>by unfold dl;split <;> decide
  have i1:∀ k,(lin (fun l=>dl t.1 (iD k l)) vs).natAbs<=64*2^c:=fun k=>Dk (Fg (B:=1) (C:=2^c) (fun l=>d1 k l) fun s hs=>Lx (hv.2.2 s hs).2.2.1) (by rw [Nat.one_mul];exact X3 _ (Dk hv.1 hm))
  have i2:=Fg (C:=2^b) i1 fun s hs=>Lx (hu.2.2 s hs).2.2.1
  unfold Sm;refine QK i2<|QK (X3 _<|Dk hu.1 hn) ?_
  rw [QB,QB];have p1:0<2^b:=Tc (by decide);have p2:0<2^c:=Tc (by decide);have p3:0<2^b*2^c:=Nat.mul_pos p1 p2;have e:64*(64*2^c*2^b)=4096*(2^b*2^c):=by
   rw [Nat.mul_assoc 64,<-Nat.mul_assoc 64 64,Nat.mul_comm (2^c)]
  rw [e];have e2:(2:Nat)^13=8192:=by decide
  rw [e2];lia
 ·rw [e] at hz;obtain ⟨y,hy,w,hw,rfl⟩:=tV hz;have:=(hu.2.2 x hx).2.2.2 y hy
  have:=(hv.2.2 s hs).2.2.2 w hw
  lia
theorem O8 (h:∀ t∈us,Sm b t.2)(r:List Int):Sm b (getM us r):=by
 unfold getM;cases e:us.find? fun t=>decide (t.1=r) with
 | none=>exact Tc (by decide)
 | some t=>exact h t (List.mem_of_find?_eq_some e)
theorem Yt {f:Int}(hu:Mb L b p n us)(hv:Mb L b p n vs)(hf:f=1\/f = -1)(a:xR (rm f us vs) rs):Mb L (b+1) p (n+n) rs:=by
 have nu:=fB hu.2.1;obtain ⟨h1,h2,h3⟩:=a.mem (jm nu);have lm:=Dk (Dk h1 (pC f us vs)) (W7 hu.1 hv.1);refine ⟨lm,h2,fun t ht=>?_⟩;obtain ⟨k1,k2,k3⟩:=h3 t ht;have kk:t.1.length=L/\∀ q∈t.1,0<=q/\q<=(p:Int):=by
  rcases vM t.1 k1 with h | h
  ·obtain ⟨u,hu2,e⟩:=Hj.mp h;rw [<-e];exact ⟨(hu.2.2 u hu2).1,(hu.2.2 u hu2).2.2.2⟩
  ·obtain ⟨u,hu2,e⟩:=Hj.mp h;rw [<-e];exact ⟨(hv.2.2 u hu2).1,(hv.2.2 u hu2).2.2.2⟩
 refine ⟨kk.1,k2,?_,kk.2⟩;have e:getM (rm f us vs) t.1=getM us t.1+f*getM vs t.1:=by rw [<-vo (jm nu),yW nu,vo nu,vo (fB hv.2.1)]
 have b1:=O8 (fun u h=>(hu.2.2 u h).2.2.1) t.1;have b2:=O8 (fun u h=>(hv.2.2 u h).2.2.1) t.1;rw [k3,e];unfold Sm at *;rw [Nat.pow_succ];rcases hf with rfl | rfl <;> lia
theorem GR:∀ {cs:List Int} {lo hi:Int},cs.Pairwise (· < ·)->(∀ c∈cs,lo<=c/\c<hi)->lo<=hi->(cs.length:Int)<=hi - lo
 | [],lo,hi,_,_,h=>by simp;lia
 | c::cs,lo,hi,s,b,_=>by
  rw [Qq] at s;have hc:=b c (by simp);have:=GR (lo:=lo+1) (hi:=hi) s.2 (fun d hd=>by have:=s.1 d hd;have:=b d (Jo _ hd);lia) (by lia)
  rw [K7];lia
def code (P:Int):List Int->Int
 | [a]=>a
 | [a,b]=>a*P+b
 | _=>0
theorem aic {P:Int}(hL:L<=2){l:List Int}(hk:k.length=L/\∀ q∈k,0<=q/\q<P)(hl:l.length=L/\∀ q∈l,0<=q/\q<P)(h:k<l):code P k<code P l:=by
 match k,l,hk,hl with
 | [],[],_,_=>exact absurd h (Ur _)
 | [a],[b],_,_=>
  rw [RJ] at h;rcases h with h | ⟨_,h⟩
  ·exact h
  ·exact absurd h<|Ur _
 | [a,c],[b,d],hk,hl=>
  have c1:=hk.2 c (by simp);have d1:=hl.2 d (by simp);show a*P+c<b*P+d;rw [RJ] at h;rcases h with h | ⟨e,h⟩
  ·have:(a+1)*P<=b*P:=XF (by lia) (by lia)
   rw [Int.add_mul,Int.one_mul] at this;lia
  ·rw [RJ] at h;rcases h with h | ⟨_,h⟩
   ·rw [e];lia
   ·exact absurd h<|Ur _
 | [],_::_,hk,hl=>exact absurd (hk.1.trans hl.1.symm) (by simp)
 | _::_,[],hk,hl=>exact absurd (hk.1.trans hl.1.symm) (by simp)
 | [_],_::_::_,hk,hl=>exact absurd (hk.1.trans hl.1.symm) (by simp)
 | _::_::_,[_],hk,hl=>exact absurd (hk.1.trans hl.1.symm) (by simp)
 | _::_::_::_,_,hk,hl=>
  have:=hk.1
  simp only [K7] at this;lia
 | _,_::_::_::_,hk,hl=>
  have:=hl.1
  simp only [K7] at this;lia
theorem ahm {P:Int}(hL:L<=2)(hk:k.length=L/\∀ q∈k,0<=q/\q<P)(hP:1<=P):0<=code P k/\code P k<P*P:=by
 have pp:1*P<=P*P:=XF hP (by lia);match k,hk with
 | [],_=>exact ⟨Int.le_refl _,by show (0:Int)<P*P;lia⟩
 | [a],hk=>
  have:=hk.2 a (by simp)
  exact ⟨this.1,by show a<P*P;lia⟩
 | [a,b],hk=>
  have ha:=hk.2 a (by simp);have hb:=hk.2 b (by simp);have h1:0*P<=a*P:=XF ha.1 (by lia);have h2:(a+1)*P<=P*P:=XF (by lia) (by lia);rw [Int.add_mul,Int.one_mul] at h2;exact ⟨by show 0<=a*P+b;lia,by show a*P+b<P*P;lia⟩
 | _::_::_::_,hk=>
  have:=hk.1
  simp only [K7] at this;lia
theorem Mb.box (h:Mb L b p n us)(hL:L<=2):Mb L b p ((p+1)*(p+1)) us:=by
 refine ⟨?_,h.2.1,h.2.2⟩;have hk:∀ k∈us.map (·.1),k.length=L/\∀ q∈k,0<=q/\q<(p:Int)+1:=fun k hk=>by
  obtain ⟨t,ht,rfl⟩:=Hj.mp hk;exact ⟨(h.2.2 t ht).1,fun q hq=>by have:=(h.2.2 t ht).2.2.2 q hq;lia⟩
 have:=GR (cs:=(us.map (·.1)).map (code ((p:Int)+1))) (lo:=0) (hi:=((p:Int)+1)*((p:Int)+1)) (by
  rw [T6];exact List.Pairwise.imp_of_mem (fun {a b} ha hb h=>aic hL (hk a ha) (hk b hb) h) h.2.1) (fun c hc=>by
  obtain ⟨k,h1,rfl⟩:=Hj.mp hc;exact ahm hL (hk k h1) (by lia)) (Int.mul_nonneg (by lia) (by lia))
 rw [DX,DX] at this;have e:((p:Int)+1)*((p:Int)+1)=(((p+1)*(p+1):Nat):Int):=by rw [Int.natCast_mul];rfl
 rw [e] at this;lia
def KZ (L p n k:Nat):Prop:=n<=k\/L<=2/\(p+1)*(p+1)<=k
theorem Mb.cap {k:Nat}(h:Mb L b p n us)(c:KZ L p n k):Mb L b p k us:=by
 rcases c with c | ⟨c,d⟩
 ·exact h.mono (Dg _) (Dg _) c
 ·exact (h.box c).mono (Dg _) (Dg _) d
def Ev (L b p n:Nat)(f:List Int->Int)(us:List Tm):Prop:=Mb L b p n us/\∀ xs,lin (fun q=>mo q xs L) us=f xs
def TiE (c0:CP):Prop:=∀ {h:Gh} {us vs:List Tm} {L b c p q n m:Nat} (k:Nat) {f g:List Int->Int} {Q:WK} {E:Dm},Ev L b p n f us->Ev L c q m g vs->L<=8->b<=1000->c<=1000->n<=64->m<=64->p<=30->q<=30->k<=600->KZ L (p+q) (n*m) k ->
 (∀ rs,Ev L (b+c+13) (p+q) k (fun xs=>f xs*g xs) rs->Q (Dj rs) h)->c0 [Dj us,Dj vs] h Q E
variable {c0 : CP}
theorem Zc.e (hc:Zc c0):TiE c0:=by
 intro h us vs L b c p q n m k f g Q E hu hv hL hb hc' hn hm hp hq hk cap x;refine hc (hu.1.mono hb hp hn).ms (hv.1.mono hc' hq hm).ms hL fun rs a=>?_;have mr:=(YS hu.1 hv.1 hn hm a).cap cap;refine ⟨fun _=>x rs ⟨mr,fun xs=>?_⟩,fun o=>?_⟩
 ·rw [a.lin (nA us vs),aeT fun t ht s hs=>G6 (by rw [(hu.1.2.2 t ht).1,(hv.1.2.2 s hs).1]) (hu.1.nn ht) (hv.1.nn hs) L,hu.2,hv.2]
 ·rcases o with o | o | ⟨t,ht,z,hz,h60⟩
  ·have:=WD (Dk hu.1.1 hn) (Dk hv.1.1 hm)
   lia
  ·have:=mr.1
   lia
  ·have:=(mr.2.2 t ht).2.2.2 z hz
   lia
theorem Jh {f:Int}(hu:Mb L b p n us)(hv:Mb L b p m vs)(hf:f=1\/f = -1)(a:xR (rm f us vs) rs):Mb L (b+1) p (n+m) rs:=by
 have r:=Yt (hu.mono (Dg _) (Dg _) (Nat.le_max_left n m)) (hv.mono (Dg _) (Dg _) (Nat.le_max_right n m)) hf a;refine ⟨?_,r.2⟩;have h1:=(a.mem (jm (fB hu.2.1))).1;exact Dk (Dk h1<|pC f us vs)<|W7 hu.1 hv.1
def PlE (s:Int)(c0:CP):Prop:=∀ {h:Gh} {us vs:List Tm} {L b p n m:Nat} (k:Nat) {f g:List Int->Int} {Q:WK} {E:Dm},Ev L b p n f us->Ev L b p m g vs->b<=1000->n<=400->m<=400->k<=600->KZ L p (n+m) k ->
 (∀ rs,Ev L (b+1) p k (fun xs=>f xs+s*g xs) rs->Q (Dj rs) h)->c0 [Dj us,Dj vs] h Q E
theorem Mb.ls4 (h:Mb L b p n us)(hb:b<=1000)(hn:n<=400):Ls L us:=⟨by have:=h.1;lia,h.2.1,fun t ht=>⟨(h.2.2 t ht).1,(h.2.2 t ht).2.1,(h.2.2 t ht).2.2.1.mono hb⟩⟩
theorem TK.e {s:Int}(hs:s=1\/s = -1)(hc:TK s c0):PlE s c0:=by
 intro h us vs L b p n m k f g Q E hu hv hb hn hm hk cap x;have nu:=fB hu.1.2.1;refine hc (hu.1.ls4 hb hn) (hv.1.ls4 hb hm) fun rs a=>?_;have mr:=(Jh hu.1 hv.1 hs a).cap cap;refine ⟨fun _=>x rs ⟨mr,fun xs=>?_⟩,fun l=>?_⟩
 ·rw [xR.lin (jm nu) a,yW nu,hu.2,hv.2]
 ·have:=mr.1
  lia
theorem Ev.le {b' p' n':Nat}(h:Ev L b p n f us)(hb:b<=b')(hp:p<=p')(hn:n<=n'):Ev L b' p' n' f us:=⟨h.1.mono hb hp hn,h.2⟩
theorem Ev.eq {g:List Int->Int}(h:Ev L b p n f us)(e:∀ xs,f xs=g xs):Ev L b p n g us:=⟨h.1,fun xs=>by rw [h.2,e]⟩
theorem Ev.nil (L b p n:Nat):Ev L b p n (fun _=>0) []:=⟨⟨Ko _,.nil,fun _ h=>(nomatch h)⟩,fun _=>rfl⟩
abbrev tW (T:List (List Tm)):W:=.tup (T.map Dj)
abbrev Fn:=List Int->Int
structure E3 (L b p n:Nat) (f g h:Fn) (x y z:List Tm):Prop where
 x1:Ev L b p n f x
 x2:Ev L b p n g y
 x3:Ev L b p n h z
structure Nm (L b c p q n m k:Nat):Prop where
 hl:L<=8
 hb:b+c+20<=1000
 hn:n<=64
 hm:m<=64
 hp:p<=30
 hq:q<=30
 hk:k<=400
 cap:KZ L (p+q) (n*m) k
variable {ti : CP}
theorem abj (hti:TiE ti){c q k:Nat}(N:Nm L b c p q n m k){f g:Fn}(hu:Ev L b p n f us)(hv:Ev L c q m g vs)(x:∀ rs,Ev L (b+c+13) (p+q) k (fun xs=>f xs*g xs) rs->Q (Dj rs) h):ti [Dj us,Dj vs] h Q E:=by
 have:=N.hb
 have:=N.hk
 exact hti k hu hv N.hl (by lia) (by lia) N.hn N.hm N.hp N.hq (by lia) N.cap x
def LsE (c0:CP):Prop:=∀ {h:Gh} {A B:List (List Tm)} {i j:Nat} {u1 u2 v1 v2:List Tm} {f1 f2 g1 g2:Fn} {L b c p q n m k k2:Nat} {Q:WK} {E:Dm},Nm L b c p q n m k->k2<=600->KZ L (p+q) (k+k) k2 ->
 A[i]?=FN u1->A[j]?=FN u2->B[j]?=FN v1->B[i]?=FN v2->Ev L b p n f1 u1->Ev L b p n f2 u2->Ev L c q m g1 v1->Ev L c q m g2 v2 ->
 (∀ rs,Ev L (b+c+14) (p+q) k2 (fun xs=>f1 xs*g1 xs - f2 xs*g2 xs) rs->Q (Dj rs) h)->c0 [tW A,tW B,.int (i:Int),.int (j:Int)] h Q E
variable {A : List (List Tm)}
theorem Ek {u:List Tm}(e:A[i]?=FN u)(x:Q (Dj u) h):Cw (tW A) (.int (i:Int)) h Q:=
 bI (ws:=A.map Dj) rfl (bK (by rw [GP,e];rfl)) x
theorem ahO {mi:CP}(hmi:PlE (-1) mi)(hti:TiE ti):LsE (gC mi ti):=by
 intro h A B i j u1 u2 v1 v2 f1 f2 g1 g2 L b c p q n m k k2 Q E N hk2 cap e1 e2 e3 e4 a1 a2 a3 a4 x;have:=N.hb
 have:=N.hk
 unfold gC;refine cT rfl (Z:=[FN<|tW A,FN<|tW B,FN<|.int (i:Int),FN<|.int (j:Int)]) rfl<|aU<|aB<|aj<|aB<|aj<|aG<|ak rfl<|ak rfl<|Ek e1 ?_
 refine aj<|aG<|ak rfl<|ak rfl<|Ek e3<|aq<|abj hti N a1 a3 fun r1 b1=>?_
 refine aj<|aB<|aj<|aG<|ak rfl<|ak rfl<|Ek e2 ?_
 refine aj<|aG<|ak rfl<|ak rfl<|Ek e4<|aq<|abj hti N a2 a4 fun r2 b2=>aq ?_
 refine hmi k2 b1 b2 (by lia) (by lia) (by lia) hk2 cap fun rs er=>fY<|x rs<|er.eq fun xs=>?_
 lia
def CrE (c0:CP):Prop:=∀ {h:Gh} {x y z u v w:List Tm} {f1 f2 f3 g1 g2 g3:Fn} {L b c p q n m k k2:Nat} {Q:WK} {E:Dm},Nm L b c p q n m k->k2<=600->KZ L (p+q) (k+k) k2 ->
 E3 L b p n f1 f2 f3 x y z->E3 L c q m g1 g2 g3 u v w ->
 (∀ a b1 c1,E3 L (b+c+14) (p+q) k2 (fun xs=>f2 xs*g3 xs - f3 xs*g2 xs) (fun xs=>f3 xs*g1 xs - f1 xs*g3 xs) (fun xs=>f1 xs*g2 xs - f2 xs*g1 xs) a b1 c1->Q (tW [a,b1,c1]) h)->c0 [tW [x,y,z],tW [u,v,w]] h Q E
theorem adM {ls:CP}(hls:LsE ls):CrE (j9 ls):=by
 intro h x y z u v w f1 f2 f3 g1 g2 g3 L b c p q n m k k2 Q E N hk2 cap e1 e2 q';unfold j9;refine cT rfl (Z:=[FN<|tW [x,y,z],FN<|tW [u,v,w]]) rfl<|aU<|cM<|aj<|aB<|aj<|ak rfl<|aj<|ak rfl<|aj<|aP<|aj<|aP<|aq ?_
 refine hls (i:=1) (j:=2) N hk2 cap rfl rfl rfl rfl e1.x2 e1.x3 e2.x3 e2.x2 fun a ea=>?_;refine aj<|aB<|aj<|ak rfl<|aj<|ak rfl<|aj<|aP<|aj<|aP<|aq ?_
 refine hls (i:=2) (j:=0) N hk2 cap rfl rfl rfl rfl e1.x3 e1.x1 e2.x1 e2.x3 fun b1 eb=>?_;refine aj<|aB<|aj<|ak rfl<|aj<|ak rfl<|aj<|aP<|aj<|aP<|aq ?_
 refine hls (i:=0) (j:=1) N hk2 cap rfl rfl rfl rfl e1.x1 e1.x2 e2.x2 e2.x1 fun c1 ec=>?_;exact aq<|aZ rfl<|fY<|q' a b1 c1 ⟨ea,eb,ec⟩
def DoE (c0:CP):Prop:=∀ {h:Gh} {x y z u v w:List Tm} {f1 f2 f3 g1 g2 g3:Fn} {L b c p q n m k k3:Nat} {Q:WK} {E:Dm},Nm L b c p q n m k->k*3<=400->k3<=600->KZ L (p+q) (k*3) k3 ->
 E3 L b p n f1 f2 f3 x y z->E3 L c q m g1 g2 g3 u v w ->
 (∀ r,Ev L (b+c+16) (p+q) k3 (fun xs=>f1 xs*g1 xs+f2 xs*g2 xs+f3 xs*g3 xs) r->Q (Dj r) h)->c0 [tW [x,y,z],tW [u,v,w]] h Q E
theorem agT {pl:CP}(hpl:PlE 1 pl)(hti:TiE ti):DoE (qQ pl ti):=by
 intro h x y z u v w f1 f2 f3 g1 g2 g3 L b c p q n m k k3 Q E N kk hk3 cap e1 e2 q';have:=N.hb
 unfold qQ;refine cT rfl (Z:=[FN<|tW [x,y,z],FN<|tW [u,v,w],FX,FX,FX]) rfl<|aH<|aQ<|cM<|aq<|aZ rfl ?_
 refine nV<|bB ?_
 refine aH<|dN<|Fe<|aj<|ak rfl<|aj<|ak rfl<|aq ?_
 refine TX (as:=[Dj x,Dj y,Dj z]) (bs:=[Dj u,Dj v,Dj w]) rfl rfl rfl<|dR ?_
 have step:∀ {t mx ix:List Tm} {s3 s4:Option W} {h':Gh} {F f g:Fn} {N' b0 c0:Sw->Gh->Prop} {r0:WK} (i:Nat),i<=2->Ev L (b+c+13+i) (p+q) (k*i) F t->Ev L b p n f mx->Ev L c q m g ix ->
   (∀ rs,Ev L (b+c+13+(i+1)) (p+q) (k*(i+1)) (fun xs=>F xs+f xs*g xs) rs->N' [FN (tW [x,y,z]),FN (tW [u,v,w]),FN (Dj rs),FN (Dj mx),FN (Dj ix)] h') ->
   (jr 2 (cX (kI 3) (cX (kI 4) Ag))) (.tup [Dj mx,Dj ix]) [FN (tW [x,y,z]),FN (tW [u,v,w]),FN (Dj t),s3,s4] h' fun Z1 h1=>(bY (aL pl E (ao (aA 2) (ao (aL ti E (ao (aA 3) (ao (aA 4) aJ))) aJ))) (kI 2)) { nx:=N',rt:=r0,bk:=b0,ct:=c0 } Z1 h1:=fun {t mx ix s3 s4 h' F f g N' b0 c0 r0} i hi et em ei k'=>by
  refine jq rfl rfl<|cO<|nV ?_
  refine cO<|nV ?_
  refine mz ?_;refine aQ<|aB<|aj<|ak rfl<|aj<|aB<|aj<|ak rfl<|aj<|ak rfl<|aq<|abj hti N em ei fun r1 b1=>aq ?_
  have c1:k*i<=400:=Dk (Nat.mul_le_mul_left k (by lia:i<=3)) kk;have c2:k*(i+1)<=400:=Dk (Nat.mul_le_mul_left k (by lia:i+1<=3)) kk;refine hpl (k*(i+1)) et (b1.le (by lia) (Dg _)<|Dg _) (by lia) c1 (by lia) (by lia) (.inl (by rw [Nat.mul_succ];exact Dg _)) fun rs er=>?_;refine nV<|bB ?_
  refine k' rs<|(er.le (by lia) (Dg _)<|Dg _).eq fun xs=>?_
  lia
 refine uR<|step (s3:=FX) (s4:=FX) (t:=[]) (F:=fun _=>0) 0 (by lia) (Ev.nil ..) e1.x1 e2.x1 fun r1 a1=>?_
 refine uR<|step 1 (by lia) a1 e1.x2 e2.x2 fun r2 a2=>?_
 refine uR<|step 2 (by lia) a2 e1.x3 e2.x3 fun r3 a3=>?_
 refine IK ?_;unfold pY;refine bB<|aU<|ak rfl<|fY<|q' r3 ⟨a3.1.cap cap,fun xs=>?_⟩
 rw [a3.2];dsimp only;lia
inductive EL (L b p n:Nat):List Fn->List (List Tm)->Prop
 | nil:EL L b p n [] []
 | cons {f:Fn} {us:List Tm} {fs:List Fn} {T:List (List Tm)}:Ev L b p n f us->EL L b p n fs T->EL L b p n (f::fs) (us::T)
variable {T : List (List Tm)}{fs : List Fn}
theorem EL.le {L b p n b' p' n':Nat}{fs:List Fn}{T:List (List Tm)}(e:EL L b p n fs T)(hb:b<=b')(hp:p<=p')(hn:n<=n'):EL L b' p' n' fs T:=by
 induction e with
 | nil=>exact .nil
 | cons a _ ih=>exact .cons (a.le hb hp hn) ih
theorem EL.length {L b p n:Nat}{fs:List Fn}{T:List (List Tm)}(e:EL L b p n fs T):fs.length=T.length:=by
 induction e with
 | nil=>rfl
 | cons _ _ ih=>simp [ih]
theorem EL.snoc {f:Fn}(e:EL L b p n fs T)(h:Ev L b p n f us):EL L b p n (fs++[f]) (T++[us]):=by
 induction e with
 | nil=>exact .cons h .nil
 | cons a _ ih=>exact .cons a ih
theorem EL.at {L b p n:Nat}{fs:List Fn}{T:List (List Tm)}(e:EL L b p n fs T){i:Nat}{us:List Tm}(h:T[i]?=FN us):∃ f,fs[i]?=FN f/\Ev L b p n f us:=by
 induction e generalizing i with
 | nil=>simp at h
 | cons a _ ih=>
  cases i with
  | zero=>cases h;exact ⟨_,rfl,a⟩
  | succ i=>exact ih h
theorem E3.l {f g h:Fn}{x y z:List Tm}(e:E3 L b p n f g h x y z):EL L b p n [f,g,h] [x,y,z]:=.cons e.x1 (.cons e.x2 (.cons e.x3 .nil))
theorem EL.e3 {f g h:Fn}(e:EL L b p n [f,g,h] T):∃ x y z,T=[x,y,z]/\E3 L b p n f g h x y z:=by
 cases e with
 | cons a e=>cases e with
  | cons b e=>cases e with
   | cons c e=>cases e;exact ⟨_,_,_,rfl,a,b,c⟩
theorem add_same {f:Int}(h:∀ t∈vs,t.1∈us.map (·.1)):(rm f us vs).map (·.1)=us.map (·.1):=by
 revert h
 refine Di (P:=fun vs=>(∀ t∈vs,t.1∈us.map (·.1))->(rm f us vs).map (·.1)=us.map (·.1)) (fun _=>rfl) (fun vs t ih h=>?_) vs;have ih:=ih fun u hu=>h u (Rx _ hu)
 rw [gR,pI,ih,if_pos (h t (by simp))]
def DbE (c0:CP):Prop:=∀ {h:Gh} {us:List Tm} {f:Fn} {L b p n:Nat} {Q:WK} {E:Dm},b<=1000->n<=400->Ev L b p n f us->(∀ rs,Ev L (b+1) p n (fun xs=>2*f xs) rs->Q (Dj rs) h)->c0 [Dj us] h Q E
theorem agA {pl:CP}(hpl:TK 1 pl):DbE (qp pl):=by
 intro h us f L b p n Q E hb hn e q';have nu:=fB e.1.2.1;unfold qp;refine cT rfl (Z:=[FN<|Dj us]) rfl<|aU<|aB<|aj<|ak rfl<|aj<|ak rfl<|aq ?_
 refine hpl (e.1.ls4 hb hn) (e.1.ls4 hb hn) fun rs a=>?_;have mr:=Jh e.1 e.1 (.inl rfl) a;have lr:rs.length<=n:=by
  have h1:=(xR.mem (jm nu) a).1;have h2:=congrArg QZ (add_same (f:=1) (us:=us) (vs:=us) fun t ht=>Hj.mpr ⟨t,ht,rfl⟩);rw [DX,DX] at h2;have:=e.1.1
  lia
 refine ⟨fun _=>fY<|q' rs ⟨⟨lr,mr.2⟩,fun xs=>?_⟩,fun l=>absurd l<|by lia⟩;rw [xR.lin (jm nu) a,yW nu,e.2];dsimp only;lia
abbrev t3 (A B C:List (List Tm)):W:=.tup [tW A,tW B,tW C]
def TaE (c0:CP):Prop:=∀ {h:Gh} {x0 x1 x2 x3 x4 x5:List Tm} {f0 f1 f2 f3 f4 f5:Fn} {L b p n:Nat} {Q:WK} {E:Dm},b<=1000->n<=400->EL L b p n [f0,f1,f2,f3,f4,f5] [x0,x1,x2,x3,x4,x5] ->
 (∀ a d g,E3 L (b+1) p n (fun xs=>2*f0 xs) f1 f3 a x1 x3->E3 L (b+1) p n f1 (fun xs=>2*f2 xs) f4 x1 d x4->E3 L (b+1) p n f3 f4 (fun xs=>2*f5 xs) x3 x4 g->Q (t3 [a,x1,x3] [x1,d,x4] [x3,x4,g]) h)->c0 [tW [x0,x1,x2,x3,x4,x5]] h Q E
theorem afx {db:CP}(hdb:DbE db):TaE (lE db):=by
 intro h x0 x1 x2 x3 x4 x5 f0 f1 f2 f3 f4 f5 L b p n Q E hb hn e q';cases e with
 | cons e0 e=>cases e with
  | cons e1 e=>cases e with
   | cons e2 e=>cases e with
    | cons e3 e=>cases e with
     | cons e4 e=>cases e with
      | cons e5 e=>
       unfold lE;refine cT rfl (Z:=[FN<|tW [x0,x1,x2,x3,x4,x5]]) rfl<|aU<|cM<|aj<|cM<|aj<|aB<|aj<|aG<|ak rfl<|aP<|Ek (i:=0) rfl<|aq ?_
       refine hdb hb hn e0 fun a ea=>?_;refine aj<|aG<|ak rfl<|aP<|Ek (i:=1) rfl<|aj<|aG<|ak rfl<|aP<|Ek (i:=3) rfl<|aq<|aZ rfl ?_
       refine aj<|cM<|aj<|aG<|ak rfl<|aP<|Ek (i:=1) rfl<|aj<|aB<|aj<|aG<|ak rfl<|aP<|Ek (i:=2) rfl<|aq ?_
       refine hdb hb hn e2 fun d ed=>?_;refine aj<|aG<|ak rfl<|aP<|Ek (i:=4) rfl<|aq<|aZ rfl ?_
       refine aj<|cM<|aj<|aG<|ak rfl<|aP<|Ek (i:=3) rfl<|aj<|aG<|ak rfl<|aP<|Ek (i:=4) rfl ?_
       refine aj<|aB<|aj<|aG<|ak rfl<|aP<|Ek (i:=5) rfl<|aq ?_
       refine hdb hb hn e5 fun g eg=>aq<|aZ rfl<|aq<|aZ rfl<|fY ?_
       have l1:=e1.le (QX b) (Dg p) (Dg n);have l3:=e3.le (QX b) (Dg p) (Dg n);have l4:=e4.le (QX b) (Dg p) (Dg n);exact q' a d g ⟨ea,l1,l3⟩ ⟨l1,ed,l4⟩ ⟨l3,l4,eg⟩
theorem RQ {B C D:List (List Tm)}(e:[A,B,C][i]?=FN D)(x:Q (tW D) h):Cw (t3 A B C) (.int (i:Int)) h Q:=
 bI (ws:=[A,B,C].map tW) rfl (bK (by rw [GP,e];rfl)) x
def TuE (c0:CP):Prop:=∀ {h:Gh} {x y z u v w r s t:List Tm} {f1 f2 f3 g1 g2 g3 h1 h2 h3:Fn} {L b c d p q o n m l k k2 k3 k4:Nat} {Q:WK} {E:Dm},Nm L b c p q n m k->k2<=600->KZ L (p+q) (k+k) k2->Nm L (b+c+14) d (p+q) o k2 l k3->k3*3<=400->k4<=600->KZ L (p+q+o) (k3*3) k4 ->
 E3 L b p n f1 f2 f3 x y z->E3 L c q m g1 g2 g3 u v w->E3 L d o l h1 h2 h3 r s t ->
 (∀ e,Ev L (b+c+14+d+16) (p+q+o) k4 (fun xs=>(f2 xs*g3 xs - f3 xs*g2 xs)*h1 xs+(f3 xs*g1 xs - f1 xs*g3 xs)*h2 xs+(f1 xs*g2 xs - f2 xs*g1 xs)*h3 xs) e->Q (Dj e) h)->c0 [tW [x,y,z],tW [u,v,w],tW [r,s,t]] h Q E
variable {cr dt : CP}
theorem afL (hcr:CrE cr)(hdt:DoE dt):TuE (nO cr dt):=by
 intro h x y z u v w r s t f1 f2 f3 g1 g2 g3 h1 h2 h3 L b c d p q o n m l k k2 k3 k4 Q E N hk2 cap N2 kk hk4 cap2 e1 e2 e3 q';unfold nO;refine cT rfl (Z:=[FN<|tW [x,y,z],FN<|tW [u,v,w],FN<|tW [r,s,t]]) rfl<|aU<|aB<|aj<|aB<|aj<|ak rfl<|aj<|ak rfl<|aq ?_
 refine hcr N hk2 cap e1 e2 fun a b1 c1 ea=>aj<|ak rfl<|aq ?_
 exact hdt N2 kk hk4 cap2 ea e3 fun r2 e=>fY<|q' r2 e
def TrE (c0:CP):Prop:=∀ {h:Gh} {a1 a2 a3 b1 b2 b3 c1 c2 c3:List Tm} {f1 f2 f3 g1 g2 g3 h1 h2 h3:Fn} {L b p n k k2:Nat} {Q:WK} {E:Dm},Nm L b b p p n n k->k2<=600->KZ L (p+p) (k+k) k2 ->
 E3 L b p n f1 f2 f3 a1 a2 a3->E3 L b p n g1 g2 g3 b1 b2 b3->E3 L b p n h1 h2 h3 c1 c2 c3 ->
 (∀ A B C,(∃ x y z,A=[x,y,z]/\E3 L (b+b+14) (p+p) k2 (fun xs=>g2 xs*h3 xs - g3 xs*h2 xs) (fun xs=>g3 xs*h1 xs - g1 xs*h3 xs) (fun xs=>g1 xs*h2 xs - g2 xs*h1 xs) x y z) ->
  (∃ x y z,B=[x,y,z]/\E3 L (b+b+14) (p+p) k2 (fun xs=>h2 xs*f3 xs - h3 xs*f2 xs) (fun xs=>h3 xs*f1 xs - h1 xs*f3 xs) (fun xs=>h1 xs*f2 xs - h2 xs*f1 xs) x y z) ->
  (∃ x y z,C=[x,y,z]/\E3 L (b+b+14) (p+p) k2 (fun xs=>f2 xs*g3 xs - f3 xs*g2 xs) (fun xs=>f3 xs*g1 xs - f1 xs*g3 xs) (fun xs=>f1 xs*g2 xs - f2 xs*g1 xs) x y z)->Q (t3 A B C) h) ->
 c0 [t3 [a1,a2,a3] [b1,b2,b3] [c1,c2,c3]] h Q E
theorem afQ (hcr:CrE cr):TrE (iz cr):=by
 intro h a1 a2 a3 b1 b2 b3 c1 c2 c3 f1 f2 f3 g1 g2 g3 h1 h2 h3 L b p n k k2 Q E N hk2 cap ea eb ec q';unfold iz;refine cT rfl (Z:=[FN<|t3 [a1,a2,a3] [b1,b2,b3] [c1,c2,c3]]) rfl<|aU<|cM<|aj ?_
 refine aB<|aj<|aG<|ak rfl<|aP<|RQ (i:=1) rfl<|aj<|aG<|ak rfl<|aP<|RQ (i:=2) rfl<|aq ?_
 refine hcr N hk2 cap eb ec fun x y z e1=>?_;refine aj<|aB<|aj<|aG<|ak rfl<|aP<|RQ (i:=2) rfl<|aj<|aG<|ak rfl<|aP<|RQ (i:=0) rfl<|aq ?_
 refine hcr N hk2 cap ec ea fun x' y' z' e2=>?_;refine aj<|aB<|aj<|aG<|ak rfl<|aP<|RQ (i:=0) rfl<|aj<|aG<|ak rfl<|aP<|RQ (i:=1) rfl<|aq ?_
 refine hcr N hk2 cap ea eb fun x2 y2 z2 e3=>aq<|aZ rfl<|fY ?_
 exact q' _ _ _ ⟨_,_,_,rfl,e1⟩ ⟨_,_,_,rfl,e2⟩ ⟨_,_,_,rfl,e3⟩
def RtE (c0:CP):Prop:=∀ {h:Gh} {a1 a2 a3 b1 b2 b3 c1 c2 c3 u v w:List Tm} {f1 f2 f3 g1 g2 g3 h1 h2 h3 k1 k2 k3:Fn} {L b c p q n m k k4:Nat} {Q:WK} {E:Dm},Nm L b c p q n m k->k*3<=400->k4<=600->KZ L (p+q) (k*3) k4 ->
 E3 L b p n f1 f2 f3 a1 a2 a3->E3 L b p n g1 g2 g3 b1 b2 b3->E3 L b p n h1 h2 h3 c1 c2 c3->E3 L c q m k1 k2 k3 u v w ->
 (∀ x y z,E3 L (b+c+16) (p+q) k4 (fun xs=>f1 xs*k1 xs+f2 xs*k2 xs+f3 xs*k3 xs) (fun xs=>g1 xs*k1 xs+g2 xs*k2 xs+g3 xs*k3 xs) (fun xs=>h1 xs*k1 xs+h2 xs*k2 xs+h3 xs*k3 xs) x y z->Q (tW [x,y,z]) h) ->
 c0 [t3 [a1,a2,a3] [b1,b2,b3] [c1,c2,c3],tW [u,v,w]] h Q E
theorem ahV (hdt:DoE dt):RtE (jA dt):=by
 intro h a1 a2 a3 b1 b2 b3 c1 c2 c3 u v w f1 f2 f3 g1 g2 g3 h1 h2 h3 k1 k2 k3 L b c p q n m k k4 Q E N kk hk4 cap ea eb ec ek q';unfold jA;refine cT rfl (Z:=[FN<|t3 [a1,a2,a3] [b1,b2,b3] [c1,c2,c3],FN<|tW [u,v,w]]) rfl<|aU<|bC<|aj<|gn<|eZ<|ak rfl<|pL (ws:=[tW [a1,a2,a3],tW [b1,b2,b3],tW [c1,c2,c3]]) (o:=FX) rfl<|J1 rfl ?_
 refine jW (vs:=[tW [a1,a2,a3]]) rfl<|cD<|cj<|aB<|aj<|ak rfl<|aj<|ak rfl<|aq ?_
 refine hdt N kk hk4 cap ea ek fun x ex=>?_;refine jW (vs:=[tW [b1,b2,b3]]) rfl<|cD<|cj<|aB<|aj<|ak rfl<|aj<|ak rfl<|aq ?_
 refine hdt N kk hk4 cap eb ek fun y ey=>?_;refine jW (vs:=[tW [c1,c2,c3]]) rfl<|cD<|cj<|aB<|aj<|ak rfl<|aj<|ak rfl<|aq ?_
 refine hdt N kk hk4 cap ec ek fun z ez=>Aj<|aq<|dz<|fY ?_
 exact q' x y z ⟨ex,ey,ez⟩
def BoE (c0:CP):Prop:=∀ {h:Gh} {a1 a2 a3 b1 b2 b3 c1 c2 c3 r s t u v w:List Tm} {f1 f2 f3 g1 g2 g3 h1 h2 h3 j1 j2 j3 k1 k2 k3:Fn} {L b c p q n m k k4 k5 k6:Nat} {Q:WK} {E:Dm},Nm L b c p q n m k->k*3<=400->k4<=600->KZ L (p+q) (k*3) k4->Nm L c (b+c+16) q (p+q) m k4 k5->k5*3<=400->k6<=600->KZ L (q+(p+q)) (k5*3) k6 ->
 E3 L b p n f1 f2 f3 a1 a2 a3->E3 L b p n g1 g2 g3 b1 b2 b3->E3 L b p n h1 h2 h3 c1 c2 c3->E3 L c q m j1 j2 j3 r s t->E3 L c q m k1 k2 k3 u v w ->
 (∀ e,Ev L (c+(b+c+16)+16) (q+(p+q)) k6 (fun xs=>j1 xs*(f1 xs*k1 xs+f2 xs*k2 xs+f3 xs*k3 xs)+j2 xs*(g1 xs*k1 xs+g2 xs*k2 xs+g3 xs*k3 xs)+j3 xs*(h1 xs*k1 xs+h2 xs*k2 xs+h3 xs*k3 xs)) e->Q (Dj e) h) ->
 c0 [t3 [a1,a2,a3] [b1,b2,b3] [c1,c2,c3],tW [r,s,t],tW [u,v,w]] h Q E
theorem YH {rt:CP}(hdt:DoE dt)(hrt:RtE rt):BoE (cW dt rt):=by
 intro h a1 a2 a3 b1 b2 b3 c1 c2 c3 r s t u v w f1 f2 f3 g1 g2 g3 h1 h2 h3 j1 j2 j3 k1 k2 k3 L b c p q n m k k4 k5 k6 Q E N kk hk4 cap N2 kk2 hk6 cap2 ea eb ec ej ek q';unfold cW;refine cT rfl (Z:=[FN<|t3 [a1,a2,a3] [b1,b2,b3] [c1,c2,c3],FN<|tW [r,s,t],FN<|tW [u,v,w]]) rfl<|aU<|aB<|aj<|ak rfl<|aj<|aB<|aj<|ak rfl<|aj<|ak rfl<|aq ?_
 refine hrt N kk hk4 cap ea eb ec ek fun x y z e=>aq ?_;exact hdt N2 kk2 hk6 cap2 ej e fun r2 e=>fY<|q' r2 e
def SzE (c0:CP):Prop:=∀ {h:Gh} {a1 a2 a3 b1 b2 b3 c1 c2 c3:List Tm} {f1 f2 f3 g1 g2 g3 h1 h2 h3:Fn} {L b p n k k2 k3 k4:Nat} {Q:WK} {E:Dm},Nm L b b p p n n k->k2<=600->KZ L (p+p) (k+k) k2->Nm L (b+b+14) b (p+p) p k2 n k3->k3*3<=400->k4<=600->KZ L (p+p+p) (k3*3) k4 ->
 E3 L b p n f1 f2 f3 a1 a2 a3->E3 L b p n g1 g2 g3 b1 b2 b3->E3 L b p n h1 h2 h3 c1 c2 c3 ->
 (∀ e,Ev L (b+b+14+b+16) (p+p+p) k4 (fun xs=>(f2 xs*g3 xs - f3 xs*g2 xs)*h1 xs+(f3 xs*g1 xs - f1 xs*g3 xs)*h2 xs+(f1 xs*g2 xs - f2 xs*g1 xs)*h3 xs) e->Q (Dj e) h)->c0 [t3 [a1,a2,a3] [b1,b2,b3] [c1,c2,c3]] h Q E
theorem zbL {tu:CP}(htu:TuE tu):SzE (kJ tu):=by
 intro h a1 a2 a3 b1 b2 b3 c1 c2 c3 f1 f2 f3 g1 g2 g3 h1 h2 h3 L b p n k k2 k3 k4 Q E N hk2 cap N2 kk hk4 cap2 ea eb ec q';unfold kJ;refine cT rfl (Z:=[FN<|t3 [a1,a2,a3] [b1,b2,b3] [c1,c2,c3]]) rfl<|aU ?_
 refine aB<|aj<|aG<|ak rfl<|aP<|RQ (i:=0) rfl<|aj<|aG<|ak rfl<|aP<|RQ (i:=1) rfl ?_
 refine aj<|aG<|ak rfl<|aP<|RQ (i:=2) rfl<|aq ?_
 exact htu N hk2 cap N2 kk hk4 cap2 ea eb ec fun e ee=>fY<|q' e ee
def Cl (L n:Nat):Prop:=L<=2/\n=4\/L<=8/\n=1
theorem KZ.box {k:Nat}(h:L<=2)(e:RW ((p+1)*(p+1)) k=true):KZ L p n k:=.inr ⟨h,Qj e⟩
theorem KZ.few {k:Nat}(e:RW n k=true):KZ L p n k:=.inl (Qj e)
theorem xU {A:List (List (List Tm))}(e:A[i]?=FN T)(x:Q (tW T) h):Cw (.lst (A.map tW)) (.int (i:Int)) h Q:=
 bI (ws:=A.map tW) rfl (bK (by rw [GP,e];rfl)) x
abbrev Sp (L n:Nat)(f g h:Fn)(x y z:List Tm):Prop:=E3 L 40 1 n f g h x y z
def crv (f1 f2 f3 g1 g2 g3 h1 h2 h3 j1 j2 j3 k1 k2 k3:Fn):List Fn:=
  let a1:Fn:=fun xs=>f2 xs*g3 xs - f3 xs*g2 xs;let a2:Fn:=fun xs=>f3 xs*g1 xs - f1 xs*g3 xs;let a3:Fn:=fun xs=>f1 xs*g2 xs - f2 xs*g1 xs
  let b1:Fn:=fun xs=>h2 xs*j3 xs - h3 xs*j2 xs;let b2:Fn:=fun xs=>h3 xs*j1 xs - h1 xs*j3 xs;let b3:Fn:=fun xs=>h1 xs*j2 xs - h2 xs*j1 xs
  let c1:Fn:=fun xs=>f2 xs*h3 xs - f3 xs*h2 xs;let c2:Fn:=fun xs=>f3 xs*h1 xs - f1 xs*h3 xs;let c3:Fn:=fun xs=>f1 xs*h2 xs - f2 xs*h1 xs
  let d1:Fn:=fun xs=>g2 xs*j3 xs - g3 xs*j2 xs;let d2:Fn:=fun xs=>g3 xs*j1 xs - g1 xs*j3 xs;let d3:Fn:=fun xs=>g1 xs*j2 xs - g2 xs*j1 xs
  let mo:Fn:=fun xs=>(a1 xs*k1 xs+a2 xs*k2 xs+a3 xs*k3 xs)*(b1 xs*k1 xs+b2 xs*k2 xs+b3 xs*k3 xs)
  let le:Fn:=fun xs=>(c1 xs*k1 xs+c2 xs*k2 xs+c3 xs*k3 xs)*(d1 xs*k1 xs+d2 xs*k2 xs+d3 xs*k3 xs)
  [fun xs=>c1 xs*d1 xs*mo xs - a1 xs*b1 xs*le xs,fun xs=>(c1 xs*d2 xs+c2 xs*d1 xs)*mo xs - (a1 xs*b2 xs+a2 xs*b1 xs)*le xs,fun xs=>c2 xs*d2 xs*mo xs - a2 xs*b2 xs*le xs,
   fun xs=>(c1 xs*d3 xs+c3 xs*d1 xs)*mo xs - (a1 xs*b3 xs+a3 xs*b1 xs)*le xs,fun xs=>(c2 xs*d3 xs+c3 xs*d2 xs)*mo xs - (a2 xs*b3 xs+a3 xs*b2 xs)*le xs,fun xs=>c3 xs*d3 xs*mo xs - a3 xs*b3 xs*le xs]
abbrev szF (f0 f1 f2 f3 f4 f5:Fn):Fn:=fun xs=>(f1 xs*f4 xs - f3 xs*(2*f2 xs))*f3 xs+(f3 xs*f1 xs - 2*f0 xs*f4 xs)*f4 xs+(2*f0 xs*(2*f2 xs) - f1 xs*f1 xs)*(2*f5 xs)
def acV (f0 f1 f2 f3 f4 f5 k1 k2 k3:Fn):List Fn:=
  [fun xs=>((2*f2 xs*(2*f5 xs) - f4 xs*f4 xs)*k1 xs+(f4 xs*f3 xs - f1 xs*(2*f5 xs))*k2 xs+(f1 xs*f4 xs - 2*f2 xs*f3 xs)*k3 xs)*szF f0 f1 f2 f3 f4 f5 xs,
   fun xs=>((f4 xs*f3 xs - 2*f5 xs*f1 xs)*k1 xs+(2*f5 xs*(2*f0 xs) - f3 xs*f3 xs)*k2 xs+(f3 xs*f1 xs - f4 xs*(2*f0 xs))*k3 xs)*szF f0 f1 f2 f3 f4 f5 xs,
   fun xs=>((f1 xs*f4 xs - f3 xs*(2*f2 xs))*k1 xs+(f3 xs*f1 xs - 2*f0 xs*f4 xs)*k2 xs+(2*f0 xs*(2*f2 xs) - f1 xs*f1 xs)*k3 xs)*szF f0 f1 f2 f3 f4 f5 xs]
abbrev Cv (L n:Nat)(f0 f1 f2 f3 f4 f5:Fn)(x0 x1 x2 x3 x4 x5:List Tm):Prop:=EL L 40 1 n [f0,f1,f2,f3,f4,f5] [x0,x1,x2,x3,x4,x5]
abbrev bo (f0 f1 f2 f3 f4 f5 j1 j2 j3 k1 k2 k3:Fn):Fn:=fun xs=>j1 xs*(2*f0 xs*k1 xs+f1 xs*k2 xs+f3 xs*k3 xs)+j2 xs*(f1 xs*k1 xs+2*f2 xs*k2 xs+f4 xs*k3 xs)+j3 xs*(f3 xs*k1 xs+f4 xs*k2 xs+2*f5 xs*k3 xs)
def acn (f0 f1 f2 f3 f4 f5 j1 j2 j3 k1 k2 k3:Fn):List Fn:=
 [fun xs=>j1 xs*bo f0 f1 f2 f3 f4 f5 k1 k2 k3 k1 k2 k3 xs - k1 xs*(2*bo f0 f1 f2 f3 f4 f5 j1 j2 j3 k1 k2 k3 xs),fun xs=>j2 xs*bo f0 f1 f2 f3 f4 f5 k1 k2 k3 k1 k2 k3 xs - k2 xs*(2*bo f0 f1 f2 f3 f4 f5 j1 j2 j3 k1 k2 k3 xs),fun xs=>j3 xs*bo f0 f1 f2 f3 f4 f5 k1 k2 k3 k1 k2 k3 xs - k3 xs*(2*bo f0 f1 f2 f3 f4 f5 j1 j2 j3 k1 k2 k3 xs)]
def AtX (c0:CP):Prop:=∀ {h:Gh} {ts:List Tm} {xs:List Int} {L:Nat} {Q:WK} {E:Dm},L<=8->(∀ t∈ts,t.1.length=L/\Sm 1000 t.2/\Pw t.1)->xs.length=L->Bd xs->Q (.int (wo ts xs L ts.length)) h->c0 [Dj ts,.tup (xs.map .int)] h Q E
theorem oW:∀ n:Nat,((rng 0 n).map fun x:Nat=>W.int (x:Int)).length=n:=fun n=>by unfold rng;rw [DX,U6];lia
theorem Yd:AtX Ey:=by
 intro h ts xs L Q E hL wf hx bx q;unfold Ey;refine cT rfl (Z:=[FN<|Dj ts,FN<|.tup<|xs.map .int,FX,FX,FX,FX,FX,FX]) rfl<|aH<|aQ<|aP ?_
 refine nV<|bB ?_
 refine aH ?_;refine mX (ws:=ts.map Kg) rfl ?_;refine bW (fun i Z h'=>h'=h/\∃ s3 s4 s5 s6 s7:Option W,Z = [FN<|Dj ts,FN<|.tup<|xs.map .int,FN<|.int<|wo ts xs L i,s3,s4,s5,s6,s7]) ?_ ?_ ⟨rfl,FX,FX,FX,FX,FX,rfl⟩
 ·rintro i w Z h' N hN e ⟨rfl,s3,s4,s5,s6,s7,rfl⟩;rw [GP] at e;cases qe:ts[i]? with
  | none=>rw [qe] at e;cases e
  | some t=>
   rw [qe] at e;cases e;have mt:=KH qe;obtain ⟨w1,w2,w3⟩:=wf t mt;have et:ts.getD i ([],0)=t:=by rw [MF,qe];rfl
   refine jq rfl rfl<|cO<|nV ?_
   refine cO<|nV ?_
   refine mz ?_;refine aH<|dN<|Fe<|aj<|ak rfl<|aj<|ak rfl<|aq ?_
   refine TX (as:=t.1.map .int) (bs:=xs.map .int) rfl rfl rfl<|dR ?_
   have lz:(pJ (t.1.map W.int) (xs.map W.int)).length=L:=by rw [tZ,DX,DX];lia
   refine bW (fun j Z h1=>h1=h'/\∃ s5 s6 s7:Option W,Z = [FN<|Dj ts,FN<|.tup<|xs.map .int,FN<|.int<|wo ts xs L i,FN<|.tup<|t.1.map .int,FN<|.int<|t.2*mo t.1 xs j,s5,s6,s7]) ?_ ?_ ⟨rfl,s5,s6,s7,by rw [mo,Int.mul_one]⟩
   ·rintro j w Z h1 N' hN' e' ⟨rfl,s5,s6,s7,rfl⟩;obtain ⟨a,b,ea,eb,rfl⟩:=ud e';have hj:j<L:=by have:=(Lk.mp e').1;rw [lz] at this;exact this
    rw [GP,HD (by lia)] at ea eb;have eg:t.1.getD j 0=t.1[j]'(by lia):=by rw [MF,HD (by lia)];rfl
    have ex:xs.getD j 0=xs[j]'(by lia):=by rw [MF,HD (by lia)];rfl
    cases ea;cases eb;rw [<-eg,<-ex];obtain ⟨b0,b1⟩:=w3.get j;have en:t.1.getD j 0=(((t.1.getD j 0).toNat:Nat):Int):=by lia
    refine jq rfl rfl<|cO<|nV ?_
    refine cO<|nV ?_
    refine mz ?_;refine dN<|eU<|aj<|ak rfl<|aq ?_
    rw [en];refine oZ (by lia)<|dR ?_
    rw [<-en];refine bW (fun a Z h2=>h2=h1/\a<=60/\∃ s7:Option W,Z = [FN<|Dj ts,FN<|.tup<|xs.map .int,FN<|.int<|wo ts xs L i,FN<|.tup<|t.1.map .int,FN<|.int<|t.2*mo t.1 xs j*xs.getD j 0^a,FN<|.int<|t.1.getD j 0,FN<|.int<|xs.getD j 0,s7]) ?_ ?_ ⟨rfl,Ko _,s7,by rw [Int.pow_zero,Int.mul_one]⟩
    ·rintro a w Z h2 N2 hN2 e2 ⟨rfl,a0,s7,rfl⟩;have ha:a<(t.1.getD j 0).toNat:=by have:=(Lk.mp e2).1;rw [oW] at this;exact this
     refine nV ?_;refine aQ<|aG<|ak rfl<|ak rfl ?_
     refine jP (.of (Gu (Gu w2<|R9 bx w3 j)<|Ij a<|bx.get j) (bx.get j) (by lia)<|by decide) ?_;exact gw (Z':=[FN<|Dj ts,FN<|.tup<|xs.map .int,FN<|.int<|wo ts xs L i,FN<|.tup<|t.1.map .int,FN<|.int<|t.2*mo t.1 xs j*xs.getD j 0^(a+1),FN<|.int<|t.1.getD j 0,FN<|.int<|xs.getD j 0,FN w]) (by rw [Int.pow_succ,<-Int.mul_assoc];rfl)<|bB<|hN2 _ _ ⟨rfl,by lia,_,rfl⟩
    ·rintro Z h2 ⟨rfl,a0,s7,rfl⟩;rw [oW];exact bB<|hN' _ _ ⟨rfl,FN<|.int<|t.1.getD j 0,FN<|.int<|xs.getD j 0,s7,by rw [mo,Int.mul_assoc]⟩
   ·rintro Z h1 ⟨rfl,s5,s6,s7,rfl⟩;rw [lz];refine bB<|aQ<|aG<|ak rfl<|ak rfl<|dW ?_
    exact gw (Z':=[FN<|Dj ts,FN<|.tup<|xs.map .int,FN<|.int<|wo ts xs L<|i+1,FN<|.tup<|t.1.map .int,FN<|.int<|t.2*mo t.1 xs L,s5,s6,s7]) (by rw [wo,et];rfl)<|bB<|hN _ _ ⟨rfl,_,_,_,_,_,rfl⟩
 ·rintro Z h' ⟨rfl,s3,s4,s5,s6,s7,rfl⟩;rw [DX];unfold Br;exact bB<|aU<|ak rfl<|fY q
theorem Zq {l:List Int}(x:Q (.bl (decide (k<l))) h):V1 (.tup (k.map .int)) (.tup (l.map .int)) h Q:=by
 unfold V1;rw [sV,sV];exact x
theorem O2 (x:Q (.bl (!Lh w)) h):Gp w .non h Q:=by cases w <;> exact x
theorem Je {us:List W}(x:Q (.lst us) h):o8 [.tup us] h Q:=x
theorem PJ {a b:List W}(hz:a.length+b.length<=1000)(x:Q (.lst (a++b)) h):dB (.lst a) (.lst b) h Q:=eG.mk (Dk hz (by decide:1000<=FP)) x
def GoX (c0:CP):Prop:=∀ {h:Gh} {ts:List Tm} {L:Nat} {Q:WK} {E:Dm},L<=8->ts.length<=1000->(ts.map (·.1)).Pairwise (· < ·)->(∀ t∈ts,t.1.length=L/\t.2≠0/\∀ p∈t.1,0<=p)->Q (.bl true) h->c0 [Dj ts,.int (L:Int)] h Q E
theorem Pa:GoX ju:=by
 intro h ts L Q E hL hz JL wf q;unfold ju;refine cT rfl (Z:=[FN<|Dj ts,FN<|.int (L:Int),FX,FX,FX]) rfl<|aH<|bw<|jU<|gU<|bC<|aj<|ak rfl<|aj<|aP<|aq<|qH (b:=true) rfl<|Eb rfl<|iT rfl<|aW<|bB ?_
 unfold jN;refine aH<|aQ<|aP<|nV<|bB ?_
 refine aH ?_;refine mX (ws:=ts.map Kg) rfl ?_;refine bW (fun i Z h'=>h'=h/\i<=ts.length/\∃ (a:W) (s3 s4:Option W),Z = [FN<|Dj ts,FN<|.int (L:Int),FN a,s3,s4]/\(a=.non\/∃ (j:Nat) (t:Tm),j+1=i/\ts[j]?=FN t/\a=.tup (t.1.map .int))) ?_ ?_ ⟨rfl,Ko _,.non,FX,FX,rfl,.inl rfl⟩
 ·rintro i w Z h' N hN e ⟨rfl,_,a,s3,s4,rfl,ha⟩;rw [GP] at e;cases qe:ts[i]? with
  | none=>rw [qe] at e;cases e
  | some t=>
   rw [qe] at e;cases e;have hi:=(Lk.mp qe).1;obtain ⟨w1,w2,w3⟩:=wf t (KH qe);refine nV ?_;refine aH<|bw ?_
   have ix0:∀ {s4:Option W} {R:WK},R (.tup (t.1.map .int)) h'->CG Cw (aA 3) (mC (.int 0)) [FN (Dj ts),FN (.int (L:Int)),FN a,FN (Kg t),s4] h' R:=fun x=>aG (ak rfl (aP (bI (ws:=[.tup (t.1.map .int),.int t.2]) (w:=.tup (t.1.map .int)) rfl rfl x)))
   have ix1:∀ {s4:Option W} {R:WK},R (.int t.2) h'->CG Cw (aA 3) (mC (.int 1)) [FN (Dj ts),FN (.int (L:Int)),FN a,FN (Kg t),s4] h' R:=fun x=>aG (ak rfl (aP (bI (ws:=[.tup (t.1.map .int),.int t.2]) (w:=.int t.2) rfl rfl x)))
   refine lW<|jU<|gU<|bC<|aj<|ak rfl<|aj<|aP<|aq<|qH (b:=true) rfl<|Eb rfl<|iT rfl ?_
   refine lW<|aV<|aG<|bC<|aj<|ak rfl<|aq<|cN (xs:=[.tup<|t.1.map .int,.int t.2]) rfl<|aP<|yO<|gW<|iT rfl ?_
   refine lW<|jU<|gU<|bC<|aj<|ix0<|aj<|aP<|aq<|qH (b:=true) rfl<|Eb rfl<|iT rfl ?_
   refine aV<|aG<|bC<|aj<|ix0<|aq<|cN (xs:=t.1.map .int) rfl<|ak rfl<|yO<|gW<|iT (by rw [DX,w1];simp) ?_
   refine aW<|bB<|aH<|dN<|eZ<|aG<|bC<|aj<|ix0<|aq<|Je ?_
   refine cZ<|aj<|ix1<|aq<|aZ rfl<|PJ (by rw [DX];show t.1.length+1<=1000;lia) ?_
   have el:(t.1.map W.int++[W.int t.2])=(t.1++[t.2]).map .int:=by rw [Hl];rfl
   rw [el];refine pL (ws:=(t.1++[t.2]).map .int) (o:=FX) rfl<|dR ?_
   refine bW (fun j Z h1=>h1=h'/\∃ s4:Option W,Z = [FN<|Dj ts,FN<|.int (L:Int),FN a,FN<|Kg t,s4]) ?_ ?_ ⟨rfl,s4,rfl⟩
   ·rintro j w Z h1 N' hN' e' ⟨rfl,s4,rfl⟩;obtain ⟨n,en,rfl⟩:=ints_get e';refine nV ?_;refine bw ?_;refine lW<|jU<|gU<|bC<|aj<|ak rfl<|aj<|aP<|aq<|qH (b:=true) rfl<|Eb rfl<|iT rfl ?_
    exact gU<|bC<|aj<|ak rfl<|aj<|aP<|aq<|qH (b:=false) rfl<|Eb rfl<|iT rfl<|aW<|hN' _ _ ⟨rfl,_,rfl⟩
   ·rintro Z h1 ⟨rfl,s4,rfl⟩;refine bB<|aH<|bw<|lW<|aV<|aG<|bC<|aj<|aG<|cZ<|aj<|aP<|aq<|aZ rfl ?_
    refine bC<|aj<|ix0<|aq<|Je<|PJ (by rw [DX];show 1+t.1.length<=1000;lia)<|aq ?_
    refine ⟨0::t.1,rfl,by simp,fun M hM ml=>aP<|YD<|gW<|iT ?_ ?_⟩
    ·have:0<=M:=by
      rcases Ge.mp hM with rfl | hM
      ·exact Int.le_refl _
      ·exact w3 M hM
     simp;lia
    refine lW<|aV<|aG<|ix1<|aP<|mY<|gW<|iT (by simp [w2]) ?_
    have fin:bY (CG Cw (aA 3) (mC (.int 0))) (kI 2) { nx:=N,rt:=Q,ct:=N,bk:=gA E { nx:=fun _ h'=>Q .non h',rt:=Q } } [FN (Dj ts),FN (.int (L:Int)),FN a,FN (Kg t),s4] h1:=by
     refine aQ<|ix0<|nV<|bB ?_
     refine hN _ _ ⟨rfl,hi,_,_,_,rfl,.inr ⟨i,t,rfl,qe,rfl⟩⟩
    rcases ha with rfl | ⟨j,u,ej,eu,rfl⟩
    ·exact mQ<|aV<|aG<|ak rfl<|aP<|O2<|gW<|iT rfl<|eV<|aW<|bB fin
    ·refine mQ<|aV<|aG<|ak rfl<|aP<|O2<|gW<|Cy rfl ?_
     have lt:u.1<t.1:=by
      have hj:=(Lk.mp eu).1;have:=Wd.mp JL j i (by rw [DX];lia) (by rw [DX];lia) (by lia)
      rw [List.getElem_map,List.getElem_map,(Lk.mp eu).2,(Lk.mp qe).2] at this;exact this
     refine jU<|aV<|aG<|ak rfl<|ix0<|Zq<|gW<|iT (by rw [decide_eq_true lt];rfl)<|aW<|bB fin
 ·rintro Z h' ⟨rfl,_,a,s3,s4,rfl,_⟩;unfold gA;exact bB<|aU<|aP<|fY q
def Zk (L:Nat)(ps:List Tm):Prop:=(ps.map (·.1)).Nodup/\ps.length<=3/\(2<L->ps.length<=1)/\∀ t∈ps,t.1.length=L/\Sm 40 t.2/\∀ q∈t.1,0<=q/\q<=1
def Xb (c0:CP):Prop:=∀ {h:Gh} {b L:Nat} {top:Int} {Q:WK} {E:Dm},K1 h b->L<=8->L≠1->0<=top->top<=1000000000->(∀ ps h',Zk L ps->K1 h' b->M8 b h h'->Q (.lst (ps.map Qt)) h')->c0 [.loc b,.int (L:Int),.int top] h Q E
def un (l L:Nat):List Int:=(Ma L).map fun k=>if k=l then 1 else 0
theorem afP {l:Nat}(ea:acc=(un l i).map .int):acc++[.int (if i=l then 1 else 0)]=(un l (i+1)).map .int:=by
 rw [ea];unfold un;rw [List.range_succ,Hl,Hl];rfl
theorem Yv {c:Int}(hL:L<=8)(q:Q (.tup ((Ja L c).map .int)) h):wD (.tup [.int c]) (.int (L:Int)) h Q:=by
 have fl:∀ k:Nat,(Ja k [W.int c]).flatten=(Ja k c).map .int:=fun k=>by
  induction k with
  | zero=>rfl
  | succ k ih=>rw [Rh,Rh,U5,ih];rfl
 have eL:(L:Int).toNat=L:=by lia
 refine ⟨⟨by lia,by lia,by rw [eL];simp;lia⟩,?_⟩;rw [eL,fl];exact q
theorem Rv (l L:Nat):(un l L).length=L/\∀ q∈un l L,0<=q/\q<=1:=by
 refine ⟨by unfold un;simp,fun q hq=>?_⟩;unfold un at hq;obtain ⟨k,_,rfl⟩:=Hj.mp hq;split <;> decide
theorem BX {c:Int}(L:Nat)(h:0<=c/\c<=1):(Ja L c).length=L/\∀ q∈Ja L c,0<=q/\q<=1:=⟨by simp,fun q hq=>by rw [List.eq_of_mem_replicate hq];exact h⟩
theorem Bj {n:Int}(hk:k.length=L/\∀ q∈k,0<=q/\q<=1)(hn:Sm 40 n):Zk L [(k,n)]:=by
 refine ⟨by simp,by simp,by simp,fun t ht=>?_⟩;rw [Kp.mp ht];exact ⟨hk.1,hn,hk.2⟩
theorem agL {l:Nat}(hl:l<2):un l 2≠[0,0]/\un l 2≠[1,1]:=by
 match l,hl with
 | 0,_=>decide
 | 1,_=>decide
variable {dr : CP}
theorem agf (hdr:mJ dr):Xb (uz dr):=by
 intro h b L top Q E hb hL h1 t0 t1 q';have sm:∀ {n:Int},-2000000000<=n->n<=3000000000->Sm 40 n:=fun {n} a b=>(CV (n:=35) (by lia) (by lia)).mono (by decide)
 have sm6:∀ {n:Int},-2000000000<=n->n<=3000000000->Sm 60 n:=fun {n} a b=>(CV (n:=35) (by lia) (by lia)).mono (by decide)
 unfold uz;refine cT rfl (Z:=[FN<|.loc b,FN<|.int (L:Int),FN<|.int top,FX,FX,FX,FX,FX]) rfl<|aH<|aQ<|aB<|aj<|ak rfl<|aj<|aP<|aq ?_
 refine hdr hb (by decide) (sm6 (by decide)<|by decide) fun way ha w0 w1 ba oa=>nV<|bB ?_
 refine aH<|aQ<|aG<|aB<|aj<|ak rfl<|aj<|aG<|aG<|aP<|ak rfl<|jP (.of (m:=64) (.lit rfl) (sm6 (n:=top) (by lia)<|by lia) (by decide)<|by decide)<|aP<|dW<|aq ?_
 refine hdr ba (by lia) (sm6 (by lia)<|by lia) fun d hc d0 d1 bc oc=>ak rfl<|oN<|nV<|bB ?_
 have sn:Sm 40 (d - top):=sm (by lia) (by lia);have o2:=oa.trans oc;have zero:∀ {Z : Sw} {h:Gh} {R:WK},Z[1]?=FN (FN (.int (L:Int)))->R (.tup ((Ja L (0:Int)).map .int)) h->CG wD (iR (ao (mC (.int 0)) aJ)) (aA 1) Z h R:=fun v x=>aG (cM (aj (aP (aq (aZ rfl (ak v (Yv hL x)))))))
 refine aH<|bw<|lW<|aV<|aG<|ak rfl<|aP<|mY<|gW ?_
 have first:cC (fW (ao (iR (ao (CG wD (iR (ao (mC (.int 0)) aJ)) (aA 1)) (ao (aA 4) aJ))) aJ)) { nx:=nC dr E { nx:=fun _ h'=>Q .non h',rt:=Q },rt:=Q } [FN (.loc b),FN (.int (L:Int)),FN (.int top),FN (.int way),FN (.int (d - top)),FX,FX,FX] hc:=
  aU (cZ (aj (cM (aj (zero rfl (aj (ak rfl (aq (aZ rfl (aq (aZ rfl (fY (q' [(Ja L 0,d - top)] hc (Bj (BX L (by decide)) sn) bc o2)))))))))))))
 refine su (fun _=>oY first) fun nw=>aV<|aG<|ak rfl<|aP<|mY<|gW<|su (fun _=>first) fun nl=>aW<|bB ?_
 unfold nC;refine aH<|aQ<|aB<|aj<|ak rfl<|aj<|ak rfl<|aq ?_
 refine hdr bc (by lia) (sm6 (by lia)<|by lia) fun l he l0 l1 be oe=>?_;obtain ⟨l,rfl⟩:=Wb l0;have o3:=o2.trans oe;refine nV<|bB ?_
 refine aH<|aQ<|bC<|aj ?_
 refine agY (j:=(L:Int)) (fun R=>rfl) (by lia) (by lia) (Dk (m:=1000) (by lia)<|by decide) (fun i acc g=>g=he/\acc=(un l i).map .int) ?_ ?_ ⟨rfl,rfl⟩
 ·rintro i acc g N hN hi ⟨rfl,ea⟩;refine ⟨[.int (i:Int)],rfl,cD<|cj<|bC<|aj<|aG<|ak rfl<|ak rfl<|mY<|aq<|Ad<|hN _ _ ⟨rfl,?_⟩⟩;rw [<-afP ea];by_cases c:i=l
  ·rw [if_pos c,decide_eq_true (by lia)];rfl
  ·rw [if_neg c,decide_eq_false (by lia)];rfl
 ·rintro acc g ⟨rfl,rfl⟩;have eL:(L:Int).toNat=L:=by lia
  rw [eL];refine aq<|dz<|nV<|bB ?_
  refine aH<|bw<|lW<|aV<|aG<|ak rfl<|aP<|tX<|gW ?_
  have sec:cC (fW (ao (iR (ao (aA 6) (ao (aA 4) aJ))) aJ)) { nx:=nR dr E { nx:=fun _ h'=>Q .non h',rt:=Q },rt:=Q } [FN (.loc b),FN (.int (L:Int)),FN (.int top),FN (.int way),FN (.int (d - top)),FN (.int (l:Int)),FN (.tup ((un l L).map .int)),FX] g:=
   aU (cZ (aj (cM (aj (ak rfl (aj (ak rfl (aq (aZ rfl (aq (aZ rfl (fY (q' [(un l L,d - top)] g (Bj (Rv l L) sn) be o3)))))))))))))
  refine su (fun _=>oY sec) fun g2=>aV<|aG<|ak rfl<|aP<|mY<|gW<|su (fun _=>sec) fun nw1=>aW<|bB ?_
  have L2:L=2:=by lia
  subst L2;obtain ⟨u0,u1⟩:=agL (l:=l) (by lia);unfold nR;refine aH<|aQ<|aG<|cM<|aj<|aP<|aq<|aZ rfl<|ak rfl<|Yv hL ?_
  refine nV<|bB ?_
  refine aH<|bw<|aV<|aG<|ak rfl<|aP<|mY<|gW ?_
  have tz:∀ {k:List Int} {n:Int} {ps:List Tm},k∉ps.map (·.1)->(k.length=2/\∀ q∈k,0<=q/\q<=1)->Sm 40 n->Zk 2 ps->ps.length<=2->Zk 2 ((k,n)::ps):=fun {k n ps} nk hk hn hp hl=>⟨by rw [DY,R6];exact ⟨nk,hp.1⟩,by rw [K7];lia,fun h=>absurd h (by decide),fun t ht=>by
   rcases Ge.mp ht with rfl | ht
   ·exact ⟨hk.1,hn,hk.2⟩
   ·exact hp.2.2.2 t ht⟩
  refine su (fun _=>?_) fun _=>aW<|bB ?_
  ·refine aU<|cZ<|aj<|cM<|aj<|zero rfl<|aj<|ak rfl<|aq<|aZ rfl ?_
   refine aj<|cM<|aj<|ak rfl<|aj<|aG<|aB<|aj<|ak rfl<|aj<|aP<|aq ?_
   refine hdr be (by decide) (sm6 (by decide)<|by decide) fun d2 hf e0 e1 bf of=>aP<|oN<|aq<|aZ rfl<|aq<|aZ rfl<|fY<|q' [([0,0],d - top),(un l 2,d2 - 2)] hf ?_ bf<|o3.trans of
   exact tz (by simpa using Ji u0) (BX (c:=0) 2<|by decide) sn (Bj (Rv l 2)<|sm (by lia)<|by lia)<|by simp
  ·unfold nQ;refine aU<|cZ<|aj<|cM<|aj<|zero rfl<|aj<|aG<|aB<|aj<|ak rfl<|aj<|aP<|aq ?_
   refine hdr be (by decide) (sm6 (by decide)<|by decide) fun d2 hf e0 e1 bf of=>aP<|oN<|aq<|aZ rfl ?_
   refine aj<|cM<|aj<|ak rfl<|aj<|ak rfl<|aq<|aZ rfl ?_
   refine aj<|cM<|aj<|ak rfl<|aj<|aG<|aB<|aj<|ak rfl<|aj<|aP<|aq ?_
   refine hdr bf (by decide) (sm6 (by decide)<|by decide) fun d3 hg e2 e3 bg og=>aP<|oN<|aq<|aZ rfl<|aq<|aZ rfl<|fY<|q' [([0,0],d2 - 2),(un l 2,d - top),([1,1],d3 - 1)] hg ?_ bg<|(o3.trans of).trans og
   exact tz (by simp;exact Ji u0) (BX (c:=0) 2<|by decide) (sm (by lia)<|by lia) (tz (by simpa using u1) (Rv l 2) sn (Bj (BX (c:=1) 2<|by decide)<|sm (by lia)<|by lia)<|by simp)<|by simp
def zav (b:Nat)(h h':Gh):Prop:=h.nx<=h'.nx/\∀ m,m<h.nx->m≠b->h'.c m=h.c m
def Bw (s:Str):Nat:=if s = "curve" then 6 else 3
def ThX (c0:CP):Prop:=∀ {h:Gh} {b L n:Nat} {s:Str} {top:Int} {Q:WK} {E:Dm},K1 h b->b<h.nx->L<=8->L≠1->0<=top->top<=1000000000->(3<=n\/2<L/\1<=n) ->
 (∀ T h',T.length=Bw s->(∀ us∈T,Mb L 40 1 n us)->K1 h' b->zav b h h'->Q (tW T) h')->c0 [.loc b,.int (L:Int),.str s,.int top] h Q E
theorem Pb (x:Q (.int (3*(if c then 1 else 0))) h):CJ (.int 3) (.int (if c then 1 else 0)) h Q:=by
 exact ⟨.inr<|.inl<|.lit rfl,x⟩
theorem agP {pa:CP}(hpa:Xb pa):ThX (pP pa):=by
 intro h b L n s top Q E hb bl hL h1 t0 t1 hn q';unfold pP;refine cT rfl (Z:=[FN<|.loc b,FN<|.int (L:Int),FN<|.str s,FN<|.int top,FX,FX]) rfl<|aH<|aQ<|mW (ws:=[]) (fun R=>rfl) rfl fun g eg og xg=>?_
 refine nV<|bB ?_
 refine aH ?_;refine dN<|eU<|aj<|aG<|aP<|aG<|aP<|bC<|aj<|aG<|ak rfl<|aP<|oR<|aq<|Ad<|Pb<|dW<|aq ?_
 have em:(3:Int)+3*(if decide (s = "curve") then 1 else 0)=((Bw s:Nat):Int):=by
  unfold Bw;by_cases c:s = "curve"
  ·rw [if_pos c,decide_eq_true c];rfl
  ·rw [if_neg c,decide_eq_false c];rfl
 rw [em];have nb:b≠h.nx:=Gq bl;have n6:Bw s<=6:=by unfold Bw;split <;> decide
 refine oZ (by lia)<|dR ?_
 have bg:K1 g b:=by
  obtain ⟨x,y,e,r⟩:=hb;exact ⟨x,y,by rw [og b nb];exact e,r⟩
 refine bW (fun i Z h'=>∃ (T:List (List Tm)) (s5:Option W),Z = [FN<|.loc b,FN<|.int (L:Int),FN<|.str s,FN<|.int top,FN<|.loc h.nx,s5]/\h'.c h.nx=FN (.lst<|T.map Dj)/\T.length=i/\(∀ us∈T,Mb L 40 1 n us)/\K1 h' b/\h'.nx=h.nx+1/\∀ m,m<h.nx->m≠b->h'.c m=h.c m) ?_ ?_ ⟨[],FX,rfl,eg,rfl,fun _ h=>(nomatch h),bg,xg,fun m hm _=>og m<|Gq hm⟩
 ·rintro i w Z h' N hN e ⟨T,s5,rfl,e2,lT,mT,b2,x2,o2⟩;have hi:i<Bw s:=by have:=(Lk.mp e).1;rw [oW] at this;exact this
  refine nV ?_;refine iy<|qb<|ak rfl<|kO e2<|aj<|bC<|aj<|bC<|aj<|gn<|eZ<|aB<|aj<|ak rfl<|aj<|ak rfl<|aj<|ak rfl<|aq ?_
  refine hpa b2 hL h1 t0 t1 fun ps h3 ok b3 o3=>pL (ws:=ps.map Qt) (o:=FX) rfl<|eG.mk (Dk (m:=1000) (by rw [DX];have:=ok.2.1;lia)<|by decide) ?_
  refine dF (fun j acc g'=>g'=h3/\acc=((ps.take j).filter fun t=>decide<|t.2≠0).map Qt) ?_ ?_ ⟨rfl,rfl⟩
  ·rintro j w acc g' N' hN' e' ⟨rfl,rfl⟩;rw [GP] at e';cases qe:ps[j]? with
   | none=>rw [qe] at e';cases e'
   | some t=>
    rw [qe] at e';cases e'
    have tk:((ps.take (j+1)).filter fun t=>decide (t.2≠0))=((ps.take j).filter fun t=>decide (t.2≠0))++([t].filter fun t:Tm=>decide (t.2≠0)):=by
     rw [KN,qe,List.filter_append];rfl
    refine ⟨[Qt t],rfl,aV<|aG<|aG<|ak rfl<|aP<|bI (ws:=[.tup<|t.1.map .int,.int t.2]) (w:=.int t.2) rfl rfl<|aP<|yO<|gW ?_⟩;refine Mh (fun ne=>ak rfl<|hN' _ _ ⟨rfl,?_⟩) fun ne=>hN' _ _ ⟨rfl,?_⟩
    ·rw [tk,Ul,if_pos (by simpa using ne),Hl];rfl
    ·rw [tk,Ul,if_neg (by simpa using ne)];simp
  ·rintro acc g' ⟨rfl,rfl⟩;rw [DX,Kl];refine aq ⟨ps.filter fun t=>decide<|t.2≠0,rfl,ok.1.sublist<|List.filter_sublist.map _,fun rs pr sr=>aq<|dz<|aq ?_⟩;have e3:g'.c h.nx=FN (.lst (T.map Dj)):=by rw [o3.2 h.nx (Ji nb)];exact e2
   have mr:Mb L 40 1 n rs:=by
    refine ⟨?_,sr,fun t ht=>?_⟩
    ·have l1:rs.length<=ps.length:=by rw [pr.length_eq];exact List.length_filter_le _ _
     have l3:=ok.2.1;rcases hn with hn | ⟨hn,hn1⟩
     ·lia
     ·have:=ok.2.2.1 hn
      lia
    ·have m1:=List.mem_filter.mp (pr.mem_iff.mp ht);obtain ⟨c1,c2,c3⟩:=ok.2.2.2 t m1.1;exact ⟨c1,by simpa using m1.2,c2,c3⟩
   refine Dl e3 (by rw [DX];lia) fun g2 a1 a2 a3=>bB<|hN _ _ ⟨T++[rs],_,rfl,by rw [a1,Hl];rfl,by simp [lT],fun us hu=>?_,?_,by rw [a3,o3.1];exact x2,fun m hm mb=>?_⟩
   ·rcases La.mp hu with hu | hu
    ·exact mT us hu
    ·rw [Kp.mp hu];exact mr
   ·obtain ⟨x,y,e,r⟩:=b3;exact ⟨x,y,by rw [a2 b nb];exact e,r⟩
   ·rw [a2 m (Gq hm),o3.2 m mb];exact o2 m hm mb
 ·rintro Z h' ⟨T,s5,rfl,e2,lT,mT,b2,x2,o2⟩;rw [oW] at lT;unfold qX;refine bB<|aU<|bC<|aj<|ak rfl<|aq ?_
  show (match dM h' (.loc h.nx) with
   | some us=>_
   | none=>False)
  rw [qL e2];exact q' T h' lT mT b2 ⟨by lia,o2⟩
inductive Rw (L n:Nat):Str->List (List (List Tm))->List Fn->Prop
 | join {x:Str} {f1 f2 f3 g1 g2 g3:Fn} {x1 x2 x3 y1 y2 y3:List Tm}:(x = "join"\/x = "meet")->Sp L n f1 f2 f3 x1 x2 x3->Sp L n g1 g2 g3 y1 y2 y3->Rw L n x [[x1,x2,x3],[y1,y2,y3]] [fun xs=>f2 xs*g3 xs - f3 xs*g2 xs,fun xs=>f3 xs*g1 xs - f1 xs*g3 xs,fun xs=>f1 xs*g2 xs - f2 xs*g1 xs]
 | curve {f1 f2 f3 g1 g2 g3 h1 h2 h3 j1 j2 j3 k1 k2 k3:Fn} {x1 x2 x3 y1 y2 y3 z1 z2 z3 u1 u2 u3 v1 v2 v3:List Tm}:Sp L n f1 f2 f3 x1 x2 x3->Sp L n g1 g2 g3 y1 y2 y3->Sp L n h1 h2 h3 z1 z2 z3->Sp L n j1 j2 j3 u1 u2 u3->Sp L n k1 k2 k3 v1 v2 v3->Rw L n "curve" [[x1,x2,x3],[y1,y2,y3],[z1,z2,z3],[u1,u2,u3],[v1,v2,v3]] (crv f1 f2 f3 g1 g2 g3 h1 h2 h3 j1 j2 j3 k1 k2 k3)
 | about {f0 f1 f2 f3 f4 f5 k1 k2 k3:Fn} {x0 x1 x2 x3 x4 x5 u v w:List Tm}:Cv L n f0 f1 f2 f3 f4 f5 x0 x1 x2 x3 x4 x5->Sp L n k1 k2 k3 u v w->Rw L n "about" [[x0,x1,x2,x3,x4,x5],[u,v,w]] [fun xs=>2*f0 xs*k1 xs+f1 xs*k2 xs+f3 xs*k3 xs,fun xs=>f1 xs*k1 xs+2*f2 xs*k2 xs+f4 xs*k3 xs,fun xs=>f3 xs*k1 xs+f4 xs*k2 xs+2*f5 xs*k3 xs]
 | pole {f0 f1 f2 f3 f4 f5 k1 k2 k3:Fn} {x0 x1 x2 x3 x4 x5 u v w:List Tm}:Cv L n f0 f1 f2 f3 f4 f5 x0 x1 x2 x3 x4 x5->Sp L n k1 k2 k3 u v w->Rw L n "pole" [[x0,x1,x2,x3,x4,x5],[u,v,w]] (acV f0 f1 f2 f3 f4 f5 k1 k2 k3)
 | other {f0 f1 f2 f3 f4 f5 j1 j2 j3 k1 k2 k3:Fn} {x0 x1 x2 x3 x4 x5 r s t u v w:List Tm}:Cv L n f0 f1 f2 f3 f4 f5 x0 x1 x2 x3 x4 x5->Sp L n j1 j2 j3 r s t->Sp L n k1 k2 k3 u v w->Rw L n "other" [[x0,x1,x2,x3,x4,x5],[r,s,t],[u,v,w]] (acn f0 f1 f2 f3 f4 f5 j1 j2 j3 k1 k2 k3)
theorem Xv (cl:Cl L n){c:Nat}(hb:b+c+20<=1000):∃ k,Nm L b c 1 1 n n k/\k*3<=400/\∃ k2,k2<=600/\KZ L (1+1) (k+k) k2/\KZ L (1+1) (k*3) k2:=by
 rcases cl with ⟨l2,rfl⟩ | ⟨l8,rfl⟩
 ·exact ⟨9,⟨by lia,hb,by decide,by decide,by decide,by decide,by decide,.box l2 rfl⟩,by decide,9,by decide,.box l2 rfl,.box l2 rfl⟩
 ·exact ⟨1,⟨by lia,hb,by decide,by decide,by decide,by decide,by decide,.few rfl⟩,by decide,3,by decide,.few rfl,.few rfl⟩
theorem Io {l:List W}:Lz (w::l) 0=FN w:=by
 unfold Lz QM;simp
theorem ZX (w:W)(ws:List W):Bh (w::ws) (FN 1) FX=ws:=by
 first | rfl | exact aeu (w::ws) 1 | simp [Bh]
theorem abu {us:List W}{lo hi:Option Int}(e:Bh ws lo hi=us)(x:Q (.tup us) h):YK (.tup ws) lo hi h Q:=by
 subst e;exact x
def CrI (c0:CP):Prop:=∀ {h:Gh} {a b c d e f:Int} {m:Nat} {Q:WK} {E:Dm},m<=400000->Sm m a->Sm m b->Sm m c->Sm m d->Sm m e->Sm m f->Q (.tup [.int (b*f - c*e),.int (c*d - a*f),.int (a*e - b*d)]) h->c0 [.tup [.int a,.int b,.int c],.tup [.int d,.int e,.int f]] h Q E
theorem Xc:CrI qC:=by
 intro h a b c d e f m Q E hm ha hb hc hd he hf q;unfold qC;refine cT rfl (Z:=[FN<|.tup [.int a,.int b,.int c],FN<|.tup [.int d,.int e,.int f],FX,FX,FX,FX,FX,FX]) rfl ?_;rfl'
 exact q
def DoI (c0:CP):Prop:=∀ {h:Gh} {a b c d e f:Int} {m k:Nat} {Q:WK} {E:Dm},m<=400000->k<=400000->Sm m a->Sm m b->Sm m c->Sm k d->Sm k e->Sm k f->Q (.int (a*d+b*e+c*f)) h->c0 [.tup [.int a,.int b,.int c],.tup [.int d,.int e,.int f]] h Q E
theorem Lr:DoI zj:=by
 intro h a b c d e f m k Q E hm hk ha hb hc hd he hf q;unfold zj;refine cT rfl (Z:=[FN<|.tup [.int a,.int b,.int c],FN<|.tup [.int d,.int e,.int f]]) rfl ?_;rfl'
 exact q
def RoI (c0:CP):Prop:=∀ {h:Gh} {a b c d e f:Int} {m:Nat} {Q:WK} {E:Dm},m<=400000->Sm m a->Sm m b->Sm m c->Sm m d->Sm m e->Sm m f->Q (.lst [.tup [.int (2*a),.int b,.int d],.tup [.int b,.int (2*c),.int e],.tup [.int d,.int e,.int (2*f)]]) h->c0 [.tup [.int a,.int b,.int c,.int d,.int e,.int f]] h Q E
theorem Xo:RoI lq:=by
 intro h a b c d e f m Q E hm ha hb hc hd he hf q;unfold lq;refine cT rfl (Z:=[FN<|.tup [.int a,.int b,.int c,.int d,.int e,.int f],FX,FX,FX,FX,FX,FX]) rfl ?_;rfl'
 exact q
theorem fC {a:Int}(h:Sm m a):Sm (m+2) (2*a):=by
 unfold Sm at *;rw [Ss,QB];show 2*a.natAbs<2^m*4;lia
def TmI (c0:CP):Prop:=∀ {h:Gh} {a b c d e f x y z:Int} {m:Nat} {Q:WK} {E:Dm},m<=300000->Sm m a->Sm m b->Sm m c->Sm m d->Sm m e->Sm m f->Sm m x->Sm m y->Sm m z->Q (.tup [.int (2*a*x+b*y+d*z),.int (b*x+2*c*y+e*z),.int (d*x+e*y+2*f*z)]) h->c0 [.tup [.int a,.int b,.int c,.int d,.int e,.int f],.tup [.int x,.int y,.int z]] h Q E
theorem aas {ro:CP}(hdt:DoI dt)(hro:RoI ro):TmI (qI dt ro):=by
 intro h a b c d e f x y z m Q E hm ha hb hc hd he hf hx hy hz q;have up:∀ {i:Int},Sm m i->Sm (m+2) i:=fun h=>h.mono (by lia)
 unfold qI;refine cT rfl (Z:=[FN<|.tup [.int a,.int b,.int c,.int d,.int e,.int f],FN<|.tup [.int x,.int y,.int z]]) rfl<|aU<|bC<|aj<|gn<|eZ<|aB<|aj<|ak rfl<|aq ?_
 refine hro (by lia) ha hb hc hd he hf<|pL (ws:=[.tup [.int<|2*a,.int b,.int d],.tup [.int b,.int<|2*c,.int e],.tup [.int d,.int e,.int<|2*f]]) (o:=FX) rfl<|J1 rfl ?_
 refine jW (vs:=[.tup [.int<|2*a,.int b,.int d]]) rfl<|cD<|cj<|aB<|aj<|ak rfl<|aj<|ak rfl<|aq<|hdt (m:=m+2) (k:=m) (by lia) (by lia) (fC ha) (up hb) (up hd) hx hy hz ?_
 refine jW (vs:=[.tup [.int b,.int<|2*c,.int e]]) rfl<|cD<|cj<|aB<|aj<|ak rfl<|aj<|ak rfl<|aq<|hdt (m:=m+2) (k:=m) (by lia) (by lia) (up hb) (fC hc) (up he) hx hy hz ?_
 refine jW (vs:=[.tup [.int d,.int e,.int<|2*f]]) rfl<|cD<|cj<|aB<|aj<|ak rfl<|aj<|ak rfl<|aq<|hdt (m:=m+2) (k:=m) (by lia) (by lia) (up hd) (up he) (fC hf) hx hy hz ?_
 exact Aj<|aq<|dz<|fY q
theorem Uz {a b c d:Int}(ha:Sm m a)(hb:Sm m b)(hc:Sm m c)(hd:Sm m d):Sm (m+m+2) (a*b - c*d):=by
 have h1:(a*b).natAbs<2^(m+m):=by rw [Ss,QB];exact Nat.mul_lt_mul'' ha hb
 have h2:(c*d).natAbs<2^(m+m):=by rw [Ss,QB];exact Nat.mul_lt_mul'' hc hd
 unfold Sm;rw [QB];generalize 2^(m+m)=A at *;lia
theorem Mr {k:Nat}{a b c d e f:Int}(ha:Sm m a)(hb:Sm m b)(hc:Sm m c)(hd:Sm k d)(he:Sm k e)(hf:Sm k f):Sm (m+k+2) (a*d+b*e+c*f):=by
 have g:∀ {x y:Int},Sm m x->Sm k y->(x*y).natAbs<2^(m+k):=fun {x y} hx hy=>by rw [Ss,QB];exact Nat.mul_lt_mul'' hx hy
 have h1:=g ha hd;have h2:=g hb he;have h3:=g hc hf;unfold Sm;rw [QB];generalize 2^(m+k)=A at *;lia
def TuI (c0:CP):Prop:=∀ {h:Gh} {a b c d e f x y z:Int} {m:Nat} {Q:WK} {E:Dm},m<=100000->Sm m a->Sm m b->Sm m c->Sm m d->Sm m e->Sm m f->Sm m x->Sm m y->Sm m z->Q (.int ((b*f - c*e)*x+(c*d - a*f)*y+(a*e - b*d)*z)) h->c0 [.tup [.int a,.int b,.int c],.tup [.int d,.int e,.int f],.tup [.int x,.int y,.int z]] h Q E
theorem aaq (hcr:CrI cr)(hdt:DoI dt):TuI (uq cr dt):=by
 intro h a b c d e f x y z m Q E hm ha hb hc hd he hf hx hy hz q;unfold uq;refine cT rfl (Z:=[FN<|.tup [.int a,.int b,.int c],FN<|.tup [.int d,.int e,.int f],FN<|.tup [.int x,.int y,.int z]]) rfl<|aU<|aB<|aj<|aB<|aj<|ak rfl<|aj<|ak rfl<|aq ?_
 refine hcr (m:=m) (by lia) ha hb hc hd he hf<|aj<|ak rfl<|aq ?_
 exact hdt (m:=m+m+2) (k:=m) (by lia) (by lia) (Uz hb hf hc he) (Uz hc hd ha hf) (Uz ha he hb hd) hx hy hz<|fY q
variable {zs : List Int}
theorem Ev.sm {f:Fn}(e:Ev L 40 1 n f us)(hn:n<=64)(bx:Bd zs)(hL:L<=8):Sm 20000 (f zs):=by
 rw [<-e.2 zs];have f0:∀ t∈us,(mo t.1 zs L*t.2).natAbs<=2^17000:=fun t ht=>by
  have pw:Pw t.1:=fun q hq=>by have:=(e.1.2.2 t ht).2.2.2 q hq;lia
  have b1:=R9 bx pw L;have b2:=(e.1.2.2 t ht).2.2.1;rw [Ss];refine Dk (WD b1<|Lx b2) ?_;rw [<-QB];exact Wg (by decide)<|by lia
 have g:∀ us:List Tm,(∀ t∈us,(mo t.1 zs L*t.2).natAbs<=2^17000)->(lin (fun q=>mo q zs L) us).natAbs<=us.length*2^17000:=fun us=>by
  induction us with
  | nil=>intro _;exact Ko _
  | cons t us ih=>
   intro f;rw [bN,K7,Nat.succ_mul,Ug];exact Dk (Int.natAbs_add_le _ _)<|W7 (f t<|by simp)<|ih fun u hu=>f u<|Jo _ hu
 have:=Dk (g us f0) (X3 _ (Dk e.1.1 hn))
 unfold Sm;refine QK this ?_;rw [show (64:Nat)=2^6 from rfl,<-QB];exact Nat.pow_lt_pow_right (by decide)<|by decide
abbrev vW (zs:List Int)(L:Nat)(T:List (List Tm)):W:=.tup (T.map fun us=>.int (lin (fun q=>mo q zs L) us))
theorem Bf {f g h:Fn}{x y z:List Tm}(e:Sp L n f g h x y z)(zs:List Int):vW zs L [x,y,z]=.tup [.int (f zs),.int (g zs),.int (h zs)]:=by
 show W.tup [.int _,.int _,.int _]=_;rw [e.x1.2,e.x2.2,e.x3.2]
theorem Y8 {f0 f1 f2 f3 f4 f5:Fn}{x0 x1 x2 x3 x4 x5:List Tm}(e:Cv L n f0 f1 f2 f3 f4 f5 x0 x1 x2 x3 x4 x5)(zs:List Int)(hn:n<=64)(bx:Bd zs)(hL:L<=8):vW zs L [x0,x1,x2,x3,x4,x5]=.tup [.int (f0 zs),.int (f1 zs),.int (f2 zs),.int (f3 zs),.int (f4 zs),.int (f5 zs)]/\Sm 20000 (f0 zs)/\Sm 20000 (f1 zs)/\Sm 20000 (f2 zs)/\Sm 20000 (f3 zs)/\Sm 20000 (f4 zs)/\Sm 20000 (f5 zs):=by
 cases e with
 | cons e0 e=>cases e with
  | cons e1 e=>cases e with
   | cons e2 e=>cases e with
    | cons e3 e=>cases e with
     | cons e4 e=>cases e with
      | cons e5 e=>
       refine ⟨?_,e0.sm hn bx hL,e1.sm hn bx hL,e2.sm hn bx hL,e3.sm hn bx hL,e4.sm hn bx hL,e5.sm hn bx hL⟩;show W.tup [.int _,.int _,.int _,.int _,.int _,.int _]=_;rw [e0.2,e1.2,e2.2,e3.2,e4.2,e5.2]
theorem wU {ws:List (List (List Tm))}(e:ws[i]?=FN T)(ew:vW zs L T=w)(x:Q w h):Cw (.lst (ws.map (vW zs L))) (.int (i:Int)) h Q:=
 bI (ws:=ws.map (vW zs L)) rfl (bK (by rw [GP,e,<-ew];rfl)) x
def Ly:List Str:=["free", "join", "meet", "curve", "about", "pole", "other"]
def Em (x:Str):List Str:=if x = "join" then ["spot", "spot"] else if x = "meet" then ["line", "line"] else if x = "about" then ["curve", "spot"] else
 if x = "curve" then ["spot", "spot", "spot", "spot", "spot"] else if x = "pole" then ["curve", "line"] else if x = "other" then ["curve", "spot", "spot"] else []
def Nw1 (h h':Gh):Prop:=(∀ m,m≠h.nx->h'.c m=h.c m)/\h'.nx=h.nx+1
def Q6 (c0:CP):Prop:=∀ {h:Gh} {x:Str} {Q:WK} {E:Dm},x∈Ly->(∀ h',Nw1 h h'->Q (.lst ((Em x).map .str)) h')->c0 [.str x] h Q E
def Et:List (Key×W):=[(.inr "free",.lst []),(.inr "join",.lst [.str "spot",.str "spot"]),(.inr "meet",.lst [.str "line",.str "line"]),(.inr "about",.lst [.str "curve",.str "spot"]),
 (.inr "curve",.lst [.str "spot",.str "spot",.str "spot",.str "spot",.str "spot"]),(.inr "pole",.lst [.str "curve",.str "line"]),(.inr "other",.lst [.str "curve",.str "spot",.str "spot"])]
theorem afC (hx:x∈Ly):mK Et (.inr x)=FN (.lst ((Em x).map .str)):=by
 unfold Ly at hx;simp only [Ge,M7,or_false] at hx;rcases hx with e | e | e | e | e | e | e <;> subst e <;> rfl
theorem ahw:Q6 Ah:=by
 intro h x Q E hx k;show (match (h.new (.dct [])).c h.nx with
  | some (.dct [])=>_
  | _=>False)
 rw [Ed];show (match (((h.new (.dct [])).set h.nx (.dct (Et.take 4))).c h.nx) with
  | some (.dct kvs)=>_
  | _=>False)
 rw [oU];refine eG.mk (by rw [V2];decide) ?_;show (match ((((h.new (.dct [])).set h.nx (.dct (Et.take 4))).set h.nx (.dct (Et.take 5))).c h.nx) with
  | some (.dct kvs)=>_
  | _=>False)
 rw [oU];refine eG.mk (by rw [V2];decide) ?_;show (match (((((h.new (.dct [])).set h.nx (.dct (Et.take 4))).set h.nx (.dct (Et.take 5))).set h.nx (.dct (Et.take 6))).c h.nx) with
  | some (.dct kvs)=>_
  | _=>False)
 rw [oU];refine eG.mk (by rw [V2];decide) ?_;show (match ((((((h.new (.dct [])).set h.nx (.dct (Et.take 4))).set h.nx (.dct (Et.take 5))).set h.nx (.dct (Et.take 6))).set h.nx (.dct Et)).c h.nx) with
  | some (.dct kvs)=>_
  | _=>False)
 rw [oU];show (match mK Et (.inr x) with
  | some w=>_
  | none=>False)
 rw [afC hx];refine k _ ⟨fun m hm=>?_,rfl⟩;rw [jy hm,jy hm,jy hm,jy hm,tB hm]
def Im (x:Str):Str:=if x = "join" then "line" else if x = "about" then "line" else if x = "curve" then "curve" else "spot"
def xZ (c0:CP):Prop:=∀ {h:Gh} {x:Str} {ws:List W} {Q:WK} {E:Dm},x∈Ly->Q (.str (Im x)) h->c0 [.tup (.str x::ws)] h Q E
theorem Bc:xZ vA:=by
 intro h x ws Q E hx k;unfold Im at k;have ix:∀ {Q':WK} {h':Gh},Q' (.str x) h'->Cw (.tup (.str x::ws)) (.int 0) h' Q':=fun z=>bI (ws:=.str x::ws) (w:=.str x) rfl (bK (j:=0) rfl) z
 unfold vA;rfl'
 refine ix<|aP<|oR<|gW<|su (fun e=>?_)<|fun e=>?_
 ·rw [if_pos e] at k;rfl'
  exact k
 ·rw [if_neg e] at k;rfl'
  refine ix<|aP<|oR<|gW<|su (fun e=>?_)<|fun e=>?_
  ·rw [if_pos e] at k;rfl'
   exact k
  ·rw [if_neg e] at k;rfl'
   unfold rY;rfl'
   refine ix<|aP<|oR ?_
   by_cases e:x=("curve" : Str)
   ·rw [if_pos e] at k;rw [decide_eq_true e];exact k
   ·rw [if_neg e] at k;rw [decide_eq_false e];exact k
theorem afd (hx:x∈Ly):mK nZ (.inr x)=FN (.str (Im x)):=by
 unfold Ly at hx;simp only [Ge,M7,or_false] at hx;rcases hx with e | e | e | e | e | e | e <;> subst e <;> rfl
def Row (w:W):Prop:=∃ x ns,x∈Ly/\w=.tup (.str x::(ns:List Int).map .int)
def JL:W->Str
 | .tup (.str x::_)=>Im x
 | _ => ""
theorem Row.sort (r:Row w)(hc:xZ c0)(k:Q (.str (JL w)) h):c0 [w] h Q E:=by
 obtain ⟨x,ns,hx,e⟩:=r;subst e;exact hc hx k
inductive Th (h:Gh):W->Prop
 | int {i:Int}:Th h (.int i)
 | bl {b:Bool}:Th h (.bl b)
 | str {s:Str}:Th h (.str s)
 | non:Th h .non
 | tup {ws:List W}:Th h (.tup ws)
 | lst {ws:List W}:Th h (.lst ws)
 | loc {n:Nat} {ws:List W} (e:h.c n=FN (.lst ws)) (l:n<h.nx):Th h (.loc n)
def adn:W->Bool
 | .int _=>true
 | _=>false
def nth (ss:List Str):W->Option Str
 | .int i=>if 0<=i then ss[i.toNat]? else FX
 | _=>FX
variable {ss : List Str}
theorem ahY (e:v<0):nth ss (.int v)=FX:=by
 show (if 0<=v then ss[v.toNat]? else FX)=FX;rw [if_neg (by lia)]
theorem Ou (e:0<=v):nth ss (.int v)=ss[v.toNat]?:=by
 show (if 0<=v then ss[v.toNat]? else FX)=_;rw [if_pos e]
theorem ZG {tbl:List (Key×W)}{mb:ME}(e:mK tbl (.inr x)=FN w)(m:∀ R:WK,R (.str x) h->mb Z h R)(k:Q w h):Za tbl mb Z h Q:=m _ (by
 show (match mK tbl (.inr x) with
  | some w=>Q w h
  | none=>False)
 rw [e];exact k)
def aci (c0:CP):Prop:=∀ {h:Gh} {w r:W} {rws:List W} {j:Nat} {Q:WK} {E:Dm},view h w=FN rws->rws[j]?=FN r->Row r->Q (.str (JL r)) h->c0 [w,.int j] h Q E
theorem zas:aci qx:=by
 intro h w r rws j Q E ev er hr k;obtain ⟨x,ns,hx,rfl⟩:=hr;unfold qx;refine cT rfl (Z:=[FN w,FN<|.int j]) rfl ?_;refine (ZG (afd hx) (fun R q=>?_) k:Za nZ _ _ _ _);exact aG<|aG<|ak rfl<|ak rfl<|bI ev (bK er)<|aP<|bI (ws:=.str x::ns.map .int) (w:=.str x) rfl (bK (j:=0) rfl) q
def Cm (c0:CP):Prop:=∀ {h:Gh} {b n:Nat} {rws:List W} {s:Str} {Q:WK} {E:Dm},K1 h b->h.c n=FN (.lst rws)->b≠n->(∀ r∈rws,Row r)->rws.length<=24->(∃ r∈rws,JL r=s) ->
 (∀ (j:Nat) h',(rws.map JL)[j]?=FN s->K1 h' b->M8 b h h'->Q (.int j) h')->c0 [.loc b,.loc n,.str s] h Q E
variable {c1 : CP}
theorem afT (hd:mJ c0)(hs:xZ c1):Cm (uG c0 c1):=by
 intro h b n rws s Q E hb hn ne hr hl hex k;have ev:=dJ hn;unfold uG;rfl'
 refine cN ev<|aq<|oZ (m:=rws.length) (by lia)<|J1 (by rw [DX];unfold rng;rw [U6];exact Nat.ble_eq.mpr (by lia)) ?_
 refine dF (fun i acc h'=>h'=h/\∃ js:List Nat,acc=js.map (fun j:Nat=>W.int (j:Int))/\js.length<=i/\((∃ k,k<i/\∃ r,rws[k]?=FN r/\JL r=s)->js≠[])/\∀ j∈js,(rws.map JL)[j]?=FN s) ?_ ?_ ⟨rfl,[],rfl,Dg _,fun ⟨_,z,_⟩=>absurd z<|Nat.not_lt_zero _,fun j hj=>absurd hj<|by simp⟩
 ·rintro i w acc h' N hN e ⟨rfl,js,rfl,jl,jn,jo⟩;rw [GP] at e;obtain ⟨x,ex,rfl⟩:=N8.mp e;have e0:=(eO ex).1;have hx:=(eO ex).2;rw [VJ] at e0;subst e0;have hri:rws[x]?=FN rws[x]:=HD hx;refine ⟨[.int (x:Int)],rfl,?_⟩;refine aV<|aG<|aB<|aj<|aG<|ak rfl<|ak rfl<|bI ev (bK hri)<|aq<|(hr _<|Qm hx).sort hs (ak rfl<|oR<|gW ?_)
  by_cases z:JL rws[x]=s
  ·rw [decide_eq_true z];refine cj<|ak rfl<|hN _ _ ⟨rfl,js++[x],by rw [Hl];rfl,by rw [Jt];exact Vy jl,fun _ y=>?_,fun j hj=>?_⟩
   ·exact absurd (congrArg QZ y) (by rw [Jt];exact Nat.succ_ne_zero _)
   ·rcases La.mp hj with hj | hj
    ·exact jo j hj
    ·rw [Kp.mp hj,GP,hri,Option.map_some,z]
  ·rw [decide_eq_false z];refine Bb<|hN _ _ ⟨rfl,js,rfl,Nat.le_succ_of_le jl,fun ⟨q,hq,r,e1,e2⟩=>jn ⟨q,?_,r,e1,e2⟩,jo⟩
   rcases Nat.lt_or_ge q x with y | y
   ·exact y
   ·have:q=x:=by lia
    subst this;rw [hri] at e1;cases e1;exact absurd e2 z
 ·rintro acc h' ⟨rfl,js,rfl,jl,jn,jo⟩;have hj:js≠[]:=by
   obtain ⟨r,h1,h2⟩:=hex;obtain ⟨q,hq,e⟩:=Wz h1;refine jn ⟨q,?_,r,by rw [HD hq,e],h2⟩;rw [DX];unfold rng;rw [U6];exact hq
  have hjl:js.length<=24:=by
   rw [DX] at jl;unfold rng at jl;rw [U6] at jl;lia
  have hj0:0<js.length:=List.length_pos_iff.mpr hj;rfl'
  rw [DX];refine hd hb (by lia) (by unfold Sm;lia) fun d h2 d0 d1 hb2 ho=>?_;obtain ⟨dn,rfl⟩:=Wb d0;have hdn:dn<js.length:=by lia
  refine bI (ws:=js.map fun j:Nat=>W.int (j:Int)) (w:=.int (js[dn]:Int)) rfl (bK (by rw [GP,HD hdn];rfl)) ?_;exact k _ _ (jo _<|Qm hdn) hb2 ho
def Gr (b:Nat)(h h':Gh):Prop:=h.nx<=h'.nx/\∀ m,m<h.nx->m≠b->h'.c m=h.c m
theorem Gr.trans {b:Nat}{h h1 h2:Gh}(x:Gr b h h1)(y:Gr b h1 h2):Gr b h h2:=⟨Dk x.1 y.1,fun m hm ne=>(y.2 m (HB hm x.1) ne).trans (x.2 m hm ne)⟩
theorem M8.gr {h1:Gh}(x:M8 b h h1):Gr b h h1:=⟨Nat.le_of_eq x.1.symm,fun m _ ne=>x.2 m ne⟩
theorem Nw1.gr {h1:Gh}(x:Nw1 h h1):Gr b h h1:=⟨by rw [x.2];exact QX _,fun m hm _=>x.1 m (Gq hm)⟩
theorem Nw1.bag {h1:Gh}(x:Nw1 h h1)(hb:K1 h b)(hl:b<h.nx):K1 h1 b:=by
 obtain ⟨p,q,e,r⟩:=hb;exact ⟨p,q,(x.1 b<|Gq hl).trans e,r⟩
variable {rws : List W}
theorem Ot (hs:xZ c1)(hn:h.c n=FN (.lst rws))(hr:∀ r∈rws,Row r)(hl:rws.length<=24)(q:Q (.lst (rws.map fun r=>.str (JL r))) h):
  SM Ib [] jG (aL c1 E (ao (aA 0) aJ)) Z Q ⟨rws,FN (n,rws)⟩ h:=by
 refine eG.mk (Dk hl<|by decide) ?_;refine Fq (fun i acc h'=>h'=h/\acc=(rws.take i).map fun r=>.str<|JL r) ?_ ?_ ?_ ⟨rfl,rfl⟩
 ·rintro i acc h' ⟨rfl,_⟩ P p;exact ⟨hn,p⟩
 ·rintro i w acc h' N hN ew ⟨rfl,rfl⟩;refine ⟨[w],rfl,cD<|cj ?_⟩;refine aB<|aj<|ak rfl<|aq<|(hr w<|KH ew).sort hs (hN _ _ ⟨rfl,?_⟩)
  rw [KN,ew,Hl];rfl
 ·rintro acc h' ⟨rfl,rfl⟩;rw [Kl];exact q
theorem acM {y:W}{us:List Str}{a:Str}(e:dM h y=FN (us.map .str))(k:Q (.bl (!decide (a∈us))) h):zE (.str a) y h Q:=by
 have e1:(Eh 20 (.str a)&&(us.map W.str).all (Eh 20))=true:=by
  rw [Nk];refine ⟨rfl,QG.mpr fun w hw=>?_⟩;obtain ⟨x,_,rfl⟩:=Hj.mp hw;rfl
 have e2:((us.map W.str).any fun u=>Fy u (.str a))=decide (a∈us):=by
  rw [VB,T3,decide_eq_true_iff];constructor
  ·rintro ⟨w,hw,he⟩;obtain ⟨x,hx,rfl⟩:=Hj.mp hw;rw [zH] at he;rw [<-eq_of_beq he];exact hx
  ·intro ha;exact ⟨.str a,Hj.mpr ⟨a,ha,rfl⟩,by rw [zH];exact beq_self_eq_true a⟩
 unfold zE;rw [e];show Jr (Eh 20 (.str a)&&(us.map W.str).all (Eh 20)) _ _;rw [e1,e2];exact k
theorem Wh {us:List Str}(hZ : jZ ix Z = [FN (.lst (ss.map .str))])(hl:us.length<=24)(q:∀ ls:List Str,(ls=[]->∀ u∈us,u∈ss)->ls.length<=24->Q (.lst (ls.map .str)) h):
  SM Ib ix (bG (CG zE (aA 0) (aA 1))) (aA 0) Z Q ⟨us.map .str,FX⟩ h:=by
 refine eG.mk (by rw [DX];exact Dk hl (by decide)) ?_;refine dF (fun i acc h'=>h'=h/\∃ ls:List Str,acc=ls.map .str/\ls.length<=i/\(ls=[]->∀ u∈us.take i,u∈ss)) ?_ ?_ ⟨rfl,[],rfl,Dg _,fun _ u hu=>by simp at hu⟩
 ·rintro i w acc h' N hN e ⟨rfl,ls,rfl,ll,lh⟩;rw [GP] at e;obtain ⟨u,eu,rfl⟩:=N8.mp e;refine ⟨[.str u],rfl,?_⟩;rw [hZ];refine aV<|aG<|ak rfl<|ak rfl<|acM (us:=ss) rfl<|gW ?_
  by_cases z:u∈ss
  ·rw [decide_eq_true z];refine Bb<|hN _ _ ⟨rfl,ls,rfl,Nat.le_succ_of_le ll,fun e v hv=>?_⟩
   rw [KN,eu] at hv;rcases La.mp hv with hv | hv
   ·exact lh e v hv
   ·have:v=u:=by simpa using hv
    rw [this];exact z
  ·rw [decide_eq_false z];refine cj<|ak rfl<|hN _ _ ⟨rfl,ls++[u],by rw [Hl];rfl,by rw [Jt];exact Vy ll,fun y=>?_⟩
   exact absurd (congrArg QZ y) (by rw [Jt];exact Nat.succ_ne_zero _)
 ·rintro acc h' ⟨rfl,ls,rfl,ll,lh⟩;rw [DX] at ll lh;rw [Kl] at lh;exact q ls lh<|Dk ll hl
theorem yR (hx:x∈Ly):(Em x).length<=24:=by
 unfold Ly at hx;simp only [Ge,M7,or_false] at hx;rcases hx with e | e | e | e | e | e | e <;> subst e <;> decide
theorem Vr {a b:List W}(hz:a.length+b.length<=1000)(x:Q (.lst (a++b)) h):dB (.lst a) (.lst b) h Q:=eG.mk (Dk hz (by decide:1000<=FP)) x
theorem Ht {c2 c3:CP}(ha:Q6 c1)(hp:Cm c3){a2 a3 a4 a6:Option W}{D:bO}(hb:K1 h b)(hn:h.c n=FN (.lst rws))(ne:b≠n)(bl:b<h.nx)(nl:n<h.nx)
  (hr:∀ r∈rws,Row r) (hl:rws.length<=24) (hx:x∈Ly) (hs:∀ s∈Em x,∃ r∈rws,JL r=s) (k:∀ (ns:List Int) h',(ns.map W.int).map (nth (rws.map JL))=(Em x).map FN->K1 h' b->Gr b h h'->D.rt (.tup (.str x::ns.map .int)) h') :
  pZ c0 c1 c2 c3 E D [FN (.loc b),FN (.loc n),a2,a3,a4,FN (.str x),a6] h:=by
 unfold pZ;rfl'
 refine ha hx fun h2 n2=>?_;have hn2:h2.c n=FN (.lst rws):=(n2.1 n (Gq nl)).trans hn;have hb2:K1 h2 b:=n2.bag hb bl;have g2:Gr b h h2:=n2.gr;rfl'
 refine eG.mk (by rw [DX];exact Dk (yR hx) (by decide)) ?_;refine dF (fun i acc h'=>K1 h' b/\M8 b h2 h'/\∃ ns:List Int,acc=ns.map .int/\ns.length=i/\(ns.map W.int).map (nth<|rws.map JL)=((Em x).take i).map FN) ?_ ?_ ⟨hb2,⟨rfl,fun _ _=>rfl⟩,[],rfl,rfl,rfl⟩
 ·rintro i w acc h' N hN e ⟨hb',o',ns,rfl,el,em⟩;rw [GP] at e;obtain ⟨u,eu,rfl⟩:=N8.mp e;refine ⟨[.str u],rfl,cD<|cj<|aB<|aj<|ak rfl<|aj<|ak rfl<|aj<|ak rfl<|aq ?_ ⟩;refine hp hb' ((o'.2 n<|Ji ne).trans hn2) ne hr hl (hs u<|KH eu) fun j h3 jo hb3 o3=>?_;exact hN _ _ ⟨hb3,⟨o3.1.trans o'.1,fun m hm=>(o3.2 m hm).trans (o'.2 m hm)⟩,ns++[(j:Int)],by rw [Hl];rfl,by rw [Jt,el];rfl,by rw [Hl,Hl,em,KN,eu,Hl];show _++[nth _ _]=_;rw [Ou<|Int.natCast_nonneg _,Vl,jo];rfl⟩
 ·rintro acc h' ⟨hb',o',ns,rfl,el,em⟩;have aje:ns.length<=24:=by rw [el,DX];exact yR hx
  rfl'
  refine Vr (by rw [DX];show 1+ns.length<=1000;lia) ?_;exact k ns h' (by rw [em,DX,Kl]) hb'<|g2.trans o'.gr
def ok1 (ss:List Str):W->Bool
 | .tup (.str x::ns)=>decide (x∈Ly)&&decide (ns.map (nth ss)=(Em x).map FN)
 | _=>false
def ZS:W->Bool
 | .tup (.str x::_)=>decide (x = "free")
 | _=>false
theorem T5 {ns:List W}(hx:x∈Ly)(e:ns.map (nth ss)=(Em x).map FN):ok1 ss (.tup (.str x::ns))=true:=by
 show (decide (x∈Ly)&&decide (ns.map (nth ss)=(Em x).map FN))=true;rw [decide_eq_true hx,decide_eq_true e];rfl
def Tf:List Str:=["join", "meet", "curve", "about", "pole", "other", "join", "meet", "join", "meet"]
theorem aeU:∀ i:Fin Tf.length,Tf[i]∈Ly:=by decide +kernel
def abE (c0:CP):Prop:=∀ {h:Gh} {b n:Nat} {rws:List W} {fr:Int} {Q:WK} {E:Dm},K1 h b->h.c n=FN (.lst rws)->b≠n->b<h.nx->n<h.nx->(∀ r∈rws,Row r)->rws.length<=23 ->
 ((rws.length:Int)<fr\/∃ r∈rws,JL r = "spot")->(∀ r h',Row r->((rws.length:Int)<fr->JL r = "spot")->ok1 (rws.map JL) r=true->ZS r=decide ((rws.length:Int)<fr)->K1 h' b->Gr b h h'->Q r h')->c0 [.loc b,.loc n,.int fr] h Q E
theorem aaV {c2 c3:CP}(hd:mJ c0)(ha:Q6 c1)(hs:xZ c2)(hp:Cm c3):abE (yM c0 c1 c2 c3):=by
 intro h b n rws fr Q E hb hn ne bl nl hr hl hsp k;unfold yM;rfl'
 refine Ot hs hn hr (by lia) ?_;rfl'
 refine hd hb (by decide) (by unfold Sm;decide) fun d h1 d0 d1 hb1 o1=>?_;obtain ⟨dn,rfl⟩:=Wb d0;have hdn:dn<Tf.length:=by show dn<10;lia
 have hx:Tf[dn]∈Ly:=aeU ⟨dn,hdn⟩;have nf:("free" : Str)∉Tf:=by decide
 generalize ew:Tf[dn]=x at hx;have g1:Gr b h h1:=o1.gr;have hn1:h1.c n=FN (.lst rws):=(o1.2 n (Ji ne)).trans hn;rfl'
 refine bI (ws:=Tf.map W.str) (w:=.str x) rfl (bK (by rw [GP,HD hdn,ew];rfl)) ?_;rfl'
 refine ha hx fun h2 n2=>?_;have nl1:n<h1.nx:=HB nl g1.1;have bl1:b<h1.nx:=HB bl g1.1;have hn2:h2.c n=FN (.lst rws):=(n2.1 n (Gq nl1)).trans hn1;have hb2:K1 h2 b:=n2.bag hb1 bl1;have g2:Gr b h h2:=g1.trans n2.gr;have v2:=dJ hn2;rfl'
 refine Wh (ss:=rws.map JL) (by rw [KC];rfl) (yR hx) fun ls lh ll=>?_;have nl2:n<h2.nx:=HB nl g2.1;have bl2:b<h2.nx:=HB bl g2.1;rfl'
 refine cN v2 ?_;rfl'
 refine su (fun e=>?_)<|fun e=>?_
 ·rfl'
  refine cN v2 ?_;rfl'
  rw [decide_eq_true e];refine Ht (c0:=c0) (c2:=c2) (x := "free") ha hp hb2 hn2 ne bl2 nl2 hr (by lia) (by decide) (fun s hs=>absurd (show s∈([]:List Str) from hs)<|by simp) fun ns h3 eo hb3 g3=>?_;exact k _ _ ⟨"free",ns,by decide,rfl⟩ (fun _=>rfl) (T5 (by decide) eo) (by rw [decide_eq_true e];rfl) hb3<|g2.trans g3
 ·rfl'
  refine su (fun e'=>?_)<|fun e'=>?_
  ·rfl'
   refine cN v2 ?_;rfl'
   rw [decide_eq_false e];refine Ht (c0:=c0) (c2:=c2) (x := "join") ha hp hb2 hn2 ne bl2 nl2 hr (by lia) (by decide) (fun s hs=>?_) fun ns h3 eo hb3 g3=>?_
   ·have es:s = "spot":=by
     have h0:s∈(["spot", "spot"]:List Str):=hs
     simpa using h0
    rw [es];exact hsp.resolve_left e
   ·exact k _ _ ⟨"join",ns,by decide,rfl⟩ (fun z=>absurd z e) (T5 (by decide) eo) (by rw [decide_eq_false e];rfl) hb3<|g2.trans g3
  ·have el:ls=[]:=by
    rw [DX] at e';exact List.length_eq_zero_iff.mp<|by lia
   refine Ht (c0:=c0) (c2:=c2) (x:=x) ha hp hb2 hn2 ne bl2 nl2 hr (by lia) hx (fun s hs=>?_) fun ns h3 eo hb3 g3=>?_
   ·obtain ⟨r,h1,h2⟩:=Hj.mp (lh el s hs);exact ⟨r,h1,h2⟩
   ·exact k _ _ ⟨x,ns,hx,rfl⟩ (fun z=>absurd z e) (T5 hx eo) (by rw [decide_eq_false e];exact decide_eq_false (fun z=>nf<|z ▸ ew ▸ Qm hdn)) hb3<|g2.trans g3
def Gm (c0:CP):Prop:=∀ {h:Gh} {a:Int} {Q:WK} {E:Dm},(∀ h',K1 h' h.nx->h'.nx=h.nx+1->(∀ m,m≠h.nx->h'.c m=h.c m)->Q (.loc h.nx) h')->c0 [.int a] h Q E
theorem V5:Gm JC:=by
 intro h a Q E k;refine And.intro ⟨by decide,by decide,by decide⟩ ?_;refine And.intro (.inr<|.inr ?_) ?_
 ·have g:∀ b:Bool,Sm 64 (if b=true then (1:Int) else 0):=fun b=>by
   cases b
   ·exact Sm.zero
   ·exact .lit rfl
  exact g _
 refine And.intro (show (2147483647:Int)≠0 by decide) ?_;refine k _ ⟨_,_,Ed _ _,?_,?_⟩ rfl fun m hm=>tB hm
 ·rw [eX (by decide)];exact Us _ (by decide)
 ·rw [eX (by decide)];exact Um _ (by decide)
theorem pU {a:List Int}:nH (a.map .int) (a.map .int)=true:=by
 induction a with
 | nil=>rfl
 | cons x a ih=>
  show (Fy (.int x) (.int x)&&nH (a.map .int) (a.map .int))=true;rw [ih,lg,beq_self_eq_true];rfl
theorem Yr {r:W}(hr:Row r):Fy r r=true:=by
 obtain ⟨x,ns,_,rfl⟩:=hr;show (Fy (.str x) (.str x)&&nH (ns.map .int) (ns.map .int))=true;rw [pU,zH,beq_self_eq_true];rfl
theorem agV {r:W}(hr:Row r):Eh (n+2) r=true:=by
 obtain ⟨x,ns,_,rfl⟩:=hr;show ((W.str x::ns.map .int).all (Eh (n+1)))=true;rw [Sh,Nk];refine ⟨rfl,QG.mpr fun w hw=>?_⟩;obtain ⟨y,_,rfl⟩:=Hj.mp hw;rfl
theorem JZ:∀ {rws:List W},(∀ r∈rws,Row r)->nH rws rws=true
 | [],_=>rfl
 | r::rws,h=>by
  show (Fy r r&&nH rws rws)=true;rw [Yr (h r KD),JZ fun r hr=>h r (Jo _ hr)];rfl
theorem Qc {i:Int}(x:Q (.int (if j>i then j else i)) h):Vd [.int i,.int j] h Q:=x
theorem PL {us:List W}(e:h.c n=FN (.lst us))(k:Q (.lst us) h):o8 [.loc n] h Q:=by
 show (match view h (.loc n) with
  | some us=>Q (.lst us) h
  | none=>False)
 rw [dJ e];exact k
theorem Ru {d:Int}(h0:0<=d)(h1:d<(ws.length:Int))(k:∀ w∈ws,Q w h):Cw (.lst ws) (.int d) h Q:=by
 obtain ⟨n,rfl⟩:=Wb h0;have hn:n<ws.length:=by lia
 exact bI (ws:=ws) (w:=ws[n]) rfl (bK<|HD hn)<|k _<|Qm hn
theorem Yu {r:List (Key×ME)}(hm:∀ g R,mDs r Z g R=R ws g)(e:mkD r ws []=kvs)(x:∀ g:Gh,g.c h.nx=FN (.dct kvs)->(∀ m,m≠h.nx->g.c m=h.c m)->g.nx=h.nx+1->Q (.loc h.nx) g):Ii r Z h Q:=by
 unfold Ii;rw [hm,Ed,e];exact x _ (oU _ _ _) (fun m hm=>(jy hm).trans (tB hm)) rfl
theorem yS {kvs':List (Key×W)}{N:Gh->Prop}(e:h.c n=FN (.dct kvs))(hz:kvs.length+1<=1000)(p:J9 kvs (.inr x) w=kvs')(k:∀ g:Gh,g.c n=FN (.dct kvs')->(∀ m,m≠n->g.c m=h.c m)->g.nx=h.nx->N g):qD (.loc n) (.str x) w h N:=by
 show (match h.c n with
  | some (.dct kvs)=>eG (kvs.length+1) (N (h.set n (.dct (J9 kvs (.inr x) w))))
  | _=>False)
 rw [e];dsimp only;rw [p];exact eG.mk (Dk hz (by decide:1000<=FP))<|k _ (oU _ _ _) (fun _ e=>jy e) rfl
theorem Ol (e:h.c n=FN (.dct kvs))(v:mK kvs (.inr x)=FN w)(k:Q w h):Mw (.loc n) (.str x) h Q:=by
 show (match h.c n with
  | some (.dct kvs)=>(match mK kvs (.inr x) with
   | some w=>Q w h
   | none=>False)
  | _=>False)
 rw [e];dsimp only;rw [v];exact k
def cws:List Str:=["same", "on", "row", "bunch", "touch", "parted"]
def Rz (s z x:Str):List Str:=if x = "same" then [s,s] else if x = "on" then ["spot",z] else if x = "row" then ["spot", "spot", "spot"] else if x = "bunch" then ["line", "line", "line"] else if x = "touch" then ["line", "curve"] else ["curve"]
def clT (s z:Str):List (Key×W):=[(.inr "same",.lst [.str s,.str s]),(.inr "row",.lst [.str "spot",.str "spot",.str "spot"]),(.inr "bunch",.lst [.str "line",.str "line",.str "line"]),(.inr "on",.lst [.str "spot",.str z]),(.inr "touch",.lst [.str "line",.str "curve"]),(.inr "parted",.lst [.str "curve"])]
variable {s : Str}
theorem JV {z:Str}(hx:x∈cws):mK (clT s z) (.inr x)=FN (.lst ((Rz s z x).map .str)):=by
 unfold cws at hx;simp only [Ge,M7,or_false] at hx;rcases hx with e | e | e | e | e | e <;> subst e <;> rfl
theorem zG {z:Str}:(Rz s z x).length<=24:=by
 unfold Rz;split
 ·exact Qj rfl
 ·split
  ·exact Qj rfl
  ·split
   ·decide
   ·split
    ·decide
    ·split <;> decide
inductive Du:Str->List Str->Prop
 | same {s:Str}:Du "same" [s,s]
 | onl:Du "on" ["spot", "line"]
 | onc:Du "on" ["spot", "curve"]
 | row:Du "row" ["spot", "spot", "spot"]
 | bunch:Du "bunch" ["line", "line", "line"]
 | touch:Du "touch" ["line", "curve"]
 | parted:Du "parted" ["curve"]
theorem Wc {z:Str}(hx:x∈cws)(hz:z = "line"\/z = "curve"):Du x (Rz s z x):=by
 unfold cws at hx;simp only [Ge,M7,or_false] at hx;rcases hx with e | e | e | e | e | e
 ·subst e;exact .same
 ·subst e;rcases hz with rfl | rfl
  ·exact .onl
  ·exact .onc
 ·subst e;exact .row
 ·subst e;exact .bunch
 ·subst e;exact .touch
 ·subst e;exact .parted
theorem YG {c2:CP}(hp:Cm c2){z:Str}{a2 a4:Option W}{N0 B0 C0:Sw->Gh->Prop}{R0:WK}(hb:K1 h b)(hn:h.c n=FN (.lst rws))(hL:h.c L=FN (.dct (clT s z)))(ne:b≠n)
  (hr:∀ r∈rws,Row r) (hl:rws.length<=24) (hx:x∈cws) (hs:∀ s'∈Rz s z x,∃ r∈rws,JL r=s') (k:∀ (js:List Nat) h',js.map (fun j=>(rws.map JL)[j]?)=(Rz s z x).map FN->K1 h' b->Gr b h h'->R0 (.tup (.str x::js.map fun j:Nat=>W.int (j:Int))) h') :
  kZ c0 c1 c2 E ⟨N0,R0,B0,C0⟩ [FN (.loc b),FN (.loc n),a2,FN (.str x),a4,FN (.loc L)] h:=by
 unfold kZ;rfl'
 refine Ol hL (JV hx) ?_;rfl'
 refine eG.mk (by rw [DX];exact Dk zG (by decide)) ?_;refine dF (fun i acc h'=>K1 h' b/\M8 b h h'/\∃ js:List Nat,acc=(js.map fun j:Nat=>W.int (j:Int))/\js.length=i/\js.map (fun j=>(rws.map JL)[j]?)=((Rz s z x).take i).map FN) ?_ ?_ ⟨hb,⟨rfl,fun _ _=>rfl⟩,[],rfl,rfl,rfl⟩
 ·rintro i w acc h' N hN e ⟨hb',o',js,rfl,el,em⟩;rw [GP] at e;obtain ⟨u,eu,rfl⟩:=N8.mp e;refine ⟨[.str u],rfl,cD<|cj<|aB<|aj<|ak rfl<|aj<|ak rfl<|aj<|ak rfl<|aq ?_ ⟩;refine hp hb' ((o'.2 n<|Ji ne).trans hn) ne hr hl (hs u<|KH eu) fun j h3 jo hb3 o3=>?_;refine hN _ _ ⟨hb3,⟨o3.1.trans o'.1,fun m hm=>(o3.2 m hm).trans (o'.2 m hm)⟩,js++[j],by rw [Hl];rfl,by rw [Jt,el];rfl,?_⟩;rw [Hl,em,KN,eu,Hl];show _++[(rws.map JL)[j]?]=_;rw [jo];rfl
 ·rintro acc h' ⟨hb',o',js,rfl,el,em⟩;rw [DX] at el em;rw [Kl] at em;have aje:js.length<=24:=by rw [el];exact zG
  refine Vr (by rw [DX];show 1+js.length<=1000;lia) ?_;refine aq<|dz ?_
  exact k js h' em hb' o'.gr
def cw8:List Str:=["same", "on", "row", "bunch", "touch", "parted", "row", "on"]
theorem Xh (h:x∈cw8):x∈cws:=by
 unfold cw8 at h;unfold cws;simp only [Ge,M7,or_false] at h |-
 rcases h with e | e | e | e | e | e | e | e <;> simp [e]
def ClX (c0:CP):Prop:=∀ {h:Gh} {b n:Nat} {rws:List W} {Q:WK} {E:Dm},K1 h b->h.c n=FN (.lst rws)->b≠n->b<h.nx->n<h.nx->(∀ r∈rws,Row r)->1<=rws.length->rws.length<=24 ->
 (∀ x due (js:List Nat) h',Du x due->js.map (fun j=>(rws.map JL)[j]?)=due.map FN->K1 h' b->Gr b h h'->Q (.tup (.str x::js.map fun j:Nat=>W.int (j:Int))) h')->c0 [.loc b,.loc n] h Q E
theorem zbs {c2:CP}(hd:mJ c0)(hs:xZ c1)(hp:Cm c2):ClX (qY c0 c1 c2):=by
 intro h b n rws Q E hb hn ne bl nl hr h1 h24 k;unfold qY;rfl'
 refine Ot hs hn hr h24 ?_;rfl'
 refine hd hb (by decide) (by unfold Sm;decide) fun d h1' d0 d1 hb1 o1=>?_;refine Ru (ws:=cw8.map .str) d0 d1 fun w hw=>?_;obtain ⟨x,hx,rfl⟩:=Hj.mp hw;replace hx:=Xh hx;rfl'
 refine hd hb1 (by rw [DX];lia) (by rw [DX];exact CV (by lia) (by lia)) fun e h2 e0 e1 hb2 o2=>?_;refine Ru e0 e1 fun w hw=>?_;obtain ⟨r,hr0,rfl⟩:=Hj.mp hw;generalize es:JL r=s;have g2:Gr b h h2:=o1.gr.trans o2.gr;have hn2:h2.c n=FN (.lst rws):=(g2.2 n nl (Ji ne)).trans hn;have nl2:=HB nl g2.1;have bl2:=HB bl g2.1;rfl'
 refine Yu (ws:=[.lst [.str s,.str s],.lst [.str "spot",.str "spot",.str "spot"],.lst [.str "line",.str "line",.str "line"]]) (kvs:=(clT s s).take 3) (fun g R=>rfl) rfl fun g3 g3c g3o g3n=>?_;have hbt:∀ {ga gb:Gh} {m:Nat},(∀ j,j≠m->gb.c j=ga.c j)->b≠m->K1 ga b->K1 gb b:=fun o nb hb=>by
  obtain ⟨p,q,e,r⟩:=hb;exact ⟨p,q,(o b nb).trans e,r⟩
 have bL:b≠h2.nx:=Gq bl2;have nL:n≠h2.nx:=Gq nl2;have hb3:K1 g3 b:=hbt g3o bL hb2;have hn3:g3.c n=FN (.lst rws):=(g3o n nL).trans hn2;have g3r:Gr b h g3:=g2.trans ⟨by rw [g3n];exact QX _,fun m hm _=>g3o m (Gq hm)⟩;have hLge:h.nx<=h2.nx:=g2.1;generalize h2.nx=L at *;rfl'
 refine hd hb3 (by decide) (by unfold Sm;decide) fun d4 h4 d40 d41 hb4 o4=>?_;have hL4:h4.c L=FN (.dct ((clT s s).take 3)):=(o4.2 L (Ji bL)).trans g3c;have hn4:h4.c n=FN (.lst rws):=(o4.2 n (Ji ne)).trans hn3;have g4r:Gr b h h4:=g3r.trans o4.gr;refine Ru (ws:=[.str "line",.str "curve"]) d40 d41 fun w hw=>?_;obtain ⟨z,hz,rfl⟩:∃ z:Str,(z = "line"\/z = "curve")/\w=.str z:=by
  simp only [Ge,M7,or_false] at hw;rcases hw with rfl | rfl
  ·exact ⟨"line",.inl rfl,rfl⟩
  ·exact ⟨"curve",.inr rfl,rfl⟩
 rfl'
 refine yS hL4 (Qj rfl) (kvs':=(clT s z).take 4) rfl fun g5 g5c g5o g5n=>?_;rfl'
 refine yS g5c (Qj rfl) (kvs':=(clT s z).take 5) rfl fun g6 g6c g6o g6n=>?_;rfl'
 refine yS g6c (Qj rfl) (kvs':=clT s z) rfl fun g7 g7c g7o g7n=>?_;have hb7:K1 g7 b:=hbt g7o bL (hbt g6o bL (hbt g5o bL hb4));have hn7:g7.c n=FN (.lst rws):=(g7o n nL).trans ((g6o n nL).trans ((g5o n nL).trans hn4));have g7r:Gr b h g7:=⟨by rw [g7n,g6n,g5n];exact g4r.1,fun m hm hne=>by
  have ml:m≠L:=Gq (HB hm hLge);exact (g7o m ml).trans ((g6o m ml).trans ((g5o m ml).trans (g4r.2 m hm hne)))⟩
 ·rfl'
  refine Ol g7c (JV hx) ?_;rfl'
  refine Wh (ss:=rws.map JL) (by rw [KC];rfl) zG fun ls lh ll=>?_;rfl'
  rw [DX];refine su (fun e'=>?_)<|fun e'=>?_
  ·rfl'
   refine YG (c0:=c0) (c1:=c1) (x := "same") hp hb7 hn7 g7c ne hr h24 (by decide) (fun s' hs'=>?_) fun js h' em hb' g'=>?_
   ·have h0:s'∈[s,s]:=hs';simp only [Ge,M7,or_false,or_self] at h0;rw [h0];exact ⟨r,hr0,es⟩
   ·exact k _ _ js h' (Wc (s:=s) (z:=z) (by decide) hz) em hb'<|g7r.trans g'
  ·have el:ls=[]:=List.length_eq_zero_iff.mp (by lia);rfl'
   refine YG (c0:=c0) (c1:=c1) (x:=x) hp hb7 hn7 g7c ne hr h24 hx (fun s' hs'=>?_) fun js h' em hb' g'=>?_
   ·obtain ⟨r,h1,h2⟩:=Hj.mp (lh el s' hs');exact ⟨r,h1,h2⟩
   ·exact k _ _ js h' (Wc hx hz) em hb'<|g7r.trans g'
def T9 (L n:Nat)(s:Str)(w:W):Prop:=∃ T:List (List Tm),w=tW T/\T.length=Bw s/\∀ us∈T,Mb L 40 1 n us
def Es (L n:Nat)(rws thg:List W):Prop:=rws.length=thg.length/\∀ (j:Nat) (s:Str),(rws.map JL)[j]?=FN s->∃ w,thg[j]?=FN w/\T9 L n s w
theorem wG {L b p n:Nat}:∀ {T:List (List Tm)},(∀ us∈T,Mb L b p n us)->EL L b p n (T.map fun us xs=>lin (fun q=>mo q xs L) us) T
 | [],_=>.nil
 | us::T,h=>.cons ⟨h us KD,fun _=>rfl⟩ (wG fun u hu=>h u (Jo _ hu))
theorem T9.sp (h:T9 L n s w)(ne:s ≠ "curve"):∃ (f g k:Fn) (x y z:List Tm),w=tW [x,y,z]/\Sp L n f g k x y z:=by
 obtain ⟨T,rfl,lT,mT⟩:=h;unfold Bw at lT;rw [if_neg ne] at lT;have e:=wG mT;match T,lT,e with
 | [x,y,z],_,e=>
  obtain ⟨a,b,c,q,r⟩:=e.e3;cases q;exact ⟨_,_,_,_,_,_,rfl,r⟩
theorem T9.cv (h:T9 L n "curve" w):∃ (f0 f1 f2 f3 f4 f5:Fn) (x0 x1 x2 x3 x4 x5:List Tm),w=tW [x0,x1,x2,x3,x4,x5]/\Cv L n f0 f1 f2 f3 f4 f5 x0 x1 x2 x3 x4 x5:=by
 obtain ⟨T,rfl,lT,mT⟩:=h;have e:=wG mT;match T,lT,e with
 | [x0,x1,x2,x3,x4,x5],_,e=>exact ⟨_,_,_,_,_,_,_,_,_,_,_,_,rfl,e⟩
variable {thg : List W}
theorem adU {r:W}(f:Es L n rws thg)(t:T9 L n (JL r) w):Es L n (rws++[r]) (thg++[w]):=by
 refine ⟨by rw [Jt,Jt,f.1];rfl,fun j s e=>?_⟩;rw [Hl] at e;by_cases hj:j<rws.length
 ·rw [QC (by rw [DX];exact hj)] at e;obtain ⟨u,eu,tu⟩:=f.2 j s e;exact ⟨u,by rw [QC (by rw [<-f.1];exact hj)];exact eu,tu⟩
 ·rw [QD (by rw [DX];lia),DX] at e;have hj':j - rws.length=0:=by
   have:=(Lk.mp e).1
   have h2:j - rws.length<1:=this;lia
  rw [hj'] at e;cases e;refine ⟨w,?_,t⟩;rw [QD (by rw [<-f.1];lia),<-f.1,hj'];rfl
def Rt (ss:List Str)(r:W):Prop:=∃ (x:Str) (js:List Nat),r=.tup (.str x::js.map fun j:Nat=>W.int (j:Int))/\x∈Ly/\x ≠ "free"/\js.map (fun j=>ss[j]?)=(Em x).map FN
theorem Rt.app {tt:List Str}{r:W}(h:Rt ss r):Rt (ss++tt) r:=by
 obtain ⟨x,js,e,hx,hf,em⟩:=h;refine ⟨x,js,e,hx,hf,?_⟩;rw [<-em];refine U9 fun j hj=>?_;have:ss[j]?∈(Em x).map FN:=em ▸ Hj.mpr ⟨j,hj,rfl⟩
 obtain ⟨s,_,es⟩:=Hj.mp this;rw [<-es];rw [QC (Lk.mp es.symm).1];exact es.symm
theorem Qf {ss:List Str}:∀ {ns:List Int} {ls:List Str},(ns.map W.int).map (nth ss)=ls.map FN->∃ js:List Nat,ns.map W.int=js.map (fun j:Nat=>W.int (j:Int))/\js.map (fun j=>ss[j]?)=ls.map FN
 | [],ls,e=>⟨[],rfl,e⟩
 | v::ns,[],e=>by cases e
 | v::ns,s::ls,e=>by
  obtain ⟨js,e1,e2⟩:=Qf (ns:=ns) (ls:=ls) (congrArg List.tail e);have e0:nth ss (.int v)=FN s:=Gz (congrArg (fun l=>l[0]?) e);have hv:0<=v:=Int.not_lt.mp fun z=>by rw [ahY z] at e0;cases e0
  rw [Ou hv] at e0;refine ⟨v.toNat::js,?_,?_⟩
  ·rw [DY,DY,e1,Int.toNat_of_nonneg hv]
  ·rw [DY,DY,e0,e2]
theorem aaf {r:W}(rr:Row r)(h:ok1 ss r=true)(f:ZS r=false):Rt ss r:=by
 obtain ⟨x,ns,hx,rfl⟩:=rr;have h2:(decide (x∈Ly)&&decide ((ns.map W.int).map (nth ss)=(Em x).map FN))=true:=h;rw [Nk,decide_eq_true_iff,decide_eq_true_iff] at h2;obtain ⟨js,e1,e2⟩:=Qf h2.2;exact ⟨x,js,by rw [e1],hx,of_decide_eq_false f,e2⟩
variable {js : List Nat}
theorem jV {a:Str}(h:js.map (fun j=>ss[j]?)=[a].map FN):∃ i,js=[i]/\ss[i]?=FN a:=by
 cases js with
 | nil=>cases h
 | cons i js=>
  cases js with
  | nil=>exact ⟨i,rfl,Gz (congrArg (fun l=>l[0]?) h)⟩
  | cons j js=>exact absurd (congrArg QZ h) (by simp)
theorem iH {a:Str}{ls:List Str}(h:js.map (fun j=>ss[j]?)=(a::ls).map FN):∃ i is,js=i::is/\ss[i]?=FN a/\is.map (fun j=>ss[j]?)=ls.map FN:=by
 cases js with
 | nil=>cases h
 | cons i js=>exact ⟨i,js,rfl,Gz (congrArg (fun l=>l[0]?) h),congrArg List.tail h⟩
theorem ZC (hd:mJ dr)(hL:L<=8)(hZ : jZ ix Z = [FN (.int (L:Int)),FN (.loc b)])(hb:K1 h b)
  (q:∀ (xss:List (List Int)) h',xss.length=3->(∀ xs∈xss,xs.length=L/\Bd xs)->M8 b h h'->Q (.lst (xss.map fun xs=>.tup (xs.map .int))) h') :
  Hi Ib ix (fK (ao (mC (.int 3)) aJ)) jG (Eu dO (ao (Hi Ib [2] (fK (ao (aA 1) aJ)) jG (CG xW (aL dr E (ao (aA 1) (ao (mC (.int 7)) aJ))) (mC (.int 3)))) aJ)) Z h Q:=by
 refine gn<|eU<|aj<|aP<|aq<|oZ (m:=3) (by decide)<|eG.mk (Dk (m:=1000) (by rw [oW];decide)<|by decide) ?_
 refine dF (fun i acc g=>K1 g b/\M8 b h g/\∃ xss:List (List Int),acc=xss.map (fun xs=>.tup<|xs.map .int)/\xss.length=i/\∀ xs∈xss,xs.length=L/\Bd xs) ?_ ?_ ⟨hb,⟨rfl,fun _ _=>rfl⟩,[],rfl,rfl,fun _ z=>nomatch z⟩
 ·rintro i w acc g N hN e ⟨hg,og,xss,rfl,lx,ox⟩;refine ⟨[w],rfl,cD<|cj ?_⟩;rw [hZ];refine bC<|aj<|gn<|eU<|aj<|ak rfl<|aq<|oZ (m:=L) (by lia)<|eG.mk (Dk (m:=1000) (by rw [oW];lia)<|by decide) ?_
  refine dF (fun j acc g2=>K1 g2 b/\M8 b h g2/\∃ xs:List Int,acc=xs.map .int/\xs.length=j/\Bd xs) ?_ ?_ ⟨hg,og,[],rfl,rfl,fun _ z=>nomatch z⟩
  ·rintro j w' acc g2 N2 hN2 e2 ⟨hg2,og2,xs,rfl,lx2,bx⟩;refine ⟨[w'],rfl,cD<|cj<|aG<|aB<|aj<|ak rfl<|aj<|aP<|aq ?_⟩;refine hd hg2 (by decide) (by unfold Sm;decide) fun d g3 d0 d1 hb3 o3=>aP<|oN<|hN2 _ _ ⟨hb3,⟨o3.1.trans og2.1,fun m hm=>(o3.2 m hm).trans (og2.2 m hm)⟩,xs++[d - 3],by rw [Hl];rfl,by simp [lx2],?_⟩
   intro x hx;rcases La.mp hx with hx | hx
   ·exact bx x hx
   ·rw [Kp.mp hx];unfold Sm;refine QK (m:=7) (by lia)<|by decide
  ·rintro acc g2 ⟨hg2,og2,xs,rfl,lx2,bx⟩;rw [oW] at lx2;refine aq<|dz<|hN _ _ ⟨hg2,og2,xss++[xs],by rw [Hl];rfl,by simp [lx],fun ys hy=>?_⟩
   rcases La.mp hy with hy | hy
   ·exact ox ys hy
   ·rw [Kp.mp hy];exact ⟨lx2,bx⟩
 ·rintro acc g ⟨hg,og,xss,rfl,lx,ox⟩;rw [oW] at lx;exact q xss g lx ox og
variable {la : CP}
theorem acJ (hla:AtX la)(hL:L<=8)(hT:T.length<=6)(hm:∀ us∈T,∀ t∈us,t.1.length=L/\Sm 1000 t.2/\Pw t.1)(hx:xs.length=L)(bx:Bd xs)(hZ : jZ ix Z = [FN (.tup (xs.map .int))])(q:Q (.lst (T.map fun us=>.int (lin (fun q=>mo q xs L) us))) h):
  SM Ib ix jG (aL la E (ao (aA 0) (ao (aA 1) aJ))) Z Q ⟨T.map Dj,FX⟩ h:=by
 refine eG.mk (Dk (m:=1000) (by rw [DX];lia)<|by decide) ?_;refine dF (fun i acc g=>g=h/\acc=(T.take i).map fun us=>.int<|lin (fun q=>mo q xs L) us) ?_ ?_ ⟨rfl,rfl⟩
 ·rintro i w acc g N hN e ⟨rfl,rfl⟩;rw [GP] at e;cases qe:T[i]? with
  | none=>rw [qe] at e;cases e
  | some us=>
   rw [qe] at e;cases e;refine ⟨[Dj us],rfl,cD<|cj ?_⟩;rw [hZ];refine aB<|aj<|ak rfl<|aj<|ak rfl<|aq<|hla hL (hm us<|KH qe) hx bx<|hN _ _ ⟨rfl,?_⟩
   rw [KN,qe,Hl,Il];rfl
 ·rintro acc g ⟨rfl,rfl⟩;rw [DX,Kl];exact q
theorem Mb.at (h:Mb L b p n us)(hb:b<=1000)(hp:p<=40):∀ t∈us,t.1.length=L/\Sm 1000 t.2/\Pw t.1:=fun t ht=>by
 obtain ⟨a,_,c,d⟩:=h.2.2 t ht;exact ⟨a,c.mono hb,fun q hq=>by have:=d q hq;lia⟩
theorem EL.mb (e:EL L b p n fs T):∀ us∈T,Mb L b p n us:=fun us hu=>by
 obtain ⟨i,hi,ei⟩:=Wz hu;obtain ⟨f,_,ev⟩:=e.at (i:=i) (us:=us) (by rw [HD hi,ei]);exact ev.1
theorem EL.val (e:EL L b p n fs T)(xs:List Int):(T.map fun us=>W.int (lin (fun q=>mo q xs L) us))=fs.map fun f=>.int (f xs):=by
 induction e with
 | nil=>rfl
 | cons a _ ih=>rw [DY,DY,ih,a.2]
theorem aae:Eh (n+5) (tW T)=true:=by
 have g:∀ us:List Tm,Eh (n+4) (Dj us)=true:=fun us=>by
  show ((us.map Kg).all (Eh (n+3)))=true;refine QG.mpr fun w hw=>?_;obtain ⟨t,_,rfl⟩:=Hj.mp hw;show (([.tup (t.1.map .int),.int t.2]:List W).all (Eh (n+2)))=true;rw [Sh,Sh,List.all_nil,Nk];refine ⟨?_,rfl⟩;show ((t.1.map W.int).all (Eh (n+1)))=true;refine QG.mpr fun w hw=>?_;obtain ⟨y,_,rfl⟩:=Hj.mp hw;rfl
 show ((T.map Dj).all (Eh (n+4)))=true;refine QG.mpr fun w hw=>?_;obtain ⟨us,_,rfl⟩:=Hj.mp hw;exact g us
theorem mO (h:∀ w∈ws,Fy w w=true):nH ws ws=true:=by
 induction ws with
 | nil=>rfl
 | cons w ws ih=>
  show (Fy w w&&nH ws ws)=true;rw [h w KD,ih fun u hu=>h u (Jo _ hu)];rfl
theorem abA:Fy (tW T) (tW T)=true:=by
 refine mO fun w hw=>?_;obtain ⟨us,_,rfl⟩:=Hj.mp hw;refine mO fun w hw=>?_;obtain ⟨t,_,rfl⟩:=Hj.mp hw;refine mO fun w hw=>?_;rw [Ge,Kp] at hw;rcases hw with rfl | rfl
 ·exact pU
 ·rw [lg,beq_self_eq_true]
theorem Cd (f:Es L n rws thg):∀ w∈thg,∃ T,w=tW T:=by
 intro w hw;obtain ⟨j,hj,e⟩:=Wz hw;have hj':j<rws.length:=by rw [f.1];exact hj
 obtain ⟨u,eu,T,tu,_⟩:=f.2 j (JL rws[j]) (by rw [GP,HD hj'];rfl);rw [HD hj,e] at eu;cases eu;exact ⟨T,tu⟩
def atF (fs:List Fn)(i:Nat)(xs:List Int):Int:=match fs[i]? with
 | some f=>f xs
 | none=>0
def swp (fs gs:List Fn)(p:List Nat):Fn:=fun xs=>atF fs (p.getD 0 0) xs*atF gs (p.getD 1 0) xs - atF fs (p.getD 1 0) xs*atF gs (p.getD 0 0) xs
def trF (f1 f2 f3 g1 g2 g3 h1 h2 h3:Fn):Fn:=fun xs=>(f2 xs*g3 xs - f3 xs*g2 xs)*h1 xs+(f3 xs*g1 xs - f1 xs*g3 xs)*h2 xs+(f1 xs*g2 xs - f2 xs*g1 xs)*h3 xs
def toF (f0 f1 f2 f3 f4 f5 j1 j2 j3:Fn):Fn:=fun xs=>
 j1 xs*((2*f2 xs*(2*f5 xs) - f4 xs*f4 xs)*j1 xs+(f4 xs*f3 xs - f1 xs*(2*f5 xs))*j2 xs+(f1 xs*f4 xs - 2*f2 xs*f3 xs)*j3 xs) +
 j2 xs*((f4 xs*f3 xs - 2*f5 xs*f1 xs)*j1 xs+(2*f5 xs*(2*f0 xs) - f3 xs*f3 xs)*j2 xs+(f3 xs*f1 xs - f4 xs*(2*f0 xs))*j3 xs) +
 j3 xs*((f1 xs*f4 xs - f3 xs*(2*f2 xs))*j1 xs+(f3 xs*f1 xs - 2*f0 xs*f4 xs)*j2 xs+(2*f0 xs*(2*f2 xs) - f1 xs*f1 xs)*j3 xs)
inductive Ck (L n:Nat):Str->List Str->List (List (List Tm))->List Fn->Prop
 | same3 {s:Str} {f1 f2 f3 g1 g2 g3:Fn} {x1 x2 x3 y1 y2 y3:List Tm}:s ≠ "curve"->Sp L n f1 f2 f3 x1 x2 x3->Sp L n g1 g2 g3 y1 y2 y3->Ck L n "same" [s,s] [[x1,x2,x3],[y1,y2,y3]] [fun xs=>f2 xs*g3 xs - f3 xs*g2 xs,fun xs=>f3 xs*g1 xs - f1 xs*g3 xs,fun xs=>f1 xs*g2 xs - f2 xs*g1 xs]
 | same6 {fs gs:List Fn} {A B:List (List Tm)}:EL L 40 1 n fs A->EL L 40 1 n gs B->A.length=6->B.length=6->Ck L n "same" ["curve", "curve"] [A,B] ((Gf 6 2).map (swp fs gs))
 | onl {f1 f2 f3 g1 g2 g3:Fn} {x1 x2 x3 y1 y2 y3:List Tm}:Sp L n f1 f2 f3 x1 x2 x3->Sp L n g1 g2 g3 y1 y2 y3->Ck L n "on" ["spot", "line"] [[x1,x2,x3],[y1,y2,y3]] [fun xs=>f1 xs*g1 xs+f2 xs*g2 xs+f3 xs*g3 xs]
 | onc {j1 j2 j3 f0 f1 f2 f3 f4 f5:Fn} {u v w x0 x1 x2 x3 x4 x5:List Tm}:Sp L n j1 j2 j3 u v w->Cv L n f0 f1 f2 f3 f4 f5 x0 x1 x2 x3 x4 x5->Ck L n "on" ["spot", "curve"] [[u,v,w],[x0,x1,x2,x3,x4,x5]] [bo f0 f1 f2 f3 f4 f5 j1 j2 j3 j1 j2 j3]
 | turn {x s:Str} {f1 f2 f3 g1 g2 g3 h1 h2 h3:Fn} {x1 x2 x3 y1 y2 y3 z1 z2 z3:List Tm}:(x = "row"\/x = "bunch")->Sp L n f1 f2 f3 x1 x2 x3->Sp L n g1 g2 g3 y1 y2 y3->Sp L n h1 h2 h3 z1 z2 z3->Ck L n x [s,s,s] [[x1,x2,x3],[y1,y2,y3],[z1,z2,z3]] [trF f1 f2 f3 g1 g2 g3 h1 h2 h3]
 | touch {j1 j2 j3 f0 f1 f2 f3 f4 f5:Fn} {u v w x0 x1 x2 x3 x4 x5:List Tm}:Sp L n j1 j2 j3 u v w->Cv L n f0 f1 f2 f3 f4 f5 x0 x1 x2 x3 x4 x5->Ck L n "touch" ["line", "curve"] [[u,v,w],[x0,x1,x2,x3,x4,x5]] [toF f0 f1 f2 f3 f4 f5 j1 j2 j3]
 | parted {f0 f1 f2 f3 f4 f5:Fn} {x0 x1 x2 x3 x4 x5:List Tm}:Cv L n f0 f1 f2 f3 f4 f5 x0 x1 x2 x3 x4 x5->Ck L n "parted" ["curve"] [[x0,x1,x2,x3,x4,x5]] [trF (fun xs=>2*f0 xs) f1 f3 f1 (fun xs=>2*f2 xs) f4 f3 f4 (fun xs=>2*f5 xs)]
theorem VF (cl:Cl L n):∃ ka kb kc kd,Nm L 41 40 1 1 n n ka/\ka*3<=400/\kb<=600/\KZ L (1+1) (ka*3) kb/\Nm L 40 97 1 (1+1) n kb kc/\kc*3<=400/\kd<=600/\KZ L (1+(1+1)) (kc*3) kd:=by
 rcases cl with ⟨l2,rfl⟩ | ⟨l8,rfl⟩
 ·exact ⟨9,9,16,16,⟨by lia,by decide,by decide,by decide,by decide,by decide,by decide,.box l2 rfl⟩,by decide,by decide,.box l2 rfl,⟨by lia,by decide,by decide,by decide,by decide,by decide,by decide,.box l2 rfl⟩,by decide,by decide,.box l2 rfl⟩
 ·exact ⟨1,3,3,9,⟨by lia,by decide,by decide,by decide,by decide,by decide,by decide,.few rfl⟩,by decide,by decide,.few rfl,⟨by lia,by decide,by decide,by decide,by decide,by decide,by decide,.few rfl⟩,by decide,by decide,.few rfl⟩
theorem Vp {c d:Nat}(cl:Cl L n)(hb:b+c+d+34<=1000):∃ k k2 k3 k4,Nm L b c 1 1 n n k/\k2<=600/\KZ L (1+1) (k+k) k2/\Nm L (b+c+14) d (1+1) 1 k2 n k3/\k3*3<=400/\k4<=64/\KZ L (1+1+1) (k3*3) k4:=by
 rcases cl with ⟨l2,rfl⟩ | ⟨l8,rfl⟩
 ·exact ⟨9,9,16,16,⟨by lia,by lia,by decide,by decide,by decide,by decide,by decide,.box l2 rfl⟩,by decide,.box l2 rfl,⟨by lia,by lia,by decide,by decide,by decide,by decide,by decide,.box l2 rfl⟩,by decide,by decide,.box l2 rfl⟩
 ·exact ⟨1,2,2,6,⟨by lia,by lia,by decide,by decide,by decide,by decide,by decide,.few rfl⟩,by decide,.few rfl,⟨by lia,by lia,by decide,by decide,by decide,by decide,by decide,.few rfl⟩,by decide,by decide,.few rfl⟩
theorem abt (cl:Cl L n):∃ k k2 ke kf kg kh,Nm L 41 41 1 1 n n k/\k2<=600/\KZ L (1+1) (k+k) k2/\Nm L 96 40 (1+1) 1 k2 n ke/\ke*3<=400/\kf<=600/\KZ L (1+1+1) (ke*3) kf/\Nm L 40 152 1 (1+1+1) n kf kg/\kg*3<=400/\kh<=600/\KZ L (1+(1+1+1)) (kg*3) kh:=by
 rcases cl with ⟨l2,rfl⟩ | ⟨l8,rfl⟩
 ·exact ⟨9,9,16,16,25,25,⟨by lia,by lia,by decide,by decide,by decide,by decide,by decide,.box l2 rfl⟩,by decide,.box l2 rfl,⟨by lia,by lia,by decide,by decide,by decide,by decide,by decide,.box l2 rfl⟩,by decide,by decide,.box l2 rfl,⟨by lia,by lia,by decide,by decide,by decide,by decide,by decide,.box l2 rfl⟩,by decide,by decide,.box l2 rfl⟩
 ·exact ⟨1,2,2,6,6,18,⟨by lia,by lia,by decide,by decide,by decide,by decide,by decide,.few rfl⟩,by decide,.few rfl,⟨by lia,by lia,by decide,by decide,by decide,by decide,by decide,.few rfl⟩,by decide,by decide,.few rfl,⟨by lia,by lia,by decide,by decide,by decide,by decide,by decide,.few rfl⟩,by decide,by decide,.few rfl⟩
theorem Ln (cl:Cl L n):n<=400:=by rcases cl with ⟨_,rfl⟩ | ⟨_,rfl⟩ <;> decide
def abh (c0:CP):Prop:=∀ {h:Gh} {rws thg:List W} {k i0 i1 i2:Nat} {f0 f1 f2 f3 f4 f5 j1 j2 j3:Fn} {x0 x1 x2 x3 x4 x5 u v w:List Tm} {L n:Nat} {Q:WK} {E:Dm},rws[k]?=FN (.tup [.str "other",.int (i0:Int),.int (i1:Int),.int (i2:Int)])->thg[i0]?=FN (tW [x0,x1,x2,x3,x4,x5])->thg[i1]?=FN (tW [u,v,w])->Cl L n ->
 Cv L n f0 f1 f2 f3 f4 f5 x0 x1 x2 x3 x4 x5->Sp L n j1 j2 j3 u v w->(∀ r,Ev L 1000 40 600 (bo f0 f1 f2 f3 f4 f5 j1 j2 j3 j1 j2 j3) r->Q (Dj r) h)->c0 [.lst rws,.lst thg,.int (k:Int)] h Q E
theorem aat {ta bo':CP}(hta:TaE ta)(hbo:BoE bo'):abh (Ri ta bo'):=by
 intro h rws thg k i0 i1 i2 f0 f1 f2 f3 f4 f5 j1 j2 j3 x0 x1 x2 x3 x4 x5 u v w L n Q E ek e0 e1 cl ec ej q';obtain ⟨ka,kb,kc,kd,N1,a1,a2,a3,N2,a4,a5,a6⟩:=VF cl;unfold Ri;refine cT rfl (Z:=[FN<|.lst rws,FN<|.lst thg,FN<|.int (k:Int),FX]) rfl<|aH<|aQ<|aG<|ak rfl<|aG<|aG<|ak rfl<|ak rfl<|bI (ws:=rws) rfl (bK ek)<|aP<|bI (ws:=[.str "other",.int (i0:Int),.int (i1:Int),.int (i2:Int)]) (w:=.int (i1:Int)) rfl rfl<|bI (ws:=thg) rfl (bK e1) ?_
 refine gw (Z':=[FN<|.lst rws,FN<|.lst thg,FN<|.int (k:Int),FN<|tW [u,v,w]]) rfl<|bB<|aU<|aB<|aj<|aB<|aj<|aG<|ak rfl<|aG<|aG<|ak rfl<|ak rfl<|bI (ws:=rws) rfl (bK ek)<|aP<|bI (ws:=[.str "other",.int (i0:Int),.int (i1:Int),.int (i2:Int)]) (w:=.int (i0:Int)) rfl rfl<|bI (ws:=thg) rfl (bK e0)<|aq ?_
 refine hta (by decide) (Ln cl) ec fun a d g b1 b2 b3=>aj<|ak rfl<|aj<|ak rfl<|aq ?_
 exact hbo N1 a1 a2 a3 N2 a4 a5 a6 b1 b2 b3 ej ej fun r er=>fY<|q' r<|er.le (by decide) (by decide) a5
def SaE (c0:CP):Prop:=∀ {h:Gh} {A B:List (List Tm)} {s:Str} {fs:List Fn} {L n:Nat} {Q:WK} {E:Dm},Cl L n->Ck L n "same" [s,s] [A,B] fs->(∀ R,EL L 1000 40 600 fs R->Q (.lst (R.map Dj)) h)->c0 [tW A,tW B] h Q E
theorem Xy:∀ p∈Gf 6 2,∃ i j,p=[i,j]/\i<6/\j<6:=by
 intro p hp;have e:Gf 6 2=[[0,1],[0,2],[0,3],[0,4],[0,5],[1,2],[1,3],[1,4],[1,5],[2,3],[2,4],[2,5],[3,4],[3,5],[4,5]]:=by decide
 rw [e] at hp;simp only [Ge,M7,or_false] at hp;rcases hp with rfl | rfl | rfl | rfl | rfl | rfl | rfl | rfl | rfl | rfl | rfl | rfl | rfl | rfl | rfl <;> exact ⟨_,_,rfl,by decide,by decide⟩
theorem EL.atF {L b p n:Nat}{fs:List Fn}{T:List (List Tm)}(e:EL L b p n fs T){i:Nat}(h:i<T.length):∃ us,T[i]?=FN us/\Ev L b p n (My.atF fs i) us:=by
 obtain ⟨f,ef,ev⟩:=e.at (HD h);refine ⟨_,HD h,ev.eq fun xs=>?_⟩;unfold My.atF;rw [ef]
theorem agZ {ri ls:CP}(hri:Jj ri)(hls:LsE ls)(hcr:CrE cr):SaE (kY ri ls cr):=by
 intro h A B s fs L n Q E cl ck q';obtain ⟨ka,N1,k3,kb,hkb,cap,_⟩:=Xv cl (b:=40) (c:=40) (by decide);unfold kY;cases ck with
 | same3 hs a1 a2=>
  refine cT rfl (Z:=[FN<|tW _,FN<|tW _]) rfl<|aH<|bw<|aV<|aG<|bC<|aj<|ak rfl<|aq<|cN rfl<|aP<|mY<|gW<|Cy rfl ?_
  refine aU<|bC<|aj<|aB<|aj<|ak rfl<|aj<|ak rfl<|aq ?_
  exact hcr N1 hkb cap a1 a2 fun r1 r2 r3 er=>aq<|fY<|q' [r1,r2,r3]<|er.l.le (by decide) (by decide) hkb
 | @same6 fa fb _ _ ea eb lA lB=>
  refine cT rfl (Z:=[FN<|tW A,FN<|tW B]) rfl<|aH<|bw<|aV<|aG<|bC<|aj<|ak rfl<|aq<|cN (xs:=A.map Dj) rfl<|aP<|mY<|gW<|iT (decide_eq_false (by rw [DX,lA];decide))<|aW<|bB ?_
  unfold mF;refine aU<|gn<|eZ<|aB<|aj<|bC<|aj<|ak rfl<|aq<|cN (xs:=A.map Dj) rfl<|aj<|aP<|aq ?_
  rw [DX,lA];refine hri (m:=6) (k:=2) (by decide) (by decide)<|pL (ws:=(Gf 6 2).map sy) (o:=FX) rfl<|eG.mk (Dk (m:=1000) (by rw [DX];decide)<|by decide) ?_
  refine dF (fun i acc g=>g=h/\∃ R,acc=R.map Dj/\EL L 1000 40 600 (((Gf 6 2).take i).map (swp fa fb)) R) ?_ ?_ ⟨rfl,[],rfl,.nil⟩
  ·rintro i w acc g N hN e ⟨rfl,R,rfl,er⟩;rw [GP] at e;obtain ⟨p,ep,rfl⟩:=N8.mp e;obtain ⟨i0,j0,rfl,hi,hj⟩:=Xy p (KH ep);refine ⟨[sy [i0,j0]],rfl,cD<|cj<|aB<|aj<|ak rfl<|aj<|ak rfl<|aj<|aG<|ak rfl<|aP<|bI (ws:=[.int (i0:Int),.int (j0:Int)]) (w:=.int (i0:Int)) rfl rfl<|aj<|aG<|ak rfl<|aP<|bI (ws:=[.int (i0:Int),.int (j0:Int)]) (w:=.int (j0:Int)) rfl rfl<|aq ?_⟩;obtain ⟨u1,e1,v1⟩:=ea.atF (i:=i0) (by lia);obtain ⟨u2,e2,v2⟩:=ea.atF (i:=j0) (by lia);obtain ⟨u3,e3,v3⟩:=eb.atF (i:=j0) (by lia);obtain ⟨u4,e4,v4⟩:=eb.atF (i:=i0) (by lia);refine hls N1 hkb cap e1 e2 e3 e4 v1 v2 v3 v4 fun rs ers=>hN _ _ ⟨rfl,R++[rs],by rw [Hl];rfl,?_⟩;rw [KN,ep,Hl];exact er.snoc<|ers.le (by decide) (by decide) hkb
  ·rintro acc g ⟨rfl,R,rfl,er⟩;rw [DX,Kl] at er;exact fY<|q' R er
def OnE (c0:CP):Prop:=∀ {h:Gh} {rws:List W} {j0 j1:Nat} {s:Str} {ws:List (List (List Tm))} {fs:List Fn} {L n:Nat} {Q:WK} {E:Dm},(∀ r∈rws,Row r)->(rws.map JL)[j1]?=FN s->Cl L n->Ck L n "on" ["spot",s] ws fs->(∀ R,EL L 1000 40 600 fs [R]->Q (Dj R) h)->c0 [.lst rws,.tup [.str "on",.int (j0:Int),.int (j1:Int)],.lst (ws.map tW)] h Q E
theorem zbO {so ta bo':CP}(hso:aci so)(hdt:DoE dt)(hta:TaE ta)(hbo:BoE bo'):OnE (uY so dt ta bo'):=by
 intro h rws j0 j1 s ws fs L n Q E hr es cl ck q';rw [GP] at es;obtain ⟨r,er,es⟩:=N8.mp es;unfold uY;refine cT rfl (Z:=[FN<|.lst rws,FN<|.tup [.str "on",.int (j0:Int),.int (j1:Int)],FN<|.lst<|ws.map tW]) rfl<|aH<|bw<|aV<|aG<|aB<|aj<|ak rfl<|aj<|aG<|ak rfl<|aP<|bI (ws:=[.str "on",.int (j0:Int),.int (j1:Int)]) (w:=.int (j1:Int)) rfl rfl<|aq ?_
 refine hso (rws:=rws) rfl er (hr r<|KH er)<|aP<|oR<|gW ?_
 rw [es];cases ck with
 | onl a1 a2=>
  obtain ⟨ka,N1,k3,kb,hkb,_,cap⟩:=Xv cl (b:=40) (c:=40) (by decide);refine Cy (by decide)<|aU<|aB<|aj<|aG<|ak rfl<|aP<|xU (i:=0) rfl<|aj<|aG<|ak rfl<|aP<|xU (i:=1) rfl<|aq ?_
  exact hdt N1 k3 hkb cap a1 a2 fun r er=>fY<|q' r<|.cons (er.le (by decide) (by decide) hkb) .nil
 | onc a1 a2=>
  obtain ⟨ka,kb,kc,kd,N1,b1,b2,b3,N2,b4,b5,b6⟩:=VF cl;refine iT (by decide)<|aW<|bB ?_
  unfold sZ;refine aU<|aB<|aj<|aB<|aj<|aG<|ak rfl<|aP<|xU (i:=1) rfl<|aq ?_
  refine hta (by decide) (Ln cl) a2 fun a d g c1 c2 c3=>aj<|aG<|ak rfl<|aP<|xU (i:=0) rfl<|aj<|aG<|ak rfl<|aP<|xU (i:=0) rfl<|aq ?_
  exact hbo N1 b1 b2 b3 N2 b4 b5 b6 c1 c2 c3 a1 a1 fun r er=>fY<|q' r<|.cons (er.le (by decide) (by decide) b5) .nil
abbrev ab (i:Int):Int:=if i<0 then -i else i
theorem Gg (i:Int):ab (-i)=ab i:=by
 unfold ab;split <;> split <;> lia
theorem O5 {h':Gh}(keep:∀ n,n<h.nx->h'.c n=h.c n)(q:Q (.lst (ns.map .int)) h):j6 true h (.lst (ns.map .int)) h' Q:=
 ⟨fun n c hn e=>by rw [keep n hn];exact e,.inl ⟨by rw [Lo];exact tH _ _,q⟩⟩
def abS (c0:CP):Prop:=∀ {h:Gh} {w0:W} {tl:List W} {x:Str} {due:List Str} {ws:List (List (List Tm))} {fs:List Fn} {L n:Nat} {zs:List Int} {Q:WK} {E:Dm},Cl L n->Ck L n x due ws fs->Bd zs->L<=8 ->
 (∀ ms:List Int,ms.Perm (fs.map fun f=>ab (f zs))->ms.Pairwise (·<=·)->Q (.lst (ms.map .int)) h)->c0 [w0,.lst (ws.map (vW zs L)),.tup (.str x::tl)] h Q E
def prs:Nat->List (Nat×Nat)
 | 0=>[]
 | i+1=>prs i++(Ma i).map fun j=>(i,j)
def Nb (v:List Int)(i:Nat):Int:=v.getD i 0
def pG (a b:List Int)(p:Nat×Nat):Int:=ab (Nb a p.1*Nb b p.2 - Nb a p.2*Nb b p.1)
theorem Zh {v:List Int}(hi:i<v.length)(x:Q (.int (Nb v i)) h):Cw (.tup (v.map .int)) (.int (i:Int)) h Q:=
 bI (ws:=v.map .int) (w:=.int (Nb v i)) rfl (bK (by rw [GP,HD hi];unfold Nb;rw [MF,HD hi];rfl)) x
theorem z6 {v:List Int}(h:∀ x∈v,Sm m x):Sm m (Nb v i):=by
 unfold Nb;rw [MF];cases e:v[i]? with
 | none=>exact Tc (by decide)
 | some x=>exact h x (KH e)
theorem G7:∀ m,m<=6->(prs m).length<=15:=by decide
variable {tm : CP}
theorem JW {tu ro:CP}{w0:W}{tl:List W}{a b:List Int}(ha:∀ x∈a,Sm 20000 x)(hb:∀ x∈b,Sm 20000 x)(la:a.length<=6)(lb:b.length=a.length)
  (q:∀ ms:List Int,ms.Perm ((prs a.length).map (pG a b))->ms.Pairwise (·<=·)->Q (.lst (ms.map .int)) h):cA cr dt tu ro tm [w0,.lst [.tup (a.map .int),.tup (b.map .int)],.tup (.str "same"::tl)] h Q E:=by
 unfold cA;refine iW rfl (Z:=[FN w0,FN<|.lst [.tup<|a.map .int,.tup<|b.map .int],FN<|.tup (.str "same"::tl),FX,FX,FX,FX,FX,FX,FX]) rfl ?_;refine aH<|bw<|aV<|aG<|aG<|ak rfl<|aP<|bI (ws:=.str "same"::tl) rfl Io<|aP<|oR<|gW<|Cy (by decide) ?_
 refine aH<|aQ<|ak rfl<|Ew rfl rfl<|cO<|gw (Z':=[FN w0,FN<|.lst [.tup<|a.map .int,.tup<|b.map .int],FN<|.tup (.str "same"::tl),FN<|.tup<|a.map .int,FX,FX,FX,FX,FX,FX]) rfl<|cO<|gw (Z':=[FN w0,FN<|.lst [.tup<|a.map .int,.tup<|b.map .int],FN<|.tup (.str "same"::tl),FN<|.tup<|a.map .int,FN<|.tup<|b.map .int,FX,FX,FX,FX,FX]) rfl<|mz<|bB ?_
 refine aH<|aQ<|mW (ws:=[]) (fun R=>rfl) rfl fun g eg og xg=>?_
 refine nV<|bB ?_
 refine aH<|dN<|eU<|aj<|bC<|aj<|ak rfl<|aq<|cN (xs:=a.map .int) rfl<|aq ?_
 rw [DX];refine oZ (m:=a.length) (by lia)<|dR ?_
 refine bW (fun i Z g'=>(∃ s6 s7:Option W,Z = [FN w0,FN<|.lst [.tup<|a.map .int,.tup<|b.map .int],FN<|.tup (.str "same"::tl),FN<|.tup<|a.map .int,FN<|.tup<|b.map .int,FN<|.loc h.nx,s6,s7,FX,FX])/\g'.c h.nx=FN (.lst<|((prs i).map (pG a b)).map .int)/\∀ n,n≠h.nx->g'.c n=h.c n) ?_ ?_ ⟨⟨FX,FX,rfl⟩,eg,og⟩
 ·rintro i w Z g' N hN e ⟨⟨s6,s7,rfl⟩,eg',og'⟩;rw [GP] at e;obtain ⟨x,ex,rfl⟩:=N8.mp e;have e0:=(eO ex).1;have hx:=(eO ex).2;rw [VJ] at e0;subst e0;refine nV ?_;refine dN<|eU<|aj<|ak rfl<|aq<|oZ (m:=x) (by lia)<|dR ?_
  refine bW (fun j Z g2=>(∃ s7:Option W,Z = [FN w0,FN<|.lst [.tup<|a.map .int,.tup<|b.map .int],FN<|.tup (.str "same"::tl),FN<|.tup<|a.map .int,FN<|.tup<|b.map .int,FN<|.loc h.nx,FN<|.int (x:Int),s7,FX,FX])/\g2.c h.nx=FN (.lst<|((prs x++(Ma j).map fun j=>(x,j)).map (pG a b)).map .int)/\∀ n,n≠h.nx->g2.c n=h.c n) ?_ ?_ ⟨⟨s7,rfl⟩,by rw [List.range_zero,KJ,Rr];exact eg',og'⟩
  ·rintro j w Z g2 N2 hN2 e2 ⟨⟨s7,rfl⟩,eg2,og2⟩;rw [GP] at e2;obtain ⟨y,ey,rfl⟩:=N8.mp e2;have e0:=(eO ey).1;have hy:=(eO ey).2;rw [VJ] at e0;subst e0;refine nV ?_;refine iy<|qb<|ak rfl<|kO eg2<|aj<|bC<|aj<|aG<|aG<|aG<|ak rfl<|ak rfl<|Zh (by lia) ?_
   refine aG<|ak rfl<|ak rfl<|Zh (by lia)<|jP (.of (z6 ha) (z6 hb) (by decide)<|by decide) ?_
   refine aG<|aG<|ak rfl<|ak rfl<|Zh (by lia) ?_
   refine aG<|ak rfl<|ak rfl<|Zh (by lia)<|jP (.of (z6 ha) (z6 hb) (by decide)<|by decide)<|oN<|aq<|oJ<|aq ?_
   have l1:=G7 x (by lia);refine Dl eg2 (by rw [DX,DX,Jt,DX,List.length_range];lia) fun g3 a1 a2 a3=>bB<|hN2 _ _ ⟨⟨_,rfl⟩,?_,fun n hn=>(a2 n hn).trans (og2 n hn)⟩
   rw [a1,List.range_succ];simp only [Hl,QJ];rfl
  ·rintro Z g2 ⟨⟨s7,rfl⟩,eg2,og2⟩;rw [oW] at eg2;exact hN _ _ ⟨⟨_,_,rfl⟩,eg2,og2⟩
 ·rintro Z g' ⟨⟨s6,s7,rfl⟩,eg',og'⟩;rw [oW] at eg';have l1:=G7 a.length la;refine bB<|aU<|bC<|aj<|ak rfl<|aq ?_
  show (match dM g' (.loc h.nx) with
   | some us=>_
   | none=>False)
  rw [qL eg'];exact ⟨(prs a.length).map (pG a b),rfl,by rw [DX];lia,fun ms pm pw=>fY<|O5 (fun n hn=>og' n<|Gq hn)<|q ms pm pw⟩
theorem Mg (e:EL L b p n fs A)(zs:List Int):vW zs L A=.tup ((fs.map fun f=>f zs).map .int):=by
 show W.tup (A.map fun us=>.int (lin (fun q=>mo q zs L) us))=_;rw [e.val zs,KC];rfl
theorem BP:Nb (fs.map fun f=>f zs) i=atF fs i zs:=by
 unfold Nb atF;rw [MF,GP];cases fs[i]? <;> rfl
theorem aa6 {a b:List Int}{j:Nat}:ab (Nb a i*Nb b j - Nb a j*Nb b i)=pG a b (j,i):=by
 unfold pG;rw [<-Gg];congr 1
 rw [Int.neg_sub]
theorem zbo:((Gf 6 2).map fun p=>(p.getD 1 0,p.getD 0 0)).Perm (prs 6):=by decide
theorem EL.sms (e:EL L 40 1 n fs A)(hn:n<=64)(bx:Bd zs)(hL:L<=8):∀ x∈fs.map fun f=>f zs,Sm 20000 x:=by
 induction e with
 | nil=>intro x hx;simp at hx
 | cons a _ ih=>
  intro x hx;rcases Ge.mp hx with rfl | hx
  ·exact a.sm hn bx hL
  ·exact ih x hx
theorem Fp {a1 a2 a3 b1 b2 b3:Int}(h1:Sm 20002 a1)(h2:Sm 20002 a2)(h3:Sm 20002 a3)(g1:Sm 20002 b1)(g2:Sm 20002 b2)(g3:Sm 20002 b3):Sm 50000 (a2*b3 - a3*b2)/\Sm 50000 (a3*b1 - a1*b3)/\Sm 50000 (a1*b2 - a2*b1):=⟨(Uz h2 g3 h3 g2).mono (by decide),(Uz h3 g1 h1 g3).mono (by decide),(Uz h1 g2 h2 g1).mono (by decide)⟩
theorem cq {y:Str}{tl:List W}{Q:Bool->Gh->Prop}(hv:Z[2]?=FN (FN (.tup (.str x::tl))))(z:Q (decide (x=y)) h):bG (CG Jd (CG Cw (aA 2) (mC (.int 0))) (mC (.str y))) Z h Q:=aV (aG (aG (ak hv (aP (bI (ws:=.str x::tl) rfl Io (aP (oR (gW z))))))))
theorem zaO {tu ro:CP}(hcr:CrI cr)(hdt:DoI dt)(htu:TuI tu)(hro:RoI ro)(htm:TmI tm):abS (cA cr dt tu ro tm):=by
 intro h w0 tl x due ws fs L n zs Q E cl ck bx hL q;have n4:n<=64:=by rcases cl with ⟨_,rfl⟩ | ⟨_,rfl⟩ <;> decide
 have ex:∀ {v:Int} {g:Gh},(fs.map fun f=>ab (f zs))=[ab v]->g=h->j6 true h (.lst [.int (ab v)]) g Q:=fun {v g} e eg=>by
  subst eg;exact O5 (ns:=[ab v]) (fun _ _=>rfl)<|q [ab v] (by rw [e])<|List.pairwise_singleton _ _
 have up:∀ {i:Int},Sm 20000 i->Sm 20002 i:=fun h=>h.mono (by decide)
 cases ck with
 | @same3 s f1 f2 f3 g1 g2 g3 x1 x2 x3 y1 y2 y3 hs a1 a2=>
  have e:([[x1,x2,x3],[y1,y2,y3]].map (vW zs L))=[.tup (([f1,f2,f3].map fun f=>f zs).map .int),.tup (([g1,g2,g3].map fun f=>f zs).map .int)]:=by
   rw [DY,DY,KJ,Mg a1.l zs,Mg a2.l zs]
  rw [e];refine JW (a1.l.sms n4 bx hL) (a2.l.sms n4 bx hL) (Qj rfl) rfl fun ms pm pw=>q ms (pm.trans ?_) pw;have r:([fun xs=>f2 xs*g3 xs - f3 xs*g2 xs,fun xs=>f3 xs*g1 xs - f1 xs*g3 xs,fun xs=>f1 xs*g2 xs - f2 xs*g1 xs].map fun f:Fn=>ab (f zs))=((prs 3).map (pG ([f1,f2,f3].map fun f=>f zs) ([g1,g2,g3].map fun f=>f zs))).reverse:=by
   show [ab (f2 zs*g3 zs - f3 zs*g2 zs),ab (f3 zs*g1 zs - f1 zs*g3 zs),ab (f1 zs*g2 zs - f2 zs*g1 zs)]=[ab (f3 zs*g2 zs - f2 zs*g3 zs),ab (f3 zs*g1 zs - f1 zs*g3 zs),ab (f2 zs*g1 zs - f1 zs*g2 zs)];rw [<-Gg (f2 zs*g3 zs - f3 zs*g2 zs),<-Gg (f1 zs*g2 zs - f2 zs*g1 zs),Int.neg_sub,Int.neg_sub]
  rw [r];exact (List.reverse_perm _).symm
 | @same6 fa fb A B ea eb lA lB=>
  have e:([A,B].map (vW zs L))=[.tup ((fa.map fun f=>f zs).map .int),.tup ((fb.map fun f=>f zs).map .int)]:=by
   rw [DY,DY,KJ,Mg ea zs,Mg eb zs]
  rw [e];have l1:(fa.map fun f=>f zs).length=6:=by rw [DX,ea.length,lA]
  have l2:(fb.map fun f=>f zs).length=6:=by rw [DX,eb.length,lB]
  refine JW (ea.sms n4 bx hL) (eb.sms n4 bx hL) (by lia) (by lia) fun ms pm pw=>q ms (pm.trans ?_) pw;rw [l1,KC];have r:((Gf 6 2).map ((fun f:Fn=>ab (f zs)) ∘ swp fa fb))=((Gf 6 2).map fun p=>(p.getD 1 0,p.getD 0 0)).map (pG (fa.map fun f=>f zs) (fb.map fun f=>f zs)):=by
   rw [KC];refine U9 fun p _=>?_;show ab (atF fa (p.getD 0 0) zs*atF fb (p.getD 1 0) zs - atF fa (p.getD 1 0) zs*atF fb (p.getD 0 0) zs)=pG _ _ (p.getD 1 0,p.getD 0 0);rw [<-aa6,BP,BP,BP,BP]
  rw [r];exact (zbo.map _).symm
 | onl a1 a2=>
  unfold cA;refine iW rfl (Z:=[FN w0,FN<|.lst _,FN<|.tup (.str "on"::tl),FX,FX,FX,FX,FX,FX,FX]) rfl ?_;refine aH<|bw<|cq rfl<|iT (by decide)<|aW<|bB ?_
  unfold cQ;refine aH<|bw<|mQ<|cq rfl<|Cy (by decide) ?_
  refine aV<|aG<|bC<|aj<|aG<|ak rfl<|aP<|wU (i:=1) rfl (Bf a2 zs)<|aq<|cN rfl<|aP<|mY<|gW<|Cy rfl ?_
  refine aU<|cZ<|aj<|bC<|aj<|aB<|aj<|aG<|ak rfl<|aP<|wU (i:=0) rfl (Bf a1 zs) ?_
  refine aj<|aG<|ak rfl<|aP<|wU (i:=1) rfl (Bf a2 zs)<|aq ?_
  exact hdt (m:=20000) (k:=20000) (by decide) (by decide) (a1.x1.sm n4 bx hL) (a1.x2.sm n4 bx hL) (a1.x3.sm n4 bx hL) (a2.x1.sm n4 bx hL) (a2.x2.sm n4 bx hL) (a2.x3.sm n4 bx hL)<|aq<|oJ<|aq<|aZ rfl<|fY<|ex rfl rfl
 | onc a1 a2=>
  obtain ⟨ev,s0,s1,s2,s3,s4,s5⟩:=Y8 a2 zs n4 bx hL;have j1:=a1.x1.sm n4 bx hL;have j2:=a1.x2.sm n4 bx hL;have j3:=a1.x3.sm n4 bx hL;unfold cA;refine iW rfl (Z:=[FN w0,FN<|.lst _,FN<|.tup (.str "on"::tl),FX,FX,FX,FX,FX,FX,FX]) rfl ?_;refine aH<|bw<|cq rfl<|iT (by decide)<|aW<|bB ?_
  unfold cQ;refine aH<|bw<|mQ<|cq rfl<|Cy (by decide) ?_
  refine aV<|aG<|bC<|aj<|aG<|ak rfl<|aP<|wU (i:=1) rfl ev<|aq<|cN rfl<|aP<|mY<|gW<|iT rfl<|aW<|bB ?_
  unfold dG;refine aH<|bw<|cq rfl<|Cy (by decide) ?_
  refine aU<|cZ<|aj<|bC<|aj<|aB<|aj<|aG<|ak rfl<|aP<|wU (i:=0) rfl (Bf a1 zs) ?_
  refine aj<|aB<|aj<|aG<|ak rfl<|aP<|wU (i:=1) rfl ev<|aj<|aG<|ak rfl<|aP<|wU (i:=0) rfl (Bf a1 zs)<|aq ?_
  refine htm (m:=20000) (by decide) s0 s1 s2 s3 s4 s5 j1 j2 j3<|aq ?_
  exact hdt (m:=20000) (k:=60000) (by decide) (by decide) j1 j2 j3 ((Mr (fC s0) (up s1) (up s3) j1 j2 j3).mono (by decide)) ((Mr (up s1) (fC s2) (up s4) j1 j2 j3).mono (by decide)) ((Mr (up s3) (up s4) (fC s5) j1 j2 j3).mono (by decide))<|aq<|oJ<|aq<|aZ rfl<|fY<|ex rfl rfl
 | @turn _ s f1 f2 f3 g1 g2 g3 h1 h2 h3 x1 x2 x3 y1 y2 y3 z1 z2 z3 hx a1 a2 a3=>
  have c1:x ≠ "same":=by rcases hx with rfl | rfl <;> decide
  have c2:x ≠ "on":=by rcases hx with rfl | rfl <;> decide
  unfold cA;refine iW rfl (Z:=[FN w0,FN<|.lst _,FN<|.tup (.str x::tl),FX,FX,FX,FX,FX,FX,FX]) rfl ?_;refine aH<|bw<|cq rfl<|iT (decide_eq_false c1)<|aW<|bB ?_
  unfold cQ;refine aH<|bw<|mQ<|cq rfl<|iT (decide_eq_false c2)<|eV<|aW<|bB ?_
  unfold dG;refine aH<|bw<|cq rfl<|iT (decide_eq_false c2)<|aW<|bB ?_
  unfold eY;have fin:∀ D:bO,D.rt=(fun w h'=>j6 true h w h' Q)->cC (fW (ao (Eu yL (ao (aL tu E (ao (CG Cw (aA 1) (mC (.int 0))) (ao (CG Cw (aA 1) (mC (.int 1))) (ao (CG Cw (aA 1) (mC (.int 2))) aJ)))) aJ)) aJ)) D [FN w0,FN (.lst ([[x1,x2,x3],[y1,y2,y3],[z1,z2,z3]].map (vW zs L))),FN (.tup (.str x::tl)),FX,FX,FX,FX,FX,FX,FX] h:=fun D eD=>by
   refine aU<|cZ<|aj<|bC<|aj<|aB<|aj<|aG<|ak rfl<|aP<|wU (i:=0) rfl (Bf a1 zs) ?_
   refine aj<|aG<|ak rfl<|aP<|wU (i:=1) rfl (Bf a2 zs) ?_
   refine aj<|aG<|ak rfl<|aP<|wU (i:=2) rfl (Bf a3 zs)<|aq ?_
   refine htu (m:=20000) (by decide) (a1.x1.sm n4 bx hL) (a1.x2.sm n4 bx hL) (a1.x3.sm n4 bx hL) (a2.x1.sm n4 bx hL) (a2.x2.sm n4 bx hL) (a2.x3.sm n4 bx hL) (a3.x1.sm n4 bx hL) (a3.x2.sm n4 bx hL) (a3.x3.sm n4 bx hL)<|aq<|oJ<|aq<|aZ rfl ?_
   show D.rt _ _;rw [eD];exact ex rfl rfl
  rcases hx with rfl | rfl
  ·refine aH<|bw<|lW<|cq rfl<|Cy (by decide)<|oY ?_
   refine fin _ ?_;rfl
  ·refine aH<|bw<|lW<|cq rfl<|iT (by decide) ?_
   refine cq rfl<|Cy (by decide) ?_
   refine fin _ ?_;rfl
 | touch a1 a2=>
  obtain ⟨ev,s0,s1,s2,s3,s4,s5⟩:=Y8 a2 zs n4 bx hL;have j1:=a1.x1.sm n4 bx hL;have j2:=a1.x2.sm n4 bx hL;have j3:=a1.x3.sm n4 bx hL;have t0:=fC s0;have t2:=fC s2;have t5:=fC s5;have u1:=up s1;have u3:=up s3;have u4:=up s4;unfold cA;refine iW rfl (Z:=[FN w0,FN<|.lst _,FN<|.tup (.str "touch"::tl),FX,FX,FX,FX,FX,FX,FX]) rfl ?_;refine aH<|bw<|cq rfl<|iT (by decide)<|aW<|bB ?_
  unfold cQ;refine aH<|bw<|mQ<|cq rfl<|iT (by decide)<|eV<|aW<|bB ?_
  unfold dG;refine aH<|bw<|cq rfl<|iT (by decide)<|aW<|bB ?_
  unfold eY;refine aH<|bw<|lW<|cq rfl<|iT (by decide) ?_
  refine cq rfl<|iT (by decide)<|aW<|bB ?_
  unfold gZ;refine aH<|aQ<|aB<|aj<|aG<|ak rfl<|Kf<|aP<|Ae ?_
  refine bI (ws:=_) rfl (w:=.tup [.int _,.int _,.int _,.int _,.int _,.int _]) (by rw [DY,DY,KJ,ev];rfl)<|aq ?_
  refine hro (m:=20000) (by decide) s0 s1 s2 s3 s4 s5 ?_;refine nV<|bB ?_
  refine aH<|bw<|cq rfl<|iT (by decide)<|aW<|bB ?_
  unfold lZ;refine aH<|aQ<|cZ<|aj<|aB<|aj<|aG<|ak rfl<|aP<|bI rfl rfl ?_
  refine aj<|aG<|ak rfl<|aP<|bI rfl rfl<|aq<|hcr (m:=20002) (by decide) u1 t2 u4 u3 u4 t5 ?_
  refine aj<|aB<|aj<|aG<|ak rfl<|aP<|bI rfl rfl ?_
  refine aj<|aG<|ak rfl<|aP<|bI rfl rfl<|aq<|hcr (m:=20002) (by decide) u3 u4 t5 t0 u1 u3 ?_
  refine aj<|aB<|aj<|aG<|ak rfl<|aP<|bI rfl rfl ?_
  refine aj<|aG<|ak rfl<|aP<|bI rfl rfl<|aq<|hcr (m:=20002) (by decide) t0 u1 u3 u1 t2 u4<|aq<|aZ rfl ?_
  refine nV<|bB ?_
  refine aU<|cZ<|aj<|bC<|aj<|aB<|aj<|aG<|ak rfl<|aP<|wU (i:=0) rfl (Bf a1 zs) ?_
  refine aj<|bC<|aj<|gn<|eZ<|ak rfl<|pL rfl<|J1 rfl ?_
  have v1:=(Fp u1 t2 u4 u3 u4 t5)
  have v2:=(Fp u3 u4 t5 t0 u1 u3)
  have v3:=(Fp t0 u1 u3 u1 t2 u4)
  refine jW rfl<|cD<|cj<|aB<|aj<|ak rfl<|aj<|aG<|ak rfl<|aP<|wU (i:=0) rfl (Bf a1 zs)<|aq ?_
  refine hdt (m:=50000) (k:=20000) (by decide) (by decide) v1.1 v1.2.1 v1.2.2 j1 j2 j3 ?_;refine jW rfl<|cD<|cj<|aB<|aj<|ak rfl<|aj<|aG<|ak rfl<|aP<|wU (i:=0) rfl (Bf a1 zs)<|aq ?_
  refine hdt (m:=50000) (k:=20000) (by decide) (by decide) v2.1 v2.2.1 v2.2.2 j1 j2 j3 ?_;refine jW rfl<|cD<|cj<|aB<|aj<|ak rfl<|aj<|aG<|ak rfl<|aP<|wU (i:=0) rfl (Bf a1 zs)<|aq ?_
  refine hdt (m:=50000) (k:=20000) (by decide) (by decide) v3.1 v3.2.1 v3.2.2 j1 j2 j3 ?_;refine Aj<|aq<|dz<|aq ?_
  exact hdt (m:=20000) (k:=100000) (by decide) (by decide) j1 j2 j3 ((Mr v1.1 v1.2.1 v1.2.2 j1 j2 j3).mono (by decide)) ((Mr v2.1 v2.2.1 v2.2.2 j1 j2 j3).mono (by decide)) ((Mr v3.1 v3.2.1 v3.2.2 j1 j2 j3).mono (by decide))<|aq<|oJ<|aq<|aZ rfl<|fY<|ex rfl rfl
 | parted a1=>
  obtain ⟨ev,s0,s1,s2,s3,s4,s5⟩:=Y8 a1 zs n4 bx hL;have t0:=fC s0;have t2:=fC s2;have t5:=fC s5;have u1:=up s1;have u3:=up s3;have u4:=up s4;unfold cA;refine iW rfl (Z:=[FN w0,FN<|.lst _,FN<|.tup (.str "parted"::tl),FX,FX,FX,FX,FX,FX,FX]) rfl ?_;refine aH<|bw<|cq rfl<|iT (by decide)<|aW<|bB ?_
  unfold cQ;refine aH<|bw<|mQ<|cq rfl<|iT (by decide)<|eV<|aW<|bB ?_
  unfold dG;refine aH<|bw<|cq rfl<|iT (by decide)<|aW<|bB ?_
  unfold eY;refine aH<|bw<|lW<|cq rfl<|iT (by decide) ?_
  refine cq rfl<|iT (by decide)<|aW<|bB ?_
  unfold gZ;refine aH<|aQ<|aB<|aj<|aG<|ak rfl<|Kf<|aP<|Ae ?_
  refine bI (ws:=_) rfl (w:=.tup [.int _,.int _,.int _,.int _,.int _,.int _]) (by rw [DY,KJ,ev];rfl)<|aq ?_
  refine hro (m:=20000) (by decide) s0 s1 s2 s3 s4 s5 ?_;refine nV<|bB ?_
  refine aH<|bw<|cq rfl<|Cy (by decide) ?_
  refine aU<|cZ<|aj<|bC<|aj<|aB<|aj<|aG<|ak rfl<|aP<|bI rfl rfl ?_
  refine aj<|aG<|ak rfl<|aP<|bI rfl rfl ?_
  refine aj<|aG<|ak rfl<|aP<|bI rfl rfl<|aq ?_
  exact htu (m:=20002) (by decide) t0 u1 u3 u1 t2 u4 u3 u4 t5<|aq<|oJ<|aq<|aZ rfl<|fY<|ex rfl rfl
def aaR (c0:CP):Prop:=∀ {h:Gh} {rws thg:List W} {x:Str} {due:List Str} {js:List Nat} {ws:List (List (List Tm))} {fs:List Fn} {L n:Nat} {Q:WK} {E:Dm},(∀ r∈rws,Row r)->js.map (fun j=>(rws.map JL)[j]?)=due.map FN->js.map (fun j=>thg[j]?)=ws.map (fun T=>FN (tW T))->Cl L n->Ck L n x due ws fs ->
 (∀ R,EL L 1000 40 600 fs R->Q (.lst (R.map Dj)) h)->c0 [.lst rws,.lst thg,.tup (.str x::js.map fun j:Nat=>W.int (j:Int))] h Q E
variable {due : List Str}
theorem Oo {ws:List (List (List Tm))}(r:Ck L n x due ws fs):ws.length<=5/\∀ T∈ws,T.length<=6/\∀ us∈T,Mb L 40 1 n us:=by
 have sp:∀ {f g h:Fn} {x y z:List Tm},Sp L n f g h x y z->∀ T∈[[x,y,z]],T.length<=6/\∀ us∈T,Mb L 40 1 n us:=fun e T hT=>by
  rw [Kp.mp hT];exact ⟨by simp,e.l.mb⟩
 have cv:∀ {f0 f1 f2 f3 f4 f5:Fn} {x0 x1 x2 x3 x4 x5:List Tm},Cv L n f0 f1 f2 f3 f4 f5 x0 x1 x2 x3 x4 x5->∀ T∈[[x0,x1,x2,x3,x4,x5]],T.length<=6/\∀ us∈T,Mb L 40 1 n us:=fun e T hT=>by
  rw [Kp.mp hT];exact ⟨by simp,EL.mb e⟩
 have ap:∀ {A B:List (List (List Tm))},(∀ T∈A,T.length<=6/\∀ us∈T,Mb L 40 1 n us)->(∀ T∈B,T.length<=6/\∀ us∈T,Mb L 40 1 n us)->∀ T∈A++B,T.length<=6/\∀ us∈T,Mb L 40 1 n us:=fun a b T hT=>(La.mp hT).elim (a T) (b T)
 cases r with
 | same3 _ a b=>exact ⟨by simp,ap (sp a) (sp b)⟩
 | same6 a b c d=>exact ⟨by simp,fun T hT=>by
   rw [Ge,Kp] at hT;rcases hT with rfl | rfl
   ·exact ⟨by lia,a.mb⟩
   ·exact ⟨by lia,b.mb⟩⟩
 | onl a b=>exact ⟨by simp,ap (sp a) (sp b)⟩
 | onc a b=>exact ⟨by simp,ap (sp a) (cv b)⟩
 | turn _ a b c=>exact ⟨by simp,ap (sp a) (ap (sp b) (sp c))⟩
 | touch a b=>exact ⟨by simp,ap (sp a) (cv b)⟩
 | parted a=>exact ⟨by simp,cv a⟩
theorem zbE {tu ta tr bo' sz sa on:CP}(htu:TuE tu)(hta:TaE ta)(htr:TrE tr)(hbo:BoE bo')(hsz:SzE sz)(hsa:SaE sa)(hon:OnE on):aaR (jj tu ta tr bo' sz sa on):=by
 intro h rws thg x due js ws fs L n Q E hr ed et cl ck q';have lj:js.length=ws.length:=by have:=congrArg QZ et;simpa using this
 have lw:=(Oo ck).1;unfold jj;refine cT rfl (Z:=[FN<|.lst rws,FN<|.lst thg,FN<|.tup (.str x::js.map fun j:Nat=>W.int (j:Int)),FX]) rfl<|aH<|aQ<|gn<|eZ<|Mf<|ak rfl<|uV<|aP<|Y9<|qT ?_
 refine abu (ZX _ _)<|pL (ws:=js.map fun j:Nat=>W.int (j:Int)) (o:=FX) rfl<|eG.mk (Dk (m:=1000) (by rw [DX];lia)<|by decide) ?_
 refine dF (fun i acc g=>g=h/\acc=(ws.take i).map tW) ?_ ?_ ⟨rfl,rfl⟩
 ·rintro i w acc g N hN e ⟨rfl,rfl⟩;rw [GP] at e;obtain ⟨j,qe,rfl⟩:=N8.mp e;have hi:=(Lk.mp qe).1;have qw:ws[i]?=FN (ws[i]'(by lia)):=HD _;have e2:=congrArg (·[i]?) et;simp only [GP,qe,qw,Option.map_some] at e2;refine ⟨[.int (j:Int)],rfl,cD<|cj<|aG<|ak rfl<|ak rfl<|bI (ws:=thg) rfl (bK<|Gz e2)<|hN _ _ ⟨rfl,?_⟩⟩;rw [KN,qw,Hl];rfl
 ·rintro acc g ⟨rfl,rfl⟩;rw [DX,lj,Kl];refine nV<|bB<|aH ?_
  have nm:∀ {y:Str} {R:MS} {D:bO} {b:Bool},decide (x=y)=b->(br b (R D [FN (.lst rws),FN (.lst thg),FN (.tup (.str x::js.map fun j:Nat=>W.int (j:Int))),FN (.lst (ws.map tW))] g) (D.nx [FN (.lst rws),FN (.lst thg),FN (.tup (.str x::js.map fun j:Nat=>W.int (j:Int))),FN (.lst (ws.map tW))] g))->iY (bG (CG Jd (CG Cw (aA 2) (mC (.int 0))) (mC (.str y)))) R cH D [FN (.lst rws),FN (.lst thg),FN (.tup (.str x::js.map fun j:Nat=>W.int (j:Int))),FN (.lst (ws.map tW))] g:=fun {y R D b} e z=>by
   refine bw<|aV<|aG<|aG<|ak rfl<|aP<|bI (ws:=.str x::js.map fun j:Nat=>W.int (j:Int)) rfl Io<|aP<|oR<|gW ?_
   rw [e];exact z
  cases ck with
  | same3 hs a1 a2=>
   refine nm (b:=true) (by decide)<|oY<|aU<|aB<|aj<|aG<|ak rfl<|aP<|xU (i:=0) rfl<|aj<|aG<|ak rfl<|aP<|xU (i:=1) rfl<|aq ?_
   exact hsa cl (.same3 hs a1 a2) fun R eR=>fY<|q' R eR
  | same6 a1 a2 a3 a4=>
   refine nm (b:=true) (by decide)<|oY<|aU<|aB<|aj<|aG<|ak rfl<|aP<|xU (i:=0) rfl<|aj<|aG<|ak rfl<|aP<|xU (i:=1) rfl<|aq ?_
   exact hsa cl (.same6 a1 a2 a3 a4) fun R eR=>fY<|q' R eR
  | onl a1 a2=>
   refine nm (b:=false) (by decide)<|eV<|bB ?_
   unfold cF;refine aH<|nm (b:=true) (by decide)<|oY<|aU<|cZ<|aj<|aB<|aj<|ak rfl<|aj<|ak rfl<|aj<|ak rfl<|aq ?_
   obtain ⟨i,_,rfl,h1,em⟩:=iH (a := "spot") (ls:=["line"]) ed;obtain ⟨j,rfl,h2⟩:=jV em;exact hon hr h2 cl (.onl a1 a2) fun R eR=>aq<|aZ rfl<|fY<|q' [R] eR
  | onc a1 a2=>
   refine nm (b:=false) (by decide)<|eV<|bB ?_
   unfold cF;refine aH<|nm (b:=true) (by decide)<|oY<|aU<|cZ<|aj<|aB<|aj<|ak rfl<|aj<|ak rfl<|aj<|ak rfl<|aq ?_
   obtain ⟨i,_,rfl,h1,em⟩:=iH (a := "spot") (ls:=["curve"]) ed;obtain ⟨j,rfl,h2⟩:=jV em;exact hon hr h2 cl (.onc a1 a2) fun R eR=>aq<|aZ rfl<|fY<|q' [R] eR
  | touch a1 a2=>
   refine nm (b:=false) (by decide)<|eV<|bB ?_
   unfold cF;refine aH<|nm (b:=false) (by decide)<|eV<|bB ?_
   unfold dZ;refine aH<|nm (b:=true) (by decide)<|oY<|aU<|cZ<|aj<|aB<|aj<|aB<|aj<|aB<|aj<|aG<|ak rfl<|aP<|xU (i:=1) rfl<|aq ?_
   obtain ⟨k,k2,ke,kf,kg,kh,N1,b1,b2,N2,b3,b4,b5,N3,b6,b7,b8⟩:=abt cl;refine hta (by decide) (Ln cl) a2 fun a d g c1 c2 c3=>aq<|htr N1 b1 b2 c1 c2 c3 fun A B C eA eB eC=>?_
   obtain ⟨p1,p2,p3,rfl,eA⟩:=eA;obtain ⟨q1,q2,q3,rfl,eB⟩:=eB;obtain ⟨r1,r2,r3,rfl,eC⟩:=eC;refine aj<|aG<|ak rfl<|aP<|xU (i:=0) rfl<|aj<|aG<|ak rfl<|aP<|xU (i:=0) rfl<|aq ?_
   exact hbo N2 b3 b4 b5 N3 b6 b7 b8 eA eB eC a1 a1 fun r er=>aq<|aZ rfl<|fY<|q' [r]<|.cons (er.le (by decide) (by decide) b7) .nil
  | parted a1=>
   refine nm (b:=false) (by decide)<|eV<|bB ?_
   unfold cF;refine aH<|nm (b:=false) (by decide)<|eV<|bB ?_
   unfold dZ;refine aH<|nm (b:=false) (by decide)<|eV<|bB ?_
   unfold gJ;refine aH<|nm (b:=true) (by decide)<|oY<|aU<|cZ<|aj<|aB<|aj<|aB<|aj<|aG<|ak rfl<|aP<|xU (i:=0) rfl<|aq ?_
   obtain ⟨k,k2,k3,k4,N1,b1,b2,N2,b3,b4,b5⟩:=Vp cl (b:=41) (c:=41) (d:=41) (by decide);refine hta (by decide) (Ln cl) a1 fun a d g c1 c2 c3=>aq ?_;exact hsz N1 b1 b2 N2 b3 (by lia) b5 c1 c2 c3 fun r er=>aq<|aZ rfl<|fY<|q' [r]<|.cons (er.le (by decide) (by decide)<|by lia) .nil
  | turn hx a1 a2 a3=>
   have c1:x ≠ "same":=by rcases hx with rfl | rfl <;> decide
   have c2:x ≠ "on":=by rcases hx with rfl | rfl <;> decide
   have c3:x ≠ "touch":=by rcases hx with rfl | rfl <;> decide
   have c4:x ≠ "parted":=by rcases hx with rfl | rfl <;> decide
   refine nm (b:=false) (decide_eq_false c1)<|eV<|bB ?_
   unfold cF;refine aH<|nm (b:=false) (decide_eq_false c2)<|eV<|bB ?_
   unfold dZ;refine aH<|nm (b:=false) (decide_eq_false c3)<|eV<|bB ?_
   unfold gJ;refine aH<|nm (b:=false) (decide_eq_false c4)<|eV<|bB ?_
   unfold j4;refine aU<|cZ<|aj<|aB<|aj<|aG<|ak rfl<|aP<|xU (i:=0) rfl<|aj<|aG<|ak rfl<|aP<|xU (i:=1) rfl ?_
   refine aj<|aG<|ak rfl<|aP<|xU (i:=2) rfl<|aq ?_
   obtain ⟨k,k2,k3,k4,N1,b1,b2,N2,b3,b4,b5⟩:=Vp cl (b:=40) (c:=40) (d:=40) (by decide);exact htu N1 b1 b2 N2 b3 (by lia) b5 a1 a2 a3 fun r er=>aq<|aZ rfl<|fY<|q' [r]<|.cons (er.le (by decide) (by decide)<|by lia) .nil
theorem Oq (n:Nat):∀ {thg:List W},(∀ w∈thg,∃ T,w=tW T)->K9 n thg
 | [],_=>by simp [K9]
 | w::thg,h=>by
  obtain ⟨T,rfl⟩:=h w KD;rw [K9];exact ⟨by rw [Lo];exact PX _ _,Oq n fun w hw=>h w<|Jo _ hw⟩
theorem Ac {l:List W}(hx:x∈Ly):Bw (JL (.tup (.str x::l)))=Bw x:=by
 show Bw (Im x)=Bw x;unfold Ly at hx;simp only [Ge,M7,or_false] at hx;rcases hx with e | e | e | e | e | e | e <;> subst e <;> rfl
theorem aaW:(3:Int)+3*(if decide (x = "curve") then 1 else 0)=((Bw x:Nat):Int):=by
 unfold Bw;by_cases c:x = "curve"
 ·rw [if_pos c,decide_eq_true c];rfl
 ·rw [if_neg c,decide_eq_false c];rfl
def aau (c0:CP):Prop:=∀ {h:Gh} {ns:List Int} {n:Nat} {rws:List W} {L nn:Nat} {Q:WK} {E:Dm},h.c n=FN (.lst rws)->n<h.nx->(∀ r∈rws,Row r)->rws.length<=24->L<=8->L≠1->(3<=nn\/2<L/\1<=nn)->(∀ thg,Es L nn rws thg->Q (.lst thg) h)->c0 [.kls (ns.map .int),.loc n,.int (L:Int)] h Q E
theorem aeA {cl bg so th:CP}(hcl:ql cl)(hbg:Gm bg)(hdr:mJ dr)(hso:xZ so)(hth:ThX th):aau (mZ cl bg dr so th):=by
 intro h ns n rws L nn Q E hn nl hr h24 hL l1 hnn q;unfold mZ;refine iW rfl (Z:=[FN<|.kls<|ns.map .int,FN<|.loc n,FN<|.int (L:Int),FX,FX,FX,FX]) rfl<|aH<|aQ<|mW (ws:=[]) (fun R=>rfl) rfl fun g eg og xg=>?_
 have nt:n≠h.nx:=Gq nl;refine nV<|bB<|aH ?_
 refine dN<|eU<|aj<|bC<|aj<|ak rfl<|aq<|cN (dJ<|(og n nt).trans hn)<|aq<|oZ (m:=rws.length) (by lia)<|dR ?_
 refine bW (fun i Z g'=>∃ (thg:List W) (s4 s5 s6:Option W),Z = [FN<|.kls<|ns.map .int,FN<|.loc n,FN<|.int (L:Int),FN<|.loc h.nx,s4,s5,s6]/\g'.c h.nx=FN (.lst thg)/\Es L nn (rws.take i) thg/\(∀ m,m<h.nx->g'.c m=h.c m)/\h.nx<g'.nx) ?_ ?_ ⟨[],FX,FX,FX,rfl,eg,⟨rfl,fun j s e=>by simp at e⟩,fun m hm=>og m<|Gq hm,by rw [xg];exact Vi _⟩
 ·rintro i w Z g' N hN ew ⟨thg,s4,s5,s6,rfl,et,hf,ok,tl⟩;rw [GP] at ew;obtain ⟨x,ex,rfl⟩:=N8.mp ew;have e0:=(eO ex).1;have hx:=(eO ex).2;rw [VJ] at e0;subst e0;have er:rws[x]?=FN (rws[x]'(by lia)):=HD _;have rr:Row (rws[x]'(by lia)):=hr _ (Qm _);have hn':g'.c n=FN (.lst rws):=(ok n nl).trans hn;have lt:thg.length=x:=by rw [<-hf.1,Qh];lia
  have al:∀ w∈thg,∃ T,w=tW T/\∀ us∈T,Mb L 40 1 nn us:=fun w hw=>by
   obtain ⟨j,hj,e⟩:=Wz hw;have hj':j<(rws.take x).length:=by rw [hf.1];exact hj
   obtain ⟨u,eu,T,tu,_,mb⟩:=hf.2 j (JL (rws.take x)[j]) (by rw [GP,HD hj'];rfl);rw [HD hj,e] at eu;cases eu;exact ⟨T,tu,mb⟩
  have ts:rws.take (x+1)=rws.take x++[rws[x]'(by lia)]:=by rw [KN,er];rfl
  generalize rws[x]'(by lia)=r at *;have rr0:=rr;obtain ⟨y,ys,hy,rfl⟩:=rr;refine nV ?_;refine aH<|aQ<|aB<|aj<|aG<|aB<|aj<|ak rfl<|aj<|aG<|aP<|ak rfl<|dW<|aq<|hcl (by lia) ?_
  refine aG<|aP<|aP<|Xx ⟨by decide,by decide,by decide⟩<|G4 ⟨by decide,64,by decide,by unfold Sm;decide⟩<|aq ?_
  refine hbg fun hb bag nxb ob=>?_;have nb:n≠g'.nx:=Gq (Rg nl tl);have tb:h.nx≠g'.nx:=Gq tl;have bb:g'.nx<hb.nx:=by rw [nxb];exact Vi _
  have hnb:hb.c n=FN (.lst rws):=(ob n nb).trans hn';have htb:hb.c h.nx=FN (.lst thg):=(ob _ tb).trans et;have okb:∀ m,m<h.nx->hb.c m=h.c m:=fun m hm=>(ob m (Gq (Rg hm tl))).trans (ok m hm)
  have ltb:h.nx<hb.nx:=Rg tl bb;generalize g'.nx=b at *;refine nV<|bB<|aH<|aQ<|gn<|eZ<|ak rfl<|acf htb<|eG.mk (Dk (m:=1000) (by rw [lt];lia)<|by decide) ?_
  refine Fq (fun i acc g=>g=hb/\acc.length<=i/\∀ w∈acc,T9 L nn y w) ?_ ?_ ?_ ⟨rfl,Dg _,fun w hw=>by simp at hw⟩
  ·rintro i acc g3 ⟨rfl,_⟩ P p;exact ⟨htb,p⟩
  ·rintro i w acc g3 N2 hN2 e2 ⟨rfl,la,ha⟩;obtain ⟨T,rfl,mb⟩:=al w (KH e2);refine ⟨[tW T],rfl,aV<|aG<|bC<|aj<|ak rfl<|aq<|cN (xs:=T.map Dj) rfl ?_⟩;refine aG<|aP<|aG<|aP<|bC<|aj<|aG<|aG<|aG<|ak rfl<|ak rfl<|bI (dJ hnb) (bK er)<|aP<|bI (ws:=.str y::ys.map .int) rfl Io<|aP<|oR<|aq<|Ad<|Pb<|dW ?_
   rw [aaW];refine mY<|gW<|Mh (fun c=>ak rfl<|hN2 _ _ ⟨rfl,by rw [Jt];exact Vy la,fun u hu=>?_⟩) fun c=>hN2 _ _ ⟨rfl,Nat.le_succ_of_le la,ha⟩
   rcases La.mp hu with hu | hu
   ·exact ha u hu
   ·rw [Kp.mp hu];rw [DX] at c;exact ⟨T,rfl,Int.ofNat.inj c,mb⟩
  ·rintro acc g3 ⟨rfl,la,ha⟩;have la2:acc.length<=24:=Dk la (by rw [lt];lia);have next:∀ (u:W) (g5:Gh),T9 L nn y u->g5.c h.nx=FN (.lst (thg++[u]))->(∀ m,m<h.nx->g5.c m=h.c m)->h.nx<g5.nx->∀ s4 s5 s6,N [FN (.kls (ns.map .int)),FN (.loc n),FN (.int (L:Int)),FN (.loc h.nx),s4,s5,s6] g5:=fun u g5 tu e5 o5 l5 s4 s5 s6=>by
    refine hN _ _ ⟨thg++[u],_,_,_,rfl,e5,?_,o5,l5⟩;rw [ts];refine adU hf ?_;obtain ⟨T,e,lT,mb⟩:=tu;exact ⟨T,e,by rw [Ac hy];exact lT,mb⟩
   have other:∀ (g4:Gh) (s6:Option W),K1 g4 b->b<g4.nx->g4.c n=FN (.lst rws)->g4.c h.nx=FN (.lst thg)->(∀ m,m<h.nx->g4.c m=h.c m)->h.nx<g4.nx->(oV (Cq eN (aA 3) (ao (aL th E (ao (aA 5) (ao (aA 2) (ao (aL so E (ao (CG Cw (aA 1) (aA 4)) aJ)) (ao (mC (.int 4)) aJ))))) aJ))) { nx:=N,rt:=fun w h'=>j6 true h w h' Q,bk:=jg cl bg dr so th E { nx:=fun _ h'=>j6 true h .non h' Q,rt:=fun w h'=>j6 true h w h' Q },ct:=N } [FN (.kls (ns.map .int)),FN (.loc n),FN (.int (L:Int)),FN (.loc h.nx),FN (.int (x:Int)),FN (.loc b),s6] g4:=fun g4 s6 b4 bl4 n4 t4 o4 l4=>by
    refine iy<|qb<|ak rfl<|kO t4<|aj<|aB<|aj<|ak rfl<|aj<|ak rfl<|aj<|aB<|aj<|aG<|ak rfl<|ak rfl ?_
    refine bI (dJ n4) (bK er)<|aq<|rr0.sort hso<|aj<|aP<|aq ?_
    refine hth b4 bl4 hL l1 (by decide) (by decide) hnn fun T g5 lT mT b5 gb5=>aq ?_;refine Dl ((gb5.2 _ l4 tb).trans t4) (by lia) fun g6 c6 o6 n6=>bB<|next (tW T) g6 ⟨T,rfl,by rw [<-Ac hy];exact lT,mT⟩ c6 (fun m hm=>?_) ?_ _ _ _
    ·rw [o6 m (Gq hm),gb5.2 m (Rg hm l4) (fun z=>Nat.lt_asymm hm (by rw [z];exact tl))];exact o4 m hm
    ·rw [n6];exact HB l4 gb5.1
   refine nV<|bB<|bw<|mQ<|aV<|aG<|aB<|aj<|ak rfl<|aj<|aP<|aq ?_
   refine hdr bag (by decide) (by unfold Sm;decide) fun d g4 d0 d1 b4 o4=>aP<|mY<|gW ?_
   have n4:g4.c n=FN (.lst rws):=(o4.2 n nb).trans hnb;have t4:g4.c h.nx=FN (.lst thg):=(o4.2 _ tb).trans htb;have k4:∀ m,m<h.nx->g4.c m=h.c m:=fun m hm=>(o4.2 m (fun z=>Nat.lt_asymm hm (by rw [z];exact tl))).trans (okb m hm)
   have l4:h.nx<g4.nx:=by rw [o4.1];exact ltb
   have bl4:b<g4.nx:=by rw [o4.1];exact bb
   refine su (fun _=>?_) fun _=>eV<|other g4 _ b4 bl4 n4 t4 k4 l4
   refine aV<|aG<|bC<|aj<|ak rfl<|aq<|cN (xs:=acc) rfl<|aP<|tX<|gW ?_
   refine su (fun c=>?_) fun _=>other g4 _ b4 bl4 n4 t4 k4 l4;refine iy<|qb<|ak rfl<|kO t4<|aj<|aG<|ak rfl<|aB<|aj<|ak rfl<|aj<|bC<|aj<|ak rfl<|aq<|cN (xs:=acc) rfl<|aq ?_
   refine hdr b4 c (by unfold Sm;lia) fun d2 g5 d20 d21 b5 o5=>?_;obtain ⟨dn,rfl⟩:=Wb d20;have hdn:dn<acc.length:=by lia
   refine bI (ws:=acc) (w:=acc[dn]) rfl (bK<|HD hdn)<|aq ?_
   refine Dl ((o5.2 _ tb).trans t4) (by lia) fun g6 c6 o6 n6=>bB<|next _ g6 (ha _<|Qm hdn) c6 (fun m hm=>?_) ?_ _ _ _
   ·rw [o6 m (Gq hm),o5.2 m (fun z=>Nat.lt_asymm hm (by rw [z];exact tl))];exact k4 m hm
   ·rw [n6,o5.1];exact l4
 ·rintro Z g' ⟨thg,s4,s5,s6,rfl,et,hf,ok,tl⟩;rw [oW,Kl] at hf;unfold jg;refine bB<|aU<|ak rfl<|fY ⟨fun m c hm e=>by rw [ok m hm];exact e,.inr ⟨h.nx,thg,rfl,Dg _,et,Oq _<|Cd hf,q thg hf⟩⟩
theorem Es.sp {L n:Nat}{rws thg:List W}(f:Es L n rws thg){i:Nat}{s:Str}(e:(rws.map JL)[i]?=FN s)(ne:s ≠ "curve"):∃ (f g k:Fn) (x y z:List Tm),thg[i]?=FN (tW [x,y,z])/\Sp L n f g k x y z:=by
 obtain ⟨w,ew,t⟩:=f.2 _ _ e;obtain ⟨f,g,k,x,y,z,rfl,h⟩:=t.sp ne;exact ⟨f,g,k,x,y,z,ew,h⟩
theorem Es.cv {L n:Nat}{rws thg:List W}(f:Es L n rws thg){i:Nat}(e:(rws.map JL)[i]?=FN "curve"):∃ (f0 f1 f2 f3 f4 f5:Fn) (x0 x1 x2 x3 x4 x5:List Tm),thg[i]?=FN (tW [x0,x1,x2,x3,x4,x5])/\Cv L n f0 f1 f2 f3 f4 f5 x0 x1 x2 x3 x4 x5:=by
 obtain ⟨w,ew,t⟩:=f.2 _ _ e;obtain ⟨f0,f1,f2,f3,f4,f5,x0,x1,x2,x3,x4,x5,rfl,h⟩:=t.cv;exact ⟨f0,f1,f2,f3,f4,f5,x0,x1,x2,x3,x4,x5,ew,h⟩
theorem abw (f:Es L n rws thg)(d:Du x due)(em:js.map (fun j=>(rws.map JL)[j]?)=due.map FN):∃ (ws:List (List (List Tm))) (fs:List Fn),js.map (fun j=>thg[j]?)=ws.map (fun T=>FN (tW T))/\Ck L n x due ws fs/\fs.length<=15:=by
 cases d with
 | @same s=>
  obtain ⟨i,_,rfl,h1,em⟩:=iH (a:=s) (ls:=[s]) em;obtain ⟨j,rfl,h2⟩:=jV em;by_cases c:s = "curve"
  ·subst c;obtain ⟨_,e1,A,rfl,lA,mA⟩:=f.2 _ _ h1;obtain ⟨_,e2,B,rfl,lB,mB⟩:=f.2 _ _ h2;exact ⟨[A,B],_,by simp only [DY,KJ,e1,e2],.same6 (wG mA) (wG mB) lA lB,by rw [DX];decide⟩
  ·obtain ⟨_,_,_,_,_,_,e1,s1⟩:=f.sp h1 c;obtain ⟨_,_,_,_,_,_,e2,s2⟩:=f.sp h2 c;exact ⟨_,_,by simp only [DY,KJ,e1,e2],.same3 c s1 s2,by simp⟩
 | onl=>
  obtain ⟨i,_,rfl,h1,em⟩:=iH (a := "spot") (ls:=["line"]) em;obtain ⟨j,rfl,h2⟩:=jV em;obtain ⟨_,_,_,_,_,_,e1,s1⟩:=f.sp h1 (by decide);obtain ⟨_,_,_,_,_,_,e2,s2⟩:=f.sp h2 (by decide);exact ⟨_,_,by simp only [DY,KJ,e1,e2],.onl s1 s2,by simp⟩
 | onc=>
  obtain ⟨i,_,rfl,h1,em⟩:=iH (a := "spot") (ls:=["curve"]) em;obtain ⟨j,rfl,h2⟩:=jV em;obtain ⟨_,_,_,_,_,_,e1,s1⟩:=f.sp h1 (by decide);obtain ⟨_,_,_,_,_,_,_,_,_,_,_,_,e2,s2⟩:=f.cv h2;exact ⟨_,_,by simp only [DY,KJ,e1,e2],.onc s1 s2,by simp⟩
 | row=>
  obtain ⟨i,_,rfl,h1,em⟩:=iH (a := "spot") (ls:=["spot", "spot"]) em;obtain ⟨i2,_,rfl,h2,em⟩:=iH (a := "spot") (ls:=["spot"]) em;obtain ⟨j,rfl,h3⟩:=jV em;obtain ⟨_,_,_,_,_,_,e1,s1⟩:=f.sp h1 (by decide);obtain ⟨_,_,_,_,_,_,e2,s2⟩:=f.sp h2 (by decide);obtain ⟨_,_,_,_,_,_,e3,s3⟩:=f.sp h3 (by decide);exact ⟨_,_,by simp only [DY,KJ,e1,e2,e3],.turn (.inl rfl) s1 s2 s3,by simp⟩
 | bunch=>
  obtain ⟨i,_,rfl,h1,em⟩:=iH (a := "line") (ls:=["line", "line"]) em;obtain ⟨i2,_,rfl,h2,em⟩:=iH (a := "line") (ls:=["line"]) em;obtain ⟨j,rfl,h3⟩:=jV em;obtain ⟨_,_,_,_,_,_,e1,s1⟩:=f.sp h1 (by decide);obtain ⟨_,_,_,_,_,_,e2,s2⟩:=f.sp h2 (by decide);obtain ⟨_,_,_,_,_,_,e3,s3⟩:=f.sp h3 (by decide);exact ⟨_,_,by simp only [DY,KJ,e1,e2,e3],.turn (.inr rfl) s1 s2 s3,by simp⟩
 | touch=>
  obtain ⟨i,_,rfl,h1,em⟩:=iH (a := "line") (ls:=["curve"]) em;obtain ⟨j,rfl,h2⟩:=jV em;obtain ⟨_,_,_,_,_,_,e1,s1⟩:=f.sp h1 (by decide);obtain ⟨_,_,_,_,_,_,_,_,_,_,_,_,e2,s2⟩:=f.cv h2;exact ⟨_,_,by simp only [DY,KJ,e1,e2],.touch s1 s2,by simp⟩
 | parted=>
  obtain ⟨j,rfl,h1⟩:=jV em;obtain ⟨_,_,_,_,_,_,_,_,_,_,_,_,e1,s1⟩:=f.cv h1;exact ⟨_,_,by simp only [DY,KJ,e1],.parted s1,by simp⟩
theorem P0:∀ {ks js:List Int},ks.Perm js->ks.Pairwise (·<=·)->js.Pairwise (·<=·)->ks=js
 | [],js,p,_,_=>p.symm.eq_nil.symm
 | a::ks,[],p,_,_=>p.eq_nil
 | a::ks,b::js,p,h1,h2=>by
  have e:a=b:=by
   have ma:a∈b::js:=p.mem_iff.mp KD;have mb:b∈a::ks:=p.mem_iff.mpr KD;rw [Qq] at h1 h2;rcases Ge.mp ma with e | ma
   ·exact e
   ·rcases Ge.mp mb with e | mb
    ·exact e.symm
    ·have:=h1.1 b mb
     have:=h2.1 a ma
     lia
  subst e;rw [P0 (List.perm_cons a |>.mp p) (Qq.mp h1).2 (Qq.mp h2).2]
theorem zaH (k:Q (.bl false) h):MN (.lst (ns.map .int)) (.lst (ns.map .int)) h Q:=by
 have p:Eh 30 (.lst (ns.map .int))=true:=by
  show ((ns.map W.int).all (Eh 29))=true;refine QG.mpr fun w hw=>?_;obtain ⟨y,_,rfl⟩:=Hj.mp hw;rfl
 unfold MN;show Jr (Eh 30 (.lst (ns.map .int))&&Eh 30 (.lst (ns.map .int))) (Q (.bl (!(nH (ns.map .int) (ns.map .int)))) h) False;rw [p,pU];exact k
theorem aeh (e1:h.c n=FN (.lst rws))(hr:∀ r∈rws,Row r)(ht:∀ w∈thg,∃ T,w=tW T)(k:Q (.bl false) h):Vt (.lst [.lst rws,.lst thg]) (.lst [.loc n,.lst thg]) h Q:=by
 have d1:JG h (.loc n)=FN (.lst rws):=by
  show (match h.c n with
   | some (.lst ws)=>FN (W.lst ws)
   | _=>FX)=_
  rw [e1]
 have da:uo h (.lst [.loc n,.lst thg])=FN (.lst [.lst rws,.lst thg]):=by
  unfold uo;dsimp only;rw [oX,oX,oX,d1];rfl
 have p1:Eh 29 (.lst rws)=true:=by
  show (rws.all (Eh 28))=true;exact QG.mpr fun r hr'=>agV<|hr r hr'
 have p2:Eh 29 (.lst thg)=true:=by
  show (thg.all (Eh 28))=true;exact QG.mpr fun w hw=>by
   obtain ⟨T,rfl⟩:=ht w hw;exact aae
 have p:Eh 30 (.lst [.lst rws,.lst thg])=true:=by
  show (([W.lst rws,W.lst thg]:List W).all (Eh 29))=true;rw [Sh,Sh,List.all_nil,p1,p2];rfl
 unfold Vt;rw [da];show Jr (Eh 30 (.lst [.lst rws,.lst thg])&&Eh 30 (.lst [.lst rws,.lst thg])) (Q (.bl (!(nH rws rws&&(nH thg thg&&true)))) h) False;rw [p,JZ hr,mO fun w hw=>by obtain ⟨T,rfl⟩:=ht w hw;exact abA];exact k
variable {go : CP}
theorem Xz (hgo:GoX go){R:List (List Tm)}(hL:L<=8)(lR:R.length<=15)(hm:∀ us∈R,Mb L 1000 40 600 us)(hZ : jZ [3] Z = [FN (.int (L:Int))])(q:Q (.lst []) h):
  SM Ib [3] (Eo (yZ (aL go E (ao (aA 0) (ao (aA 1) aJ))))) (aA 0) Z Q ⟨R.map Dj,FX⟩ h:=by
 refine eG.mk (Dk (m:=1000) (by rw [DX];lia)<|by decide) ?_;refine dF (fun i acc g=>g=h/\acc=[]) ?_ ?_ ⟨rfl,rfl⟩
 ·rintro i w acc g N hN e ⟨rfl,rfl⟩;rw [GP] at e;obtain ⟨us,qe,rfl⟩:=N8.mp e;have m:=hm us (KH qe);refine ⟨[Dj us],rfl,?_⟩;rw [hZ];refine jU<|gU<|aB<|aj<|ak rfl<|aj<|ak rfl<|aq<|hgo hL (Dk m.1<|by decide) m.2.1 (fun t ht=>?_)<|Eb (b:=true) rfl ?_
  ·obtain ⟨a,b,_,d⟩:=m.2.2 t ht;exact ⟨a,b,fun p hp=>(d p hp).1⟩
  ·exact Bb<|hN _ _ ⟨rfl,rfl⟩
 ·rintro acc g ⟨rfl,rfl⟩;exact q
theorem Pj (hla:AtX la){ws:List (List (List Tm))}(hL:L<=8)(et:js.map (fun j=>thg[j]?)=ws.map (fun T=>FN (tW T)))(lw:ws.length<=5)(mT:∀ T∈ws,T.length<=6/\∀ us∈T,Mb L 40 1 n us)(lx:xs.length=L)(bx:Bd xs)(hZ : jZ ix Z = [FN (.lst thg),FN (.tup (xs.map .int))])(q:Q (.lst (ws.map (vW xs L))) h):
  SM Ib ix jG (Eu dO (ao (Hi Ib [2] (Hr (CG Cw (aA 1) (aA 0))) jG (aL la E (ao (aA 0) (ao (aA 1) aJ)))) aJ)) Z Q ⟨js.map fun j:Nat=>W.int (j:Int),FX⟩ h:=by
 have lj:js.length=ws.length:=by have:=congrArg QZ et;simpa using this
 refine eG.mk (Dk (m:=1000) (by rw [DX];lia)<|by decide) ?_;refine dF (fun i acc g'=>g'=h/\acc=(ws.take i).map (vW xs L)) ?_ ?_ ⟨rfl,rfl⟩
 ·rintro i2 w acc g' N2 hN2 e2 ⟨rfl,rfl⟩;rw [GP] at e2;obtain ⟨j,qj,rfl⟩:=N8.mp e2;have hi:=(Lk.mp qj).1;have qw:ws[i2]?=FN (ws[i2]'(by lia)):=HD _;have e3:=congrArg (·[i2]?) et;simp only [GP,qj,qw,Option.map_some] at e3;obtain ⟨l6,mb⟩:=mT _ (KH qw);refine ⟨[.int (j:Int)],rfl,cD<|cj ?_⟩;rw [hZ];refine bC<|aj<|gn<|eZ<|aG<|ak rfl<|ak rfl<|bI (ws:=thg) rfl (bK<|Gz e3)<|pL (ws:=(ws[i2]'(by lia)).map Dj) (o:=FX) rfl ?_
  refine acJ hla hL l6 (fun us hu=>(mb us hu).at (by decide) (by decide)) lx bx rfl<|aq<|dz<|hN2 _ _ ⟨rfl,?_⟩
  rw [KN,qw,Hl];rfl
 ·rintro acc g' ⟨rfl,rfl⟩;rw [DX,lj,Kl];exact q
theorem Ow {us:List W}(k:Q (.lst us) h):o8 [.lst us] h Q:=k
theorem aaT (hla:AtX la)(hL:L<=8)(hT:T.length<=15)(hm:∀ us∈T,∀ t∈us,t.1.length=L/\Sm 1000 t.2/\Pw t.1)(hx:xs.length=L)(bx:Bd xs)(hZ : jZ ix Z = [FN (.tup (xs.map .int))])(q:Q (.lst ((T.map fun us=>ab (lin (fun q=>mo q xs L) us)).map .int)) h):
  SM Ib ix jG (Eu yL (ao (aL la E (ao (aA 0) (ao (aA 1) aJ))) aJ)) Z Q ⟨T.map Dj,FX⟩ h:=by
 refine eG.mk (Dk (m:=1000) (by rw [DX];lia)<|by decide) ?_;refine dF (fun i acc g=>g=h/\acc=((T.take i).map fun us=>ab<|lin (fun q=>mo q xs L) us).map .int) ?_ ?_ ⟨rfl,rfl⟩
 ·rintro i w acc g N hN e ⟨rfl,rfl⟩;rw [GP] at e;obtain ⟨us,qe,rfl⟩:=N8.mp e;refine ⟨[Dj us],rfl,cD<|cj ?_⟩;rw [hZ];refine bC<|aj<|aB<|aj<|ak rfl<|aj<|ak rfl<|aq<|hla hL (hm us<|KH qe) hx bx<|aq<|oJ<|hN _ _ ⟨rfl,?_⟩
  rw [KN,qe,Hl,Hl,Il];rfl
 ·rintro acc g ⟨rfl,rfl⟩;rw [DX,Kl];exact q
def CgX (c0:CP):Prop:=∀ {h:Gh} {n:Nat} {rws thg:List W} {x:Str} {due:List Str} {js:List Nat} {L nn:Nat} {xss:List (List Int)} {Q:WK} {E:Dm},h.c n=FN (.lst rws)->(∀ r∈rws,Row r)->Es L nn rws thg->Cl L nn->L<=8->Du x due->js.map (fun j=>(rws.map JL)[j]?)=due.map FN->(∀ xs∈xss,xs.length=L/\Bd xs)->Q (.bl true) h->c0 [.loc n,.lst thg,.tup (.str x::js.map fun j:Nat=>W.int (j:Int)),.int (L:Int),.lst (xss.map fun xs=>.tup (xs.map .int))] h Q E
theorem ahI {cs nu:CP}(hcs:aaR cs)(hla:AtX la)(hgo:GoX go)(hnu:abS nu):CgX (gF cs la go nu):=by
 intro h n rws thg x due js L nn xss Q E hn hr hf cl hL hd em ox q;obtain ⟨ws,fs,et,ck,lf⟩:=abw hf hd em;obtain ⟨lw,mT⟩:=Oo ck;unfold gF;refine cT rfl (Z:=[FN<|.loc n,FN<|.lst thg,FN<|.tup (.str x::js.map fun j:Nat=>W.int (j:Int)),FN<|.int (L:Int),FN<|.lst<|xss.map fun xs=>.tup<|xs.map .int,FX,FX,FX,FX]) rfl<|aH<|aQ<|cZ<|aj<|bC<|aj<|ak rfl<|aq<|PL hn<|aj<|bC<|aj<|ak rfl<|aq<|Ow<|aq<|aZ rfl ?_
 refine nV<|bB ?_
 refine aH<|aQ<|aB<|aj<|aG<|ak rfl<|aP<|bI (ws:=[.lst rws,.lst thg]) (w:=.lst rws) rfl rfl<|aj<|aG<|ak rfl<|aP<|bI (ws:=[.lst rws,.lst thg]) (w:=.lst thg) rfl rfl<|aj<|ak rfl<|aq ?_
 refine hcs hr em et cl ck fun R eR=>?_;have lR:R.length<=15:=by rw [<-eR.length];exact lf
 refine nV<|bB ?_
 refine aH<|bw<|lW<|jU<|gU<|bC<|aj<|ak rfl<|aj<|aP<|aq<|qH (b:=true) rfl<|Eb (b:=true) rfl<|eV ?_
 refine aV<|aG<|ak rfl<|cZ<|aj<|ak rfl<|aj<|ak rfl<|aq<|aZ rfl<|aeh hn hr (Cd hf)<|gW<|eV<|aW<|bB ?_
 unfold iV;refine aH<|bw<|aV<|aG<|bC<|aj<|gn<|eZ<|ak rfl<|pL (ws:=R.map Dj) (o:=FX) rfl ?_
 refine Xz hgo hL lR eR.mb rfl<|aq<|cN (xs:=[]) rfl<|aP<|tX<|gW<|iT (by decide)<|aW<|bB ?_
 unfold iU;refine aH<|dN<|eZ<|ak rfl<|pL (ws:=xss.map fun xs=>.tup<|xs.map .int) (o:=FX) rfl<|dR ?_
 refine bW (fun i Z g=>g=h/\∃ a7 a8,Z = [FN<|.loc n,FN<|.lst thg,FN<|.tup (.str x::js.map fun j:Nat=>W.int (j:Int)),FN<|.int (L:Int),FN<|.lst<|xss.map fun xs=>.tup<|xs.map .int,FN<|.lst [.lst rws,.lst thg],FN<|.lst<|R.map Dj,a7,a8]) ?_ ?_ ⟨rfl,_,_,rfl⟩
 ·rintro i w Z g N hN e ⟨rfl,a7,a8,rfl⟩;rw [GP] at e;obtain ⟨xs,qe,rfl⟩:=N8.mp e;obtain ⟨lx,bx⟩:=ox xs (KH qe);refine nV ?_;refine aH<|aQ<|gn<|eZ<|Mf<|ak rfl<|uV<|aP<|Y9<|qT<|abu (ZX _ _)<|pL (ws:=js.map fun j:Nat=>W.int (j:Int)) (o:=FX) rfl ?_
  refine Pj hla hL et lw mT lx bx rfl ?_;refine nV<|bB ?_
  refine bw<|aV<|aG<|bC<|aj<|gn<|eZ<|ak rfl<|pL (ws:=R.map Dj) (o:=FX) rfl ?_
  refine aaT hla hL lR (fun us hu=>(eR.mb us hu).at (by decide) (by decide)) lx bx rfl<|aq ?_
  refine ⟨_,rfl,by rw [DX];lia,fun ms pm pw=>?_⟩;refine aB<|aj<|ak rfl<|aj<|ak rfl<|aj<|ak rfl<|aq<|hnu cl ck bx hL fun ms' pm' pw'=>?_
  have ev:(R.map fun us=>ab (lin (fun q=>mo q xs L) us))=fs.map fun f=>ab (f xs):=by
   have z:∀ {fs:List Fn} {R:List (List Tm)},EL L 1000 40 600 fs R->(R.map fun us=>ab (lin (fun q=>mo q xs L) us))=fs.map fun f=>ab (f xs):=fun e=>by
    induction e with
    | nil=>rfl
    | cons a _ ih=>rw [DY,DY,ih,a.2]
   exact z eR
  rw [ev] at pm;rw [P0 (pm.trans pm'.symm) pw pw'];exact zaH<|gW<|eV<|aW<|hN _ _ ⟨rfl,_,_,rfl⟩
 ·rintro Z g ⟨rfl,a7,a8,rfl⟩;unfold iM;exact bB<|aU<|aP<|fY q
theorem ahP {cl bg rw' cm ths cg:CP}(hcl:ql cl)(hbg:Gm bg)(hcm:ClX cm)(hcg:CgX cg)(ns:List Int){nn:Nat}{xss:List (List Int)}{a1 a2 a5 a7 a9 a10 a11:Option W}(hn:h.c n=FN (.lst rws))(nl:n<h.nx)(hr:∀ r∈rws,Row r)(h1:1<=rws.length)(h24:rws.length<=24)(hf:Es L nn rws thg)(c7:Cl L nn)(hL:L<=8)(ox:∀ xs∈xss,xs.length=L/\Bd xs):
  yq ti cl bg dr rw' dt tm la go cm ths cg EF { nx:=fun _ h'=>(fun w _=>w=W.bl true) W.non h',rt:=fun w _=>w=W.bl true } [FN (.kls (ns.map .int)),a1,a2,FN (.int (L:Int)),FN (.loc n),a5,FN (.lst thg),a7,FN (.lst (xss.map fun xs=>.tup (xs.map .int))),a9,a10,a11,FX] h:=by
 unfold yq;refine aH<|aQ<|aB<|aj<|aB<|aj<|ak rfl<|aj<|aP<|aq<|hcl (by decide)<|aq ?_
 refine hbg fun hb bag nxb ob=>?_;have nb:n≠h.nx:=Gq nl;have bb:h.nx<hb.nx:=by rw [nxb];exact Vi _
 have hnb:hb.c n=FN (.lst rws):=(ob n nb).trans hn;have nlb:n<hb.nx:=Rg nl bb;generalize h.nx=b at *;refine nV<|bB<|aH ?_
 refine dN<|eU<|aj<|aP<|aq<|oZ (m:=6) (by decide)<|dR ?_
 refine bW (fun i Z g=>K1 g b/\g.c n=FN (.lst rws)/\n<g.nx/\b<g.nx/\∃ a12,Z = [FN<|.kls<|ns.map .int,a1,a2,FN<|.int (L:Int),FN<|.loc n,a5,FN<|.lst thg,FN<|.loc b,FN<|.lst<|xss.map fun xs=>.tup<|xs.map .int,a9,a10,a11,a12]) ?_ ?_ ⟨bag,hnb,nlb,bb,FX,rfl⟩
 ·rintro i w Z g N hN e ⟨bg2,hn2,nl2,bl2,a12,rfl⟩;refine nV ?_;refine bw<|jU<|gU<|aB<|aj<|ak rfl<|aj<|ak rfl<|aj<|aB<|aj<|ak rfl<|aj<|ak rfl<|aq ?_
  refine hcm bg2 hn2 (Ji nb) bl2 nl2 hr h1 h24 fun x due js g3 du em b3 gr3=>?_;have hn3:g3.c n=FN (.lst rws):=(gr3.2 n nl2 nb).trans hn2;refine aj<|ak rfl<|aj<|ak rfl<|aq<|hcg hn3 hr hf c7 hL du em ox<|Eb (b:=true) rfl<|eV<|aW<|hN _ _ ⟨b3,hn3,HB nl2 gr3.1,HB bl2 gr3.1,_,rfl⟩
 ·rintro Z g ⟨_,_,_,_,a12,rfl⟩;unfold zQ;exact bB<|aU<|aP rfl
def Wt (ss:List Str)(r:W):Prop:=ZS r=false->Rt ss r
theorem ahA {cl bg rw' cm ths cg:CP}(hti:abh ti)(hcl:ql cl)(hbg:Gm bg)(hdr:mJ dr)(hdt:DoI dt)(htm:TmI tm)(hla:AtX la)(hgo:GoX go)(hcm:ClX cm)(hths:aau ths)(hcg:CgX cg)(ns:List Int){nn S:Nat}{a1 a5:Option W}(hn:h.c n=FN (.lst rws))(nl:n<h.nx)(hr:∀ r∈rws,Row r)(h1:1<=S)(h24:S<=24)(ls:rws.length=S)(c7:Cl L nn)(hL:L<=8)(l1:L≠1)(hnn:3<=nn\/2<L/\1<=nn)(hrt:∀ (k:Nat) (r:W),rws[k]?=FN r->Wt (rws.map JL) r):
  yC ti cl bg dr rw' dt tm la go cm ths cg EF { nx:=fun _ h'=>(fun w _=>w=W.bl true) W.non h',rt:=fun w _=>w=W.bl true } [FN (.kls (ns.map .int)),a1,FN (.int (S:Int)),FN (.int (L:Int)),FN (.loc n),a5,FX,FX,FX,FX,FX,FX,FX] h:=by
 have n4:nn<=64:=by rcases c7 with ⟨_,rfl⟩ | ⟨_,rfl⟩ <;> decide
 have up:∀ {i:Int},Sm 20000 i->Sm 20002 i:=fun h=>h.mono (by decide)
 unfold yC;refine aH<|aQ<|aB<|aj<|ak rfl<|aj<|ak rfl<|aj<|ak rfl<|aq ?_
 refine hths hn nl hr (by lia) hL l1 hnn fun thg hf=>?_;refine nV<|bB ?_
 refine aH<|aQ<|aB<|aj<|aB<|aj<|ak rfl<|aj<|aP<|aq<|hcl (by decide)<|aq ?_
 refine hbg fun hb bag nxb ob=>?_;have nb:n≠h.nx:=Gq nl;have hnb:hb.c n=FN (.lst rws):=(ob n nb).trans hn;have nlb:n<hb.nx:=by rw [nxb];exact Nat.lt_succ_of_lt nl
 generalize h.nx=b at *;refine nV<|bB<|aH<|aQ ?_
 refine ZC hdr hL rfl bag fun xss g3 l3 ox o3=>?_;have hn3:g3.c n=FN (.lst rws):=(o3.2 n nb).trans hnb;have nl3:n<g3.nx:=by rw [o3.1];exact nlb
 refine nV<|bB<|aH ?_
 refine dN<|eU<|aj<|ak rfl<|aq<|oZ (m:=S) (by lia)<|dR ?_
 refine bW (fun i Z g=>g=g3/\∃ a5 a9 a10 a11,Z = [FN<|.kls<|ns.map .int,a1,FN<|.int (S:Int),FN<|.int (L:Int),FN<|.loc n,a5,FN<|.lst thg,FN<|.loc b,FN<|.lst<|xss.map fun xs=>.tup<|xs.map .int,a9,a10,a11,FX]) ?_ ?_ ⟨rfl,_,_,_,_,rfl⟩
 ·rintro i w Z g N hN ew ⟨rfl,a5,a9,a10,a11,rfl⟩;rw [GP] at ew;obtain ⟨k,ex,rfl⟩:=N8.mp ew;have hk:=(eO ex).2;have er:rws[k]?=FN (rws[k]'(by lia)):=HD _;have tk:=hrt k _ er;have rr:=hr _ (Qm (by lia:k<rws.length));generalize rws[k]'(by lia)=r at *;obtain ⟨y,ys,hy,rfl⟩:=rr;refine nV ?_;refine bw<|aV<|aG<|aG<|aG<|ak rfl<|ak rfl<|bI (dJ hn3) (bK er)<|aP<|bI (ws:=.str y::ys.map .int) rfl Io<|aP<|oR<|gW ?_
  refine su (fun e=>?_) fun _=>aW<|hN _ _ ⟨rfl,_,_,_,_,rfl⟩
  subst e;obtain ⟨x,js,exr,hx,hxf,em⟩:=tk rfl;have e1:x = "other":=(W.str.inj (Q7 (W.tup.inj exr)).1).symm;subst e1;have e2:ys.map W.int=js.map fun j:Nat=>W.int (j:Int):=(Q7 (W.tup.inj exr)).2
  rw [e2] at er;obtain ⟨i0,_,rfl,q0,em⟩:=iH (a := "curve") (ls:=["spot", "spot"]) em;obtain ⟨i1,_,rfl,q1,em⟩:=iH (a := "spot") (ls:=["spot"]) em;obtain ⟨i2,rfl,q2⟩:=jV em;obtain ⟨f0,f1,f2,f3,f4,f5,x0,x1,x2,x3,x4,x5,t0,c0⟩:=hf.cv q0;obtain ⟨j1,j2,j3,u,v,w,t1,c1⟩:=hf.sp q1 (by decide);obtain ⟨_,_,_,u2,v2,w2,t2,c2⟩:=hf.sp q2 (by decide);refine aH<|aQ<|aB<|aj<|bC<|aj<|ak rfl<|aq<|PL hn3<|aj<|bC<|aj<|ak rfl<|aq<|Ow<|aj<|ak rfl<|aq ?_
  refine hti er t0 t1 c7 c0 c1 fun r er'=>?_;refine nV<|bB ?_
  refine aH<|bw<|jU<|gU<|aB<|aj<|ak rfl<|aj<|ak rfl<|aq<|hgo hL (Dk er'.1.1<|by decide) er'.1.2.1 (fun t ht=>?_)<|Eb (b:=true) rfl<|eV<|aW<|bB ?_
  ·obtain ⟨a,b,_,d⟩:=er'.1.2.2 t ht;exact ⟨a,b,fun p hp=>(d p hp).1⟩
  refine dN<|eZ<|ak rfl<|pL (ws:=xss.map fun xs=>.tup<|xs.map .int) (o:=FX) rfl<|dR ?_
  refine bW (fun i Z g'=>g'=g/\∃ a10 a11,Z = [FN<|.kls<|ns.map .int,a1,FN<|.int (S:Int),FN<|.int (L:Int),FN<|.loc n,FN<|.int (k:Int),FN<|.lst thg,FN<|.loc b,FN<|.lst<|xss.map fun xs=>.tup<|xs.map .int,FN<|Dj r,a10,a11,FX]) ?_ ?_ ⟨rfl,_,_,rfl⟩
  ·rintro i w' Z g' N2 hN2 e2 ⟨rfl,a10,a11,rfl⟩;rw [GP] at e2;obtain ⟨xs,qe,rfl⟩:=N8.mp e2;obtain ⟨lx,bx⟩:=ox xs (KH qe);obtain ⟨ev,s0,s1,s2,s3,s4,s5⟩:=Y8 c0 xs n4 bx hL;have z1:=c1.x1.sm n4 bx hL;have z2:=c1.x2.sm n4 bx hL;have z3:=c1.x3.sm n4 bx hL;refine nV ?_;refine aH<|aQ<|gn<|eZ<|Mf<|aG<|ak rfl<|ak rfl<|bI (dJ hn3) (bK er)<|uV<|aP<|Y9<|qT<|abu (ZX _ _)<|pL (ws:=[i0,i1,i2].map fun j:Nat=>W.int (j:Int)) (o:=FX) rfl ?_
   refine Pj hla (ws:=[[x0,x1,x2,x3,x4,x5],[u,v,w],[u2,v2,w2]]) (n:=nn) hL (by simp only [DY,KJ,t0,t1,t2]) (Qj rfl) (fun T hT=>?_) lx bx rfl ?_
   ·simp only [Ge,M7,or_false] at hT;rcases hT with rfl | rfl | rfl
    ·exact ⟨by simp,EL.mb c0⟩
    ·exact ⟨by simp,c1.l.mb⟩
    ·exact ⟨by simp,c2.l.mb⟩
   refine nV<|bB ?_
   refine bw<|aV<|aG<|aB<|aj<|ak rfl<|aj<|ak rfl<|aq<|hla (L:=L) hL (fun t ht=>Mb.at er'.1 (by decide) (by decide) t ht) lx bx ?_
   refine aB<|aj<|aG<|ak rfl<|aP<|wU (i:=1) rfl (Bf c1 xs) ?_
   refine aj<|aB<|aj<|aG<|ak rfl<|aP<|wU (i:=0) rfl ev<|aj<|aG<|ak rfl<|aP<|wU (i:=1) rfl (Bf c1 xs)<|aq ?_
   refine htm (m:=20000) (by decide) s0 s1 s2 s3 s4 s5 z1 z2 z3<|aq ?_
   refine hdt (m:=20000) (k:=60000) (by decide) (by decide) z1 z2 z3 ((Mr (fC s0) (up s1) (up s3) z1 z2 z3).mono (by decide)) ((Mr (up s1) (fC s2) (up s4) z1 z2 z3).mono (by decide)) ((Mr (up s3) (up s4) (fC s5) z1 z2 z3).mono (by decide))<|yO<|gW<|iT (decide_eq_false fun z=>z ?_)<|aW<|hN2 _ _ ⟨rfl,_,_,rfl⟩
   rw [Il];exact er'.2 xs
  ·rintro Z g' ⟨rfl,a10,a11,rfl⟩;exact hN _ _ ⟨rfl,_,_,_,_,rfl⟩
 ·rintro Z g ⟨rfl,a5,a9,a10,a11,rfl⟩;exact bB<|ahP hcl hbg hcm hcg ns hn3 nl3 hr (by lia) (by lia) hf c7 hL ox
theorem aaX {cl bg rw' cm ths cg:CP}(hti:abh ti)(hcl:ql cl)(hbg:Gm bg)(hdr:mJ dr)(hrw:abE rw')(hdt:DoI dt)(htm:TmI tm)(hla:AtX la)(hgo:GoX go)(hcm:ClX cm)(hths:aau ths)(hcg:CgX cg)(ns:List Int){h':Gh}:Ub ti cl bg dr rw' dt tm la go cm ths cg [.kls (ns.map .int)] h' (fun w _=>w=.bl true) EF:=by
 unfold Ub;rfl'
 refine hcl (by decide) ?_;generalize ns.getD (0:Int).toNat 0=c;rfl'
 refine Fx (by decide) ?_;obtain ⟨F,f1,f7,eF⟩:∃ F:Nat,1<=F/\F<=7/\1+c.fmod 7=(F:Int):=by
  have a:=Us c (show (7:Int)≠0 by decide);have b:=Um c (show (0:Int)<7 by decide);rw [eX (by decide)];exact ⟨(1+c % 7).toNat,by lia,by lia,by lia⟩
 refine dW ?_;rw [eF];rfl'
 refine hcl (by decide) ?_;rfl'
 refine G4 ⟨by decide,64,by decide,Sm.lit rfl⟩ ?_;rfl'
 refine Fx (by lia) ?_;rfl'
 refine Qc ?_;obtain ⟨S,s1,s2,s3',eS⟩:∃ S:Nat,1<=S/\S<=12/\F<=S/\(if 1+((ns.getD (0:Int).toNat 0).fdiv 7).fmod 12>(F:Int) then 1+((ns.getD (0:Int).toNat 0).fdiv 7).fmod 12 else (F:Int))=(S:Int):=by
  rw [eX (by lia)];have a:=Us ((ns.getD (0:Int).toNat 0).fdiv 7) (show (12:Int)≠0 by lia);have b:=Um ((ns.getD (0:Int).toNat 0).fdiv 7) (show (0:Int)<12 by lia);generalize (ns.getD (0:Int).toNat 0).fdiv 7 % 12=z at a b;split
  ·exact ⟨(1+z).toNat,by lia,by lia,by lia,by lia⟩
  ·exact ⟨F,by lia,by lia,by lia,rfl⟩
 rw [eS];rfl'
 refine Qc ?_;obtain ⟨L,l6,l1,eL⟩:∃ L:Nat,L<=6/\L≠1/\(2:Int)*(if (F:Int) - 4>0 then (F:Int) - 4 else 0)=(L:Int):=by
  split
  ·exact ⟨2*(F - 4),by lia,by lia,by lia⟩
  ·exact ⟨0,by lia,by lia,by lia⟩
 refine jP (.of (m:=64) (n:=10) (.lit rfl) (by unfold Sm;split <;> lia) (by decide)<|by decide) ?_;rw [eL];refine nV<|bB<|aH<|aQ ?_
 refine mW (ws:=[]) (fun R=>rfl) rfl fun g eg og xg=>?_;have nlg:h'.nx<g.nx:=by rw [xg];exact Vi _
 generalize h'.nx=n at *;refine nV<|bB<|aH ?_
 obtain ⟨nn,c7,hnn⟩:∃ nn:Nat,Cl L nn/\(3<=nn\/2<L/\1<=nn):=by
  by_cases z:L<=2
  ·exact ⟨4,.inl ⟨z,rfl⟩,.inl<|by decide⟩
  ·exact ⟨1,.inr ⟨by lia,rfl⟩,.inr ⟨by lia,Dg _⟩⟩
 refine dN<|eU<|aj<|ak rfl<|aq<|oZ (m:=S) (by lia)<|dR ?_
 refine bW (fun i Z h=>∃ rws a5,Z = [FN<|.kls<|ns.map .int,FN<|.int (F:Int),FN<|.int (S:Int),FN<|.int (L:Int),FN<|.loc n,a5,FX,FX,FX,FX,FX,FX,FX]/\h.c n=FN (.lst rws)/\n<h.nx/\(∀ r∈rws,Row r)/\rws.length=i/\(1<=i->∃ r∈rws,JL r = "spot")/\∀ (k:Nat) (r:W),rws[k]?=FN r->Wt (rws.map JL) r) ?_ ?_ ⟨[],FX,rfl,eg,nlg,fun r hr=>absurd hr<|by simp,rfl,fun z=>absurd z<|by decide,fun k r e=>by simp at e⟩
 ·rintro i w Z h N hN ew ⟨rws,a5,rfl,hn,nl,hr,hl,hspt,hrt⟩;rw [GP] at ew;obtain ⟨x,ex,rfl⟩:=N8.mp ew;have e0:=(eO ex).1;have hx:=(eO ex).2;rw [VJ] at e0;subst e0;refine nV ?_;refine iy<|qb<|ak rfl<|kO hn<|aj<|aB<|aj<|aB<|aj<|aB<|aj<|ak rfl<|aj<|aG<|aP<|ak rfl<|dW<|aq<|hcl (by lia)<|aq ?_
  refine hbg fun hb bag nxb ob=>?_;have nb:n≠h.nx:=Gq nl;have bb:h.nx<hb.nx:=by rw [nxb];exact Vi _
  have nlb:n<hb.nx:=Rg nl bb;have hnb:hb.c n=FN (.lst rws):=(ob n nb).trans hn;generalize h.nx=b at *;refine aj<|ak rfl<|aj<|ak rfl<|aq ?_
  refine hrw bag hnb (Ji nb) bb nlb hr (by lia) ?_ fun r h2 rr hfs ok fr bag2 gr2=>?_
  ·by_cases z:1<=rws.length
   ·exact .inr<|hspt<|by lia
   ·exact .inl<|by lia
  ·have hn2:h2.c n=FN (.lst rws):=(gr2.2 n nlb nb).trans hnb;refine aq<|Dl hn2 (by lia) fun g3 g3c g3o g3n=>bB<|hN _ _ ⟨rws++[r],_,rfl,g3c,by rw [g3n];exact HB nlb gr2.1,?_,by rw [Jt,hl];rfl,?_,?_⟩
   ·intro u hu;rcases La.mp hu with z | z
    ·exact hr u z
    ·rw [Kp.mp z];exact rr
   ·intro _;by_cases z:1<=rws.length
    ·obtain ⟨u,hu,eu⟩:=hspt (by lia);exact ⟨u,La.mpr<|.inl hu,eu⟩
    ·exact ⟨r,La.mpr<|.inr<|Kp.mpr rfl,hfs<|by lia⟩
   ·intro k u eu hfu;rw [Hl];by_cases z:k<rws.length
    ·rw [QC z] at eu;exact (hrt k u eu hfu).app
    ·have hk2:=(Lk.mp eu).1;rw [Jt] at hk2;have ek:k=rws.length:=by simp at hk2;lia
     rw [ek,QD (Dg _),Nat.sub_self] at eu;cases eu;exact (aaf rr ok hfu).app
 ·rintro Z h ⟨rws,a5,rfl,hn,nl,hr,hl,hspt,hrt⟩;rw [oW] at hl;exact bB<|ahA hti hcl hbg hdr hdt htm hla hgo hcm hths hcg ns hn nl hr s1 (by lia) hl c7 (by lia) l1 hnn hrt
theorem Ym (ns:List Int)(_:ns.length<=63):Tz [.kls (ns.map W.int)] g0 (fun w _=>w=.bl true) EF:=by
 have wt:WhX gk:=ac3 YW;have ti:TiE tY:=Zc.e (zbu ags aai (acE ahH) adh);have px:TK 1 wM:=ahj wt;have pl:PlE 1 wM:=TK.e (.inl rfl) px;have mi:PlE (-1) yX:=TK.e (.inr rfl) (afi wt);have le:LsE d8:=ahO mi ti;have cr:CrE fD:=adM le;have dt:DoE gP:=agT pl ti;have ta:TaE fL:=afx (agA px);have rt:RtE iZ:=ahV dt;have bo:BoE bM:=YH dt rt;have tu:TuE jJ:=afL cr dt;have pk:Cm pB:=afT rR Bc;have cs:aaR jt:=zbE tu ta (afQ cr) bo (zbL tu) (agZ aeR le cr) (zbO zas dt ta bo);have tm:TmI mj:=aas Lr Xo;exact aaX (aat ta bo) PB V5 rR (aaV rR ahw Bc pk) Lr tm Yd Pa (zbs rR Bc pk) (aeA PB V5 rR Bc<|agP<|agf rR) (ahI cs Yd Pa<|zaO Xc Lr (aaq Xc Lr) Xo tm) ns
end My
namespace PySem.W.Fast
def tw717665370391894398:=()
def tw11456291732722211362:=()
def tw9218121465147195907:=()
def tw17241331127898415751:=()
def tw11205564880313161493:=()
def tw10242720079859865572:=()
def tw6117987849790808370:=()
def tw7599594559265291448:=()
def tw9179801175270484451:=()
def tw3905469603557597465:=()
def tw16292963783770126491:=()
def tw280124873839514696:=()
def tw1322352316176644497:=()
def tw16620414247388382428:=()
def tw16496571177942857267:=()
def tw14145949411178867620:=()
def tw18151425773278852450:=()
def tw4928246272735637370:=()
def tw5939730126364885712:=()
def tw4392846280974008493:=()
def tw1441340132282425184:=()
def tw8267298116612163827:=()
def tw8968280547848187067:=()
def tw14496874850278495863:=()
def tw4000120247600402009:=()
def tw12056867456403432226:=()
def tw8345536209188095966:=()
def tw11658083907853171544:=()
def tw12175470612384524938:=()
def tw18118767042380422866:=()
def tw11079207507050415662:=()
def tw16321868923642359083:=()
def tw6417308664836343184:=()
def tw2305792939368593482:=()
def tw8855815248347802017:=()
def tw13604054488296375546:=()
def tw15023756341472931105:=()
def tw7193430156020243404:=()
def tw10046836403345096547:=()
def tw11975447141629519294:=()
def tw2759065446410932290:=()
def tw12883374422183946928:=()
def tw7917770661041301239:=()
def tw3575817129874128273:=()
def tw13760907974081996031:=()
def tw11288000299360768698:=()
def tw18129750271904767482:=()
def tw4252911920375570975:=()
def tw13447668509046573038:=()
def tw3559331882122653048:=()
def tw5826069940621160609:=()
def tw119546517500227082:=()
def tw16597756389597675924:=()
def tw2451731383457985518:=()
def tw15197164855006222484:=()
end PySem.W.Fast
open PySem PySem.W PyProof.Rows
theorem PySem.Challenge.cw_easelroom_k72_ties_and_claims_at_numbers_holds : PySem.Challenge.rw_easelroom_k72_ties_and_claims_at_numbers.Holds := by
 w_on;o_law;k_head;(case hw=>w_witness2)
 k_fill
 refine My.walk (l:=PySem.Challenge.rw_easelroom_k72_ties_and_claims_at_numbers) rfl rfl (fun w h Y=>PySem.W.kIn_of Y) ?F
 case F=>
  intro w mg fa h KX G hmg;refine' My.all_mk My.Ym KX G hmg ?h0 ?h1 ?h2 ?h3 ?h4 ?h5 ?h6 ?h7 ?h8 ?h9 ?h10 ?h11 ?h12 ?h13 ?h14 ?h15 ?h16 ?h17 ?h18 ?h19 ?h20 ?h21 ?h22 ?h23 ?h24 ?h25 ?h26 ?h27 ?h28 ?h29 ?h30 ?h31 ?h32 ?h33 ?h34 ?h35 ?h36 ?h37 ?h38 ?h39 ?h40 ?h41 ?h42 ?h43 ?h44 ?h45 ?z_abs ?z_any ?z_bool ?z_dict ?z_int ?z_isinstance ?z_len ?z_list ?z_max ?z_min ?z_range ?z_reversed ?z_sorted ?z_tuple ?z_zip ?gk_MADE ?sk_MADE ?lk_MADE ?g_MOST_TERMS ?g_MOST_POWER ?g_MOST_PAIRS ?g_FIELD
  (case h0 | h1 | h2 | h3 | h4 | h5 | h6 | h7 | h8 | h9 | h10 | h11 | h12 | h13 | h14=>(apply My.NZ <;> k_is))
  (case h15 | h16 | h17 | h18 | h19 | h20 | h21 | h22 | h23 | h24 | h25 | h26 | h27 | h28 | h29=>(apply My.NZ <;> k_is))
  (case h30 | h31 | h32 | h33 | h34 | h35 | h36 | h37 | h38 | h39 | h40 | h41 | h42 | h43 | h44=>(apply My.NZ <;> k_is))
  (case h45=>(apply My.NZ <;> k_is))
  (case z_abs | z_any | z_bool | z_dict | z_int | z_isinstance | z_len | z_list | z_max | z_min | z_range | z_reversed | z_sorted | z_tuple | z_zip | gk_MADE | lk_MADE=>k_is)
  (case sk_MADE=>rfl)
  (case g_MOST_TERMS | g_MOST_POWER | g_MOST_PAIRS | g_FIELD=>(apply Exists.intro <;> k_is))
