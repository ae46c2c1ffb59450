import PyProof.Rows.All
import Wide.All
import OpenK.AllK
import Wide.FinOn
import Lean
import PyProof.EqAt
import PyProof.EqKinds
import PyProof.TupleCall
import PySem.Challenge.RW_easelroom_k59_whole_alike_where_worths_a
set_option Elab.async false
set_option linter.all false
set_option maxRecDepth 100000
set_option maxHeartbeats 0
local macro_rules | `(tactic| lia) => `(tactic| first | lia (splits := 9) | omega)
open Option renaming some→FN,none→FX
open PySem renaming wpAny_bind→CR,Value→Mk,wpAny_pure→Ds,Shared→AP,Spec→aem,starEach→Eu,wpAny→Dl,Program→Ew,model→Dm,sizeLine→G7,Builtin→Q6,Around→Fg,mainGlobals→Jh,NameKind→M4,wpAny_newObj_type→Ni,World→Em,wpAny_holding→M8,wpAny_callSpecial?_slot→Ue,compareOp→K3,cellsFrom→K8,codeAny_builtin→RG,wpAny_field→Mt,plainId_quiet→Oa,mem_of_lookup→Ua,PassesOwn→ZQ,assignEach→M6,Paired→La,wpAny_call_entry→Rz,wpAny_rule→Ml,wpAny_mono→Mj,sysModules→Mx,wpAny_seqItems→Rx,boot_len→TV,wpAny_truthy_bool→VD,wpAny_pyIter_list→VB,foldedSetIterable→V9,wpAny_typeOf→Rf,wpAny_Call_Name_kw→W5,backTo→JK,FuncData→N5,bootBuiltins→S6,binaryOp→Mi,wpAny_loadPart'→Xe,wpAny_typeNameOfWhole_keyiter→Yx,codeAny→Mh,wpAny_setField_rec→Xc,wpAny_pyIter_tuple→Xb,wpAny_passesOwn→X3,DictEntry→Ru,behindInMarks→Vq,attributeBase→Vp,pyNext→Ln,cLine→Jj,SetTable→ZD,Keyword→Nq,wpAny_typeNameOf_keyiter→Yq,wpAny_ite_split→XN,wpAny_attempt→Wd,wpAny_Call_method_late→Yw,wpAny_letGo→Vn,keywordEach→Vl,firstArgMember→XS,builtinLookup_eq_fast→Ys,wpAny_isInstance→YJ,rawInt→Nf,wpAny_updateSeq→Y7,sliceBounds→WR,IsPair→Nx,wpAny_tryCatch→Y0,holding→Rr,swapsWith→Vh,wpAny_of_eq→XF,merged→Q9,Result→Xy
open PySem.W renaming Frag→Dp,mg_none_of→R9,nsIn→M7,keepIn→U7,findIn→U3,fnOf→Vr,mg_of→Wt,codeIn→YH
open PySem.Heap renaming get?_push_of_some→G6,get?_push_size→Hw,lt_size→Fj,get?_update_other→TY,size_push→Oh,get?_update_self→Vv,SameBut→W6,get?_none_of_le→Xi,DictOfH→Wa,ExtBut→Wg
open List renaming getElem?_eq_getElem→GK,length_map→Ec,getD_eq_getElem?_getD→Hy,map_cons→Ed,getElem?_map→Gy,replicate→Gv,mem_cons_of_mem→Jm,length_append→JC,getElem?_eq_some_iff→Le,mem_map→Gs,size_toArray→J9,map_append→Iu,mem_singleton→K5,mem_cons→J1,mem_of_getElem?→Lx,mem_cons_self→LQ,length_cons→K9,getElem?_append_right→Ob,take_length→LK,eq_nil_of_length_eq_zero→RT,mem_append_left→N7,length_take→Lr,getElem?_append_left→RQ,lookup_cons→Ma,take_succ→Lz,mem_append→Mr,map_map→Lb,mem_iff_getElem→RD,replicate_succ→RB,mem_append_right→S9,range→LC,pairwise_append→S8,not_mem_nil→Q5,drop_eq_getElem_cons→Vd,map_nil→Mw,append_assoc→Ri,pairwise_cons→SN,map_congr_left→Tb,nodup_cons→RN,find?_cons→RM,length_singleton→V2,getElem?_replicate→W0,take_of_length_le→Vz,getElem_mem→TQ,filter_cons→TK,pairwise_map→Tv,cons_lt_cons_iff→Vw,any_eq_true→Tt,foldl_append→Vb,mem_of_mem_take→X4,mem_range→Tz,flatten_cons→W3,mem_filter→V5,append_nil→V4,zipWith_cons_cons→Xu,cons_append→W2,pairwise_iff_getElem→YS,all_eq_true→Wq,length_set→Wn,length_nil→Wk,nodup_nil→Wz,extract_eq_drop_take→ZK,drop_zero→Wy,sum_cons→Ws,nil_append→Xl,find?_eq_none→YX,reverse_cons→YD,length_range→Y8,take_append_drop→Ye,getElem?_eq_none→Yd,replicate_succ'→Yt,all_cons→XQ,Pairwise→aiK,range_succ→YL,length→Wj,getElem?_range→Yr,forIn_cons→YK,lt_irrefl→YG,forIn_nil→YF
open Nat renaming le_trans→Eb,le_refl→Ea,lt_of_lt_of_le→Hl,ne_of_lt→HX,zero_le→Jk,ne_of_gt→Lp,lt_of_le_of_ne→Rm,lt_of_le_of_lt→Rj,le_of_lt→Mv,lt_irrefl→Nv,pow_le_pow_right→Ub,eq_zero_of_not_pos→Xr,eq_of_beq_eq_true→Xj,beq→Ly,mul_le_mul_right→Xh,le_add_right→Wo,le_succ→Tp,mul_le_mul→Ww,lt_succ_self→Xn,sub_le→Uw,pow_pos→Vj,pow_add→Vi,add_le_add→XM,add_comm→WY,le_max_right→YM,pow_succ→XO
open Option.some renaming inj→Gw
open PyProof.Rows renaming wpS_pure→Ep,wpS_bind→En,SortSt→Fd,Keyed→Dz,arrOf→Dy,pendingOf→Jx,callWith_type1→X8,slot_tuple_getitem→Xv,wpS_forRange→Ny,kindOf→Ku,wpS_mono→Nt,SortKind→Vs,setArr→Li,wpS_modify→Tn,boot_tuple→Uz,pairsOf→R7,IntsAre→R0,boot_isinstance→Y5,wpS_get→T9,seqObj→QZ,envOfC→Rb,AllBare→Tj,IsTup→NZ
open Decidable renaming byContradiction→MJ
open Bool renaming false_ne_true→Lw,false_eq_true→SJ,and_eq_true→V8,eq_iff_iff→V3,not_eq_true→Xo
open PySem.PassesOwn renaming never→MF
open PySem.Builtin.SmallTypes renaming nextOf→UW,ownedTupleIsFree→ZS
open PySem.Around renaming under_plainId→Rg
open PySem.SeqAt renaming EqAt→WL,ne_of_list_tuple→Ym
open PySem.Builtin.Tuple renaming tupleExact→WQ
open Array renaming getElem?_eq_getElem→WM,toList_append→Tw,getElem?_toList→Vx,length_toList→Vu,toList_extract→Yu
open Int renaming add_zero→Nu,toNat_natCast→Wr,zero_add→WW,mul_comm→WT,le_refl→Wf,natAbs_mul→Y4,mul_one→XJ
open Ne renaming symm→JD
open Lean renaming maxHeartbeats→agk,maxRecDepth→ajl
open List.cons renaming inj→Rv
open PySem.Builtin.Int renaming intBits→X7
open PySem.F renaming slot_dict_keyiterator_next→YZ,slot_tuple_iterator_next→Z8,plain_max_loop→Xm,slot_zip_next→Yl,slot_dict_get→Yj
open PySem.Str renaming ofString→Tq
open PySem.Builtin.List renaming listExtendWith→Z0
open PySem.Calls renaming callWith_builtin→YQ,evalArgs_plain→Yv
open PySem.Builtin.Slice renaming slicePlaces→Yz
open PySem.Paired renaming length→Vo
open False renaming elim→TJ
open PySem.Builtin.Dict renaming updateFrom→ZP
open Option renaming getD_some→Xp
open PySem.SetTable renaming bits→Wv
open Function renaming comp→Wu
open PySem.Obj renaming data_mapFields→YW,mapSeq→Uy
open PySem.Heap.SameBut renaming update→Yh
namespace L2
open PySem PySem.Spec PyProof.Rows
abbrev Key:=Sum Int Str
def Dv:Key->Mk->Bool
 | .inl k,v=>Value.isInt k v
 | .inr x,v=>Value.isStrOf x v
def ada (w:Em):Key->Int
 | .inl k=>hashInt k
 | .inr x=>hashStr w x
theorem bY:∀ {k:Key} {v:Mk},Dv k v=true->(∃ i t,k=Sum.inl i/\v=Value.int i t)\/(∃ x t,k=Sum.inr x/\v=Value.str x t)
 | .inl i,v,h=>by
  obtain ⟨t,e⟩:=Value.isInt_shape (k:=i) (v:=v) h;exact .inl ⟨i,t,rfl,e⟩
 | .inr x,v,h=>by
  obtain ⟨t,e⟩:=Value.isStrOf_shape (x:=x) (v:=v) h;exact .inr ⟨x,t,rfl,e⟩
theorem zaI (i:Int)(t:Tok):Dv (.inl i) (.int i t)=true:=by simp [Dv,Value.isInt]
theorem aho (x:Str)(t:Tok):Dv (.inr x) (.str x t)=true:=by simp [Dv,Value.isStrOf]
theorem ajk (a b:Int):decide ((Sum.inl a:Key)=Sum.inl b)=(a==b):=by
 by_cases e:a=b
 ·subst e;simp
 ·have h:¬ (Sum.inl a:Key)=Sum.inl b:=fun q=>e (Sum.inl.inj q)
  rw [decide_eq_false h];exact (beq_eq_false_iff_ne.mpr e).symm
theorem aiI (a b:Str):decide ((Sum.inr a:Key)=Sum.inr b)=decide (a=b):=by
 by_cases e:a=b
 ·subst e;simp
 ·have h:¬ (Sum.inr a:Key)=Sum.inr b:=fun q=>e (Sum.inr.inj q)
  rw [decide_eq_false h,decide_eq_false e]
theorem ahW (a:Int)(b:Str):decide ((Sum.inl a:Key)=Sum.inr b)=false:=decide_eq_false (fun q=>nomatch q)
theorem ail (a:Str)(b:Int):decide ((Sum.inr a:Key)=Sum.inl b)=false:=decide_eq_false (fun q=>nomatch q)
def bR (prog:Ew)(w:Em):PySem.KeyKind prog w Key where
 is:=Dv
 hash:=ada w
 inj:=fun v a b ha hb=>by
  rcases bY ha with ⟨i,t,rfl,rfl⟩ | ⟨x,t,rfl,rfl⟩
  ·rcases bY hb with ⟨j,u,rfl,e⟩ | ⟨y,u,rfl,e⟩
   ·injection e with e1 _;rw [e1]
   ·exact nomatch e
  ·rcases bY hb with ⟨j,u,rfl,e⟩ | ⟨y,u,rfl,e⟩
   ·exact nomatch e
   ·injection e with e1 _;rw [e1]
 byValue:=fun k v h=>by
  rcases bY h with ⟨i,t,rfl,rfl⟩ | ⟨x,t,rfl,rfl⟩ <;> rfl
 pyHash:=fun hv h=>by
  rcases bY hv with ⟨i,t,rfl,rfl⟩ | ⟨x,t,rfl,rfl⟩
  ·exact wpAny_pyHash_int h
  ·exact wpAny_pyHash_str h
 eqBool:=fun hu hv h=>by
  rcases bY hu with ⟨i,t,rfl,rfl⟩ | ⟨x,t,rfl,rfl⟩
  ·rcases bY hv with ⟨j,u,rfl,rfl⟩ | ⟨y,u,rfl,rfl⟩
   ·rw [ajk] at h;exact wpAny_eqBool_int h
   ·rw [ahW] at h;exact SeqAt.EqAt.int_str i t y u _ _ _ _ h
  ·rcases bY hv with ⟨j,u,rfl,rfl⟩ | ⟨y,u,rfl,rfl⟩
   ·rw [ail] at h;exact SeqAt.EqAt.str_int x t j u _ _ _ _ h
   ·rw [aiI] at h;exact wpAny_eqBool_str h
 «strs»:=fun k x t v h=>by
  rcases bY h with ⟨i,u,rfl,e⟩ | ⟨y,u,rfl,e⟩
  ·exact nomatch e
  ·injection e with e1 _
   subst e1;cases v <;> rfl
theorem yH (prog:Ew)(w:Em)(i:Int)(t:Tok):(bR prog w).is (.inl i) (.int i t)=true:=zaI i t
theorem yX (prog:Ew)(w:Em)(x:Str)(t:Tok):(bR prog w).is (.inr x) (.str x t)=true:=aho x t
inductive V where
 | non | bl (b:Bool) | int (i:Int) | str (x:Str) | byt (b:Array UInt8) | flt (b:UInt64) | ref (a:Addr) | ty (n:String)
 deriving DecidableEq
def RelV:V->Mk->Prop
 | .non,u=>u=Value.none
 | .bl b,u=>u=Value.bool b
 | .int i,u=>∃ t,u=Value.int i t
 | .str x,u=>∃ t,u=Value.str x t
 | .byt b,u=>∃ t,u=Value.bytes b t
 | .flt b,u=>∃ t,u=Value.float b t
 | .ref a,u=>u=Value.ref a
 | .ty n,u=>u=Value.type n
abbrev DY:List V->List Mk->Prop:=La RelV
variable {xs : List V}{us : List Mk}
theorem DY.length {xs:List V}{us:List Mk}(r:DY xs us):xs.length=us.length:=Vo r
theorem DY.get:∀ {xs:List V} {us:List Mk} {i:Nat} {x:V},DY xs us->xs[i]?=FN x->∃ u,us[i]?=FN u/\RelV x u
 | _,_,_,_,.nil,e=>by simp at e
 | _,_,0,_,.cons r _,e=>by simp at e;subst e;exact ⟨_,rfl,r⟩
 | _,_,i+1,x,.cons _ t,e=>by
  obtain ⟨u,h1,h2⟩:=DY.get (i:=i) (x:=x) t (by simpa using e);exact ⟨u,by simpa using h1,h2⟩
variable {u : Mk}
theorem DY.set {x:V}{u:Mk}(r:RelV x u):∀ {xs:List V} {us:List Mk} (i:Nat),DY xs us->DY (xs.set i x) (us.set i u)
 | _,_,_,.nil=>.nil
 | _,_,0,.cons _ t=>.cons r t
 | _,_,i+1,.cons q t=>.cons q (DY.set r i t)
theorem DY.append:∀ {xs ys:List V} {us ws:List Mk},DY xs us->DY ys ws->DY (xs++ys) (us++ws)
 | _,_,_,_,.nil,s=>s
 | _,_,_,_,.cons r t,s=>.cons r (DY.append t s)
theorem DY.take:∀ {xs:List V} {us:List Mk} (n:Nat),DY xs us->DY (xs.take n) (us.take n)
 | _,_,0,_=>.nil
 | _,_,_+1,.nil=>.nil
 | _,_,n+1,.cons r t=>.cons r (DY.take n t)
theorem DY.drop:∀ {xs:List V} {us:List Mk} (n:Nat),DY xs us->DY (xs.drop n) (us.drop n)
 | _,_,0,r=>r
 | _,_,_+1,.nil=>.nil
 | _,_,n+1,.cons _ t=>DY.drop n t
def KQ:Option V->Option Mk->Prop
 | some v,FN u=>RelV v u
 | none,FX=>True
 | _,_=>False
variable {κ : Type}
def KV:List (κ×V)->List (κ×Mk)->Prop:=La fun (p:κ×V) (q:κ×Mk)=>p.1=q.1/\RelV p.2 q.2
def kV:Key->V
 | .inl i=>.int i
 | .inr x=>.str x
inductive HO where
 | lst (xs:List V)
 | tup (xs:List V)
 | dK (kvs:List (Key×V)) | dT (kvs:List (List Key×V))
 | set (S:Int->Bool) (n:Nat)
 | ins (C dx:Addr) (fs:List (Str×V))
 | own (x:Addr)
 | xd (fs:List (Str×V))
 | met (f x:Addr)
 | rng (lo hi:Int)
 | frz (o:Obj) (u:HO)
 | tbl (ps:Array Mk)
 | ext (φ : Heap->Prop)
abbrev Hp:=Addr->Option HO
def Fb (H:Hp)(a:Addr)(o:HO):Hp:=fun b=>if b=a then FN o else H b
variable {H : Hp}
theorem aY {a:Addr}{o:HO}:Fb H a o a=FN o:=by unfold Fb;rw [if_pos rfl]
theorem aO {a b:Addr}{o:HO}(h:b≠a):Fb H a o b=H b:=by unfold Fb;rw [if_neg h]
theorem aR {a b:Addr}{o:HO}(h:H a=FN o)(h':H b=FX):a≠b:=by
 intro e;subst e;rw [h] at h';cases h'
section
variable (P:Ew)(w:Em)
def Ib (h:Heap)(a:Addr)(items:Array Mk):Prop:=∃ o,h.get? a=FN o/\o.cls=.type "tuple"/\(∃ n,o.data=.seq items n)/\o.dict=FX
theorem Ib.tup {h:Heap}{a:Addr}{items:Array Mk}(x:Ib h a items):NZ h a items:=let ⟨o,ho,hc,hd,_⟩:=x;⟨o,ho,hc,hd⟩
theorem Ib.new (h:Heap)(items:Array Mk):Ib (h.push { cls:=.type "tuple",data:=.seq items }) h.objs.size items:=⟨_,Hw _ rfl,rfl,⟨_,rfl⟩,rfl⟩
def eH (H:Hp)(h:Heap)(a:Addr):HO->Prop
 | .lst xs=>xs.length<=G7/\∃ (its:List Mk) (n:Nat),DY xs its/\h.get? a=FN { cls:=.type "list",data:=.seq its.toArray n }
 | .tup xs=>xs.length<=G7/\∃ its:List Mk,DY xs its/\Ib h a its.toArray
 | .dK kvs=>kvs.length<=G7/\(a==Mx)=false/\∃ vs,KV kvs vs/\h.DictOf (bR P w) a vs
 | .dT kvs=>kvs.length<=G7/\(a==Mx)=false/\∃ xs:List (List Key×Addr×Mk),
   La (fun (p:List Key×V) (q:List Key×Addr×Mk)=>p.1=q.1/\H q.2.1=FN (.tup (p.1.map kV))/\RelV p.2 q.2.2) kvs xs /\
   ∃ o es ep,h.get? a=FN o/\o.ExactDict/\o.data=.dict es ep/\es.toList=xs.map (entryOfKey (tupleKind (bR P w)))/\(xs.map (·.1)).Nodup
 | .set S n=>h.SetOf (intKind P w) a S n
 | .ins C dx fs=>H dx=FN (.own a)/\fs.length<=1000/\dx≠a/\h.get? a=FN (PySem.W.instObj C dx) /\
   ∃ mA,h.Ns1 dx mA/\(∀ f,KQ (fs.lookup f) (mA f))/\PySem.Within mA (fs.map (·.1))
 | .own _=>∃ o,h.get? a=FN o
 | .xd fs=>∃ mA,h.Ns1 a mA/\∀ f,KQ (fs.lookup f) (mA f)
 | .rng lo hi=>∃ t u v,h.get? a=FN { cls:=.type "range",data:=.fields #[.int lo t,.int hi u,.int 1 v] }
 | .frz o u=>h.get? a=FN o/\eH H h a u
 | .tbl ps=>h.get? a=FN { cls:=.none,data:=.fields ps }
 | .met f x=>h.get? a=FN (PySem.W.methodObj (.ref f) (.ref x))
 | .ext φ=>φ h/\(∃ o,h.get? a=FN o)/\∀ h1 h2:Heap,φ h1->(∀ o,h1.get? a=FN o->h2.get? a=FN o)->φ h2
def KY (H:Hp)(h:Heap):Prop:=∀ a o,H a=FN o->eH P w H h a o
end
variable {h : Heap}
section
variable {P:Ew}{w:Em}{H':Hp}{h':Heap}{a:Addr}{o:HO}
theorem eH.lt (x:eH P w H h a o):a<h.objs.size:=by
 cases o with
 | lst xs=>obtain ⟨_,_,_,_,e⟩:=x;exact Fj e
 | tup xs=>obtain ⟨_,_,_,p⟩:=x;exact p.tup.lt
 | dK kvs=>obtain ⟨_,_,_,_,o,_,_,e,_⟩:=x;exact Fj e
 | dT kvs=>obtain ⟨_,_,_,_,o,_,_,e,_⟩:=x;exact Fj e
 | set S n=>obtain ⟨o,_,_,_,e,_⟩:=x;exact Fj e
 | ins C dx fs=>obtain ⟨_,_,_,e,_⟩:=x;exact Fj e
 | own y=>obtain ⟨_,e⟩:=x;exact Fj e
 | xd fs=>obtain ⟨_,⟨_,_,_,e,_⟩,_⟩:=x;exact Fj e
 | rng lo hi=>obtain ⟨_,_,_,e⟩:=x;exact Fj e
 | frz ob u=>obtain ⟨e,_⟩:=x;exact Fj e
 | tbl ps=>exact Fj (show h.get? a=FN _ from x)
 | met f y=>exact Fj (show h.get? a=FN _ from x)
 | ext φ=>obtain ⟨_,⟨_,e⟩,_⟩:=x;exact Fj e
theorem Paired.mapP {α β : Type}{F G:α->β->Prop}:∀ {l₁ : List α} {l₂ : List β},La F l₁ l₂->(∀ a b,F a b->G a b)->La G l₁ l₂
 | _,_,.nil,_=>.nil
 | _,_,.cons r t,f=>.cons (f _ _ r) (Paired.mapP t f)
theorem eH.stay (x:eH P w H h a o)(k:∀ b u,(b=a\/H b=FN (.own a))->h.get? b=FN u->h'.get? b=FN u)
  (ho:∀ b,H b=FN (.own a)->H' b=FN (.own a)) (ht:∀ b xs,H b=FN (.tup xs)->H' b=FN (.tup xs)):eH P w H' h' a o:=by
 induction o with
 | lst xs=>obtain ⟨z,its,n,r,e⟩:=x;exact ⟨z,its,n,r,k _ _ (.inl rfl) e⟩
 | tup xs=>obtain ⟨z,its,r,ob,e,c⟩:=x;exact ⟨z,its,r,ob,k _ _ (.inl rfl) e,c⟩
 | dK kvs=>obtain ⟨z,y,vs,r,ob,es,ep,e,c⟩:=x;exact ⟨z,y,vs,r,ob,es,ep,k _ _ (.inl rfl) e,c⟩
 | dT kvs=>
  obtain ⟨z,y,xs,r,ob,es,ep,e,c⟩:=x;exact ⟨z,y,xs,Paired.mapP r fun p q z=>⟨z.1,ht _ _ z.2.1,z.2.2⟩,ob,es,ep,k _ _ (.inl rfl) e,c⟩
 | set S n=>obtain ⟨ob,es,ep,t,e,c⟩:=x;exact ⟨ob,es,ep,t,k _ _ (.inl rfl) e,c⟩
 | ins C dx fs=>
  obtain ⟨d,z,ne,e,mA,⟨od,es,ep,e2,c⟩,r⟩:=x;exact ⟨ho _ d,z,ne,k _ _ (.inl rfl) e,mA,⟨od,es,ep,k _ _ (.inr d) e2,c⟩,r⟩
 | own y=>obtain ⟨ob,e⟩:=x;exact ⟨ob,k _ _ (.inl rfl) e⟩
 | xd fs=>obtain ⟨mA,⟨od,es,ep,e,c⟩,r⟩:=x;exact ⟨mA,⟨od,es,ep,k _ _ (.inl rfl) e,c⟩,r⟩
 | rng lo hi=>obtain ⟨t,u,v,e⟩:=x;exact ⟨t,u,v,k _ _ (.inl rfl) e⟩
 | frz ob u ih=>obtain ⟨e,q⟩:=x;exact ⟨k _ _ (.inl rfl) e,ih q⟩
 | tbl ps=>
  have e:h.get? a=FN { cls:=.none,data:=.fields ps }:=x;show h'.get? a=FN { cls:=.none,data:=.fields ps };exact k a _ (.inl rfl) e
 | met f y=>
  have e:h.get? a=FN (PySem.W.methodObj (.ref f) (.ref y)):=x;show h'.get? a=FN (PySem.W.methodObj (.ref f) (.ref y));exact k a _ (.inl rfl) e
 | ext φ=>obtain ⟨p,⟨o,e⟩,st⟩:=x;exact ⟨st _ _ p fun o q=>k _ _ (.inl rfl) q,⟨o,k _ _ (.inl rfl) e⟩,st⟩
theorem KY.lt (x:KY P w H h)(e:H a=FN o):a<h.objs.size:=(x a o e).lt
theorem KY.fresh (x:KY P w H h)(e:h.objs.size<=a):H a=FX:=by
 cases q:H a with
 | none=>rfl
 | some u=>exact absurd (Hl (x.lt q) e) (Nv _)
theorem KY.kept (x:KY P w H h)(k:∀ b u,h.get? b=FN u->h'.get? b=FN u):KY P w H h':=fun a o e=>
 (x a o e).stay (fun b u _ q=>k b u q) (fun _ q=>q) fun _ _ q=>q
theorem KY.laid (x:KY P w H h)(k:∀ b u,h.get? b=FN u->h'.get? b=FN u)(hp:h.objs.size<=a)(new:eH P w (Fb H a o) h' a o):KY P w (Fb H a o) h':=fun b u e=>by
 have hn:=x.fresh hp;by_cases hb:b=a
 ·subst hb;rw [aY] at e;cases e;exact new
 ·rw [aO hb] at e;exact (x b u e).stay (fun c v _ q=>k c v q) (fun c q=>by rw [aO (aR q hn)];exact q) fun c xs q=>by rw [aO (aR q hn)];exact q
end
variable {h' : Heap}{H' : Hp}{P : Ew}{w : Em}
def Rd (H:Hp)(a:Addr)(u:HO):Prop:=H a=FN u\/∃ o,H a=FN (.frz o u)
theorem Rd.ok {a:Addr}{u:HO}(r:Rd H a u)(x:KY P w H h):eH P w H h a u:=by
 rcases r with r | ⟨o,r⟩
 ·exact x a u r
 ·obtain ⟨_,q⟩:=x a _ r;exact q
def Mut:Option HO->Prop
 | some (.lst _)=>True
 | some (.dK _)=>True
 | some (.dT _)=>True
 | some (.set _ _)=>True
 | some (.ins _ _ _)=>True
 | some (.ext _)=>True
 | _=>False
section
variable {x e:Addr}{o':HO}
theorem KY.write (ok:KY P w H h)(mu:Mut (H x))(he:e=x\/H e=FN (.own x))(k:∀ b u,b≠e->h.get? b=FN u->h'.get? b=FN u)(heo:∃ u,h'.get? e=FN u)
  (new:eH P w (Fb H x o') h' x o'):KY P w (Fb H x o') h':=fun b u q=>by
 have nown:∀ c y,H c=FN (.own y)->c≠x:=fun c y r z=>by subst z;rw [r] at mu;exact mu
 have ntup:∀ c xs,H c=FN (.tup xs)->c≠x:=fun c xs r z=>by subst z;rw [r] at mu;exact mu
 by_cases hb:b=x
 ·subst hb;rw [aY] at q;cases q;exact new
 ·rw [aO hb] at q;by_cases hbe:b=e
  ·have q':H b=FN (.own x):=by
    rcases he with z | z
    ·exact absurd (hbe.trans z) hb
    ·rw [hbe];exact z
   rw [q] at q';cases q';obtain ⟨v,hv⟩:=heo;exact ⟨v,by rw [hbe];exact hv⟩
  ·refine (ok b u q).stay (fun c v hc r=>k c v ?_ r) (fun c r=>by rw [aO (nown c b r)];exact r) fun c xs r=>by rw [aO (ntup c xs r)];exact r
   rcases hc with rfl | hc
   ·exact hbe
   ·rintro rfl;rcases he with z | z
    ·exact nown c b hc z
    ·rw [hc] at z;cases z;exact hb rfl
end
structure Un (fs ex:List Addr) (H H':Hp) (h h':Heap):Prop where
 keep:∀ b o,h.get? b=FN o->H b=FX->b∉fs->b∉ex->h'.get? b=FN o
 slot:∀ b o,h.get? b=FN o->H b=FX->b∈fs->b∉ex->∃ sl,h'.get? b=FN { o with slots:=sl }
 free:∀ b o,h.get? b=FN o->H b=FX->b∉ex->H' b=FX
 there:∀ b o,h.get? b=FN o->b∉ex->∃ o',h'.get? b=FN o'
 tups:∀ b xs,H b=FN (.tup xs)->H' b=FN (.tup xs)
 frzs:∀ b o u,H b=FN (.frz o u)->H' b=FN (.frz o u)
 tbls:∀ b ps,H b=FN (.tbl ps)->∃ more,H' b=FN (.tbl (ps++more))
section
variable {fs fs' ex ex':List Addr}{H1 H2:Hp}{h1 h2:Heap}{a x e:Addr}{o:HO}
theorem Un.any (u:Un fs ex H H1 h h1){b:Addr}{ob:Obj}(q:h.get? b=FN ob)(n:H b=FX)(hx:b∉ex):∃ sl,h1.get? b=FN { ob with slots:=sl }:=by
 by_cases hb:b∈fs
 ·exact u.slot b ob q n hb hx
 ·exact ⟨ob.slots,u.keep b ob q n hb hx⟩
theorem Un.kept (k:∀ b u,h.get? b=FN u->h'.get? b=FN u):Un fs ex H H h h':=
 ⟨fun b ob q _ _ _=>k b ob q,fun b ob q _ _ _=>⟨ob.slots,k b ob q⟩,fun _ _ _ n _=>n,fun b ob q _=>⟨ob,k b ob q⟩,fun _ _ q=>q,fun _ _ _ q=>q,fun _ ps q=>⟨#[],by rw [q];simp⟩⟩
theorem Un.refl:Un fs ex H H h h:=Un.kept fun _ _ q=>q
theorem Un.laid (k:∀ b u,h.get? b=FN u->h'.get? b=FN u)(hp:h.objs.size<=a)(hn:H a=FX):Un fs ex H (Fb H a o) h h' where
 keep:=fun b u q _ _ _=>k b u q
 slot:=fun b u q _ _ _=>⟨u.slots,k b u q⟩
 free:=fun b u q n _=>by rw [aO (HX (Hl (Fj q) hp))];exact n
 there:=fun b u q _=>⟨u,k b u q⟩
 tups:=fun b xs q=>by rw [aO (aR q hn)];exact q
 frzs:=fun b u xs q=>by rw [aO (aR q hn)];exact q
 tbls:=fun b ps q=>⟨#[],by rw [aO (aR q hn),q];simp⟩
theorem Un.write (mu:Mut (H x))(he:e=x\/H e=FN (.own x))(k:∀ b u,b≠e->h.get? b=FN u->h'.get? b=FN u)(heo:∃ u,h'.get? e=FN u):Un fs ex H (Fb H x o) h h':=by
 have hx:∀ b,H b=FX->b≠x:=fun b n z=>by subst z;rw [n] at mu;exact mu
 have hb:∀ b,H b=FX->b≠e:=fun b n z=>by
  subst z;rcases he with r | r
  ·exact hx b n r
  ·rw [n] at r;cases r
 have hm:∀ b u,H b=FN u->¬ Mut (FN u)->b≠x:=fun b u q nm z=>by subst z;rw [q] at mu;exact nm mu
 refine ⟨fun b u q n _ _=>k b u (hb b n) q,fun b u q n _ _=>⟨u.slots,k b u (hb b n) q⟩,fun b u q n _=>by rw [aO (hx b n)];exact n,fun b u q _=>?_,
  fun b xs q=>by rw [aO (hm b _ q fun z=>z)];exact q,fun b u xs q=>by rw [aO (hm b _ q fun z=>z)];exact q,fun b ps q=>⟨#[],by rw [aO (hm b _ q fun z=>z),q];simp⟩⟩
 by_cases hbe:b=e
 ·subst hbe;exact heo
 ·exact ⟨u,k b u hbe q⟩
end
def trk (h:Heap)(H:Hp):List Addr:=(LC h.objs.size).filter fun a=>(H a).isSome
def Nz (h:Heap)(H:Hp):Heap:=PySem.W.hideAll h (trk h H)
theorem afy (h:Heap)(H:Hp):(Nz h H).objs.size=h.objs.size:=PySem.W.hideAll_size _ _
theorem agq {b:Addr}{o:Obj}(e:h.get? b=FN o)(n:H b=FX):(Nz h H).get? b=FN o:=
 PySem.W.hideAll_get _ e fun hm=>by
  have q:(H b).isSome=true:=(V5.mp hm).2;rw [n] at q;simp at q
theorem zbO {b:Addr}{o:Obj}(e:(Nz h H).get? b=FN o):h.get? b=FN o/\H b=FX:=by
 have e':h.get? b=FN o:=PySem.W.of_hideAll (trk h H) e;refine ⟨e',?_⟩;cases q:H b with
 | none=>rfl
 | some x=>
  have hm:b∈trk h H:=V5.mpr ⟨Tz.mpr (Fj e'),by simp [q]⟩;have z:(Nz h H).get? b=FX:=PySem.W.hideAll_none (trk h H) hm;rw [z] at e;cases e
def ahF (g h:Heap)(L:Addr):List (Addr×Obj):=(LC h.objs.size).filterMap fun a=>if a=L\/(g.get? a).isSome=true then FX else (h.get? a).map fun o=>(a,o)
def rest (g h:Heap)(L d:Addr):List (Addr×Obj):=(ahF g h L).filter fun p=>decide (p.1≠d)
structure Mod (K:Dp) (mg:Str->Option Mk) (base:Heap):Prop where
 kin:K.In base
 glob:base.Ns Jh mg
 blt:∃ mb,base.Ns builtinsNs mb/\∀ x:Str,x ≠ "__name__"->mb x=S6 x
 nolimit:base.NoLimit
structure Cx where
 prog:Ew
 w:Em
 K:Dp
 mg:Str->Option Mk
 base:Heap
 A:Fg
 N:List Str
 s₀ : AP
 H₀ : Hp
 env:Env
 outer:List Env
 stack:List Env
 ex:List Addr
 fn:Str->Bool
 calm:Bool
 pn:List (Addr×Obj)
 xe:Mk->AP->Prop
def frs (l:List Env):List Addr:=l.filterMap (·.frame)
abbrev Cx.fs (X:Cx):List Addr:=frs X.outer
def Vis (sc:Scope)(x:Str):Prop:=sc.names.lookup x=FN .local\/sc.names.lookup x=FN .cell\/sc.names.lookup x=FN .free
def Loc (sc:Scope)(x:Str):Prop:=sc.names.lookup x=FN .local\/sc.names.lookup x=FN .cell
def Look (env:Env)(h:Heap)(m:Str->Option Mk)(x:Str)(u:Mk):Prop:=
 (env.kindOf x=FN .local/\m x=FN u)\/((env.kindOf x=FN .cell\/env.kindOf x=FN .free)/\∃ c,env.cells.lookup x=FN c/\h.IsCell c (FN u))
def Still (H:Hp)(v:Mk):Prop:=∃ (a:Addr) (o:Obj) (u:HO) (vs:Array Mk),v=.ref a/\H a=FN (.frz o u)/\o.data=.fields vs/\vs[2]?=FN .none
def Quiet (A:Fg)(H:Hp):Prop:=∀ v,A.handled=FN v->Still H v
structure Cx.Ok (X:Cx):Prop where
 mod:Mod X.K X.mg X.base
 kind:X.env.scope.kind=.function
 glob:X.env.globals=Jh
 blt:X.env.builtins=builtinsNs
 above:X.s₀.heap.objs.size<=X.env.locals
 inj:∀ x y c,X.env.cells.lookup x=FN c->X.env.cells.lookup y=FN c->x=y
 has:∀ x,(X.env.kindOf x=FN .cell\/X.env.kindOf x=FN .free)->∃ c,X.env.cells.lookup x=FN c
 cab:∀ x c,X.fn x=true->X.env.cells.lookup x=FN c->X.s₀.heap.objs.size<=c
 hd:X.calm=true->X.A.handled=FX
 qt:Quiet X.A X.H₀
 frames:X.A.frames=FN X.stack
 stk:X.stack=X.outer\/(X.stack=X.env::X.outer/\X.env.frame=FN X.env.locals)
 exf:∀ b∈X.ex,b≠X.env.locals/\∀ x c,X.env.cells.lookup x=FN c->c≠b
 bs:∀ b o,X.base.get? b=FN o->X.s₀.heap.get? b=FN o/\X.H₀ b=FX
 bsz:X.base.objs.size<=X.s₀.heap.objs.size
 noex:∀ b o,X.base.get? b=FN o->b∉X.ex
 exfs:∀ b∈X.ex,b∉X.fs
 funs:X.s₀.heap.FunFrames X.base X.outer
 frf:∀ b∈X.fs,X.H₀ b=FX
structure DX (X:Cx) (ajY:List (Addr×Obj)) (Z : List (Option V)) (H:Hp) (s:AP):Prop where
 ok:X.Ok
 os:s.os=X.s₀.os
 bare:Tj s.gens
 base:Un X.fs X.ex X.H₀ H X.s₀.heap s.heap
 loc:∃ m,s.heap.Ns X.env.locals m/\∀ (i:Nat) (x:Str) (v:V),X.N[i]?=FN x->Z[i]?=FN (FN v)->Vis X.env.scope x->∃ u,RelV v u/\Look X.env s.heap m x u
 cell:∀ x c,X.env.cells.lookup x=FN c->∃ v,s.heap.IsCell c v
 free:H X.env.locals=FX
 freeC:∀ x c,X.env.cells.lookup x=FN c->H c=FX
 pin:∀ p∈X.pn++ajY,s.heap.get? p.1=FN p.2/\H p.1=FX/\p.1≠X.env.locals/\p.1∉X.fs/\∀ v,p.2.data≠.cell v
 hok:KY X.prog X.w H s.heap
 len:Z.length=X.N.length
section
variable {X:Cx}{ajY:List (Addr×Obj)}{Z : List (Option V)}{s:AP}
theorem Cx.Ok.nofr (ok:X.Ok){b:Addr}{o:Obj}(e:X.base.get? b=FN o):b∉X.fs:=fun hb=>by
 have:=(ok.funs.mem hb).1
 rw [e] at this;cases this
theorem DX.bs (I:DX X ajY Z H s):∀ b o,X.base.get? b=FN o->s.heap.get? b=FN o/\H b=FX:=fun b o e=>
 ⟨I.base.keep b o (I.ok.bs b o e).1 (I.ok.bs b o e).2 (I.ok.nofr e) (I.ok.noex b o e),I.base.free b o (I.ok.bs b o e).1 (I.ok.bs b o e).2 (I.ok.noex b o e)⟩
theorem DX.qt0 (I:DX X ajY Z H s):Quiet X.A H:=fun v e=>let ⟨a,o,u,vs,h1,h2,h3⟩:=I.ok.qt v e;⟨a,o,u,vs,h1,I.base.frzs a o u h2,h3⟩
theorem DX.bk (I:DX X ajY Z H s):∀ b o,X.base.get? b=FN o->s.heap.get? b=FN o:=fun b o e=>(I.bs b o e).1
theorem DX.mod (I:DX X ajY Z H s):Mod X.K X.mg X.base:=I.ok.mod
theorem DX.kIn (I:DX X ajY Z H s):X.K.In s.heap:=I.ok.mod.kin.keeps I.bk
theorem DX.lt (I:DX X ajY Z H s):X.env.locals<s.heap.objs.size:=let ⟨_,hn,_⟩:=I.loc;hn.lt
theorem DX.sz (I:DX X ajY Z H s):X.s₀.heap.objs.size<=s.heap.objs.size:=Eb I.ok.above (Mv I.lt)
theorem DX.nofs (I:DX X ajY Z H s){a:Addr}(h:s.heap.objs.size<=a):a∉X.fs:=fun hb=>by
 obtain ⟨_,o,ho,_⟩:=I.ok.funs.mem hb;exact absurd (Hl (Fj ho)<|Eb I.sz h)<|Nv _
theorem DX.cne (I:DX X ajY Z H s):∀ x c,X.env.cells.lookup x=FN c->c≠X.env.locals:=fun x c e z=>by
 obtain ⟨v,o,ho,hd⟩:=I.cell x c e;obtain ⟨m,⟨o',es,ep,ho',hd',_⟩,_⟩:=I.loc;rw [z,ho'] at ho;cases ho;rw [hd'] at hd;cases hd
theorem DX.funs (I:DX X ajY Z H s):s.heap.FunFrames X.base X.outer:=by
 have all:∀ (l:List Env),(∀ b∈frs l,b∈X.fs)->X.s₀.heap.FunFrames X.base l->s.heap.FunFrames X.base l:=by
  intro l;induction l with
  | nil=>intro _ _;trivial
  | cons env r ih=>
   intro hs hl;obtain ⟨hk,⟨L,o,hf,hn,ho,hd⟩,hr⟩:=hl;have hL:L∈X.fs:=hs L (by unfold frs;rw [List.filterMap_cons,hf];exact LQ);obtain ⟨sl,e⟩:=I.base.slot L o ho (I.ok.frf L hL) hL fun z=>I.ok.exfs L z hL
   exact ⟨hk,⟨L,_,hf,hn,e,hd⟩,ih (fun b hb=>hs b (by unfold frs;rw [List.filterMap_cons,hf];exact Jm _ hb)) hr⟩
 exact all X.outer (fun _ hb=>hb) I.ok.funs
theorem DX.stack (I:DX X ajY Z H s):s.heap.FunFrames X.base X.stack:=by
 rcases I.ok.stk with e | ⟨e,hf⟩
 ·rw [e];exact I.funs
 ·rw [e];obtain ⟨m,hn,_⟩:=I.loc;refine .cons (by rw [I.ok.kind];decide) hf hn ?_ I.funs;exact Xi<|Eb I.ok.bsz I.ok.above
theorem DX.stkSub (I:DX X ajY Z H s):∀ b∈frs X.stack,b∈X.env.locals::X.fs:=fun b hb=>by
 rcases I.ok.stk with e | ⟨e,hf⟩
 ·rw [e] at hb;exact Jm _ hb
 ·rw [e] at hb;unfold frs at hb;rw [List.filterMap_cons,hf] at hb;exact hb
theorem DX.stkFree (I:DX X ajY Z H s):∀ b∈frs X.stack,H b=FX:=fun b hb=>by
 rcases J1.mp (I.stkSub b hb) with e | hb
 ·rw [e];exact I.free
 ·obtain ⟨_,o,ho,_⟩:=I.ok.funs.mem hb;exact I.base.free b o ho (I.ok.frf b hb) fun z=>I.ok.exfs b z hb
theorem DX.stepG {g':Array GenState}{t':Nat}{d':Drawn}{ch:List Addr}(I:DX X ajY Z H s)
  (hch:∀ b∈ch,(b∈X.ex\/X.s₀.heap.get? b=FX)/\b≠X.env.locals/\(∀ x c,X.env.cells.lookup x=FN c->c≠b)/\∀ p∈X.pn++ajY,p.1≠b)
  (keep:∀ b o,b≠X.env.locals->b∉X.fs->b∉ch->s.heap.get? b=FN o->H b=FX->h'.get? b=FN o)
  (slot:∀ b o,b≠X.env.locals->b∈X.fs->b∉ch->s.heap.get? b=FN o->H b=FX->∃ sl,h'.get? b=FN { o with slots:=sl }) (free:∀ b o,b∉ch->s.heap.get? b=FN o->H b=FX->H' b=FX)
  (there:∀ b o,b∉ch->s.heap.get? b=FN o->∃ o',h'.get? b=FN o')
  (tups:∀ b xs,H b=FN (.tup xs)->H' b=FN (.tup xs)) (frzs:∀ b o u,H b=FN (.frz o u)->H' b=FN (.frz o u)) (tbls:∀ b ps,H b=FN (.tbl ps)->∃ more,H' b=FN (.tbl (ps++more)))
  (ns:∀ m,s.heap.Ns X.env.locals m->h'.Ns X.env.locals m) (hok:KY X.prog X.w H' h') (hg:Tj g') :
  DX X ajY Z H' { s with heap:=h',gens:=g',drawn:=d',toks:=t' }:=by
 have neL:∀ b o,X.s₀.heap.get? b=FN o->b≠X.env.locals:=fun b o e=>HX (Hl (Fj e) I.ok.above)
 have neC:∀ b o,X.s₀.heap.get? b=FN o->b∉X.ex->b∉ch:=fun b o e hx hb=>by
  rcases (hch b hb).1 with z | z
  ·exact hx z
  ·rw [z] at e;cases e
 have cellK:∀ x c,X.env.cells.lookup x=FN c->∀ v,s.heap.IsCell c v->h'.IsCell c v:=fun x c e v ⟨o,ho,hd⟩=>by
  have nch:c∉ch:=fun z=>(hch c z).2.2.1 x c e rfl
  by_cases hc:c∈X.fs
  ·obtain ⟨sl,q⟩:=slot c o (I.cne x c e) hc nch ho (I.freeC x c e);exact ⟨_,q,hd⟩
  ·exact ⟨o,keep c o (I.cne x c e) hc nch ho<|I.freeC x c e,hd⟩
 refine ⟨I.ok,I.os,hg,⟨fun b o e n hb hx=>?_,fun b o e n hb hx=>?_,fun b o e n hx=>?_,fun b o e hx=>?_,fun b xs e=>tups b xs<|I.base.tups b xs e,fun b o xs e=>frzs b o xs<|I.base.frzs b o xs e,fun b ps e=>?_⟩,?_,fun x c e=>?_,?_,fun x c e=>?_,fun p hp=>?_,hok,I.len⟩
 ·exact keep b o (neL b o e) hb (neC b o e hx) (I.base.keep b o e n hb hx)<|I.base.free b o e n hx
 ·obtain ⟨sl,e1⟩:=I.base.slot b o e n hb hx;obtain ⟨sl',e2⟩:=slot b _ (neL b o e) hb (neC b o e hx) e1 (I.base.free b o e n hx);exact ⟨sl',e2⟩
 ·obtain ⟨o',e1⟩:=I.base.there b o e hx;exact free b o' (neC b o e hx) e1<|I.base.free b o e n hx
 ·obtain ⟨o',e1⟩:=I.base.there b o e hx;exact there b o' (neC b o e hx) e1
 ·obtain ⟨m1,e1⟩:=I.base.tbls b ps e;obtain ⟨m2,e2⟩:=tbls b _ e1;exact ⟨m1++m2,by rw [e2,Array.append_assoc]⟩
 ·obtain ⟨m,hn,hl⟩:=I.loc;refine ⟨m,ns m hn,fun i x v e1 e2 e3=>?_⟩;obtain ⟨u,r,l⟩:=hl i x v e1 e2 e3;refine ⟨u,r,?_⟩;rcases l with l | ⟨k,c,e,z⟩
  ·exact .inl l
  ·exact .inr ⟨k,c,e,cellK x c e _ z⟩
 ·obtain ⟨v,z⟩:=I.cell x c e;exact ⟨v,cellK x c e v z⟩
 ·obtain ⟨m,⟨o,_,_,ho,_⟩,_⟩:=I.loc;exact free _ o (fun z=>(hch _ z).2.1 rfl) ho I.free
 ·obtain ⟨v,o,ho,hd⟩:=I.cell x c e;exact free c o (fun z=>(hch c z).2.2.1 x c e rfl) ho<|I.freeC x c e
 ·obtain ⟨e,n,ne,nf,d⟩:=I.pin p hp;have nch:p.1∉ch:=fun z=>(hch p.1 z).2.2.2 p hp rfl
  exact ⟨keep p.1 p.2 ne nf nch e n,free p.1 p.2 nch e n,ne,nf,d⟩
theorem DX.step {g':Array GenState}{t':Nat}{d':Drawn}{ch:List Addr}(I:DX X ajY Z H s)
  (hch:∀ b∈ch,(b∈X.ex\/X.s₀.heap.objs.size<=b)/\b≠X.env.locals/\(∀ x c,X.env.cells.lookup x=FN c->c≠b)/\∀ p∈X.pn++ajY,p.1≠b)
  (keep:∀ b o,b≠X.env.locals->b∉X.fs->b∉ch->s.heap.get? b=FN o->H b=FX->h'.get? b=FN o)
  (slot:∀ b o,b≠X.env.locals->b∈X.fs->b∉ch->s.heap.get? b=FN o->H b=FX->∃ sl,h'.get? b=FN { o with slots:=sl }) (free:∀ b o,b∉ch->s.heap.get? b=FN o->H b=FX->H' b=FX)
  (there:∀ b o,b∉ch->s.heap.get? b=FN o->∃ o',h'.get? b=FN o')
  (tups:∀ b xs,H b=FN (.tup xs)->H' b=FN (.tup xs)) (frzs:∀ b o u,H b=FN (.frz o u)->H' b=FN (.frz o u)) (tbls:∀ b ps,H b=FN (.tbl ps)->∃ more,H' b=FN (.tbl (ps++more)))
  (ns:∀ m,s.heap.Ns X.env.locals m->h'.Ns X.env.locals m) (hok:KY X.prog X.w H' h') (hg:Tj g') :
  DX X ajY Z H' { s with heap:=h',gens:=g',drawn:=d',toks:=t' }:=
 I.stepG (ch:=ch) (fun b z=>⟨(hch b z).1.imp id fun q=>Xi q,(hch b z).2⟩) keep slot free there tups frzs tbls ns hok hg
theorem DX.un {t':Nat}(I:DX X ajY Z H s)(u:Un X.fs [] H H' s.heap h')(hok:KY X.prog X.w H' h'):DX X ajY Z H' { s with heap:=h',toks:=t' }:=by
 obtain ⟨m,⟨o,es,ep,ho,r⟩,_⟩:=id I.loc;obtain ⟨sl,hL⟩:=u.any ho I.free (by simp);exact I.step (g':=s.gens) (d':=s.drawn) (ch:=[]) (fun _ z=>nomatch z) (fun b o _ hb _ e n=>u.keep b o e n hb (by simp)) (fun b o _ hb _ e n=>u.slot b o e n hb (by simp)) (fun b o _ e n=>u.free b o e n (by simp)) (fun b o _ e=>u.there b o e (by simp)) u.tups u.frzs u.tbls (fun m' hm=>by
  obtain ⟨o',es',ep',ho',r'⟩:=hm;rw [ho] at ho';cases ho';exact ⟨_,es',ep',hL,r'⟩) hok I.bare
theorem DX.call {g':Array GenState}{t':Nat}{d':Drawn}{ch:List Addr}(I:DX X ajY Z H s)(u:Un (frs X.stack) ch H H' s.heap h')(hok:KY X.prog X.w H' h')(hg:Tj g')
  (hch:∀ b∈ch,(b∈X.ex\/X.s₀.heap.objs.size<=b)/\b≠X.env.locals/\(∀ x c,X.env.cells.lookup x=FN c->c≠b)/\∀ p∈X.pn++ajY,p.1≠b) :
  DX X ajY Z H' { s with heap:=h',gens:=g',drawn:=d',toks:=t' }:=by
 obtain ⟨m,⟨o,es,ep,ho,r⟩,_⟩:=id I.loc;obtain ⟨sl,hL⟩:=u.any ho I.free fun z=>(hch _ z).2.1 rfl
 exact I.step (ch:=ch) hch (fun b o hL hb hc e n=>u.keep b o e n (fun z=>(J1.mp (I.stkSub b z)).elim hL hb) hc) (fun b o _ _ hc e n=>u.any e n hc) (fun b o hc e n=>u.free b o e n hc) (fun b o hc e=>u.there b o e hc) u.tups u.frzs u.tbls (fun m' hm=>by
  obtain ⟨o',es',ep',ho',r'⟩:=hm;rw [ho] at ho';cases ho';exact ⟨_,es',ep',hL,r'⟩) hok hg
theorem DX.turned {t':Nat}{it:Addr}(I:DX X ajY Z H s)(k:∀ b o,b≠it->s.heap.get? b=FN o->h'.get? b=FN o)(hn:H it=FX)(hL:it≠X.env.locals)
  (h1:it∈X.ex\/X.s₀.heap.objs.size<=it) (h2:∀ x c,X.env.cells.lookup x=FN c->c≠it) (h3:∀ p∈X.pn++ajY,p.1≠it):DX X ajY Z H { s with heap:=h',toks:=t' }:=by
 have nit:∀ b u,H b=FN u->b≠it:=fun b u e z=>by rw [z,hn] at e;cases e
 refine I.step (g':=s.gens) (d':=s.drawn) (ch:=[it]) (fun b hb=>?_) (fun b o _ _ hc e _=>k b o (fun z=>hc<|by simp [z]) e) (fun b o _ _ hc e _=>⟨o.slots,k b o (fun z=>hc<|by simp [z]) e⟩) (fun _ _ _ _ n=>n)
  (fun b o hc e=>⟨o,k b o (fun z=>hc (by simp [z])) e⟩) (fun _ _ e=>e) (fun _ _ _ e=>e) (fun b ps e=>⟨#[],by rw [e];simp⟩) (fun m hm=>?_) (fun b u e=>?_) I.bare
 ·have e:b=it:=by simpa using hb
  subst e;exact ⟨h1,hL,h2,h3⟩
 ·obtain ⟨o,es,ep,ho,r⟩:=hm;exact ⟨o,es,ep,k _ o (JD hL) ho,r⟩
 ·refine (I.hok b u e).stay (fun c v hc q=>k c v ?_ q) (fun _ q=>q) fun _ _ q=>q;rcases hc with z | z
  ·rw [z];exact nit b u e
  ·exact nit c _ z
theorem DX.tok (I:DX X ajY Z H s)(t:Nat):DX X ajY Z H { s with toks:=t }:=I.un (h':=s.heap) (t':=t) Un.refl I.hok
theorem DX.kept {t':Nat}(I:DX X ajY Z H s)(k:∀ b u,s.heap.get? b=FN u->h'.get? b=FN u):DX X ajY Z H { s with heap:=h',toks:=t' }:=I.un (Un.kept k) (I.hok.kept k)
theorem DX.laid {a:Addr}{o:HO}{t':Nat}(I:DX X ajY Z H s)(k:∀ b u,s.heap.get? b=FN u->h'.get? b=FN u)(hp:s.heap.objs.size<=a)(new:eH X.prog X.w (Fb H a o) h' a o) :
  DX X ajY Z (Fb H a o) { s with heap:=h',toks:=t' }:=I.un (Un.laid k hp (I.hok.fresh hp)) (I.hok.laid k hp new)
theorem DX.write {x e:Addr}{o:HO}{t':Nat}(I:DX X ajY Z H s)(mu:Mut (H x))(he:e=x\/H e=FN (.own x))(k:∀ b u,b≠e->s.heap.get? b=FN u->h'.get? b=FN u)(heo:∃ u,h'.get? e=FN u)
  (new:eH X.prog X.w (Fb H x o) h' x o):DX X ajY Z (Fb H x o) { s with heap:=h',toks:=t' }:=I.un (Un.write mu he k heo) (I.hok.write mu he k heo new)
theorem DX.weak {Z':List (Option V)}(I:DX X ajY Z H s)(hl:Z'.length = Z.length)(w:∀ (i:Nat) v,Z'[i]?=FN (FN v)->Z[i]?=FN (FN v)):DX X ajY Z' H s:=
 ⟨I.ok,I.os,I.bare,I.base,let ⟨m,hn,hl'⟩:=I.loc;⟨m,hn,fun i x v e1 e2 e3=>hl' i x v e1 (w i v e2) e3⟩,I.cell,I.free,I.freeC,I.pin,I.hok,hl.trans I.len⟩
theorem DX.pins_of {pins':List (Addr×Obj)}(I:DX X ajY Z H s)(h:∀ p∈pins',s.heap.get? p.1=FN p.2/\H p.1=FX/\p.1≠X.env.locals/\p.1∉X.fs/\∀ v,p.2.data≠.cell v):DX X pins' Z H s:=
 ⟨I.ok,I.os,I.bare,I.base,I.loc,I.cell,I.free,I.freeC,fun p hp=>(Mr.mp hp).elim (fun z=>I.pin p (N7 _ z)) (h p),I.hok,I.len⟩
theorem BW {N:List Str}(hN:N.Nodup){i j:Nat}{x:Str}(a:N[i]?=FN x)(b:N[j]?=FN x):i=j:=by
 obtain ⟨h1,e1⟩:=Le.mp a;obtain ⟨h2,e2⟩:=Le.mp b;exact (List.getElem_inj hN).mp (e1.trans e2.symm)
theorem xq {M:Model}{A:Fg}{E:Mk->AP->Prop}{i:Nat}{x:Str}{v:V}{Q:Unit->AP->Prop}(I:DX X ajY Z H s)(hN:X.N.Nodup)(hi:X.N[i]?=FN x)(hx:Loc X.env.scope x)(r:RelV v u)
  (h:∀ s',DX X ajY (Z.set i (FN v)) H s'->(∃ a,W6 a s.heap s'.heap/\(a=X.env.locals\/X.env.cells.lookup x=FN a))->Q () s') (hf:X.fn x=true\/X.env.scope.names.lookup x=FN .local:=by first | exact .inl rfl | exact .inr rfl | assumption):Dl M A (storeName X.env x u) Q E s:=by
 obtain ⟨m,hn,hl⟩:=id I.loc;have hcls:(X.env.scope.kind==.class||(X.env.scope.kind==.module&&X.env.locals != X.env.globals))=false:=by rw [I.ok.kind];rfl
 have hiZ : i < Z.length:=by rw [I.len];exact (Le.mp hi).1
 have cne:=I.cne;have tracked:∀ {a:Addr} {h':Heap},(∃ o,s.heap.get? a=FN o/\H a=FX)->W6 a s.heap h'->KY X.prog X.w H h':=fun {a h'} ha hs b ob e=>by
  obtain ⟨_,_,hfree⟩:=ha;refine (I.hok b ob e).stay (fun c w' hc q=>(hs.2 c ?_).trans q) (fun _ q=>q) fun _ _ q=>q;rintro rfl;rcases hc with rfl | hc
  ·rw [hfree] at e;cases e
  ·rw [hfree] at hc;cases hc
 rcases hx with hk | hk
 ·refine wpAny_storeName_local hk hn (fun h' hn' hs=>?_) hcls;obtain ⟨oL,_,_,hoL,_⟩:=id hn;refine h _ ⟨I.ok,I.os,I.bare,⟨fun b o e n hb hx=>?_,fun b o e n hb hx=>?_,I.base.free,fun b o e hx=>?_,I.base.tups,I.base.frzs,I.base.tbls⟩,⟨_,hn',fun j y v' e1 e2 e3=>?_⟩,fun y c e=>?_,I.free,I.freeC,fun p hp=>?_,tracked ⟨oL,hoL,I.free⟩ hs,by simpa using I.len⟩ ⟨_,hs,.inl rfl⟩
  ·exact (hs.2 b<|HX<|Hl (Fj e) I.ok.above).trans (I.base.keep b o e n hb hx)
  ·obtain ⟨sl,e1⟩:=I.base.slot b o e n hb hx;exact ⟨sl,(hs.2 b<|HX<|Hl (Fj e) I.ok.above).trans e1⟩
  ·obtain ⟨o',e1⟩:=I.base.there b o e hx;exact ⟨o',(hs.2 b<|HX<|Hl (Fj e) I.ok.above).trans e1⟩
  ·by_cases hj:j=i
   ·subst hj;rw [hi] at e1;cases e1;rw [List.getElem?_set_self hiZ] at e2;cases e2;exact ⟨u,r,.inl ⟨hk,by simp⟩⟩
   ·rw [List.getElem?_set_ne (JD hj)] at e2;obtain ⟨u',r',q⟩:=hl j y v' e1 e2 e3;refine ⟨u',r',?_⟩;rcases q with ⟨k,e⟩ | ⟨k,c,e,z⟩
    ·refine .inl ⟨k,?_⟩;have:y≠x:=fun e=>hj (BW hN e1 (e ▸ hi))
     simp [this,e]
    ·exact .inr ⟨k,c,e,z.sameBut hs<|cne y c e⟩
  ·obtain ⟨w',z⟩:=I.cell y c e;exact ⟨w',z.sameBut hs<|cne y c e⟩
  ·obtain ⟨e,n,ne,nf,d⟩:=I.pin p hp;exact ⟨(hs.2 p.1 ne).trans e,n,ne,nf,d⟩
 ·have hfn:X.fn x=true:=by
   rcases hf with z | z
   ·exact z
   ·rw [z] at hk;cases hk
  obtain ⟨c,hc⟩:=I.ok.has x (.inl hk);obtain ⟨w',z⟩:=I.cell x c hc;refine wpAny_storeName_cell I.ok.kind hk hc z<|fun h' hc' hs=>?_
  obtain ⟨oc,hoc,hocd⟩:=id z;refine h { s with heap:=h' } ⟨I.ok,I.os,I.bare,⟨fun b o e n hb hx=>?_,fun b o e n hb hx=>?_,I.base.free,fun b o e hx=>?_,I.base.tups,I.base.frzs,I.base.tbls⟩,⟨m,hn.sameBut hs<|JD<|cne x c hc,fun j y v' e1 e2 e3=>?_⟩,fun y c' e=>?_,I.free,I.freeC,fun p hp=>?_,tracked ⟨oc,hoc,I.freeC x c hc⟩ hs,by simpa using I.len⟩ ⟨c,hs,.inr hc⟩
  ·exact (hs.2 b<|HX<|Hl (Fj e)<|I.ok.cab x c hfn hc).trans (I.base.keep b o e n hb hx)
  ·obtain ⟨sl,e1⟩:=I.base.slot b o e n hb hx;exact ⟨sl,(hs.2 b<|HX<|Hl (Fj e)<|I.ok.cab x c hfn hc).trans e1⟩
  ·obtain ⟨o',e1⟩:=I.base.there b o e hx;exact ⟨o',(hs.2 b<|HX<|Hl (Fj e)<|I.ok.cab x c hfn hc).trans e1⟩
  ·by_cases hj:j=i
   ·subst hj;rw [hi] at e1;cases e1;rw [List.getElem?_set_self hiZ] at e2;cases e2;exact ⟨u,r,.inr ⟨.inl hk,c,hc,hc'⟩⟩
   ·rw [List.getElem?_set_ne (JD hj)] at e2;obtain ⟨u',r',q⟩:=hl j y v' e1 e2 e3;refine ⟨u',r',?_⟩;rcases q with q | ⟨k,c',e,z'⟩
    ·exact .inl q
    ·refine .inr ⟨k,c',e,z'.sameBut hs ?_⟩;rintro rfl;exact hj<|BW hN e1<|I.ok.inj _ _ _ e hc ▸ hi
  ·by_cases hcc:c'=c
   ·subst hcc;exact ⟨_,hc'⟩
   ·obtain ⟨w2,z2⟩:=I.cell y c' e;exact ⟨w2,z2.sameBut hs hcc⟩
  ·obtain ⟨e,n,ne,nf,d⟩:=I.pin p hp;refine ⟨(hs.2 p.1 ?_).trans e,n,ne,nf,d⟩;intro q;rw [q,hoc] at e;have q':oc=p.2:=Gw e;exact d w' (by rw [<-q'];exact hocd)
theorem Dk {M:Model}{A:Fg}{E:Mk->AP->Prop}{i:Nat}{x:Str}{v:V}{Q:Unit->AP->Prop}(I:DX X ajY Z H s)(hN:X.N.Nodup)(hi:X.N[i]?=FN x)(hx:Loc X.env.scope x)(r:RelV v u)
  (h:∀ s',DX X ajY (Z.set i (FN v)) H s'->Q () s') (hf:X.fn x=true\/X.env.scope.names.lookup x=FN .local:=by first | exact .inl rfl | exact .inr rfl | assumption):Dl M A (storeName X.env x u) Q E s:=
 xq I hN hi hx r (fun s' I' _=>h s' I') hf
theorem DX.call' {s':AP}{ch:List Addr}(I:DX X ajY Z H s)(ho:s'.os=s.os)(u:Un (frs X.stack) ch H H' s.heap s'.heap)(hok:KY X.prog X.w H' s'.heap)(hg:Tj s'.gens)
  (hch:∀ b∈ch,(b∈X.ex\/X.s₀.heap.objs.size<=b)/\b≠X.env.locals/\(∀ x c,X.env.cells.lookup x=FN c->c≠b)/\∀ p∈X.pn++ajY,p.1≠b):DX X ajY Z H' s':=by
 obtain ⟨h',g',d',t',o'⟩:=s';have e:o'=s.os:=ho;subst e;exact I.call (g':=g') (t':=t') (d':=d') u hok hg hch
end
variable {X : Cx}{ajY : List (Addr×Obj)}{N : List Str}{M : Model}{i j : Nat}{A : Fg}{E : Mk->AP->Prop}{s' : AP}
abbrev XK:=Mk->Option Addr->Hp->Prop
abbrev St:=List (Option V)
abbrev VK:=V->Hp->Prop
abbrev TE:=St->Hp->VK->Prop
abbrev TT:=St->Hp->(Bool->Hp->Prop)->Prop
abbrev TA:=St->Hp->(List V->Hp->Prop)->Prop
structure Ends where
 nx:St->Hp->Prop
 rt:VK
 bk:St->Hp->Prop:=fun _ _=>False
 ct:St->Hp->Prop:=fun _ _=>False
abbrev TS:=Ends->St->Hp->Prop
def EP (X:Cx)(ajY:List (Addr×Obj))(Z : St)(Q:VK)(u:Mk)(s':AP):Prop:=∃ v H',DX X ajY Z H' s'/\RelV v u/\Q v H'
def TP (X:Cx)(ajY:List (Addr×Obj))(Z : St)(Q:Bool->Hp->Prop)(b:Bool)(s':AP):Prop:=∃ H',DX X ajY Z H' s'/\Q b H'
def aej (X:Cx)(ajY:List (Addr×Obj))(Z : St)(Q:List V->Hp->Prop)(us:List Mk)(s':AP):Prop:=∃ vs H',DX X ajY Z H' s'/\DY vs us/\Q vs H'
def SP (X:Cx)(ajY:List (Addr×Obj))(D:Ends)(f:Flow)(s':AP):Prop:=
 match f with
 | .next=>∃ Z' H',DX X ajY Z' H' s'/\D.nx Z' H'
 | .brk=>∃ Z' H',DX X ajY Z' H' s'/\D.bk Z' H'
 | .cont=>∃ Z' H',DX X ajY Z' H' s'/\D.ct Z' H'
 | .ret u=>∃ v Z' H',DX X ajY Z' H' s'/\RelV v u/\D.rt v H'
def PE (X:Cx)(e:Expr)(t:TE):Prop:=
 ∀ (ajY:List (Addr×Obj)) (s:AP) (Z : St) (H:Hp) (Q:VK),DX X ajY Z H s->t Z H Q->Dl (Dm X.prog X.w) X.A (eval e X.env) (EP X ajY Z Q) X.xe s
def PT (X:Cx)(e:Expr)(t:TT):Prop:=
 ∀ (ajY:List (Addr×Obj)) (s:AP) (Z : St) (H:Hp) (Q:Bool->Hp->Prop),DX X ajY Z H s->t Z H Q->Dl (Dm X.prog X.w) X.A (isTrue e X.env (eval e X.env)) (TP X ajY Z Q) X.xe s
def PW (X:Cx)(e:Expr)(t:TT):Prop:=
 ∀ (whole:Sem Mk) (ajY:List (Addr×Obj)) (s:AP) (Z : St) (H:Hp) (Q:Bool->Hp->Prop),DX X ajY Z H s->t Z H Q->Dl (Dm X.prog X.w) X.A (isTrue e X.env whole) (TP X ajY Z Q) X.xe s
variable {e : Expr}
theorem PW.pt {t:TT}(h:PW X e t):PT X e t:=h _
def PA (X:Cx)(es:List Expr)(t:TA):Prop:=
 ∀ (pos:Pos) (ajY:List (Addr×Obj)) (s:AP) (Z : St) (H:Hp) (Q:List V->Hp->Prop),DX X ajY Z H s->t Z H Q->Dl (Dm X.prog X.w) X.A (spliced (JK pos (Eu es X.env))) (aej X ajY Z Q) X.xe s
def PS (X:Cx)(st:Stmt)(t:TS):Prop:=
 ∀ (ajY:List (Addr×Obj)) (s:AP) (Z : St) (H:Hp) (D:Ends),DX X ajY Z H s->t D Z H->Dl (Dm X.prog X.w) X.A (exec st X.env) (SP X ajY D) X.xe s
def Nm (X:Cx)(st:List Stmt)(t:TS):Prop:=
 ∀ (ajY:List (Addr×Obj)) (s:AP) (Z : St) (H:Hp) (D:Ends),DX X ajY Z H s->t D Z H->Dl (Dm X.prog X.w) X.A (execs st X.env) (SP X ajY D) X.xe s
theorem Fl {α : Type}{t:Sem α}{Q Q':α->AP->Prop}{s:AP}(h:Dl M A t Q E s)(hQ:∀ a s,Q a s->Q' a s):Dl M A t Q' E s:=Mj h hQ fun _ _ x=>x
section
def aa4 (i:Nat):TE:=fun Z H Q=>∃ v,Z[i]?=FN (FN v)/\Q v H
def tC (v:V):TE:=fun _ H Q=>Q v H
theorem aiy {x:Str}{pos:Pos}(hN:X.N[i]?=FN x)(hv:Vis X.env.scope x)(hd:(x==("__debug__" : Str))=false:=by decide)(hcd:(x==("__classdict__" : Str))=false:=by decide):PE X (.Name x pos) (aa4 i):=by
 intro ajY s Z H Q I h;obtain ⟨v,e,h⟩:=h;obtain ⟨m,hn,hl⟩:=I.loc;obtain ⟨u,r,l⟩:=hl i x v hN e hv;have fin:EP X ajY Z Q u s:=⟨v,H,I,r,h⟩
 rcases l with ⟨hk,hm⟩ | ⟨hk,c,hc,hcell⟩
 ·exact wpAny_Name (wpAny_loadName_local I.ok.kind hk hn hm fin) hd
 ·rcases hk with hk | hk
  ·exact wpAny_Name (wpAny_loadName_cell I.ok.kind hk hc hcell fin) hd
  ·exact wpAny_Name (wpAny_loadName_free I.ok.kind hk hc hcell fin hcd) hd
theorem agD {i j pos}:PE X (.Constant (.int i) j pos) (tC (.int i)):=fun _ _ _ H _ I h=>wpAny_Constant_int ⟨.int i,H,I.tok _,⟨_,rfl⟩,h⟩
theorem aaX {b j pos}:PE X (.Constant (.bool b) j pos) (tC (.bl b)):=fun _ _ _ H _ I h=>Constant_bool ⟨.bl b,H,I,rfl,h⟩
theorem ahR {j pos}:PE X (.Constant .none j pos) (tC .non):=fun _ _ _ H _ I h=>Constant_none ⟨.non,H,I,rfl,h⟩
theorem ahm {x j pos}:PE X (.Constant (.str x) j pos) (tC (.str x)):=fun _ _ _ H _ I h=>Calls.Constant_str ⟨.str x,H,I.tok _,⟨_,rfl⟩,h⟩
def Gl (X:Cx)(x:Str):Prop:=X.env.kindOf x=FN .globalImplicit
theorem Gz {s:AP}{Z : St}{x:Str}{pos:Pos}{Q:Mk->AP->Prop}(I:DX X ajY Z H s)(hg:Gl X x)(hm:X.mg x=FN u)(h:Q u s)
  (hd:(x==("__debug__" : Str))=false:=by decide):Dl (Dm X.prog X.w) X.A (eval (.Name x pos) X.env) Q E s:=
 Calls.Name_function_global I.ok.kind hg (Calls.loadGlobal_global (by rw [I.ok.glob];exact I.mod.glob.keeps I.bk) hm h) hd
theorem ju {s:AP}{Z : St}{x:Str}{pos:Pos}{Q:Mk->AP->Prop}(I:DX X ajY Z H s)(hg:Gl X x)(hm:X.mg x=FX)(hv:S6 x=FN u)(h:Q u s)
  (hn:x ≠ "__name__":=by decide) (hd:(x==("__debug__" : Str))=false:=by decide):Dl (Dm X.prog X.w) X.A (eval (.Name x pos) X.env) Q E s:=by
 obtain ⟨mb,h1,h2⟩:=I.mod.blt;exact Calls.Name_function_global I.ok.kind hg (Calls.loadGlobal_builtin (by rw [I.ok.glob];exact I.mod.glob.keeps I.bk) hm (by rw [I.ok.blt];exact h1.keeps I.bk) ((h2 x hn).trans hv) h) hd
theorem gH {x:Str}{v:V}{pos:Pos}(hg:Gl X x)(hm:X.mg x=FN u)(r:RelV v u)(hd:(x==("__debug__" : Str))=false:=by decide):PE X (.Name x pos) (tC v):=
 fun _ _ _ H _ I h=>Gz I hg hm ⟨v,H,I,r,h⟩ hd
theorem oY {x:Str}{v:V}{pos:Pos}(hg:Gl X x)(hm:X.mg x=FX)(hv:S6 x=FN u)(r:RelV v u)(hn:x ≠ "__name__":=by decide)(hd:(x==("__debug__" : Str))=false:=by decide):PE X (.Name x pos) (tC v):=
 fun _ _ _ H _ I h=>ju I hg hm hv ⟨v,H,I,r,h⟩ hn hd
variable {a b:Expr}{ta tb:TE}{pos:Pos}
variable {tA tB':TT}{rest:List Expr}
def ac7 (t u:TT):TT:=fun Z H Q=>t Z H fun c H1=>if c=true then u Z H1 Q else Q false H1
def tOr (t u:TT):TT:=fun Z H Q=>t Z H fun c H1=>if c=true then Q true H1 else u Z H1 Q
def adZ (t:TT):TT:=fun Z H Q=>t Z H fun c H1=>Q (!c) H1
theorem aeZ (ha:PT X a tA):PW X (.BoolOp .And [a] pos) tA:=by
 intro wh ajY s Z H Q I h;refine isTrue_and<|Fl (ha ajY s Z H Q I h) fun c s1 e=>?_
 cases c with
 | true=>exact isTrue_and_nil e
 | false=>exact e
theorem aiw (ha:PT X a tA):PW X (.BoolOp .Or [a] pos) tA:=by
 intro wh ajY s Z H Q I h;refine isTrue_or<|Fl (ha ajY s Z H Q I h) fun c s1 e=>?_
 cases c with
 | false=>exact isTrue_or_nil e
 | true=>exact e
theorem Zn (ha:PT X a tA)(hb:PW X (.BoolOp .And (b::rest) pos) tB'):PW X (.BoolOp .And (a::b::rest) pos) (ac7 tA tB'):=by
 intro wh ajY s Z H Q I h;refine isTrue_and<|Fl (ha ajY s Z H _ I h) fun c s1 ⟨H1,I1,q1⟩=>?_
 cases c with
 | true=>exact hb wh ajY s1 Z H1 Q I1 q1
 | false=>exact ⟨H1,I1,q1⟩
theorem ab6 (ha:PT X a tA)(hb:PW X (.BoolOp .Or (b::rest) pos) tB'):PW X (.BoolOp .Or (a::b::rest) pos) (tOr tA tB'):=by
 intro wh ajY s Z H Q I h;refine isTrue_or<|Fl (ha ajY s Z H _ I h) fun c s1 ⟨H1,I1,q1⟩=>?_
 cases c with
 | true=>exact ⟨H1,I1,q1⟩
 | false=>exact hb wh ajY s1 Z H1 Q I1 q1
theorem aiT (ha:PT X a tA):PT X (.UnaryOp .Not a pos) (adZ tA):=by
 intro ajY s Z H Q I h;exact isTrue_not<|ha ajY s Z H (fun c H1=>Q (!c) H1) I h
def aaP (ta tb:TE):TE:=fun Z H Q=>ta Z H fun x H1=>∃ c,x=.bl c/\if c=true then tb Z H1 Q else Q (.bl false) H1
def abf (ta:TE):TE:=fun Z H Q=>ta Z H fun x H1=>∃ c,x=.bl c/\Q (.bl (!c)) H1
theorem ajd {op}{t:TE}(h:PE X a t):PE X (.BoolOp op [a] pos) t:=fun ajY s Z H Q I hw=>BoolOp_one (h ajY s Z H Q I hw)
theorem ahX (ha:PE X a ta)(hb:PE X (.BoolOp .And (b::rest) pos) tb):PE X (.BoolOp .And (a::b::rest) pos) (aaP ta tb):=by
 intro ajY s Z H Q I h;refine BoolOp_and<|Fl (ha ajY s Z H _ I h) fun v s1 ⟨x,H1,I1,r1,q1⟩=>?_
 obtain ⟨c,rfl,q1⟩:=q1;cases r1;refine VD ?_;cases c with
 | true=>exact hb ajY s1 Z H1 Q I1 q1
 | false=>exact ⟨.bl false,H1,I1,rfl,q1⟩
theorem aij (ha:PE X a ta):PE X (.UnaryOp .Not a pos) (abf ta):=by
 intro ajY s Z H Q I h;refine UnaryOp_<|Fl (ha ajY s Z H _ I h) fun v s1 ⟨x,H1,I1,r1,q1⟩=>?_
 obtain ⟨c,rfl,q1⟩:=q1;cases r1;exact not_of<|VD ⟨.bl<|!c,H1,I1,rfl,q1⟩
def tIf (t:TT)(ta tb:TE):TE:=fun Z H Q=>t Z H fun c H1=>if c=true then ta Z H1 Q else tb Z H1 Q
theorem afi {c:Expr}(hc:PT X c tA)(ha:PE X a ta)(hb:PE X b tb):PE X (.IfExp c a b pos) (tIf tA ta tb):=by
 intro ajY s Z H Q I h;refine wpAny_IfExp<|Fl (hc ajY s Z H _ I h) fun d s1 ⟨H1,I1,q1⟩=>?_
 cases d with
 | true=>exact ha ajY s1 Z H1 Q I1 q1
 | false=>exact hb ajY s1 Z H1 Q I1 q1
end
variable {pos : Pos}{Z : St}{ta : TE}{Q : Mk->AP->Prop}
def JF (K:Dp)(H:Hp)(a:Addr)(xs:List V):Prop:=
 Rd H a (.lst xs) \/
  ∃ (o:Obj) (its:Array Mk) (n:Nat),K.lookup a=FN o/\o.cls=.type "list"/\o.dict=FX/\o.data=.seq its n/\its.size<=G7/\DY xs its.toList
def Hj (K:Dp)(H:Hp)(a:Addr)(xs:List V):Prop:=
 Rd H a (.tup xs) \/
  ∃ (o:Obj) (its:Array Mk) (n:Nat),K.lookup a=FN o/\o.cls=.type "tuple"/\o.data=.seq its n/\its.size<=G7/\DY xs its.toList/\o.dict=FX
def adg:Mk->Option V
 | .none=>FN .non
 | .bool b=>FN (.bl b)
 | .int i _=>FN (.int i)
 | .str x _=>FN (.str x)
 | .bytes b _=>FN (.byt b)
 | .float b _=>FN (.flt b)
 | .ref a=>FN (.ref a)
 | .type n=>FN (.ty n)
 | _=>FX
theorem RelV.abs {x:V}(r:RelV x u):adg u=FN x:=by
 cases x with
 | non=>cases r;rfl
 | bl _=>cases r;rfl
 | int _=>obtain ⟨t,rfl⟩:=r;rfl
 | str _=>obtain ⟨t,rfl⟩:=r;rfl
 | byt _=>obtain ⟨t,rfl⟩:=r;rfl
 | flt _=>obtain ⟨t,rfl⟩:=r;rfl
 | ref _=>cases r;rfl
 | ty _=>cases r;rfl
theorem RelV.inj {x y:V}(r:RelV x u)(q:RelV y u):x=y:=Gw (r.abs.symm.trans q.abs)
theorem DY.inj:∀ {xs ys:List V} {us:List Mk},DY xs us->DY ys us->xs=ys
 | _,_,_,.nil,.nil=>rfl
 | _,_,_,.cons r t,.cons r' t'=>by rw [r.inj r',DY.inj t t']
section
variable {s:AP}{a:Addr}{ys:List V}
theorem JF.of {K:Dp}(h:H a=FN (.lst xs)):JF K H a xs:=.inl (.inl h)
theorem Hj.of {K:Dp}(h:H a=FN (.tup xs)):Hj K H a xs:=.inl (.inl h)
theorem DX.list (I:DX X ajY Z H s)(h:JF X.K H a xs):∃ its:List Mk,DY xs its/\PlainL s.heap a its.toArray/\xs.length<=G7:=by
 rcases h with h | ⟨o,its,n,hk,hc,hd,hs,hz,r⟩
 ·obtain ⟨z,its,n,r,e⟩:=h.ok I.hok;exact ⟨its,r,⟨_,n,e,rfl,rfl,rfl⟩,z⟩
 ·refine ⟨its.toList,r,⟨o,n,I.kIn a o hk,hc,hd,by simpa using hs⟩,?_⟩;have e:=r.length;simp only [Vu] at e;lia
theorem DX.tupO (I:DX X ajY Z H s)(h:Hj X.K H a xs):∃ its:List Mk,DY xs its/\Ib s.heap a its.toArray/\xs.length<=G7:=by
 rcases h with h | ⟨o,its,n,hk,hc,hs,hz,r,hd⟩
 ·obtain ⟨z,its,r,p⟩:=h.ok I.hok;exact ⟨its,r,p,z⟩
 ·refine ⟨its.toList,r,⟨o,I.kIn a o hk,hc,⟨n,by simpa using hs⟩,hd⟩,?_⟩;have e:=r.length;simp only [Vu] at e;lia
theorem DX.tuple (I:DX X ajY Z H s)(h:Hj X.K H a xs):∃ its:List Mk,DY xs its/\NZ s.heap a its.toArray/\xs.length<=G7:=let ⟨its,r,p,z⟩:=I.tupO h;⟨its,r,p.tup,z⟩
theorem DX.list_inj (I:DX X ajY Z H s)(h:JF X.K H a xs)(h':JF X.K H a ys):xs=ys:=by
 obtain ⟨its,r,⟨o,n,e,_,_,d⟩,_⟩:=I.list h;obtain ⟨its',r',⟨o',n',e',_,_,d'⟩,_⟩:=I.list h';rw [e] at e';cases e';rw [d] at d';injection d' with d1 _
 have:its=its':=by simpa using congrArg Array.toList d1
 subst this;exact r.inj r'
theorem DX.tuple_inj (I:DX X ajY Z H s)(h:Hj X.K H a xs)(h':Hj X.K H a ys):xs=ys:=by
 obtain ⟨its,r,⟨o,e,_,n,d⟩,_⟩:=I.tuple h;obtain ⟨its',r',⟨o',e',_,n',d'⟩,_⟩:=I.tuple h';rw [e] at e';cases e';rw [d] at d';injection d' with d1 _
 have:its=its':=by simpa using congrArg Array.toList d1
 subst this;exact r.inj r'
end
variable {K : Dp}
abbrev Cx.wish (X:Cx)(E:Mk->AP->Prop):Cx:={ X with xe:=E }
abbrev Cx.nox (X:Cx):Cx:=X.wish fun _ _=>False
theorem Cx.Ok.wish {X:Cx}(ok:X.Ok)(E:Mk->AP->Prop):(X.wish E).Ok:=
 ⟨ok.mod,ok.kind,ok.glob,ok.blt,ok.above,ok.inj,ok.has,ok.cab,ok.hd,ok.qt,ok.frames,ok.stk,ok.exf,ok.bs,ok.bsz,ok.noex,ok.exfs,ok.funs,ok.frf⟩
theorem Cx.Ok.unwish (ok:(X.wish E).Ok):X.Ok:=
 ⟨ok.mod,ok.kind,ok.glob,ok.blt,ok.above,ok.inj,ok.has,ok.cab,ok.hd,ok.qt,ok.frames,ok.stk,ok.exf,ok.bs,ok.bsz,ok.noex,ok.exfs,ok.funs,ok.frf⟩
section
variable {s:AP}
theorem DX.wish (I:DX X ajY Z H s)(E:Mk->AP->Prop):DX (X.wish E) ajY Z H s:=⟨I.ok.wish E,I.os,I.bare,I.base,I.loc,I.cell,I.free,I.freeC,I.pin,I.hok,I.len⟩
theorem DX.unwish (I:DX (X.wish E) ajY Z H s):DX X ajY Z H s:=⟨I.ok.unwish,I.os,I.bare,I.base,I.loc,I.cell,I.free,I.freeC,I.pin,I.hok,I.len⟩
theorem SP.unwish {D:Ends}{f:Flow}{s':AP}(h:SP (X.wish E) ajY D f s'):SP X ajY D f s':=by
 cases f with
 | next=>obtain ⟨Z',H',I,q⟩:=h;exact ⟨Z',H',I.unwish,q⟩
 | brk=>obtain ⟨Z',H',I,q⟩:=h;exact ⟨Z',H',I.unwish,q⟩
 | cont=>obtain ⟨Z',H',I,q⟩:=h;exact ⟨Z',H',I.unwish,q⟩
 | ret u=>obtain ⟨v,Z',H',I,r,q⟩:=h;exact ⟨v,Z',H',I.unwish,r,q⟩
theorem Nm.nox {st:List Stmt}{t:TS}(h:Nm X.nox st t):Nm X st t:=fun ajY s Z H D I hw=>
 Mj (h ajY s Z H D (I.wish _) hw) (fun _ _ q=>q.unwish) fun _ _ z=>TJ z
end
variable {D : Ends}
section
variable {st:Stmt}{rest:List Stmt}{t u:TS}{te:TE}
def abz:TS:=fun D Z H=>D.nx Z H
def adK (t u:TS):TS:=fun D Z H=>t { D with nx:=u D } Z H
theorem zbz:Nm X [] abz:=fun _ _ Z H _ I h=>wpAny_execs_nil ⟨Z,H,I,h⟩
theorem zaX (h1:PS X st t)(h2:Nm X rest u):Nm X (st::rest) (adK t u):=by
 intro ajY s Z H D I h;refine wpAny_execs_cons<|Fl (h1 ajY s Z H { D with nx:=u D } I h) fun f s1 q=>?_
 cases f with
 | next=>
  obtain ⟨Z',H',I',q⟩:=q;exact h2 ajY s1 Z' H' D I' q
 | ret v=>exact q
 | brk=>exact q
 | cont=>exact q
theorem aiF (h1:PS X st t):Nm X [st] t:=by
 intro ajY s Z H D I h;refine wpAny_execs_cons<|Fl (h1 ajY s Z H D I h) fun f s1 q=>?_
 cases f with
 | next=>exact wpAny_execs_nil q
 | ret v=>exact q
 | brk=>exact q
 | cont=>exact q
theorem DX.quiet {s:AP}(I:DX X ajY Z H s):interactive X.env=false:=by simp [interactive,I.ok.kind]
def abM (te:TE):TS:=fun D Z H=>te Z H fun _ H1=>D.nx Z H1
theorem afu (he:PE X e te)(hs:Vh e FX pos.line X.env=pure false:=by rfl):PS X (.Expr e pos) (abM te):=by
 intro ajY s Z H D I h;exact wpAny_Expr_any (Fl (he ajY s Z H _ I h) fun v s1 ⟨x,H1,I1,r1,q1⟩=>⟨Z,H1,I1,q1⟩) I.quiet hs
def adQ (te:TE):TS:=fun D Z H=>te Z H D.rt
theorem ahP (he:PE X e te):PS X (.Return (FN e) pos) (adQ te):=by
 intro ajY s Z H D I h;exact wpAny_Return_some<|Fl (he ajY s Z H _ I h) fun v s1 ⟨x,H1,I1,r1,q1⟩=>⟨x,Z,H1,I1,r1,q1⟩
def adk (c:TT)(t u:TS):TS:=fun D Z H=>c Z H fun b H1=>if b=true then t D Z H1 else u D Z H1
theorem acd {c:Expr}{a b:List Stmt}{tc:TT}(hc:PT X c tc)(ha:Nm X a t)(hb:Nm X b u):PS X (.If c a b pos) (adk tc t u):=by
 intro ajY s Z H D I h;refine wpAny_If<|Fl (hc ajY s Z H _ I h) fun d s1 ⟨H1,I1,q1⟩=>?_
 cases d with
 | true=>exact ha ajY s1 Z H1 D I1 q1
 | false=>exact hb ajY s1 Z H1 D I1 q1
def ahn:TS:=fun _ _ _=>False
theorem aia:PS X st ahn:=fun _ _ _ _ _ _ h=>h.elim
end
abbrev TG:=V->St->Hp->(St->Hp->Prop)->Prop
abbrev Tc:=List V->St->Hp->(St->Hp->Prop)->Prop
def PG (X:Cx)(target:Expr)(t:TG):Prop:=
 ∀ (ajY:List (Addr×Obj)) (s:AP) (Z : St) (H:Hp) (v:V) (u:Mk) (Q:St->Hp->Prop),DX X ajY Z H s->RelV v u->t v Z H Q ->
  Dl (Dm X.prog X.w) X.A (assign target X.env u) (fun _ s'=>∃ Z' H',DX X ajY Z' H' s'/\Q Z' H') X.xe s
def Ug (X:Cx)(ts:List Expr)(t:Tc):Prop:=
 ∀ (ajY:List (Addr×Obj)) (s:AP) (Z : St) (H:Hp) (vs:List V) (us:List Mk) (Q:St->Hp->Prop),DX X ajY Z H s->DY vs us->t vs Z H Q ->
  Dl (Dm X.prog X.w) X.A (assignInOrder ((M6 ts X.env).map (·.2)) us) (fun _ s'=>∃ Z' H',DX X ajY Z' H' s'/\Q Z' H') X.xe s
abbrev UG:=V->V->V->Hp->(Hp->Prop)->Prop
def Wb (X:Cx)(t:UG):Prop:=
 ∀ (ajY:List (Addr×Obj)) (s:AP) (Z : St) (H:Hp) (o i v:V) (ov iv u:Mk) (Q:Hp->Prop),DX X ajY Z H s->RelV o ov->RelV i iv->RelV v u->t o i v H Q ->
  Dl (Dm X.prog X.w) X.A (setItem ov iv u) (fun _ s'=>∃ H',DX X ajY Z H' s'/\Q H') X.xe s
section
def Gb (i:Nat):TG:=fun v Z H Q=>Q (Z.set i (FN v)) H
theorem ux {x:Str}(hN:X.N.Nodup)(hi:X.N[i]?=FN x)(hx:Loc X.env.scope x)(hf:X.fn x=true\/X.env.scope.names.lookup x=FN .local:=by first | exact .inl rfl | exact .inr rfl | assumption):PG X (.Name x pos) (Gb i):=by
 intro ajY s Z H v u Q I r h;exact wpAny_assign_Name<|Dk I hN hi hx r (fun s' I'=>⟨_,H,I',h⟩) hf
def adP:Tc:=fun vs Z H Q=>vs=[]/\Q Z H
def aaR (t:TG)(u:Tc):Tc:=fun vs Z H Q=>∃ v r,vs=v::r/\t v Z H fun Z' H'=>u r Z' H' Q
theorem Iz:Ug X [] adP:=by
 intro ajY s Z H vs us Q I r h;obtain ⟨e,h⟩:=h;subst e;cases r;exact assignInOrder_nil ⟨Z,H,I,h⟩
theorem uR {es:List Expr}{t:TG}{u:Tc}(h1:PG X e t)(h2:Ug X es u)
  (hs:(M6 (e::es) X.env).map (·.2)=assign e X.env::(M6 es X.env).map (·.2):=by rfl):Ug X (e::es) (aaR t u):=by
 intro ajY s Z H vs us Q I r h;obtain ⟨v,vr,e1,h⟩:=h;subst e1;cases r with
 | cons r rr=>
  rw [hs];refine assignInOrder_cons<|Fl (h1 ajY s Z H _ _ _ I r h) fun _ s1 ⟨Z1,H1,I1,q1⟩=>?_
  exact h2 ajY s1 Z1 H1 _ _ Q I1 rr q1
def ad1 (K:Dp)(n:Nat)(t:Tc):TG:=fun v Z H Q=>∃ a xs,v=.ref a/\Hj K H a xs/\xs.length=n/\t xs Z H Q
theorem ahZ {es:List Expr}{k:Nat}{t:Tc}{n:Nat}(hc:X.calm=true)(h:Ug X es t)
  (hn:(M6 es X.env).length=n:=by rfl) (hst:(M6 es X.env).findIdx? (·.1)=FX:=by rfl):PG X (.Tuple es k pos) (ad1 X.K n t):=by
 intro ajY s Z H v u Q I r hw;obtain ⟨a,xs,e1,hq,hl,hw⟩:=hw;subst e1;cases r;obtain ⟨its,rv,ht,hz⟩:=I.tuple hq;refine assign_Tuple_tuple (I.ok.hd hc) ht (by simp [hn,<-hl,rv.length]) hst fun h' hx=>?_;have I1:DX X ajY Z H { s with heap:=h' }:=I.kept (t':=s.toks) fun b o e=>hx b o (HX (Fj e)) e
 exact h ajY _ Z H xs _ Q I1 (by simpa using rv) hw
def adi (to ti:TE)(t:UG):TG:=fun v Z H Q=>to Z H fun o H1=>ti Z H1 fun i H2=>t o i v H2 fun H3=>Q Z H3
theorem aiJ {o i:Expr}{to ti:TE}{t:UG}(ho:PE X o to)(hi:PE X i ti)(hs:Wb X t)
  (ha:∀ v,assign (.Subscript o i pos) X.env v=(do
   let ov <-Rr [v] (eval o X.env)
   let iv <-Rr [v,ov] (eval i X.env)
   standAt pos
   Rr [v,ov,iv] (setItem ov iv v)
   release [v,ov,iv] []):=by intro _;rfl):PG X (.Subscript o i pos) (adi to ti t):=by
 intro ajY s Z H v u Q I r h;rw [ha];refine CR<|M8<|Fl (ho ajY s Z H _ I h) fun ov s1 ⟨x,H1,I1,r1,q1⟩=>?_
 refine CR<|M8<|Fl (hi ajY s1 Z H1 _ I1 q1) fun iv s2 ⟨y,H2,I2,r2,q2⟩=>?_
 refine CR<|wpAny_standAt<|CR<|M8<|Fl (hs ajY s2 Z H2 x y v ov iv u _ I2 r1 r2 r q2) fun _ s3 ⟨H3,I3,q3⟩=>?_
 exact wpAny_release ⟨Z,H3,I3,q3⟩
def ZW (te:TE)(g:TG):TS:=fun D Z H=>te Z H fun x H1=>g x Z H1 D.nx
theorem ajh {tg:Expr}{te:TE}{g:TG}(he:PE X e te)(hg:PG X tg g)(hs:swapsWithSole [tg] e pos.line X.env=pure false:=by rfl)(hw:swappedStores [tg] e X.env=pure FX:=by rfl)
  (h1:(M6 [tg] X.env).map (·.2)=[assign tg X.env]:=by rfl):PS X (.Assign [tg] e pos) (ZW te g):=by
 intro ajY s Z H D I h;refine wpAny_Assign_stores (Fl (he ajY s Z H _ I h) fun v s1 ⟨x,H1,I1,r1,q1⟩=>?_) hs hw;rw [h1];exact Fl (hg ajY s1 Z H1 x v _ I1 r1 q1) fun _ s2 q=>q
theorem aii {x:Str}{te:TE}{pos':Pos}(hN:X.N.Nodup)(hi:X.N[i]?=FN x)(hx:Loc X.env.scope x)(he:PE X e te)(hs:Vh e (FN (.Name x pos')) pos.line X.env=pure false:=by rfl)(hf:X.fn x=true\/X.env.scope.names.lookup x=FN .local:=by first | exact .inl rfl | exact .inr rfl | assumption):
  PS X (.Assign [.Name x pos'] e pos) (ZW te (Gb i)):=by
 intro ajY s Z H D I h;refine wpAny_Assign_Name (Fl (he ajY s Z H _ I h) fun v s1 ⟨y,H1,I1,r1,q1⟩=>?_) hs;exact Dk I1 hN hi hx r1 (fun s2 I2=>⟨_,H1,I2,q1⟩) hf
end
variable {o tg : Expr}{es : List Expr}{k n : Nat}{pos' : Pos}
section
def agM (c:TT)(tb:TS):TS:=fun D Z H=>∃ W:Nat->St->Hp->Prop,(∃ m,W m Z H)/\∀ m Z H,W m Z H ->
 c Z H fun b H1=>if b=true then ∃ N:St->Hp->Prop,(∀ Z' H',N Z' H'->∃ m',m'<m/\W m' Z' H')/\tb { D with nx:=N,ct:=N,bk:=D.nx } Z H1 else D.nx Z H1
theorem zbf {c:Expr}{body:List Stmt}{tc:TT}{tb:TS}(hp:ZQ (Dm X.prog X.w) X.A X.env X.xe)(hc:PT X c tc)(hb:Nm X body tb):PS X (.While c body [] pos) (agM tc tb):=by
 intro ajY s Z H D I h;obtain ⟨W,⟨m0,w0⟩,turn⟩:=h;refine wpAny_While<|codeAny_whileLoop (fun n s'=>∃ Z' H',DX X ajY Z' H' s'/\W n Z' H') ?_ m0 ⟨Z,H,I,w0⟩
 rintro n s1 ⟨Z1,H1,I1,w1⟩;refine X3 hp<|Fl (hc ajY s1 Z1 H1 _ I1<|turn n Z1 H1 w1) fun b s2 ⟨H2,I2,q2⟩=>?_
 cases b with
 | true=>
  obtain ⟨N,hN,q2⟩:=q2;rw [if_pos rfl];refine X3 hp<|Fl (hb ajY s2 Z1 H2 _ I2 q2) fun f s3 q3=>?_
  cases f with
  | next=>
   obtain ⟨Z3,H3,I3,n3⟩:=q3;obtain ⟨m',hm,w3⟩:=hN Z3 H3 n3;exact ⟨m',hm,Z3,H3,I3,w3⟩
  | cont=>
   obtain ⟨Z3,H3,I3,n3⟩:=q3;obtain ⟨m',hm,w3⟩:=hN Z3 H3 n3;exact ⟨m',hm,Z3,H3,I3,w3⟩
  | brk=>exact q3
  | ret v=>exact q3
 | false=>
  rw [if_neg Lw];exact wpAny_execs_nil ⟨Z1,H2,I2,q2⟩
end
variable {body : List Stmt}
theorem uG:entryFor table "proto.unchain" = FN Q6.«proto.unchain»:=entryFor_of_tree (by kernel_rfl)
def yG (A:Fg)(h:Heap):Prop:=∀ v,A.handled=FN v->∃ (a:Addr) (o:Obj) (vs:Array Mk),v=.ref a/\h.get? a=FN o/\o.data=.fields vs/\vs[2]?=FN .none
theorem zad (q:Quiet A H)(x:KY P w H h):yG A h:=fun v e=>by
 obtain ⟨a,o,u,vs,h1,h2,h3,h4⟩:=q v e;exact ⟨a,o,vs,h1,(x a _ h2).1,h3,h4⟩
variable {prog : Ew}
theorem aeb {α : Type}{s:AP}{e:Addr}{oe:Obj}{ws:Array Mk}{Q:α->AP->Prop}(hq:yG A s.heap)(he:s.heap.get? e=FN oe)(hd:oe.data=.fields ws)(hz:2<ws.size)(hne:∀ v,A.handled=FN v->v≠.ref e)
  (h:∀ h',(∀ b,b≠e->h'.get? b=s.heap.get? b)->(∃ o',h'.get? e=FN o'/\o'.cls=oe.cls)->E (.ref e) { s with heap:=h' }):Dl (Dm prog w) A (raiseNew (.ref e):Sem α) Q E s:=by
 unfold raiseNew;refine CR<|wpAny_handled ?_
 cases hh:A.handled with
 | none=>
  dsimp only;refine CR<|Ds<|wpAny_throw ?_
  exact h s.heap (fun _ _=>rfl) ⟨oe,he,rfl⟩
 | some v=>
  obtain ⟨a,o,vs,rfl,ho,hdo,h2⟩:=hq v hh;dsimp only;have ne:(Value.ref a != Value.ref e)=true:=by
   have:=hne _ hh
   simp only [bne_iff_ne,ne_eq];exact this
  rw [if_pos ne];refine CR<|M8<|wpAny_runValue<|RG uG ?_
  unfold Q6.«proto.unchain»;dsimp only;refine CR<|Mt ho hdo h2 ?_
  rw [if_pos (show (Value.none==Value.none)=true from rfl)];refine CR<|Ds<|Ds ?_
  dsimp only;refine CR ?_;unfold updateField;refine CR<|wpAny_load he ?_
  rw [hd];dsimp only;rw [if_pos hz];refine wpAny_update he<|wpAny_throw ?_
  have hd3:=YW hd (·.setIfInBounds 2 (Value.ref a));exact h _ (fun b hb=>TY _ _<|JD hb) ⟨_,Vv _ he<|Obj.isFreed_of_fields hd3,Obj.cls_mapFields _ _⟩
theorem afc {s:AP}{it:Addr}{x left step:Int}{Q:Option Mk->AP->Prop}(hh:yG A s.heap)(hit:IsRangeIter s.heap it x left step)(hleft:left<=0)
  (hQ:∀ h',Wg it s.heap h'->Q FX { s with heap:=h' }):Dl (Dm prog w) A (Ln (.ref it)) Q E s:=by
 have hT:s.TypeIs (.ref it) "range_iterator":=⟨_,hit,rfl⟩
 unfold Ln;refine CR (Wd (Ue (name:=Tq "__next__") hT F.slot_range_iterator_next
  (Rz F.slot_range_iterator_next hT F.entry_range_iterator_next ?_ (F.args_range_iterator_next_1 _))))
 show Dl _ _ (field (.ref it) 0 >>= _) _ _ s;refine CR<|Mt hit rfl (x:=Nf x) rfl ?_
 show Dl _ _ (field (.ref it) 1 >>= _) _ _ s;refine CR<|Mt hit rfl (x:=Nf left) rfl ?_
 show Dl _ _ (field (.ref it) 2 >>= _) _ _ s;refine CR<|Mt hit rfl (x:=Nf step) rfl ?_
 show Dl _ _ (if left<=0 then _ else _) _ _ s;rw [if_pos hleft];refine CR<|Ml ?_
 refine CR ?_;show Dl _ _ (newExc (.type "StopIteration") [] >>= _) _ _ _;refine CR ?_;simp only [newExc,newTuple];refine CR<|Ni ?_<|by size_fits
 refine CR (m:=XS _ _)<|XF (a:=Value.none) (by first | rfl | (simp only [XS];rfl)) ?_
 refine Ni ?_<|by size_fits
 refine aeb (A:=A.in1) (fun v e=>?_) (Hw _ rfl) rfl (by simp;lia) (fun v e=>?_) fun h' h1 ⟨o',h2,h3⟩=>?_
 ·obtain ⟨a,o,vs,r1,r2,r3⟩:=hh v e;exact ⟨a,o,vs,r1,G6 _<|G6 _ r2,r3⟩
 ·obtain ⟨a,o,vs,r1,r2,r3⟩:=hh v e;rw [r1];intro q;have q:a=_:=Value.ref.inj q;have:=Fj r2
  rw [q] at this;exact absurd this<|Nat.not_lt.mpr<|by simp [Heap.push]
 refine CR<|YJ (T := "StopIteration") (b:=true) ⟨_,h2,h3⟩ isSubtype_stop ?_
 refine Ds<|hQ _ fun b o hb e=>?_
 rw [h1 b ?_]
 ·exact G6 _<|G6 _ e
 ·have:=Fj e
  exact HX<|Hl this<|by simp [Heap.push]
structure It where
 go:Nat->Hp->Prop
 yld:Nat->Hp->V->Hp->Prop
 stop:Nat->Hp->Prop
 cm:Bool
def Ej (X:Cx)(ajY:List (Addr×Obj))(H:Hp)(b:Addr):Prop:=
 H b=FX/\b≠X.env.locals/\b∉X.fs/\(b∈X.ex\/X.s₀.heap.objs.size<=b)/\(∀ x c,X.env.cells.lookup x=FN c->c≠b)/\∀ p∈X.pn++ajY,p.1≠b
theorem DX.fpOk {s:AP}{b:Addr}(I:DX X ajY Z H s)(hb:s.heap.objs.size<=b)(hn:H' b=FX):Ej X ajY H' b:=by
 refine ⟨hn,Lp<|Hl I.lt hb,I.nofs hb,.inr<|Eb I.sz hb,fun x c e z=>?_,fun p hp z=>?_⟩
 ·obtain ⟨v,q⟩:=I.cell x c e;exact absurd (Hl q.lt (by rw [z];exact hb))<|Nv _
 ·exact absurd (Hl (Fj (I.pin p hp).1) (by rw [z];exact hb))<|Nv _
structure Turn (P:Ew) (w:Em) (K:Dp) (tg:Expr) (J:It) (fp:List Addr) (it:Addr) (tn:Nat->Heap->Prop):Prop where
 mem:it∈fp
 obj:∀ i h,tn i h->∀ b∈fp,∃ o,h.get? b=FN o/\∀ v,o.data≠.cell v
 keep:∀ i h h',tn i h->(∀ b∈fp,∀ o,h.get? b=FN o->h'.get? b=FN o)->tn i h'
 item:∀ (X:Cx),X.prog=P->X.w=w->X.K=K->(J.cm=true->X.calm=true)->∀ (i:Nat) (ajY:List (Addr×Obj)) (s:AP) (Z : St) (H:Hp) (E:Mk->AP->Prop),DX X ajY Z H s->(∀ b∈fp,Ej X ajY H b)->tn i s.heap->J.go i H ->
  Dl (Dm P w) X.A (Ln (.ref it)) (fun r s1=>∃ u,r=FN u /\
   Dl (Dm P w) X.A (letOwnedTupleGo tg (.ref it) u) (fun _ s2=>∃ x H',DX X ajY Z H' s2/\RelV x u/\J.yld i H x H'/\tn (i+1) s2.heap/\∀ b∈fp,H' b=FX) E s1) E s
 done:∀ (X:Cx),X.prog=P->X.w=w->X.K=K->(J.cm=true->X.calm=true)->∀ (i:Nat) (ajY:List (Addr×Obj)) (s:AP) (Z : St) (H:Hp) (E:Mk->AP->Prop),DX X ajY Z H s->(∀ b∈fp,Ej X ajY H b)->tn i s.heap->J.stop i H ->
  Dl (Dm P w) X.A (Ln (.ref it)) (fun r s1=>r=FX/\DX X ajY Z H s1) E s
 self:∀ (A:Fg) (i:Nat) (s:AP) (Q:Mk->AP->Prop) (E:Mk->AP->Prop),tn i s.heap->Q (.ref it) s->Dl (Dm P w) A (pyIter (.ref it)) Q E s
abbrev TI:=St->Hp->(It->Hp->Prop)->Prop
def PIE (X:Cx)(ajY:List (Addr×Obj))(Z : St)(tg:Expr)(R:It->Hp->Prop)(itv:Mk)(s2:AP):Prop:=
 ∃ (it:Addr) (fp:List Addr) (tn:Nat->Heap->Prop) (J:It) (H':Hp),itv=.ref it/\DX X ajY Z H' s2/\Turn X.prog X.w X.K tg J fp it tn/\tn 0 s2.heap/\(∀ b∈fp,Ej X ajY H' b)/\R J H'
def PI (X:Cx)(tg iter:Expr)(wi:TI):Prop:=
 ∀ (ajY:List (Addr×Obj)) (s:AP) (Z : St) (H:Hp) (R:It->Hp->Prop),DX X ajY Z H s->wi Z H R ->
  Dl (Dm X.prog X.w) X.A (eval iter X.env) (fun v s1=>Dl (Dm X.prog X.w) X.A (pyIter v) (PIE X ajY Z tg R) X.xe s1) X.xe s
theorem TF {s:AP}{it:Addr}{o:Obj}{n:String}{vs:Array Mk}{Q:Unit->AP->Prop}(ho:s.heap.get? it=FN o)(hc:o.cls=.type n)(hd:o.data=.fields vs)
    (hn:["enumerate", "zip", "dict_itemiterator", "dict_reverseitemiterator", "odict_iterator", "itertools.zip_longest", "itertools.pairwise"].contains n=false) (hQ:Q () s):Dl M A (letOwnedTupleGo tg (.ref it) u) Q E s:=by
  unfold letOwnedTupleGo;cases tg <;> first
    | exact Ds hQ
    | (cases u <;> first
        | exact Ds hQ
        | (refine CR (wpAny_load ho ?_)
           rw [hc,hd];show Dl M A (if (["enumerate", "zip", "dict_itemiterator", "dict_reverseitemiterator", "odict_iterator", "itertools.zip_longest", "itertools.pairwise"].contains n&&vs[0]?==FN (Nf _))=true then _ else _) Q E s;rw [if_neg (by intro h;rw [hn,Bool.false_and] at h;cases h)];exact Ds hQ))
def Itl (K:Dp)(a:Addr):It:=
 ⟨fun i H=>∃ xs x,JF K H a xs/\xs[i]?=FN x,fun i H x H'=>H'=H/\∀ xs,JF K H a xs->xs[i]?=FN x,fun i H=>∃ xs,JF K H a xs/\xs.length<=i,true⟩
def Itt (K:Dp)(a:Addr):It:=
 ⟨fun i H=>∃ xs x,Hj K H a xs/\xs[i]?=FN x,fun i H x H'=>H'=H/\∀ xs,Hj K H a xs->xs[i]?=FN x,fun i H=>∃ xs,Hj K H a xs/\xs.length<=i,true⟩
def Itr (lo:Int)(n:Nat):It:=⟨fun i _=>i<n,fun i H x H'=>H'=H/\x=.int (lo+i),fun i _=>n<=i,false⟩
theorem zaq (a it:Addr):Turn P w K tg (Itl K a) [it] it (fun i h=>h.IsListIter it a i) where
 mem:=by simp
 obj:=fun i h st b hb=>by
  have e:b=it:=by simpa using hb
  subst e;obtain ⟨o,e,c,d⟩:=st;exact ⟨o,e,fun v z=>by rw [d] at z;cases z⟩
 keep:=fun i h h' st k=>st.at fun o e=>k it (by simp) o e
 item:=by
  intro X hP hw hK hc i ajY s Z H E I hf st hg;subst hP hw hK;obtain ⟨xs,x,hq,hx⟩:=hg;obtain ⟨its,rv,p,hz⟩:=I.list hq;obtain ⟨u,hu,ru⟩:=rv.get hx;obtain ⟨f0,f1,f2,f3,f4,f5⟩:=hf it (by simp);refine wpAny_pyNext_list_item st p.isList (x:=u) (by simpa using hu) fun h' st' sb=>?_;have I1:DX X ajY Z H { s with heap:=h' }:=I.turned (t':=s.toks) (fun b o hb e=>(sb.2 b hb).trans e) f0 f1 f3 f4 f5;obtain ⟨o,e,c,d⟩:=id st';exact ⟨u,rfl,TF (s:={ s with heap:=h' }) e c d (by decide) ⟨x,H,I1,ru,⟨rfl,fun ys hy=>by rw [I.list_inj hy hq];exact hx⟩,st',fun b hb=>(hf b hb).1⟩⟩
 done:=by
  intro X hP hw hK hc i ajY s Z H E I hf st hg;subst hP hw hK;obtain ⟨xs,hq,hx⟩:=hg;obtain ⟨its,rv,p,hz⟩:=I.list hq;obtain ⟨f0,f1,f2,f3,f4,f5⟩:=hf it (by simp);have hl:=rv.length;exact wpAny_pyNext_list_end (I.ok.hd<|hc rfl) st p.isList (by simp;lia) fun h' eb=>⟨rfl,I.turned (t':=s.toks) (fun b o hb e=>eb b o hb e) f0 f1 f3 f4 f5⟩
 self:=fun _ _ _ _ _ st h=>wpAny_pyIter_listiter st h
theorem zao (a it:Addr):Turn P w K tg (Itt K a) [it] it (fun i h=>h.IsTupleIter it a i) where
 mem:=by simp
 obj:=fun i h st b hb=>by
  have e:b=it:=by simpa using hb
  subst e;obtain ⟨o,e,c,d⟩:=st;exact ⟨o,e,fun v z=>by rw [d] at z;cases z⟩
 keep:=fun i h h' st k=>st.at fun o e=>k it (by simp) o e
 item:=by
  intro X hP hw hK hc i ajY s Z H E I hf st hg;subst hP hw hK;obtain ⟨xs,x,hq,hx⟩:=hg;obtain ⟨its,rv,p,hz⟩:=I.tuple hq;obtain ⟨u,hu,ru⟩:=rv.get hx;obtain ⟨f0,f1,f2,f3,f4,f5⟩:=hf it (by simp);refine wpAny_pyNext_tuple_item st (show s.heap.IsTuple a its.toArray from p) (x:=u) (by simpa using hu) fun h' st' sb=>?_;have I1:DX X ajY Z H { s with heap:=h' }:=I.turned (t':=s.toks) (fun b o hb e=>(sb.2 b hb).trans e) f0 f1 f3 f4 f5;obtain ⟨o,e,c,d⟩:=id st';exact ⟨u,rfl,TF (s:={ s with heap:=h' }) e c d (by decide) ⟨x,H,I1,ru,⟨rfl,fun ys hy=>by rw [I.tuple_inj hy hq];exact hx⟩,st',fun b hb=>(hf b hb).1⟩⟩
 done:=by
  intro X hP hw hK hc i ajY s Z H E I hf st hg;subst hP hw hK;obtain ⟨xs,hq,hx⟩:=hg;obtain ⟨its,rv,p,hz⟩:=I.tuple hq;obtain ⟨f0,f1,f2,f3,f4,f5⟩:=hf it (by simp);have hl:=rv.length;exact wpAny_pyNext_tuple_end (I.ok.hd<|hc rfl) st (show s.heap.IsTuple a its.toArray from p) (by simp;lia) fun h' eb=>⟨rfl,I.turned (t':=s.toks) (fun b o hb e=>eb b o hb e) f0 f1 f3 f4 f5⟩
 self:=fun _ _ _ _ _ st h=>wpAny_pyIter_tupleiter st h
theorem zah (it:Addr)(lo:Int)(n:Nat):Turn P w K tg (Itr lo n) [it] it (fun i h=>IsRangeIter h it (lo+(i:Nat)*1) ((n:Int) - (i:Nat)) 1) where
 mem:=by simp
 obj:=fun i h st b hb=>by
  have e:b=it:=by simpa using hb
  subst e;exact ⟨_,st,fun v z=>by
   have z':Data.fields _=Data.cell v:=z;cases z'⟩
 keep:=fun i h h' st k=>k it (by simp) _ st
 item:=by
  intro X hP hw hK hc i ajY s Z H E I hf st hg;subst hP hw hK;obtain ⟨f0,f1,f2,f3,f4,f5⟩:=hf it (by simp);refine wpAny_pyNext_range_item st (by have:i<n:=hg;lia) fun h' st' kk=>?_;have I1:DX X ajY Z H { s with heap:=h',toks:=s.toks+1 }:=I.turned (fun b o hb e=>(kk.2 b hb).trans e) f0 f1 f3 f4 f5;have st2:IsRangeIter h' it (lo+((i+1:Nat):Int)*1) ((n:Int) - ((i+1:Nat):Int)) 1:=by
   have e1:lo+((i+1:Nat):Int)*1=lo+((i:Nat):Int)*1+1:=by lia
   have e2:(n:Int) - ((i+1:Nat):Int)=(n:Int) - ((i:Nat):Int) - 1:=by lia
   rw [e1,e2];exact st'
  refine ⟨_,rfl,TF (s:={ s with heap:=h',toks:=s.toks+1 }) (n := "range_iterator") st' rfl rfl (by decide) ⟨.int<|lo+i,H,I1,⟨s.toks,?_⟩,⟨rfl,rfl⟩,st2,fun b hb=>(hf b hb).1⟩⟩;rw [XJ]
 done:=by
  intro X hP hw hK hc i ajY s Z H E I hf st hg;subst hP hw hK;obtain ⟨f0,f1,f2,f3,f4,f5⟩:=hf it (by simp);exact afc (zad I.qt0 I.hok) st (by have:n<=i:=hg;lia) fun h' eb=>⟨rfl,I.turned (t':=s.toks) (fun b o hb e=>eb b o hb e) f0 f1 f3 f4 f5⟩
 self:=fun _ _ _ _ _ st h=>wpAny_pyIter_rangeiter st h
section
theorem CW {s:AP}{R:It->Hp->Prop}{lo hi:Int}{t u v:Tok}{tk:Nat}(I:DX X ajY Z H s)(h1:-(2^62)<=lo)(h2:lo<2^62)(h3:-(2^62)<=hi)(h4:hi<2^62)
  (q:R (Itr lo (hi - lo).toNat) H):Dl (Dm X.prog X.w) X.A (pyIter (.ref s.heap.objs.size)) (PIE X ajY Z tg R) E { s with heap:=s.heap.push { cls:=.type "range",data:=.fields #[.int lo t,.int hi u,.int 1 v] },toks:=tk }:=by
 refine wpAny_pyIter_range (IsRange.new ..) (small_one h1 h2 h3 h4) ?_;have I1:DX X ajY Z H { s with heap:=s.heap.push { cls:=.type "range",data:=.fields #[.int lo t,.int hi u,.int 1 v] },toks:=tk }:=I.kept fun b o e=>G6 _ e
 refine ⟨(s.heap.push { cls:=.type "range",data:=.fields #[.int lo t,.int hi u,.int 1 v] }).objs.size,[(s.heap.push { cls:=.type "range",data:=.fields #[.int lo t,.int hi u,.int 1 v] }).objs.size],_,_,H,rfl,
  I1.kept (t':=tk) fun b o e=>G6 _ e,zah _ lo (hi - lo).toNat,?_,fun b hb=>?_,q⟩
 ·have e1:lo+((0:Nat):Int)*1=lo:=by simp
  have e2:(((hi - lo).toNat:Nat):Int) - ((0:Nat):Int)=Builtin.Range.rangeSize lo hi 1:=by rw [rangeSize_one];split <;> lia
  show IsRangeIter _ _ (lo+((0:Nat):Int)*1) ((((hi - lo).toNat:Nat):Int) - ((0:Nat):Int)) 1;rw [e1,e2];exact Hw _ rfl
 ·have e:b=(s.heap.push { cls:=.type "range",data:=.fields #[.int lo t,.int hi u,.int 1 v] }).objs.size:=by simpa using hb
  subst e;exact I1.fpOk (Ea _)<|I1.hok.fresh<|Ea _
def abg (ta:TA):TI:=fun Z H R=>ta Z H fun vs H1=>∃ j:Int,vs=[.int j]/\-(2^62)<=j/\j<2^62/\R (Itr 0 j.toNat) H1
def abp (ta:TA):TI:=fun Z H R=>ta Z H fun vs H1=>∃ i j:Int,vs=[.int i,.int j]/\(-(2^62)<=i/\i<2^62/\-(2^62)<=j/\j<2^62)/\R (Itr i (j - i).toNat) H1
theorem zat {a:Expr}{ta:TA}{p:Pos}(hg:Gl X "range")(hm:X.mg "range" = FX)(ha:PA X [a] ta)(hs:Eu [a] X.env=[(false,eval a X.env)]:=by rfl):PI X tg (.Call (.Name "range" p) [a] [] pos) (abg ta):=by
 intro ajY s Z H R I h;refine Call_<|ju I hg hm boot_range<|X8 (Fl (ha pos ajY s Z H _ I h) fun us s1 ⟨vs,H1,I1,r1,q1⟩=>?_) hs rfl
 obtain ⟨j,e,q1,q2,q⟩:=q1;subst e;cases r1 with
 | cons r rr=>
  cases rr;obtain ⟨t,rfl⟩:=r;exact call_range_1<|CW I1 (by lia) (by lia) q1 q2<|by simpa using q
theorem afa {a b:Expr}{ta:TA}{p:Pos}(hg:Gl X "range")(hm:X.mg "range" = FX)(ha:PA X [a,b] ta)(hs:Eu [a,b] X.env=[(false,eval a X.env),(false,eval b X.env)]:=by rfl)(hs2:Eu [b] X.env=[(false,eval b X.env)]:=by rfl):
  PI X tg (.Call (.Name "range" p) [a,b] [] pos) (abp ta):=by
 intro ajY s Z H R I h;refine Call_<|ju I hg hm boot_range<|X8 (Fl (ha pos ajY s Z H _ I h) fun us s1 ⟨vs,H1,I1,r1,q1⟩=>?_) (by rw [hs,hs2]) (by rw [hs2];rfl)
 obtain ⟨i,j,e,⟨q1,q2,q3,q4⟩,q⟩:=q1;subst e;cases r1 with
 | cons r rr=>
  cases rr with
  | cons r' rr=>
   cases rr;obtain ⟨t,rfl⟩:=r;obtain ⟨t',rfl⟩:=r';exact call_range_2<|CW I1 q1 q2 q3 q4 q
def adn (wi:TI)(g:TG)(tb:TS):TS:=fun D Z H=>wi Z H fun J H1=>∃ W:Nat->Nat->St->Hp->Prop,(∃ m,W 0 m Z H1)/\∀ i m Z H,W i m Z H ->
 (J.stop i H/\D.nx Z H)\/(J.go i H/\∃ N:St->Hp->Prop,(∀ Z' H',N Z' H'->∃ m',m'<m/\W (i+1) m' Z' H')/\∀ x H',J.yld i H x H'->g x Z H' fun Z2 H2=>tb { D with nx:=N,ct:=N,bk:=D.nx } Z2 H2)
def vW (fp:List Addr)(h:Heap):List (Addr×Obj):=fp.filterMap fun b=>(h.get? b).map fun o=>(b,o)
theorem jm {fp:List Addr}{b:Addr}{o:Obj}(hb:b∈fp)(e:h.get? b=FN o):(b,o)∈vW fp h:=List.mem_filterMap.mpr ⟨b,hb,by rw [e];rfl⟩
theorem aen {fp:List Addr}{p:Addr×Obj}(hp:p∈vW fp h):p.1∈fp/\h.get? p.1=FN p.2:=by
 obtain ⟨b,hb,e⟩:=List.mem_filterMap.mp hp;cases q:h.get? b with
 | none=>rw [q] at e;cases e
 | some o=>
  rw [q] at e;have e':(b,o)=p:=Gw e;subst e';exact ⟨hb,q⟩
theorem DX.pinned {s:AP}{fp:List Addr}(I:DX X ajY Z H s)(hf:∀ b∈fp,Ej X ajY H b)(ho:∀ b∈fp,∃ o,s.heap.get? b=FN o/\∀ v,o.data≠.cell v):DX X (ajY++vW fp s.heap) Z H s:=
 I.pins_of fun p hp=>(Mr.mp hp).elim (fun z=>I.pin p (S9 _ z)) fun z=>by
  obtain ⟨hb,e⟩:=aen z;obtain ⟨f0,f1,f2,_⟩:=hf p.1 hb;obtain ⟨o,e',d⟩:=ho p.1 hb;rw [e] at e';cases e';exact ⟨e,f0,f1,f2,d⟩
theorem DX.unpinned {pl:List (Addr×Obj)}{s:AP}(I:DX X (ajY++pl) Z H s):DX X ajY Z H s:=I.pins_of fun p hp=>I.pin p (S9 _ (N7 _ hp))
theorem ahE {iter:Expr}{wi:TI}{g:TG}{tb:TS}(hp:ZQ (Dm X.prog X.w) X.A X.env X.xe)(hc:X.calm=true)(hi:PI X tg iter wi)(hg:PG X tg g)(hb:Nm X body tb)
  (hs:∀ x,V9 iter X.env x=pure x:=by intro _;rfl):PS X (.For tg iter body [] pos) (adn wi g tb):=by
 intro ajY s Z H D I h;refine wpAny_For (Fl (hi ajY s Z H _ I h) fun v s1 h1=>Fl h1 fun itv s2 h2=>?_) hs;obtain ⟨it,fp,tn,J,H2,e,I2,T,st2,f2,W,⟨m0,w0⟩,turn⟩:=h2;subst e
 -- what stays true of the iterator's objects through the loop
 have stat:∀ {H':Hp},(∀ b∈fp,H' b=FX)->∀ b∈fp,Ej X ajY H' b:=fun hn b hb=>⟨hn b hb,(f2 b hb).2⟩
 refine codeAny_forLoop_any (fun n s'=>∃ i Z' H',DX X ajY Z' H' s'/\tn i s'.heap/\(∀ b∈fp,H' b=FX)/\W i n Z' H') ?_ m0 ⟨0,Z,H2,I2,st2,fun b hb=>(f2 b hb).1,w0⟩;rintro n s3 ⟨i,Z3,H3,I3,st3,fr3,w3⟩;rcases turn i n Z3 H3 w3 with ⟨stop,qn⟩ | ⟨go,N,hN,step⟩
 ·refine X3 hp<|Fl (T.done X rfl rfl rfl (fun _=>hc) i ajY s3 Z3 H3 X.xe I3 (stat fr3) st3 stop) fun r s4 ⟨hr,I4⟩=>?_
  subst hr;exact wpAny_execs_nil ⟨Z3,H3,I4,qn⟩
 ·refine X3 hp<|Fl (T.item X rfl rfl rfl (fun _=>hc) i ajY s3 Z3 H3 X.xe I3 (stat fr3) st3 go) fun r s4 ⟨u,hr,h4⟩=>?_
  subst hr;refine X3 hp<|Fl h4 fun _ s5 ⟨x,H5,I5,r5,y5,st5,fr5⟩=>?_
  have I5':=I5.pinned (stat fr5) (T.obj _ _ st5);refine X3 hp<|Fl (hg _ s5 Z3 H5 x u _ I5' r5<|step x H5 y5) fun _ s6 ⟨Z6,H6,I6,q6⟩=>?_
  refine X3 hp<|Fl (hb _ s6 Z6 H6 _ I6 q6) fun f s7 q7=>?_
  have again:∀ {Z7:St} {H7:Hp},DX X (ajY++vW fp s5.heap) Z7 H7 s7->N Z7 H7->∃ m,m<n/\∃ i Z' H',DX X ajY Z' H' s7/\tn i s7.heap/\(∀ b∈fp,H' b=FX)/\W i m Z' H':=fun {Z7 H7} I7 n7=>by
   obtain ⟨m',hm,w7⟩:=hN Z7 H7 n7;refine ⟨m',hm,i+1,Z7,H7,I7.unpinned,T.keep _ _ _ st5 fun b hb o e=>(I7.pin (b,o)<|S9 _<|S9 _<|jm hb e).1,fun b hb=>?_,w7⟩;obtain ⟨o,e,d⟩:=T.obj _ _ st5 b hb;exact (I7.pin (b,o)<|S9 _<|S9 _<|jm hb e).2.1
  cases f with
  | next=>obtain ⟨Z7,H7,I7,n7⟩:=q7;exact again I7 n7
  | cont=>obtain ⟨Z7,H7,I7,n7⟩:=q7;exact again I7 n7
  | brk=>obtain ⟨Z7,H7,I7,q7⟩:=q7;exact ⟨Z7,H7,I7.unpinned,q7⟩
  | ret v=>obtain ⟨x7,Z7,H7,I7,r7,q7⟩:=q7;exact ⟨x7,Z7,H7,I7.unpinned,r7,q7⟩
end
theorem lJ {a:Addr}{g:TG}{tb:TS}(Pv:Nat->St->Hp->Prop)(h0:Pv 0 Z H)(hl:∀ i Z H,i<=xs.length->Pv i Z H->Hj K H a xs)
  (hs:∀ i x Z H,xs[i]?=FN x->Pv i Z H->g x Z H fun Z2 H2=>tb { D with nx:=Pv (i+1),ct:=Pv (i+1),bk:=D.nx } Z2 H2) (hd:∀ Z H,Pv xs.length Z H->D.nx Z H) :
  ∃ W:Nat->Nat->St->Hp->Prop,(∃ m,W 0 m Z H)/\∀ i m Z H,W i m Z H ->
   ((Itt K a).stop i H/\D.nx Z H)\/((Itt K a).go i H/\∃ N:St->Hp->Prop,(∀ Z' H',N Z' H'->∃ m',m'<m/\W (i+1) m' Z' H')/\∀ x H',(Itt K a).yld i H x H'->g x Z H' fun Z2 H2=>tb { D with nx:=N,ct:=N,bk:=D.nx } Z2 H2):=by
 refine ⟨fun i m Z H=>m=xs.length - i/\i<=xs.length/\Pv i Z H,⟨xs.length,by simp,Jk _,h0⟩,?_⟩;rintro i m Z H ⟨rfl,hi,p⟩;have q:=hl i Z H hi p;by_cases hlt:i<xs.length
 ·refine .inr ⟨⟨xs,xs[i],q,by simp [hlt]⟩,Pv<|i+1,fun Z' H' p'=>⟨xs.length - (i+1),by lia,rfl,hlt,p'⟩,fun x H' y=>?_⟩;obtain ⟨e,y⟩:=y;subst e;exact hs i x Z _ (y xs q) p
 ·have e:i=xs.length:=by lia
  subst e;exact .inl ⟨⟨xs,q,Ea _⟩,hd Z H p⟩
abbrev R2:=V->V->Hp->VK->Prop
def Jo (X:Cx)(f:Mk->Mk->Sem Mk)(r:R2):Prop:=
 ∀ (ajY:List (Addr×Obj)) (s:AP) (Z : St) (H:Hp) (x y:V) (v u:Mk) (Q:VK),DX X ajY Z H s->RelV x v->RelV y u->r x y H Q ->
  Dl (Dm X.prog X.w) X.A (f v u) (EP X ajY Z Q) X.xe s
def UnR (X:Cx)(f:Mk->Sem Mk)(r:V->Hp->VK->Prop):Prop:=
 ∀ (ajY:List (Addr×Obj)) (s:AP) (Z : St) (H:Hp) (x:V) (v:Mk) (Q:VK),DX X ajY Z H s->RelV x v->r x H Q ->
  Dl (Dm X.prog X.w) X.A (f v) (EP X ajY Z Q) X.xe s
def d8 (X:Cx)(f:Mk)(r:List V->Hp->VK->Prop):Prop:=
 ∀ (ajY:List (Addr×Obj)) (s:AP) (Z : St) (H:Hp) (xs:List V) (us:List Mk) (Q:VK),DX X ajY Z H s->DY xs us->r xs H Q ->
  Dl (Dm X.prog X.w) X.A (call f us) (EP X ajY Z Q) X.xe s
def adI (X:Cx)(r:V->Hp->(Bool->Hp->Prop)->Prop):Prop:=
 ∀ (ajY:List (Addr×Obj)) (s:AP) (Z : St) (H:Hp) (x:V) (v:Mk) (Q:Bool->Hp->Prop),DX X ajY Z H s->RelV x v->r x H Q ->
  Dl (Dm X.prog X.w) X.A (truthy v) (TP X ajY Z Q) X.xe s
def tOp (r:R2)(ta tb:TE):TE:=fun Z H Q=>ta Z H fun x H1=>tb Z H1 fun y H2=>r x y H2 Q
def tUn (r:V->Hp->VK->Prop)(ta:TE):TE:=fun Z H Q=>ta Z H fun x H1=>r x H1 Q
def rI (C:Int->Int->Prop)(g:Int->Int->V):R2:=fun x y H Q=>∃ i j,x=.int i/\y=.int j/\C i j/\Q (g i j) H
def rI0 (g:Int->Int->V):R2:=fun x y H Q=>∃ i j,x=.int i/\y=.int j/\Q (g i j) H
def rU (g:Int->V):V->Hp->VK->Prop:=fun x H Q=>∃ i,x=.int i/\Q (g i) H
section
variable {a b c:Expr}{tb tc:TE}
theorem aaz (ha:PE X a ta)(hb:PE X b tb){s:AP}{R:V->V->Hp->Prop}(I:DX X ajY Z H s)
  (h:ta Z H fun x H1=>tb Z H1 fun y H2=>R x y H2) {Q:Mk->AP->Prop} {f:Mk->Mk->Sem Mk}
  (hf:∀ v u s2 x y H2,DX X ajY Z H2 s2->RelV x v->RelV y u->R x y H2->Dl (Dm X.prog X.w) X.A (f v u) Q X.xe s2) :
  Dl (Dm X.prog X.w) X.A (eval a X.env) (fun v s₁=>Dl (Dm X.prog X.w) X.A (eval b X.env) (fun u s₂=>Dl (Dm X.prog X.w) X.A (f v u) Q X.xe s₂) X.xe s₁) X.xe s:=by
 refine Fl (ha ajY s Z H _ I h) fun v s1 ⟨x,H1,I1,r1,q1⟩=>?_;refine Fl (hb ajY s1 Z H1 _ I1 q1) fun u s2 ⟨y,H2,I2,r2,q2⟩=>?_;exact hf v u s2 x y H2 I2 r1 r2 q2
theorem abV {op:Operator}{r:R2}(ho:Jo X (Mi op) r)(ha:PE X a ta)(hb:PE X b tb):PE X (.BinOp a op b pos) (tOp r ta tb):=by
 intro ajY s Z H Q I h;exact wpAny_BinOp<|aaz ha hb I h fun v u s2 x y H2 I2 rx ry q=>ho ajY s2 Z H2 x y v u Q I2 rx ry q
theorem abB {op:UnaryOp}{r:V->Hp->VK->Prop}(ho:UnR X (unaryOp op) r)(ha:PE X a ta):PE X (.UnaryOp op a pos) (tUn r ta):=by
 intro ajY s Z H Q I h;exact UnaryOp_<|Fl (ha ajY s Z H _ I h) fun v s1 ⟨x,H1,I1,r1,q1⟩=>ho ajY s1 Z H1 x v Q I1 r1 q1
theorem opI {f:Mk->Mk->Sem Mk}{C:Int->Int->Prop}{g:Int->Int->Int}
  (rule:∀ (i j:Int) (t u:Tok) (s:AP) (Q:Mk->AP->Prop) (E:Mk->AP->Prop),C i j->Q (.int (g i j) s.toks) { s with toks:=s.toks+1 }->Dl (Dm X.prog X.w) X.A (f (.int i t) (.int j u)) Q E s) :
  Jo X f (rI C fun i j=>.int (g i j)):=by
 intro ajY s Z H x y v u Q I rx ry h;obtain ⟨i,j,rfl,rfl,hc,q⟩:=h;obtain ⟨t,rfl⟩:=rx;obtain ⟨t',rfl⟩:=ry;exact rule i j t t' s _ _ hc ⟨.int<|g i j,H,I.tok _,⟨_,rfl⟩,q⟩
theorem acE {f:Mk->Mk->Sem Mk}{g:Int->Int->Int}
  (rule:∀ (i j:Int) (t u:Tok) (s:AP) (Q:Mk->AP->Prop) (E:Mk->AP->Prop),Q (.int (g i j) s.toks) { s with toks:=s.toks+1 }->Dl (Dm X.prog X.w) X.A (f (.int i t) (.int j u)) Q E s) :
  Jo X f (rI0 fun i j=>.int (g i j)):=by
 intro ajY s Z H x y v u Q I rx ry h;obtain ⟨i,j,rfl,rfl,q⟩:=h;obtain ⟨t,rfl⟩:=rx;obtain ⟨t',rfl⟩:=ry;exact rule i j t t' s _ _ ⟨.int<|g i j,H,I.tok _,⟨_,rfl⟩,q⟩
theorem abC {f:Mk->Mk->Sem Mk}{g:Int->Int->Bool}
  (rule:∀ (i j:Int) (t u:Tok) (s:AP) (Q:Mk->AP->Prop) (E:Mk->AP->Prop),Q (.bool (g i j)) s->Dl (Dm X.prog X.w) X.A (f (.int i t) (.int j u)) Q E s) :
  Jo X f (rI0 fun i j=>.bl (g i j)):=by
 intro ajY s Z H x y v u Q I rx ry h;obtain ⟨i,j,rfl,rfl,q⟩:=h;obtain ⟨t,rfl⟩:=rx;obtain ⟨t',rfl⟩:=ry;exact rule i j t t' s _ _ ⟨.bl<|g i j,H,I,rfl,q⟩
def acf (i j:Int):Prop:=0<=j/\j<=1000000/\i.natAbs<2^64
theorem aac:Jo X (Mi .Add) (rI0 fun i j=>.int (i+j)):=acE fun _ _ _ _ _ _ _ q=>add_int q
theorem agG:Jo X (Mi .Sub) (rI0 fun i j=>.int (i - j)):=acE fun _ _ _ _ _ _ _ q=>sub_int q
theorem agj:Jo X (Mi .Mod) (rI (fun _ j=>j≠0) fun i j=>.int (i.fmod j)):=opI fun _ _ _ _ _ _ _ hc q=>mod_int' hc q
theorem aiP:Jo X (Mi .Pow) (rI acf fun i j=>.int (i^j.toNat)):=opI fun _ _ _ _ _ _ _ hc q=>pow_int_small hc.1 hc.2.1 hc.2.2 q
theorem unI {f:Mk->Sem Mk}{g:Int->Int}
  (rule:∀ (i:Int) (t:Tok) (s:AP) (Q:Mk->AP->Prop) (E:Mk->AP->Prop),Q (.int (g i) s.toks) { s with toks:=s.toks+1 }->Dl (Dm X.prog X.w) X.A (f (.int i t)) Q E s) :
  UnR X f (rU fun i=>.int (g i)):=by
 intro ajY s Z H x v Q I rx h;obtain ⟨i,rfl,q⟩:=h;obtain ⟨t,rfl⟩:=rx;exact rule i t s _ _ ⟨.int<|g i,H,I.tok _,⟨_,rfl⟩,q⟩
theorem Zc:UnR X (unaryOp .USub) (rU fun i=>.int (-i)):=unI fun _ _ _ _ _ q=>neg_int q
theorem sW {s:AP}{Q:VK}{k k':Bool}(I:DX X ajY Z H s)(q:Q (.bl k) H)(e:k=k'):EP X ajY Z Q (.bool k') s:=by
 subst e;exact ⟨.bl k,H,I,rfl,q⟩
theorem aa8:Jo X (K3 .Lt) (rI0 fun i j=>.bl (decide (i<j))):=abC fun _ _ _ _ _ _ _ q=>lt_int q
theorem abh:Jo X (K3 .LtE) (rI0 fun i j=>.bl (decide (i<=j))):=abC fun _ _ _ _ _ _ _ q=>le_int q
theorem aaG:Jo X (K3 .Gt) (rI0 fun i j=>.bl (decide (j<i))):=abC fun _ _ _ _ _ _ _ q=>gt_int q
theorem Zf:Jo X (K3 .Is) (fun x y H Q=>y=.non/\Q (.bl (decide (x=.non))) H):=by
 intro ajY s Z H x y v u Q I rx ry h;obtain ⟨rfl,q⟩:=h;cases ry;refine is_none_gen<|sW I q ?_
 cases x <;> first
  | (cases rx;rfl)
  | (obtain ⟨t,rfl⟩:=rx;rfl)
theorem afP:Jo X (K3 .IsNot) (fun x y H Q=>y=.non/\Q (.bl (!decide (x=.non))) H):=by
 intro ajY s Z H x y v u Q I rx ry h;obtain ⟨rfl,q⟩:=h;cases ry;refine isnot_none_gen<|sW I q ?_
 cases x <;> first
  | (cases rx;rfl)
  | (obtain ⟨t,rfl⟩:=rx;rfl)
theorem Jo.or {f:Mk->Mk->Sem Mk}{r r':R2}(h:Jo X f r)(h':Jo X f r'):Jo X f (fun x y H Q=>r x y H Q\/r' x y H Q):=by
 intro ajY s Z H x y v u Q I rx ry q;rcases q with q | q
 ·exact h ajY s Z H x y v u Q I rx ry q
 ·exact h' ajY s Z H x y v u Q I rx ry q
theorem PN (b:Expr){op:CmpOp}(h:op≠.In:=by decide)(h2:op≠.NotIn:=by decide):Vq op b=false:=by
 have e1:(op==CmpOp.In)=false:=by cases op <;> first | rfl | exact absurd rfl h
 have e2:(op==CmpOp.NotIn)=false:=by cases op <;> first | rfl | exact absurd rfl h2
 cases b <;> simp [Vq,e1,e2]
theorem zbM {op:CmpOp}{r:R2}(ho:Jo X (K3 op) r)(ha:PE X a ta)(hb:PE X b tb)(hm:Vq op b=false):PE X (.Compare a [op] [b] pos) (tOp r ta tb):=by
 intro ajY s Z H Q I h;exact wpAny_Compare1 (aaz ha hb I h fun v u s2 x y H2 I2 rx ry q=>ho ajY s2 Z H2 x y v u Q I2 rx ry q) hm
def abG (t:TE):TT:=fun Z H Q=>t Z H fun x H'=>∃ k,x=.bl k/\Q k H'
theorem afC {op:CmpOp}{r:R2}(ho:Jo X (K3 op) r)(ha:PE X a ta)(hb:PE X b tb)(hm:Vq op b=false):PT X (.Compare a [op] [b] pos) (abG (tOp r ta tb)):=by
 intro ajY s Z H Q I h;refine wpAny_isTrue_Compare1 (Fl (ha ajY s Z H _ I h) fun v s1 ⟨x,H1,I1,r1,q1⟩=>Fl (hb ajY s1 Z H1 _ I1 q1) fun u s2 ⟨y,H2,I2,r2,q2⟩=>
  Fl (ho ajY s2 Z H2 x y v u _ I2 r1 r2 q2) fun c s3 ⟨z,H3,I3,r3,k,e,q3⟩=>?_) hm
 subst e;cases r3;exact VD ⟨H3,I3,q3⟩
def QD (r r':R2)(ta tb tc:TE):TE:=fun Z H Q=>ta Z H fun x H1=>tb Z H1 fun y H2=>r x y H2 fun z H3=>∃ k,z=.bl k /\
 (if k=true then tc Z H3 fun w' H4=>r' y w' H4 Q else Q (.bl false) H3)
theorem zbe {op op':CmpOp}{r r':R2}(ho:Jo X (K3 op) r)(ho':Jo X (K3 op') r')(ha:PE X a ta)(hb:PE X b tb)(hc:PE X c tc)
  (hm:lastMarks [op,op'] [b,c]=false:=by with_unfolding_all rfl):PE X (.Compare a [op,op'] [b,c] pos) (QD r r' ta tb tc):=by
 intro ajY s Z H Q I h;refine Compare_chain (Fl (ha ajY s Z H _ I h) fun v s1 ⟨x,H1,I1,r1,q1⟩=>chain_link (Fl (hb ajY s1 Z H1 _ I1 q1) fun u s2 ⟨y,H2,I2,r2,q2⟩=>
  Fl (ho ajY s2 Z H2 x y v u _ I2 r1 r2 q2) fun d s3 ⟨z,H3,I3,r3,k,e,q3⟩=>?_)) hm
 subst e;cases r3;refine VD ?_;cases k with
 | false=>exact ite_ff ⟨.bl false,H3,I3,rfl,q3⟩
 | true=>exact ite_tt (chain_last (Fl (hc ajY s3 Z H3 _ I3 q3) fun w' s4 ⟨z',H4,I4,r4,q4⟩=>ho' ajY s4 Z H4 y z' u w' Q I4 r2 r4 q4))
def acF (K:Dp)(x:V)(H:Hp)(k:Bool):Prop:=
 match x with
 | .non=>k=false
 | .bl b=>k=b
 | .int i=>k=(i != 0)
 | .str y=>y.length<=G7/\k=((y.length:Int) != 0)
 | .byt y=>y.size<=G7/\k=((y.size:Int) != 0)
 | .ref p=>(∃ xs,JF K H p xs/\k = !xs.isEmpty)\/(∃ xs,Hj K H p xs/\k = !xs.isEmpty)\/∃ kvs,H p=FN (.dK kvs)/\k = !kvs.isEmpty
 | _=>False
theorem aeF {kvs:List (κ×V)}{vs:List (κ×Mk)}(r:KV kvs vs):(!vs.isEmpty) = !kvs.isEmpty:=by
 cases r <;> rfl
theorem lX {its:List Mk}(r:DY xs its):(!its.toArray.isEmpty) = !xs.isEmpty:=by
 cases r <;> simp
theorem rJ:(G7:Nat)<2^63:=by rw [sizeLine_eq];decide
theorem ahd:adI X (fun x H Q=>∃ k,acF X.K x H k/\Q k H):=by
 intro ajY s Z H x v Q I rx h;obtain ⟨k,e,q⟩:=h;have hl:=rJ;have hs:G7=16777216:=sizeLine_eq;cases x with
 | non=>
  cases rx;have e':k=false:=e;subst e';exact truthy_none ⟨H,I,q⟩
 | bl b=>
  cases rx;have e':k=b:=e;subst e';exact VD ⟨H,I,q⟩
 | int i=>
  obtain ⟨t,rfl⟩:=rx;have e':k=(i != 0):=e;subst e';exact PySem.P.truthy_int ⟨H,I,q⟩
 | str y=>
  obtain ⟨t,rfl⟩:=rx;obtain ⟨hy,e'⟩:y.length<=G7/\k=((y.length:Int) != 0):=e;subst e';exact PySem.P.truthy_str (by lia) ⟨H,I.tok _,q⟩
 | byt y=>
  obtain ⟨t,rfl⟩:=rx;obtain ⟨hy,e'⟩:y.size<=G7/\k=((y.size:Int) != 0):=e;subst e';exact PySem.W.truthy_bytes (by lia) ⟨H,I.tok _,q⟩
 | ref p=>
  cases rx;have e':(∃ xs,JF X.K H p xs/\k = !xs.isEmpty)\/(∃ xs,Hj X.K H p xs/\k = !xs.isEmpty)\/∃ kvs,H p=FN (.dK kvs)/\k = !kvs.isEmpty:=e
  rcases e' with ⟨xs,hx,e'⟩ | ⟨xs,hx,e'⟩ | ⟨kvs,hx,e'⟩
  ·subst e';obtain ⟨its,r,pl,hz⟩:=I.list hx;have ajZ:=r.length;exact wpAny_truthy_list pl.isList (by simp only [J9];lia) ⟨H,I.tok _,by rw [lX r];exact q⟩
  ·subst e';obtain ⟨its,r,pl,hz⟩:=I.tuple hx;have ajZ:=r.length;exact truthy_tuple pl (by simp only [J9];lia) ⟨H,I.tok _,by rw [lX r];exact q⟩
  ·subst e';obtain ⟨hz,hS,vs,r,m⟩:kvs.length<=G7/\(p==Mx)=false/\∃ vs,KV kvs vs/\s.heap.DictOf (bR X.prog X.w) p vs:=I.hok p _ hx
   have ajZ:kvs.length=vs.length:=Vo r;exact wpAny_truthy_dict hS m (by lia) ⟨H,I.tok _,by rw [aeF r];exact q⟩
 | _=>exact (show False from e).elim
theorem Ba (ha:PE X a ta)(he:∀ whole,isTrue a X.env whole=(do let v <-whole;standAt a.pos;Rr [v] (truthy v))):
  PT X a (fun Z H Q=>ta Z H fun x H'=>∃ k,acF X.K x H' k/\Q k H'):=by
 intro ajY s Z H Q I h;exact isTrue_plain (Fl (ha ajY s Z H _ I h) fun v s1 ⟨x,H1,I1,r1,q1⟩=>ahd ajY s1 Z H1 x v Q I1 r1 q1)<|he _
theorem vals1 {x:V}(r:DY [x] us):∃ u,us=[u]/\RelV x u:=by
 cases r with
 | cons r1 r2=>cases r2;exact ⟨_,rfl,r1⟩
theorem vals2 {x y:V}(r:DY [x,y] us):∃ u w',us=[u,w']/\RelV x u/\RelV y w':=by
 cases r with
 | cons r1 r2=>
  cases r2 with
  | cons r3 r4=>cases r4;exact ⟨_,_,rfl,r1,r3⟩
theorem wL (hc:X.calm=true):d8 X (.builtin "max") (fun xs H Q=>∃ i j,xs=[.int i,.int j]/\Q (.int (if j>i then j else i)) H):=by
 intro ajY s Z H xs us Q I r h;obtain ⟨i,j,rfl,q⟩:=h;obtain ⟨u,w',rfl,⟨t,rfl⟩,⟨t',rfl⟩⟩:=vals2 r;refine max_two_ints (I.ok.hd hc) fun h' tk k=>⟨_,H,I.kept k,?_,q⟩;by_cases hj:j>i
 ·rw [if_pos hj,if_pos hj];exact ⟨_,rfl⟩
 ·rw [if_neg hj,if_neg hj];exact ⟨_,rfl⟩
theorem ahU:d8 X (.type "int") (fun xs H Q=>(∃ i,xs=[.int i]/\Q (.int i) H)\/∃ k,xs=[.bl k]/\Q (.int (if k then 1 else 0)) H):=by
 intro ajY s Z H xs us Q I r h;rcases h with ⟨i,rfl,q⟩ | ⟨k,rfl,q⟩
 ·obtain ⟨u,rfl,t,rfl⟩:=vals1 r;exact call_int_int ⟨.int i,H,I,⟨_,rfl⟩,q⟩
 ·obtain ⟨u,rfl,r1⟩:=vals1 r;cases r1;exact call_int_bool ⟨.int<|if k then 1 else 0,H,I.tok _,⟨_,rfl⟩,q⟩
end
structure acp (h:Heap) (x dx C:Addr) (mA:Str->Option Mk):Prop where
 obj:h.get? x=FN (PySem.W.instObj C dx)
 ns:h.Ns1 dx mA
 ne:dx≠x
variable {dx : Addr}{mA : Str->Option Mk}
theorem zaL (n:h.Ns1 dx mA):∃ od,h.get? dx=FN od/\∀ name,PySem.W.lookIn name od=FN (mA name):=by
 obtain ⟨o,es,ep,ho,hd,hk,_,hm⟩:=n;refine ⟨o,ho,fun name=>?_⟩;have e:=hm name;unfold nsFind findBy at e;rw [<-Array.find?_toList] at e;unfold PySem.W.lookIn;rw [hd];dsimp only;split
 ·rename_i y q;rw [q] at e;exact congrArg FN e
 ·rename_i q;rw [q] at e;have a:es.toList.any (·.refKey)=false:=by
   rw [List.any_eq_false];intro y hy;obtain ⟨z,t,hkey⟩:=hk y (Array.mem_toList_iff.mp hy);simp [DictEntry.refKey,hkey]
  have a':¬ es.toList.any (·.refKey)=true:=by rw [a];exact Lw
  rw [if_neg a'];exact congrArg FN e
variable {C : Addr}
theorem acp.look {x:Addr}(I:acp h x dx C mA):∃ od,PySem.W.InstAt h x (PySem.W.instObj C dx) C (FN od)/\∀ name,PySem.W.lookIn name od=FN (mA name):=
 let ⟨od,ho,hl⟩:=zaL I.ns
 ⟨od,⟨I.obj,rfl,rfl,ho⟩,hl⟩
section
variable {s:AP}{x f:Addr}{name:Str}{v:Mk}
theorem get_map {expr:Bool}(X:K.In s.heap)(I:acp s.heap x dx C mA)(hg:PySem.W.plainGet K C name=true)(hh:PySem.W.hasDictIn K C=true)
  (ha:U3 K (.ref C) name=FN FX) (hv:mA name=FN v) (hv':PySem.W.handedIn v=true) (h:Q v { s with toks:=s.toks+1 }) :
  Dl (Dm prog w) A (getAttr (.ref x) name expr) Q E s:=by
 obtain ⟨od,J,hl⟩:=I.look;exact PySem.W.get_value X J (PySem.W.plainGet_of hg).1 (PySem.W.findObj_own hh ha rfl<|by rw [hl,hv]) hv' h
end
variable {name : Str}
theorem KQ.some_of {v:V}{o:Option Mk}(r:KQ (FN v) o):∃ u,o=FN u/\RelV v u:=by
 cases o with
 | none=>exact (show False from r).elim
 | some u=>exact ⟨u,rfl,r⟩
section
variable {a:Addr}{fs fs':List (Str×V)}
end
structure Cls (K:Dp) (C:Addr):Prop where
 pg:PySem.W.plainGet K C Str.empty=true
 hd:PySem.W.hasDictIn K C=true
 po:PySem.W.plainOver K C=true
 sa:U3 K (.ref C) "__setattr__" = FN (FN (.builtin "object.__setattr__"))
structure Con (K:Dp) (C:Addr) (f:Str) (v:V) (u:Mk):Prop where
 at_:U3 K (.ref C) f=FN (FN u)
 rel:RelV v u
 get:PySem.W.specialIn K u "__get__" = FN FX
 cp:PySem.W.copiedNames.contains f=false
structure Meth (K:Dp) (C:Addr) (m:Str) (f:Addr):Prop where
 at_:U3 K (.ref C) m=FN (FN (.ref f))
 fn:PySem.W.isFn K (.ref f)=true
 kp:U7 K (.ref f)=true
section
variable {s:AP}{a:Addr}{fs:List (Str×V)}{f:Str}{v:V}
end
section
variable {value:Expr}{f:Str}{tpos:Pos}{tv:TE}
end
section
variable {s:AP}{c:Mk}{b:Bool}
inductive JT (K:Dp) (H:Hp):V->Mk->Prop where
 | non:JT K H .non (.type "NoneType")
 | bl (x:Bool):JT K H (.bl x) (.type "bool")
 | int (i:Int):JT K H (.int i) (.type "int")
 | str (x:Str):JT K H (.str x) (.type "str")
 | flt (x:UInt64):JT K H (.flt x) (.type "float")
 | lst {a:Addr} {xs:List V} (e:H a=FN (.lst xs)):JT K H (.ref a) (.type "list")
 | frz {a:Addr} {o:Obj} {xs:List V} (e:H a=FN (.frz o (.lst xs))):JT K H (.ref a) (.type "list")
 | tup {a:Addr} {xs:List V} (e:H a=FN (.tup xs)):JT K H (.ref a) (.type "tuple")
 | dK {a:Addr} {kvs:List (Key×V)} (e:H a=FN (.dK kvs)):JT K H (.ref a) (.type "dict")
 | dT {a:Addr} {kvs:List (List Key×V)} (e:H a=FN (.dT kvs)):JT K H (.ref a) (.type "dict")
 | ins {a C dx:Addr} {fs:List (Str×V)} (e:H a=FN (.ins C dx fs)) (cl:Cls K C) (ha:U3 K (.ref C) "__class__" = FN (FN (.builtin "object.__class__")))
   (hn:PySem.W.specialIn K (.builtin "object.__class__") "__get__" = FN (FN (.builtin "getset_descriptor.__get__"))) (htk:PySem.W.takesIn K (.builtin "object.__class__")=FN true)
   (hm:PySem.W.mroIn K C (.type "object")=FN true):JT K H (.ref a) (.ref C)
end
structure mJ (k:Nat) (A:Fg):Prop where
 hd:9<=k->A.handled=FX
 dp:A.depth+3*k+5<recursionLimit
 un:A.units+16*k+200<Jj
theorem mJ.mono (r:mJ k A)(h:j<=k):mJ j A:=⟨fun z=>r.hd (Eb z h),by have:=r.dp;lia,by have:=r.un;lia⟩
theorem mJ.deeper {k:Nat}{A:Fg}(r:mJ (k+1) A)(env:Env):mJ k (A.deeper env):=
 ⟨fun z=>r.hd (Nat.le_succ_of_le z),by have:=r.dp;show A.depth+1+3*k+5<_;lia,by have:=r.un;show A.units+3+16*k+200<_;lia⟩
theorem mJ.calm (r:mJ k A)(h:9<=k):A.handled.isNone=true:=by rw [r.hd h];rfl
theorem mJ.depth {k:Nat}{A:Fg}(r:mJ k A):A.depth<recursionLimit:=by have:=r.dp;lia
theorem mJ.units {k:Nat}{A:Fg}(r:mJ k A):A.units+64<Jj:=by have:=r.un;lia
def adH:TA:=fun _ H Q=>Q [] H
def aaJ (ta:TE)(tr:TA):TA:=fun Z H Q=>ta Z H fun x H1=>tr Z H1 fun xs H2=>Q (x::xs) H2
section
variable {te:TE}{t:TA}
theorem ZV:PA X [] adH:=fun _ _ _ _ H Q I h=>Calls.spliced_nil ⟨[],H,I,.nil,h⟩
theorem aiD (ha:PE X e te)(hr:PA X es t)(hs:Eu (e::es) X.env=(false,eval e X.env)::Eu es X.env:=by rfl):PA X (e::es) (aaJ te t):=by
 intro pos ajY s Z H Q I h;rw [hs];show Dl _ _ (spliced ((false,eval e X.env)::JK pos (Eu es X.env))) _ _ s;refine Calls.spliced_cons<|Fl (ha ajY s Z H _ I h) fun u s1 ⟨x,H1,I1,r1,q1⟩=>?_
 exact Fl (hr pos ajY s1 Z H1 _ I1 q1) fun us s2 ⟨xs,H2,I2,r2,q2⟩=>⟨x::xs,H2,I2,.cons r1 r2,q2⟩
def adt (t:TA):TE:=fun Z H Q=>t Z H fun xs H1=>xs.length<=G7/\∀ p,H1 p=FX->Q (.ref p) (Fb H1 p (.tup xs))
def adw (t:TA):TE:=fun Z H Q=>t Z H fun xs H1=>xs.length<=G7/\∀ p,H1 p=FX->Q (.ref p) (Fb H1 p (.lst xs))
theorem aio {x1}(h:PA X es t):PE X (.Tuple es x1 pos) (adt t):=by
 intro ajY s Z H Q I hq;refine wpAny_Tuple_spliced<|Fl (h pos ajY s Z H _ I hq) fun us s1 ⟨xs,H1,I1,r,z,q⟩=>⟨by rw [<-r.length];exact z,?_⟩
 have hf:H1 s1.heap.objs.size=FX:=I1.hok.fresh (Ea _);refine ⟨.ref s1.heap.objs.size,Fb H1 s1.heap.objs.size<|.tup xs,I1.laid (t':=s1.toks) (fun b u e=>G6 _ e) (Ea _) ?_,rfl,q _ hf⟩;exact ⟨z,us,r,⟨_,Hw _ rfl,rfl,⟨_,rfl⟩,rfl⟩⟩
theorem P0 (h:PA X es t):PE X (.List es pos) (adw t):=by
 intro ajY s Z H Q I hq;refine wpAny_List_spliced<|Fl (h pos ajY s Z H _ I hq) fun us s1 ⟨xs,H1,I1,r,z,q⟩=>⟨by rw [<-r.length];exact z,?_⟩
 have hf:H1 s1.heap.objs.size=FX:=I1.hok.fresh (Ea _);refine ⟨.ref s1.heap.objs.size,Fb H1 s1.heap.objs.size<|.lst xs,I1.laid (t':=s1.toks) (fun b u e=>G6 _ e) (Ea _) ?_,rfl,q _ hf⟩;exact ⟨z,us,0,r,Hw _ rfl⟩
end
variable {t : TA}
abbrev Sp:=List V->Hp->VK->XK->Prop
abbrev Uq:=List Env->Hp->AP->XK->Mk->AP->Prop
structure aak (P:Ew) (w:Em) (K:Dp) (mg:Str->Option Mk) (base:Heap) (A:Fg) (outer:List Env) (s:AP) (H:Hp):Prop where
 frames:A.frames=FN outer
 mod:Mod K mg base
 bs:∀ b o,base.get? b=FN o->s.heap.get? b=FN o/\H b=FX
 bsz:base.objs.size<=s.heap.objs.size
 funs:s.heap.FunFrames base outer
 frf:∀ b∈frs outer,H b=FX
 hok:KY P w H s.heap
 bare:Tj s.gens
 qt:Quiet A H
def CE (outer:List Env)(P:Ew)(w:Em)(H:Hp)(s:AP)(Q:VK)(u:Mk)(s':AP):Prop:=
 ∃ v H',s'.os=s.os/\Tj s'.gens/\Un (frs outer) [] H H' s.heap s'.heap/\KY P w H' s'.heap/\RelV v u/\Q v H'
def aea (CX:Uq)(outer:List Env)(P:Ew)(w:Em)(H:Hp)(s:AP)(Q:VK)(E:XK)(r:Xy)(s':AP):Prop:=
 match r with
 | .ok (.ret u)=>CE outer P w H s Q u s'
 | .ok _=>False
 | .error e=>CX outer H s E e s'
structure qO (P:Ew) (w:Em) (K:Dp) (mg:Str->Option Mk) (base:Heap) (CX:Uq) (k:Nat) (f:Addr) (fd:N5) (ps:List Str) (sp:Sp):Prop where
 len:∀ vs H Q E,sp vs H Q E->vs.length=ps.length
 run:∀ (A:Fg) (outer:List Env) (s:AP) (H:Hp) (args:Args) (us:List Mk) (vs:List V) (Q:VK) (E:XK),mJ k A->aak P w K mg base A outer s H->BindsTo s fd args (ps.zip us)->DY vs us->sp vs H Q E ->
  Mh (Dm P w) A (.call (.ref f) args) (aea CX outer P w H s Q E) s
variable {CX : Uq}{base : Heap}{sp : Sp}{mg : Str->Option Mk}{fd : N5}
theorem qO.mono {P:Ew}{w:Em}{K:Dp}{mg:Str->Option Mk}{base:Heap}{CX:Uq}{j k:Nat}{f:Addr}{fd:N5}{ps:List Str}{sp:Sp}(F:qO P w K mg base CX j f fd ps sp)(h:j<=k) :
  qO P w K mg base CX k f fd ps sp:=⟨F.len,fun A outer s H args us vs Q E hr=>F.run A outer s H args us vs Q E (hr.mono h)⟩
theorem qO.imp {f:Addr}{ps:List Str}{sp':Sp}(F:qO P w K mg base CX k f fd ps sp)
  (h:∀ vs H Q E,sp' vs H Q E->sp vs H Q E):qO P w K mg base CX k f fd ps sp':=
 ⟨fun vs H Q E q=>F.len vs H Q E (h _ _ _ _ q),fun A outer s H args us vs Q E hr he hb hv hs=>F.run A outer s H args us vs Q E hr he hb hv (h _ _ _ _ hs)⟩
section
variable {s:AP}
theorem DX.env0 (I:DX X ajY Z H s):aak X.prog X.w X.K X.mg X.base X.A X.stack s H:=
 ⟨I.ok.frames,I.ok.mod,I.bs,Eb I.ok.bsz I.sz,I.stack,I.stkFree,I.hok,I.bare,I.qt0⟩
theorem DX.after {Q:VK}(I:DX X ajY Z H s)(h:CE X.stack X.prog X.w H s Q u s'):EP X ajY Z Q u s':=by
 obtain ⟨v,H',os,bare,un,hok,r,q⟩:=h;obtain ⟨hh,g,d,t,os'⟩:=s';obtain rfl:os'=s.os:=os;exact ⟨v,H',I.call (h':=hh) (g':=g) (d':=d) (t':=t) (ch:=[]) un hok bare<|fun b z=>absurd z<|by simp,r,q⟩
end
def W8 (sp:Sp)(dvs:List V)(E:XK)(t:TA):TE:=fun Z H Q=>t Z H fun vs H1=>sp (vs++dvs) H1 Q E
def Binds (K:Dp)(fd:N5)(ps:List Str)(ds:List Mk):Prop:=
 ∀ (s:AP) (us:List Mk),K.In s.heap->(us++ds).length=ps.length->BindsTo s fd ⟨us,[]⟩ (ps.zip (us++ds))
theorem Binds.all {ps:List Str}(h:∀ us:List Mk,us.length=ps.length->bindArgs fd ⟨us,[]⟩=pure (ps.zip us)):Binds K fd ps []:=fun s us _ hl=>by
 rw [V4] at hl |-
 exact .of_eq<|h us hl
def Passes (CX:Uq)(X:Cx)(E:XK):Prop:=∀ (ajY:List (Addr×Obj)) (Z : St) (H:Hp) (s:AP) (e:Mk) (s':AP),DX X ajY Z H s->CX X.stack H s E e s'->X.xe e s'
section
variable {f:Addr}{ps:List Str}{dvs:List V}{ds:List Mk}{E:XK}{x m:Str}{p apos:Pos}
theorem Zu {s:AP}{Q:VK}{vs:List V}(F:qO X.prog X.w X.K X.mg X.base CX k f fd ps sp)(hr:mJ k X.A)(hb:Binds X.K fd ps ds)(hd:DY dvs ds)(hx:Passes CX X E)
  (I:DX X ajY Z H s) (r:DY vs us) (h:sp (vs++dvs) H Q E):Dl (Dm X.prog X.w) X.A (call (.ref f) us) (EP X ajY Z Q) X.xe s:=by
 have r2:DY (vs++dvs) (us++ds):=r.append hd;have hl:(us++ds).length=ps.length:=by rw [<-r2.length];exact F.len _ _ _ _ h
 refine wpAny_call<|codeAny_mono (F.run X.A X.stack s H ⟨us,[]⟩ (us++ds) (vs++dvs) Q E hr I.env0 (hb s us I.kIn hl) r2 h) fun r s' hq=>?_
 cases r with
 | error e=>exact hx ajY Z H s e s' I hq
 | ok fl=>
  cases fl with
  | ret u=>exact I.after hq
  | next=>exact TJ hq
  | brk=>exact TJ hq
  | cont=>exact TJ hq
theorem aiE (F:qO X.prog X.w X.K X.mg X.base CX k f fd ps sp)(hr:mJ k X.A)(hg:Gl X x)(hm:X.mg x=FN (.ref f))(hk:U7 X.K (.ref f)=true)(hb:Binds X.K fd ps ds)(hd:DY dvs ds)(hx:Passes CX X E)
  (ha:PA X (e::es) t) (hdb:(x==("__debug__" : Str))=false:=by decide) (he:Eu (e::es) X.env=(false,eval e X.env)::Eu es X.env:=by rfl) (hpl:(JK pos (Eu es X.env)).any (·.1)=false:=by rfl) :
  PE X (.Call (.Name x p) (e::es) [] pos) (W8 sp dvs E t):=by
 intro ajY s Z H Q I h;refine W5<|Gz I hg hm ?_ hdb
 refine PySem.W.callWith_K (h₀:=X.base) I.ok.mod.kin hk (Fl (ha pos ajY s Z H _ I h) fun us s1 ⟨vs,H1,I1,r,q⟩=>⟨I1.kIn,?_⟩) he hpl;exact Zu F hr hb hd hx I1 r q
structure aee (K:Dp) (C f:Addr):Prop where
 makes:PySem.W.makesIn K C=true
 init:U3 K (.ref C) "__init__" = FN (FN (.ref f))
 fn:PySem.W.isFn K (.ref f)=true
 kp:U7 K (.ref C)=true
end
variable {apos : Pos}
section
variable {f:Addr}{ps ks:List Str}{E:XK}{x m:Str}{p kpos:Pos}{kws:List Nq}{te:TE}{tk:TA}{nm:Option Str}
structure ac3 (K:Dp) (fd:N5) (ps ks:List Str) (g:List Mk->List Mk->List Mk) (gV:List V->List V->List V):Prop where
 to:∀ (s:AP) (us ws:List Mk),K.In s.heap->(g us ws).length=ps.length->BindsTo s fd ⟨us,ks.zip ws⟩ (ps.zip (g us ws))
 rel:∀ {vs:List V} {us:List Mk} {zs:List V} {ws:List Mk},DY vs us->DY zs ws->DY (gV vs zs) (g us ws)
variable {g:List Mk->List Mk->List Mk}{gV:List V->List V->List V}
end
structure iI (N P:List Str) (sc:Scope):Prop where
 kind:sc.kind=.function
 co:sc.isCoroutine=false
 gen:sc.isGenerator=false
 nd:N.Nodup
 pre:N.take P.length=P
 par:∀ x∈P,sc.names.lookup x=FN .local\/sc.names.lookup x=FN .cell
 nofree:∀ y∈sc.names,y.2≠.free
theorem wH {Ku:Str->Option M4}{x:Str}:∀ {binds:List (Str×Mk)} {m:Str->Option Mk},(∀ v,(x,v)∉binds)->bindL Ku binds m x=m x
 | [],_,_=>rfl
 | (n,v)::r,m,h=>by
  unfold bindL;rw [wH fun w hw=>h w (Jm _ hw)];split
  ·have:x≠n:=by rintro rfl;exact h v LQ
   simp [this]
  ·rfl
theorem xV {Ku:Str->Option M4}{x:Str}:∀ {binds:List (Str×Mk)} {m:Str->Option Mk},(∀ v,(x,v)∉binds)->bindC Ku binds m x=m x
 | [],_,_=>rfl
 | (n,v)::r,m,h=>by
  unfold bindC;rw [xV fun w hw=>h w (Jm _ hw)];split
  ·rfl
  ·have:x≠n:=by rintro rfl;exact h v LQ
   simp [this]
theorem wY {Ku:Str->Option M4}{x:Str}{v:Mk}:∀ {P:List Str} {vs:List Mk} {i:Nat} {m:Str->Option Mk},P.Nodup->P[i]?=FN x->vs[i]?=FN v->Ku x=FN .local ->
  bindL Ku (P.zip vs) m x=FN v
 | [],_,_,_,_,h,_,_=>by simp at h
 | _::_,[],_,_,_,_,h,_=>by simp at h
 | p::P,w::vs,0,m,nd,h1,h2,hk=>by
  simp at h1 h2;subst h1;subst h2;show bindL Ku ((p,w)::P.zip vs) m p=_;unfold bindL;rw [wH fun v hv=>(RN.mp nd).1 (List.of_mem_zip hv).1,if_pos hk];simp
 | p::P,w::vs,i+1,m,nd,h1,h2,hk=>by
  show bindL Ku ((p,w)::P.zip vs) m x=_;unfold bindL;exact wY (i:=i) (RN.mp nd).2 (by simpa using h1) (by simpa using h2) hk
theorem wA {Ku:Str->Option M4}{x:Str}{v:Mk}:∀ {P:List Str} {vs:List Mk} {i:Nat} {m:Str->Option Mk},P.Nodup->P[i]?=FN x->vs[i]?=FN v->Ku x≠FN .local ->
  bindC Ku (P.zip vs) m x=FN v
 | [],_,_,_,_,h,_,_=>by simp at h
 | _::_,[],_,_,_,_,h,_=>by simp at h
 | p::P,w::vs,0,m,nd,h1,h2,hk=>by
  simp at h1 h2;subst h1;subst h2;show bindC Ku ((p,w)::P.zip vs) m p=_;unfold bindC;rw [xV fun v hv=>(RN.mp nd).1 (List.of_mem_zip hv).1,if_neg hk];simp
 | p::P,w::vs,i+1,m,nd,h1,h2,hk=>by
  show bindC Ku ((p,w)::P.zip vs) m x=_;unfold bindC;exact wA (i:=i) (RN.mp nd).2 (by simpa using h1) (by simpa using h2) hk
def start (N:List Str)(vs:List V):St:=vs.map FN++Gv (N.length - vs.length) FX
def Ft (CX:Uq)(P:Ew)(w:Em)(K:Dp)(mg:Str->Option Mk)(base:Heap)(N:List Str)(qual:Str)(scope:Scope)(f:Addr)(cd:Mk)(A:Fg)(outer:List Env)(s:AP)(H:Hp)(E:XK):Cx where
 prog:=P
 w:=w
 K:=K
 mg:=mg
 base:=base
 A:=A.deeper (Rb qual scope s.heap.objs.size f cd)
 N:=N
 s₀:=s
 H₀:=H
 env:=Rb qual scope s.heap.objs.size f cd
 outer:=outer
 stack:=Rb qual scope s.heap.objs.size f cd::outer
 ex:=[]
 calm:=A.handled.isNone
 fn:=fun _=>true
 pn:=[]
 xe:=fun e s'=>Dl (Dm P w) (A.deeper (Rb qual scope s.heap.objs.size f cd)) (leaving (Rb qual scope s.heap.objs.size f cd) e) (fun _ s''=>CX outer H s E e s'') (fun e' s''=>CX outer H s E e' s'') s'
theorem Aq {sc:Scope}{x:Str}(h:sc.names.lookup x=FN .cell):∃ c,(K8 n sc.names []).lookup x=FN c:=by
 have q:=PySem.W.cellsFrom_some sc.names n [] (.inl h);exact Option.isSome_iff_exists.mp q
variable {scope : Scope}{qual : Str}
theorem aeA {ps:List Str}{f:Addr}{cd:Mk}{outer:List Env}{s s1:AP}{E:XK}{vs:List V}
  (S:iI N ps scope) (e0:aak P w K mg base A outer s H) (hl:vs.length=ps.length) (r:DY vs us)
  (x:InCallC s s.heap.objs.size (bindL (Rb qual scope s.heap.objs.size f cd).kindOf (ps.zip us) fun _=>FX) (K8 (s.heap.objs.size+1) scope.names []) (bindC (Rb qual scope s.heap.objs.size f cd).kindOf (ps.zip us) fun _=>FX) s1) :
  DX (Ft CX P w K mg base N qual scope f cd A outer s H E) [] (start N vs) H s1:=by
 have hpl:ps.length<=N.length:=by have:=congrArg Wj S.pre;rw [Lr] at this;lia
 obtain ⟨h1,tk,rfl,hk⟩:=x.done;have noA:∀ b:Addr,b∉(Ft CX P w K mg base N qual scope f cd A outer s H E).ex:=fun b z=>absurd (show b∈([]:List Addr) from z) (by simp)
 refine ⟨⟨e0.mod,S.kind,rfl,rfl,Ea _,fun y z c h1 h2=>?_,fun y hy=>?_,fun y c _ h=>?_,fun z=>Option.isNone_iff_eq_none.mp (show A.handled.isNone=true from z),e0.qt,Around.frames_deeper e0.frames,.inr ⟨rfl,rfl⟩,fun b z=>absurd z (noA b),e0.bs,e0.bsz,fun b _ _=>noA b,fun b z=>absurd z (noA b),e0.funs,e0.frf⟩,
  rfl,e0.bare,Un.kept hk,⟨_,x.toInCall.ns,fun i y v h1 h2 h3=>?_⟩,fun y c h=>⟨_,x.cell y c h⟩,e0.hok.fresh (Ea _),fun y c h=>?_,fun p hp=>absurd (show p∈([]:List (Addr×Obj)) from hp) (by simp),e0.hok.kept hk,?_⟩
 ·exact name_of_addr x.apart (Ua h1)<|Ua h2
 ·have hy:scope.names.lookup y=FN .cell\/scope.names.lookup y=FN .free:=hy;rcases hy with hy | hy
  ·exact Aq hy
  ·exact absurd rfl<|S.nofree _<|Ua hy
 ·exact Mv<|x.above y c<|Ua h
 ·have hi:i<vs.length:=by
   unfold start at h2;by_cases hi:i<vs.length
   ·exact hi
   ·rw [Ob (by simpa using hi)] at h2;rw [W0] at h2;split at h2 <;> cases h2
  have ha:vs[i]?=FN v:=by
   unfold start at h2;rw [RQ (by simpa using hi),Gy] at h2;cases e:vs[i]? with
   | none=>rw [e] at h2;cases h2
   | some a=>rw [e] at h2;cases h2;rfl
  obtain ⟨u,hu,rv⟩:=r.get ha;have hp:ps[i]?=FN y:=by
   rw [<-S.pre,List.getElem?_take_of_lt (by lia)];exact h1
  have ndP:ps.Nodup:=by rw [<-S.pre];exact S.nd.sublist (List.take_sublist _ _)
  refine ⟨u,rv,?_⟩;rcases S.par y (Lx hp) with k | k
  ·exact .inl ⟨k,wY ndP hp hu k⟩
  ·obtain ⟨c,e⟩:=Aq (n:=s.heap.objs.size+1) k;refine .inr ⟨.inl k,c,e,?_⟩;have q:=x.cell y c e;rw [wA ndP hp hu (by show scope.names.lookup y≠_;rw [k];decide)] at q;exact q
 ·exact e0.hok.fresh<|Mv<|x.above y c<|Ua h
 ·unfold start;show _=N.length;rw [JC,Ec,List.length_replicate];lia
variable {od : Option Addr}
theorem aaN {f:Addr}{params:Arguments}{dV kV doc pm cdv ct oc:Mk}{an:Option Addr}
  {osl:Array (Option Mk)} {N ps:List Str} {sp:Sp} (lk:K.lookup f=FN ⟨oc,od,.func (Vr name qual params body scope dV kV doc pm an cdv ct),osl⟩) (hcd:YH K cdv qual=true) (S:iI N ps scope)
  (len:∀ vs H Q E,sp vs H Q E->vs.length=ps.length)
  (hbody:∀ (A:Fg) (outer:List Env) (s:AP) (H:Hp) (vs:List V) (Q:VK) (E:XK),mJ k (A.deeper (Rb qual scope s.heap.objs.size f cdv))->sp vs H Q E ->
   ∃ t,Nm (Ft CX P w K mg base N qual scope f cdv A outer s H E) body t/\t { nx:=fun _ H'=>Q .non H',rt:=Q } (start N vs) H) :
  qO P w K mg base CX (k+1) f (Vr name qual params body scope dV kV doc pm an cdv ct) ps sp:=by
 refine ⟨len,fun A outer s H args us vs Q E hr e0 hb r hsp=>?_⟩;have hl:=len _ _ _ _ hsp;have KX:K.In s.heap:=e0.mod.kin.keeps fun b o e=>(e0.bs b o e).1
 have lim:s.heap.NoLimit:=e0.mod.nolimit.keeps fun b o e=>(e0.bs b o e).1
 have hkind:∀ y∈ps.zip us,scope.names.lookup y.1=FN .local\/(scope.names.lookup y.1=FN .cell/\((K8 (s.heap.objs.size+1) scope.names []).lookup y.1).isSome=true):=fun ⟨n,v⟩ hy=>by
  rcases S.par n (List.of_mem_zip hy).1 with q | q
  ·exact .inl q
  ·exact .inr ⟨q,PySem.W.cellsFrom_some _ _ _<|.inl q⟩
 refine codeAny_call_function hr.depth (KX _ _ lk) rfl S.co S.gen rfl (PySem.W.codeRec_of KX hcd)<|hb _ _ _ _ ?_
 refine wpAny_newFunctionEnv_cells S.kind hkind fun env he s1 x=>?_;subst he;refine ⟨lim.keeps x.toInCall.keep,codeAny_func ?_⟩;obtain ⟨t,ht,hq⟩:=hbody A outer s H vs Q E (hr.deeper _) hsp;have I:DX (Ft CX P w K mg base N qual scope f cdv A outer s H E) [] (start N vs) H s1:=aeA S e0 hl r x;refine Mj (ht [] s1 (start N vs) H _ I hq) (fun fl s' hs=>?_) fun e s' hs=>hs;have fin:∀ {Z':St} {H':Hp} {v:V} {u:Mk},DX (Ft CX P w K mg base N qual scope f cdv A outer s H E) [] Z' H' s'->RelV v u->Q v H'->CE outer P w H s Q u s':=
  fun {Z' H' v u} J rv q=>⟨v,H',J.os,J.bare,J.base,J.hok,rv,q⟩
 cases fl with
 | ret u=>
  obtain ⟨v,Z',H',J,rv,q⟩:=hs;exact fin J rv q
 | next=>
  obtain ⟨Z',H',J,q⟩:=hs;exact fin (v:=V.non) (u:=Value.none) J rfl q
 | brk=>
  obtain ⟨_,_,_,q⟩:=hs;exact TJ q
 | cont=>
  obtain ⟨_,_,_,q⟩:=hs;exact TJ q
section
variable {x:Str}{p:Pos}{id T:String}{r:List V->Hp->VK->Prop}
def tCB (r:List V->Hp->VK->Prop)(t:TA):TE:=fun Z H Q=>t Z H fun vs H1=>r vs H1 Q
theorem afd (hc:d8 X (.builtin id) r)(hg:Gl X x)(hm:X.mg x=FX)(hv:S6 x=FN (.builtin id))(ha:PA X (e::es) t)(hn:x ≠ "__name__":=by decide)(hdb:(x==("__debug__" : Str))=false:=by decide)
  (he:Eu (e::es) X.env=(false,eval e X.env)::Eu es X.env:=by rfl) (hpl:(JK pos (Eu es X.env)).any (·.1)=false:=by rfl):PE X (.Call (.Name x p) (e::es) [] pos) (tCB r t):=by
 intro ajY s Z H Q I h;refine W5<|ju I hg hm hv ?_ hn hdb
 exact PyProof.Rows.callWith_builtin1 (Fl (ha pos ajY s Z H _ I h) fun us s1 ⟨vs,H1,I1,r1,q1⟩=>hc ajY s1 Z H1 vs us Q I1 r1 q1) he hpl
theorem zaG (hc:d8 X (.type T) r)(hg:Gl X x)(hm:X.mg x=FX)(hv:S6 x=FN (.type T))(ha:PA X (e::es) t)(hn:x ≠ "__name__":=by decide)(hdb:(x==("__debug__" : Str))=false:=by decide)
  (he:Eu (e::es) X.env=(false,eval e X.env)::Eu es X.env:=by rfl) (hpl:(JK pos (Eu es X.env)).any (·.1)=false:=by rfl):PE X (.Call (.Name x p) (e::es) [] pos) (tCB r t):=by
 intro ajY s Z H Q I h;refine W5<|ju I hg hm hv ?_ hn hdb
 exact X8 (Fl (ha pos ajY s Z H _ I h) fun us s1 ⟨vs,H1,I1,r1,q1⟩=>hc ajY s1 Z H1 vs us Q I1 r1 q1) he hpl
end
end L2
namespace HT
open PySem PyProof.Rows
def lexLt:List Int->List Int->Bool
 | [],[]=>false
 | [],_::_=>true
 | _::_,[]=>false
 | x::xs,y::ys=>if x=y then lexLt xs ys else decide (x<y)
theorem zam (x y:Int)(xs ys:List Int):lexLt (x::xs) (y::ys)=if x=y then lexLt xs ys else decide (x<y):=rfl
theorem uT:lexLt [] []=false:=rfl
theorem q9 (y:Int)(ys:List Int):lexLt [] (y::ys)=true:=rfl
theorem qZ (x:Int)(xs:List Int):lexLt (x::xs) []=false:=rfl
theorem ahp (A:Fg)(s:AP)(a:Int)(t:Tok)(c:Int)(u:Tok):∃ e,WL A s (.int a t) (.int c u) e/\(e=true↔a=c):=
 ⟨(a==c),SeqAt.EqAt.int_int a t c u,by simp⟩
theorem ahO (A:Fg)(s:AP)(a:Int)(t:Tok)(c:Int)(u:Tok)(prog:Ew)(w:Em)(E:Mk->AP->Prop)(Q:Mk->AP->Prop)(h:Q (.bool (decide (a<c))) s):
  Dl (Dm prog w) A (richCompare .Lt (.int a t) (.int c u)) Q E s:=
 (PyProof.Rows.lt_int h:Dl (Dm prog w) A (K3 .Lt (.int a t) (.int c u)) Q E s)
section
open PySem.SeqAt
open PySem.AutoSeq1 (wpAny_loadPart')
open PySem.MeetsSeq PySem.MeetsSeq2 PySem.MeetsSeq3
theorem vp (l b:Addr)(items items2:Array Mk)(n n2:Nat)(dd dd2:Option Addr)(sl sl2:Array (Option Mk))(ns ms:List Int)(hi:R0 items.toList ns)(hj:R0 items2.toList ms):
  Meets (Q6.«tuple.__lt__» ⟨[.ref l,.ref b],[]⟩)
   (fun _ R s=>s.heap.get? l=FN { cls:=.type "tuple",dict:=dd,data:=.seq items n,slots:=sl }/\s.heap.get? b=FN { cls:=.type "tuple",dict:=dd2,data:=.seq items2 n2,slots:=sl2 } /\
    R (.ok (.ret (.bool (lexLt ns ms)))) s):=
 .of_wp fun prog w A R s h=>by
  obtain ⟨hp,g,d,tk,os⟩:=s;obtain ⟨hl,hb,h⟩:=h;have f2:=AutoSeq1.sub_tuple_tuple;have z1:items.size=ns.length:=by rw [<-hi.length];simp
  have z2:items2.size=ms.length:=by rw [<-hj.length];simp
  wp_walk using Xe hl,Xe hb,wpAny_forIn_list _ (fun rest b s'=>b.1=FX/\s'=⟨hp,g,d,tk,os⟩/\∃ (vs ws:List Mk) (ns' ms':List Int),rest=vs.zip ws /\
   R0 vs ns'/\R0 ws ms'/\ns'.length+items2.size=ms'.length+items.size/\R (.ok (.ret (.bool (lexLt ns' ms')))) ⟨hp,g,d,tk,os⟩) _
  case turn=>
   rintro ⟨y,x⟩ rest b s' ⟨hb',rfl,vs,ws,ns',ms',hz,hvi,hwi,ajZ,hR⟩;cases hvi with
   | nil=>rw [List.zip_nil_left] at hz;cases hz
   | cons a t hvi'=>
    cases hwi with
    | nil=>rw [List.zip_nil_right] at hz;cases hz
    | cons c u hwi'=>
     rw [List.zip_cons_cons] at hz;injection hz with hyx hrest
     injection hyx with hy hx
     subst hy hx;rw [zam] at hR;simp only [K9] at ajZ;obtain ⟨e,he,hiff⟩:=ahp A.in1 ⟨hp,g,d,tk,os⟩ a t c u;refine CR<|he prog w _ _ ?_
     cases e with
     | true=>
      rw [if_pos (hiff.mp rfl)] at hR
      wp_walk
      exact ⟨rfl,rfl,_,_,_,_,hrest,hvi',hwi',by lia,hR⟩
     | false=>
      rw [if_neg (fun q=>absurd (hiff.mpr q) Lw)] at hR;have hri:=ahO A.in1 ⟨hp,g,d,tk,os⟩ a t c u prog w
      wp_walk using hri
      exact ⟨_,rfl,by simpa using hR⟩
  case fin=>
   rintro ⟨b1,b2⟩ s' ⟨hb',rfl,vs,ws,ns',ms',hz,hvi,hwi,ajZ,hR⟩;simp only at hb';subst hb';have hv:lexLt ns' ms'=decide (items.size<items2.size):=by
    cases hvi with
    | nil=>
     cases hwi with
     | nil=>
      simp only [Wk] at ajZ;rw [uT];exact (decide_eq_false<|by lia).symm
     | cons c u hw=>
      simp only [Wk,K9] at ajZ;rw [q9];exact (decide_eq_true<|by lia).symm
    | cons a t hv=>
     cases hwi with
     | nil=>
      simp only [Wk,K9] at ajZ;rw [qZ];exact (decide_eq_false<|by lia).symm
     | cons c u hw=>
      rw [List.zip_cons_cons] at hz;cases hz
   rw [hv] at hR
   wp_walk
   exact ⟨_,rfl,by simpa [Builtin.Tuple.tupleCompareSizes] using hR⟩
  case h=>
   exact ⟨rfl,rfl,items.toList,items2.toList,ns,ms,rfl,hi,hj,by lia,h⟩
end
section
variable {prog:Ew}{w:Em}{A:Fg}{E:Mk->AP->Prop}{s:AP}
theorem El {l b:Addr}{items items2:Array Mk}{ns ms:List Int}{Q:Mk->AP->Prop}(hl:NZ s.heap l items)(hb:NZ s.heap b items2)(hi:R0 items.toList ns)(hj:R0 items2.toList ms)
  (hu:A.units<Jj) (h:Q (.bool (lexLt ns ms)) s):Dl (Dm prog w) A (K3 .Lt (.ref l) (.ref b)) Q E s:=by
 obtain ⟨⟨cls,dd,data,sl⟩,ho,hc,n,hd⟩:=id hl;obtain ⟨⟨cls2,dd2,data2,sl2⟩,ho2,hc2,n2,hd2⟩:=id hb;simp only at hc hd hc2 hd2;subst hc hd hc2 hd2;exact richCompare_meets_room (op:=.Lt) ⟨_,ho,rfl⟩ ⟨_,ho2,rfl⟩ PySem.F.slot_tuple_lt PySem.F.entry_tuple_lt (PySem.F.args_tuple_lt_2 _ _) (vp l b items items2 n n2 dd dd2 sl sl2 ns ms hi hj)
  ⟨ho,ho2,show Value.bool (lexLt ns ms)≠Value.notImplemented/\Q (.bool (lexLt ns ms)) s from ⟨(fun x=>nomatch x),h⟩⟩ hu
theorem Ux {t b:Addr}{vs ws:List Mk}{Q:Mk->AP->Prop}(ht:NZ s.heap t vs.toArray)(hb:NZ s.heap b ws.toArray)(hv:vs≠[])
  (h1:ws=[]->Q (.ref t) s) (h2:ws≠[]->Q (.ref s.heap.objs.size) { s with heap:=s.heap.push { cls:=.type "tuple",data:=.seq (vs++ws).toArray } })
  (hsz:vs.length+ws.length<=G7):Dl (Dm prog w) A (Mi .Add (.ref t) (.ref b)) Q E s:=by
 obtain ⟨⟨cls,dd,data,sl⟩,ho,hc,n,hd⟩:=id ht;obtain ⟨⟨cls2,dd2,data2,sl2⟩,ho2,hc2,n2,hd2⟩:=id hb;simp only at hc hd hc2 hd2;subst hc hd hc2 hd2;have e:vs.toArray++ws.toArray=(vs++ws).toArray:=by simp
 by_cases hw:ws=[]
 ·exact concat_meets ⟨_,ho,rfl⟩ ⟨_,ho2,rfl⟩ noFill_tuple_add seq_tuple_add PySem.F.slot_tuple_add PySem.F.entry_tuple_add (PySem.F.args_tuple_add_2 _ _)
   (tuple_addW1 t b vs.toArray ws.toArray n n2 dd dd2 sl sl2 (by simpa using hv) (by simp [hw])) ⟨ho,ho2,h1 hw⟩
 ·refine concat_meets ⟨_,ho,rfl⟩ ⟨_,ho2,rfl⟩ noFill_tuple_add seq_tuple_add PySem.F.slot_tuple_add PySem.F.entry_tuple_add (PySem.F.args_tuple_add_2 _ _)
   (tuple_addW2 t b vs.toArray ws.toArray n n2 dd dd2 sl sl2 (by simpa using hv) (by simpa using hw) (by rw [J9,J9];exact hsz)) ⟨ho,ho2,?_⟩
  rw [e];exact h2 hw
def sIx (n d:Nat):Option Int->Nat
 | none=>d
 | some v=>if v<0 then (v+(n:Int)).toNat else min v.toNat n
theorem Cv (n d:Nat):sIx n d FX=d:=rfl
theorem Js (n d k:Nat):sIx n d (FN (k:Int))=min k n:=by
 show (if (k:Int)<0 then ((k:Int)+(n:Int)).toNat else min (k:Int).toNat n)=min k n;rw [if_neg (by lia),Wr]
theorem aae (n d:Nat)(hd:d<=n)(o:Option Int):sIx n d o<=n:=by
 cases o with
 | none=>exact hd
 | some v=>
  show (if v<0 then (v+(n:Int)).toNat else min v.toNat n)<=n;by_cases hv:v<0
  ·rw [if_pos hv];lia
  ·rw [if_neg hv];exact Nat.min_le_right _ _
theorem GC (v:Int)(n d:Nat):(if v<0 then max (v+(n:Int)) 0 else min v (n:Int))=((sIx n d (FN v):Nat):Int):=by
 show (if v<0 then max (v+(n:Int)) 0 else min v (n:Int))=(((if v<0 then (v+(n:Int)).toNat else min v.toNat n):Nat):Int);by_cases hv:v<0
 ·simp only [if_pos hv];lia
 ·simp only [if_neg hv];lia
theorem aep (lo hi:Option Int)(n:Nat):Builtin.Slice.sliceAdjust lo hi 1 (n:Int)=(((sIx n 0 lo:Nat):Int),((sIx n n hi:Nat):Int)):=by
 have h1:¬ ((1:Int)<0):=by lia
 unfold Builtin.Slice.sliceAdjust;simp only [h1,if_false];refine Prod.ext ?_ ?_
 ·cases lo with
  | none=>rfl
  | some v=>exact GC v n 0
 ·cases hi with
  | none=>rfl
  | some v=>exact GC v n n
theorem aeI (i j:Nat):Yz (i:Int) (j:Int) 1=j - i:=by
 unfold Yz;have h1:(1:Int)>0:=by lia
 simp only [h1,if_true,Int.ediv_one];split <;> lia
theorem rA {v:Mk}{o:Option Int}{Q:Option Int->AP->Prop}(p:IsPart v o)(h:Q o s):Dl (Dm prog w) A (Builtin.Slice.slicePartIndex v) Q E s:=by
 cases p with
 | none=>exact slicePart_none h
 | int i t=>exact slicePart_int h
theorem gR {sl:Addr}{vl vu:Mk}{lo hi:Option Int}{n:Nat}{Q:Int×Int×Nat->AP->Prop}(hs:s.heap.IsSliceOf sl vl vu .none)(pl:IsPart vl lo)(pu:IsPart vu hi)
  (h:Q (((sIx n 0 lo:Nat):Int),1,sIx n n hi - sIx n 0 lo) s):Dl (Dm prog w) A (Builtin.Slice.sliceApplied (.ref sl) (pure (n:Int))) Q E s:=by
 obtain ⟨os,hos,hcs,hds⟩:=id hs;unfold Builtin.Slice.sliceApplied Builtin.Slice.sliceFields;refine CR<|CR<|Mt hos hds (x:=vl) rfl<|CR<|Mt hos hds (x:=vu) rfl<|CR<|Mt hos hds (x:=.none) rfl<|Ds ?_
 refine CR<|slicePart_none ?_
 show Dl _ _ (if ((1:Int)==0)=true then _ else _) _ _ s;rw [if_neg (by decide)];refine CR<|rA pl<|CR<|rA pu<|CR<|Ds ?_
 show Dl _ _ (match Builtin.Slice.sliceAdjust lo hi 1 (n:Int) with | (lo,hi)=>pure (lo,(1:Int),Yz lo hi 1)) _ _ s;rw [aep lo hi n];show Dl _ _ (pure (((sIx n 0 lo:Nat):Int),(1:Int),Yz ((sIx n 0 lo:Nat):Int) ((sIx n n hi:Nat):Int) 1)) _ _ s;rw [aeI];exact Ds h
theorem zbc (xs:Array Mk)(i k:Nat):((LC k).filterMap fun (m:Nat)=>xs[((i:Int)+(m:Int)*1).toNat]?).toArray=((xs.toList.drop i).take k).toArray:=by
 have e:(fun (m:Nat)=>xs[((i:Int)+(m:Int)*1).toNat]?)=fun m=>xs[i+m]?:=by
  funext m;have:((i:Int)+(m:Int)*1).toNat=i+m:=by lia
  rw [this]
 rw [e];have:=pick_run xs i k
 rw [List.filterMap_map] at this;have e2:((fun x=>xs[x]?) ∘ fun x=>i+x)=fun m=>xs[i+m]?:=rfl
 rw [e2] at this;rw [this]
theorem lZ {t sl:Addr}{items:Array Mk}{vl vu:Mk}{lo hi:Option Int}{Q:Mk->AP->Prop}(ht:NZ s.heap t items)(hs:s.heap.IsSliceOf sl vl vu .none)(pl:IsPart vl lo)(pu:IsPart vu hi)
  (hw:¬ (sIx items.size 0 lo=0/\sIx items.size items.size hi=items.size))
  (h:Q (.ref s.heap.objs.size) { s with heap:=s.heap.push { cls:=.type "tuple",data:=.seq ((items.toList.drop (sIx items.size 0 lo)).take (sIx items.size items.size hi - sIx items.size 0 lo)).toArray } })
  (hsz:items.size<=G7):Dl (Dm prog w) A (getItem (.ref t) (.ref sl)) Q E s:=by
 have htake:sizeOk (.seq ((items.toList.drop (sIx items.size 0 lo)).take (sIx items.size items.size hi - sIx items.size 0 lo)).toArray):=by
  show ((items.toList.drop (sIx items.size 0 lo)).take (sIx items.size items.size hi - sIx items.size 0 lo)).toArray.size<=G7;rw [J9,Lr,List.length_drop,Vu];lia
 have hj:sIx items.size items.size hi<=items.size:=aae _ _ (Ea _) hi;obtain ⟨os,hos,hcs,hds⟩:=id hs;have hTs:s.TypeIs (.ref sl) "slice":=⟨os,hos,hcs⟩
 unfold getItem;try with_reducible refine M8 ?_
 first | refine CR (Ds ?_) | skip
 refine CR<|wpAny_sequenceKey ht.typeIs (by decide) ?_
 refine CR (Ue (name:=Tq "__getitem__") ht.typeIs Xv
  (Rz Xv ht.typeIs entry_tuple_getitem ?_ (args_tuple_getitem _ _)))
 show Dl _ _ (Builtin.Tuple.tupleItemsOf (.ref t) >>= _) _ _ s;refine CR<|tupleItemsOf_ ht ?_
 refine CR<|Rf hTs ?_
 rw [if_pos (by decide)];refine CR<|gR hs pl pu ?_
 have hno:¬ ((((sIx items.size 0 lo:Nat):Int)==0&&(1:Int)==1&&(sIx items.size items.size hi - sIx items.size 0 lo)==items.size)=true):=by
  intro q;rw [V8,V8] at q;have q1:((sIx items.size 0 lo:Nat):Int)=0:=eq_of_beq q.1.1;have q2:sIx items.size items.size hi - sIx items.size 0 lo=items.size:=eq_of_beq q.2;exact hw ⟨by lia,by lia⟩
 show Dl _ _ (if (((sIx items.size 0 lo:Nat):Int)==0&&(1:Int)==1&&(sIx items.size items.size hi - sIx items.size 0 lo)==items.size)=true then _ else _) _ _ s;rw [if_neg hno,zbc];first
  | exact CR (m:=WQ _) (Ni (Ds ⟨_,rfl,Ds h⟩) htake)
  | exact CR (m:=WQ _) (Ni (CR (Ds (Ds ⟨_,rfl,Ds h⟩))) htake)
  | exact CR (CR (m:=WQ _) (Ni (Ds (Ds ⟨_,rfl,Ds h⟩)) htake))
  | exact CR (CR (m:=WQ _) (Ni (Ds ⟨_,rfl,Ds h⟩) htake))
end
end HT
variable {l : Addr}{ns : List Int}
namespace L2
open PySem PySem.Spec PyProof.Rows
abbrev TO:=St->Hp->(Option Int->Hp->Prop)->Prop
def PO (X:Cx)(e:Option Expr)(t:TO):Prop:=
 ∀ (ajY:List (Addr×Obj)) (s:AP) (Z : St) (H:Hp) (Q:Option Int->Hp->Prop),DX X ajY Z H s->t Z H Q ->
  Dl (Dm X.prog X.w) X.A (evalPart e X.env) (fun u s'=>∃ o H',DX X ajY Z H' s'/\IsPart u o/\Q o H') X.xe s
def agB:TO:=fun _ H Q=>Q FX H
def abw (t:TE):TO:=fun Z H Q=>t Z H fun x H1=>∃ i,x=.int i/\Q (FN i) H1
theorem intsAre_of:∀ {us:List Mk},DY (ns.map V.int) us->R0 us ns:=by
 induction ns with
 | nil=>intro us r;rw [Mw] at r;cases r;exact .nil
 | cons n ns ih=>
  intro us r;rw [Ed] at r;cases r with
  | cons r1 r2=>
   obtain ⟨t,e⟩:=r1;subst e;exact .cons n t<|ih r2
section
variable {X:Cx}{e:Expr}{te:TE}{lo hi:Option Expr}{tl th:TO}{pos p2:Pos}
theorem zbq:PO X FX agB:=by
 intro ajY s Z H Q I h;rw [evalPart_none];exact Ds ⟨FX,H,I,.none,h⟩
theorem ahs (h:PE X e te):PO X (FN e) (abw te):=by
 intro ajY s Z H Q I hw;rw [evalPart_some];refine Fl (h ajY s Z H _ I hw) fun u s1 ⟨x,H1,I1,r1,q1⟩=>?_;obtain ⟨i,rfl,q⟩:=q1;obtain ⟨t,rfl⟩:=r1;exact ⟨FN i,H1,I1,.int i t,q⟩
def Td (X:Cx)(r:V->Option Int->Option Int->Hp->VK->Prop):Prop:=
 ∀ (ajY:List (Addr×Obj)) (s:AP) (Z : St) (H:Hp) (x:V) (v vl vu:Mk) (lo hi:Option Int) (sl:Addr) (Q:VK),DX X ajY Z H s->RelV x v->s.heap.IsSliceOf sl vl vu .none->IsPart vl lo->IsPart vu hi->r x lo hi H Q ->
  ∃ T id,typeLookup (.type T) "__getitem__" = pure (FN (.builtin id))/\s.TypeIs v T/\Dl (Dm X.prog X.w) X.A (getItem v (.ref sl)) (EP X ajY Z Q) X.xe s
theorem Td.or {r r':V->Option Int->Option Int->Hp->VK->Prop}(h:Td X r)(h':Td X r'):Td X (fun x lo hi H Q=>r x lo hi H Q\/r' x lo hi H Q):=by
 intro ajY s Z H x v vl vu lo hi sl Q I rx hs pl pu q;rcases q with q | q
 ·exact h ajY s Z H x v vl vu lo hi sl Q I rx hs pl pu q
 ·exact h' ajY s Z H x v vl vu lo hi sl Q I rx hs pl pu q
def tSl (r:V->Option Int->Option Int->Hp->VK->Prop)(te:TE)(tl th:TO):TE:=fun Z H Q=>te Z H fun x H1=>tl Z H1 fun l H2=>th Z H2 fun u H3=>r x l u H3 Q
theorem afX {r:V->Option Int->Option Int->Hp->VK->Prop}(hr:Td X r)(he:PE X e te)(hl:PO X lo tl)(hu:PO X hi th):PE X (.Subscript e (.Slice lo hi FX p2) pos) (tSl r te tl th):=by
 intro ajY s Z H Q I h;refine Subscript_<|Fl (he ajY s Z H _ I h) fun v s1 ⟨x,H1,I1,r1,q1⟩=>?_
 refine wpAny_Slice<|Fl (hl ajY s1 Z H1 _ I1 q1) fun vl s2 ⟨l,H2,I2,pl,q2⟩=>Fl (hu ajY s2 Z H2 _ I2 q2) fun vu s3 ⟨u,H3,I3,pu,q3⟩=>?_
 rw [evalPart_none];refine Ds ?_;have I4:DX X ajY Z H3 { s3 with heap:=s3.heap.push { cls:=.type "slice",data:=.fields #[vl,vu,.none] } }:=I3.kept (t':=s3.toks) fun b ob q=>G6 _ q
 obtain ⟨T,id,hT,ht,hg⟩:=hr ajY { s3 with heap:=s3.heap.push { cls:=.type "slice",data:=.fields #[vl,vu,.none] } } Z H3 x v vl vu l u s3.heap.objs.size Q I4 r1 (Heap.IsSliceOf.new ..) pl pu q3;show Dl (Dm X.prog X.w) X.A (subscriptTail e (.Slice lo hi FX p2) v (.ref s3.heap.objs.size)) (EP X ajY Z Q) X.xe { s3 with heap:=s3.heap.push { cls:=.type "slice",data:=.fields #[vl,vu,.none] } };exact tail_any (ops:=[.ref s3.heap.objs.size,v]) ht hT hg<|by with_unfolding_all rfl
def Ld (xs:List V)(lo hi:Option Int):List V:=(xs.drop (HT.sIx xs.length 0 lo)).take (HT.sIx xs.length xs.length hi - HT.sIx xs.length 0 lo)
theorem ql (xs:List V)(lo hi:Option Int):(Ld xs lo hi).length<=xs.length:=by
 unfold Ld;rw [Lr,List.length_drop];lia
def adA (K:Dp):V->Option Int->Option Int->Hp->VK->Prop:=fun x lo hi H Q=>∃ a xs,x=.ref a/\Hj K H a xs /\
 ¬ (HT.sIx xs.length 0 lo=0/\HT.sIx xs.length xs.length hi=xs.length)/\∀ p,H p=FX->Q (.ref p) (Fb H p (.tup (Ld xs lo hi)))
theorem ahQ:Td X (adA X.K):=by
 intro ajY s Z H x v vl vu lo hi sl Q I rx hs pl pu h;obtain ⟨a,xs,rfl,hx,hw,q⟩:=h;cases rx;obtain ⟨its,r,ht,hz⟩:=I.tuple hx;have ajZ:its.toArray.size=xs.length:=by rw [J9];exact r.length.symm
 refine ⟨"tuple",_,Xv.lookup,ht.typeIs,?_⟩;refine HT.lZ ht hs pl pu (by rw [ajZ];exact hw) ?_ (by rw [ajZ];exact hz);rw [ajZ];refine ⟨.ref s.heap.objs.size,_,I.laid (t':=s.toks) (o:=.tup (Ld xs lo hi)) (fun b ob q=>G6 _ q) (Ea _) ?_,rfl,q _<|I.hok.fresh<|Ea _⟩;exact ⟨Eb (ql xs lo hi) hz,_,(r.drop<|HT.sIx xs.length 0 lo).take (HT.sIx xs.length xs.length hi - HT.sIx xs.length 0 lo),Ib.new _ _⟩
def ady (K:Dp):R2:=fun x y H Q=>∃ a b ns ms,x=.ref a/\y=.ref b/\Hj K H a (ns.map V.int)/\Hj K H b (ms.map V.int)/\Q (.bl (HT.lexLt ns ms)) H
theorem Zj (hu:X.A.units<Jj):Jo X (K3 .Lt) (ady X.K):=by
 intro ajY s Z H x y v u Q I rx ry h;obtain ⟨a,b,ns,ms,rfl,rfl,ha,hb,q⟩:=h;cases rx;cases ry;obtain ⟨its,r1,p1,_⟩:=I.tuple ha;obtain ⟨its2,r2,p2,_⟩:=I.tuple hb;have i1:R0 its.toArray.toList ns:=intsAre_of r1;have i2:R0 its2.toArray.toList ms:=intsAre_of r2;exact HT.El p1 p2 i1 i2 hu ⟨.bl<|HT.lexLt ns ms,H,I,rfl,q⟩
def acj (K:Dp):R2:=fun x y H Q=>∃ a b xs ys,x=.ref a/\y=.ref b/\Hj K H a xs/\Hj K H b ys/\xs≠[]/\xs.length+ys.length<=G7 /\
 (ys=[]->Q (.ref a) H)/\(ys≠[]->∀ p,H p=FX->Q (.ref p) (Fb H p (.tup (xs++ys))))
theorem DY.nil_iff {xs:List V}{us:List Mk}(r:DY xs us):us=[]↔xs=[]:=by
 cases r with
 | nil=>simp
 | cons _ _=>simp
theorem afK:Jo X (Mi .Add) (acj X.K):=by
 intro ajY s Z H x y v u Q I rx ry h;obtain ⟨a,b,xs,ys,rfl,rfl,ha,hb,hx,hz,q1,q2⟩:=h;cases rx;cases ry;obtain ⟨its,r1,p1,_⟩:=I.tuple ha;obtain ⟨its2,r2,p2,_⟩:=I.tuple hb;refine HT.Ux p1 p2 (fun z=>hx<|r1.nil_iff.mp z) (fun z=>⟨.ref a,H,I,rfl,q1<|r2.nil_iff.mp z⟩) (fun z=>?_) (by rw [<-r1.length,<-r2.length];exact hz);refine ⟨.ref s.heap.objs.size,_,I.laid (t':=s.toks) (o:=.tup (xs++ys)) (fun b ob q=>G6 _ q) (Ea _) ?_,rfl,q2 (fun w=>z<|r2.nil_iff.mpr w) _<|I.hok.fresh<|Ea _⟩;exact ⟨by rw [JC];exact hz,_,r1.append r2,Ib.new _ _⟩
end
def NQ (n:Nat)(i:Int):Option Nat:=if 0<=i then (if i<n then FN i.toNat else FX) else if -(n:Int)<=i then FN (i+n).toNat else FX
def J7 {α : Type}(xs:List α)(i:Int):Option α:=(NQ xs.length i).bind fun j=>xs[j]?
theorem Kw {n:Nat}{i:Int}{j:Nat}(h:NQ n i=FN j):seqIndex? i n=FN j/\j<n/\-(n:Int)<=i/\i<n:=by
 unfold NQ at h;by_cases h0:0<=i
 ·rw [if_pos h0] at h;by_cases h1:i<n
  ·rw [if_pos h1] at h;have e:i.toNat=j:=Gw h;exact ⟨by rw [seqIndex_of h0 h1,e],by lia,by lia,h1⟩
  ·rw [if_neg h1] at h;cases h
 ·rw [if_neg h0] at h;by_cases h1:-(n:Int)<=i
  ·rw [if_pos h1] at h;have e:(i+n).toNat=j:=Gw h;exact ⟨by rw [seqIndex_neg (by lia) h1,e],by lia,h1,by lia⟩
  ·rw [if_neg h1] at h;cases h
theorem z7 {α : Type}{xs:List α}{i:Int}{v:α}(h:J7 xs i=FN v):∃ j,seqIndex? i xs.length=FN j/\xs[j]?=FN v/\j<xs.length/\-(xs.length:Int)<=i/\i<xs.length:=by
 unfold J7 at h;cases e:NQ xs.length i with
 | none=>rw [e] at h;cases h
 | some j=>
  rw [e] at h;obtain ⟨h1,h2,h3,h4⟩:=Kw e;exact ⟨j,h1,h,h2,h3,h4⟩
theorem dh {α : Type}{xs:List α}{j:Nat}{v:α}(h:xs[j]?=FN v):J7 xs (j:Int)=FN v:=by
 have hj:j<xs.length:=(Le.mp h).1;have e:NQ xs.length (j:Int)=FN j:=by
  unfold NQ;rw [if_pos (by lia),if_pos (by lia)];simp
 unfold J7;rw [e];exact h
def zq (b:Expr):Prop:=∀ o i,subscripted b false o i=operate [o,i] (getItem o i)
def Ul (X:Cx)(r:R2):Prop:=
 ∀ (value slice:Expr) (ajY:List (Addr×Obj)) (s:AP) (Z : St) (H:Hp) (x y:V) (v u:Mk) (Q:VK),DX X ajY Z H s->RelV x v->RelV y u->r x y H Q ->
  subscripted slice false v u=operate [v,u] (getItem v u)->Dl (Dm X.prog X.w) X.A (subscriptTail value slice v u) (EP X ajY Z Q) X.xe s
def MtR (X:Cx)(id:String)(r:V->List V->Hp->VK->Prop):Prop:=
 ∀ (ajY:List (Addr×Obj)) (s:AP) (Z : St) (H:Hp) (x:V) (xs:List V) (v:Mk) (us:List Mk) (Q:VK),DX X ajY Z H s->RelV x v->DY xs us->r x xs H Q ->
  Dl (Dm X.prog X.w) X.A (call (.builtin id) (v::us)) (EP X ajY Z Q) X.xe s
section
variable {X:Cx}{a b:Expr}{ta tb:TE}{pos:Pos}
theorem Ul.or {r r':R2}(h:Ul X r)(h':Ul X r'):Ul X (fun x y H Q=>r x y H Q\/r' x y H Q):=by
 intro value slice ajY s Z H x y v u Q I rx ry q hs;rcases q with q | q
 ·exact h value slice ajY s Z H x y v u Q I rx ry q hs
 ·exact h' value slice ajY s Z H x y v u Q I rx ry q hs
theorem aay {r:R2}(hr:Ul X r)(ha:PE X a ta)(hb:PE X b tb)(hs:zq b):PE X (.Subscript a b pos) (tOp r ta tb):=by
 intro ajY s Z H Q I h;exact Subscript_<|aaz ha hb I h fun v u s2 x y H2 I2 rx ry q=>hr a b ajY s2 Z H2 x y v u Q I2 rx ry q<|hs _ _
def acP (K:Dp):R2:=fun x y H Q=>∃ p xs i v,x=.ref p/\y=.int i/\JF K H p xs/\J7 xs i=FN v/\Q v H
def acI (K:Dp):R2:=fun x y H Q=>∃ p xs i v,x=.ref p/\y=.int i/\Hj K H p xs/\J7 xs i=FN v/\Q v H
def ac0:R2:=fun x y H Q=>∃ z i c,x=.str z/\y=.int i/\z.length<=G7/\J7 z.cps.toList i=FN c/\Q (.str ⟨#[c]⟩) H
theorem aiq:Ul X (acP X.K):=by
 intro value slice ajY s Z H x y v u Q I rx ry h hs;obtain ⟨p,xs,i,z,rfl,rfl,hq,he,q⟩:=h;cases rx;obtain ⟨t,rfl⟩:=ry;obtain ⟨its,r,pl,hz⟩:=I.list hq;obtain ⟨j,h1,h2,h3,h4,h5⟩:=z7 he;obtain ⟨w,ew,rw'⟩:=r.get h2;have hl:=r.length;have hn:=rJ;have fin:EP X ajY Z Q w s:=⟨z,H,I,rw',q⟩
 by_cases h0:0<=i
 ·have hj:i.toNat=j:=by
   rw [seqIndex_of h0 h5] at h1;exact Gw h1
  exact item_listR pl.isList h0 (by lia) (by rw [hj];simpa using ew) fin hs
 ·have hj:(i+(its.toArray.size:Int)).toNat=j:=by
   rw [seqIndex_neg (by lia) h4] at h1;rw [J9,<-hl];exact Gw h1
  exact subscriptTail_builtinR (x:=w) pl.isList.typeIs slot_list_getitem.lookup
   (wpAny_getItem_list_neg (Q:=fun r s'=>r=w/\EP X ajY Z Q r s') pl.isList (by lia) (by rw [J9] <;> lia) (by lia) (by rw [hj];simpa using ew) ⟨rfl,fin⟩) hs
theorem agC:Ul X (acI X.K):=by
 intro value slice ajY s Z H x y v u Q I rx ry h hs;obtain ⟨p,xs,i,z,rfl,rfl,hq,he,q⟩:=h;cases rx;obtain ⟨t,rfl⟩:=ry;obtain ⟨its,r,pl,hz⟩:=I.tuple hq;obtain ⟨j,h1,h2,h3,h4,h5⟩:=z7 he;obtain ⟨w,ew,rw'⟩:=r.get h2;have hl:=r.length;have hn:=rJ;have fin:EP X ajY Z Q w s:=⟨z,H,I,rw',q⟩
 exact subscriptTail_builtinR (x:=w) pl.typeIs slot_tuple_getitem.lookup
  (getItem_tuple (j:=j) (Q:=fun r s'=>r=w/\EP X ajY Z Q r s') pl (by lia) (by lia) (by rw [J9,<-hl];exact h1) (by simpa using ew) ⟨rfl,fin⟩) hs
theorem aiA:Ul X ac0:=by
 intro value slice ajY s Z H x y v u Q I rx ry h hs;obtain ⟨z,i,c,rfl,rfl,hz,he,q⟩:=h;obtain ⟨t,rfl⟩:=rx;obtain ⟨t',rfl⟩:=ry;obtain ⟨j,h1,h2,h3,h4,h5⟩:=z7 he;have hl:z.cps.toList.length=z.length:=by simp [Str.length]
 rw [hl] at h1 h4 h5;have hn:=rJ;exact tail_any (typeIs_str s z t) slot_str_getitem.lookup (getItem_str (c:=c) (by
  have e1:decide (i < -(2^63:Int))=false:=decide_eq_false (by lia);have e2:decide (i>=2^63)=false:=decide_eq_false (by lia);rw [e1,e2,Bool.or_false]) (by rw [h1];simpa using h2) ⟨.str ⟨#[c]⟩,H,I.tok _,⟨_,rfl⟩,q⟩) hs
def rIx (K:Dp):R2:=fun x y H Q=>acP K x y H Q\/acI K x y H Q\/ac0 x y H Q
theorem Zt:Ul X (rIx X.K):=aiq.or (agC.or aiA)
theorem zak (its:List Mk)(n j:Nat)(u:Mk):Uy (·.setIfInBounds j u) { cls:=.type "list",data:=.seq its.toArray n } = { cls:=.type "list",data:=.seq (its.set j u).toArray n }:=by
 simp [Uy]
theorem DX.lst {ajY:List (Addr×Obj)}{Z : St}{H:Hp}{s:AP}{p:Addr}{xs:List V}(I:DX X ajY Z H s)(h:H p=FN (.lst xs)) :
  ∃ (its:List Mk) (n:Nat),DY xs its/\s.heap.get? p=FN { cls:=.type "list",data:=.seq its.toArray n }/\xs.length<=G7:=by
 obtain ⟨z,its,n,r,e⟩:=I.hok p _ h;exact ⟨its,n,r,e,z⟩
theorem DX.lstUpd {ajY:List (Addr×Obj)}{Z : St}{H:Hp}{s:AP}{p:Addr}{xs ys:List V}{its its':List Mk}{n n':Nat}{f:Obj->Obj}(I:DX X ajY Z H s)(h:H p=FN (.lst xs))
  (ho:s.heap.get? p=FN { cls:=.type "list",data:=.seq its.toArray n }) (hf:f { cls:=.type "list",data:=.seq its.toArray n } = { cls:=.type "list",data:=.seq its'.toArray n' }) (r:DY ys its') (hz:ys.length<=G7) (t:Nat) :
  DX X ajY Z (Fb H p (.lst ys)) { s with heap:=s.heap.update p f,toks:=t }:=by
 have e:(s.heap.update p f).get? p=FN { cls:=.type "list",data:=.seq its'.toArray n' }:=by
  rw [Vv f ho (by rw [hf] <;> rfl),hf]
 refine I.write (x:=p) (e:=p) (by rw [h];trivial) (.inl rfl) (fun b u hb q=>(TY _ _<|JD hb).trans q) ⟨_,e⟩ ?_;exact ⟨hz,its',n',r,e⟩
def Xd:V->V->V->Hp->(Hp->Prop)->Prop:=fun o i v H Q=>∃ p xs k j,o=.ref p/\i=.int k/\H p=FN (.lst xs)/\NQ xs.length k=FN j/\Q (Fb H p (.lst (xs.set j v)))
theorem set_list:Wb X Xd:=by
 intro ajY s Z H o i v ov iv u Q I ro ri rv h;obtain ⟨p,xs,k,j,rfl,rfl,hp,hj,q⟩:=h;cases ro;obtain ⟨t,rfl⟩:=ri;obtain ⟨its,n,r,ho,hz⟩:=I.lst hp;obtain ⟨h1,h2,h3,h4⟩:=Kw hj;have hl:=r.length;have hn:=rJ;have I':DX X ajY Z (Fb H p (.lst (xs.set j v))) { s with heap:=s.heap.update p (Uy (·.setIfInBounds j u)) }:=
  I.lstUpd hp ho (zak its n j u) (r.set rv j) (by rw [Wn];exact hz) s.toks
 by_cases h0:0<=k
 ·have hk:k.toNat=j:=by
   rw [seqIndex_of h0 h4] at h1;exact Gw h1
  exact PySem.W.ki_setAt ho h0 (by lia) (by rw [J9,<-hl];exact h4) (by rw [hk];exact ⟨_,I',q⟩)
 ·have hk:(k+(its.toArray.size:Int)).toNat=j:=by
   rw [seqIndex_neg (by lia) h3] at h1;rw [J9,<-hl];exact Gw h1
  exact PySem.W.ki_setBack ho (by lia) (by rw [J9,<-hl];exact h3) (by lia) (by rw [hk];exact ⟨_,I',q⟩)
theorem xG (lo hi:Option Int)(n:Nat):(WR lo hi FX n).1=((HT.sIx n 0 lo:Nat):Int)/\(WR lo hi FX n).2.1=((HT.sIx n n hi:Nat):Int)/\(WR lo hi FX n).2.2=1:=by
 refine ⟨?_,?_,rfl⟩
 ·cases lo with
  | none=>simp [WR,HT.sIx]
  | some i=>
   simp only [WR,HT.sIx,Option.getD_none,show (1:Int)>0 by decide,if_true];by_cases h:i<0
   ·simp only [h,if_true] <;> lia
   ·simp only [h,if_false] <;> lia
 ·cases hi with
  | none=>simp [WR,HT.sIx]
  | some i=>
   simp only [WR,HT.sIx,Option.getD_none,show (1:Int)>0 by decide,if_true];by_cases h:i<0
   ·simp only [h,if_true] <;> lia
   ·simp only [h,if_false] <;> lia
theorem uH (its:List Mk)(lo hi:Option Int):slicePick its.toArray lo hi FX=((its.drop (HT.sIx its.length 0 lo)).take (HT.sIx its.length its.length hi - HT.sIx its.length 0 lo)).toArray:=by
 obtain ⟨h1,h2,h3⟩:=xG lo hi its.toArray.size;unfold slicePick;rw [h1,h2,h3];simp only [sliceRange_one,pick_run,J9] <;> rfl
def ac6 (K:Dp):V->Option Int->Option Int->Hp->VK->Prop:=fun x lo hi H Q=>∃ a xs,x=.ref a/\JF K H a xs/\∀ p,H p=FX->Q (.ref p) (Fb H p (.lst (Ld xs lo hi)))
theorem agF:Td X (ac6 X.K):=by
 intro ajY s Z H x v vl vu lo hi sl Q I rx hs pl pu h;obtain ⟨a,xs,rfl,hx,q⟩:=h;cases rx;obtain ⟨its,r,ht,hz⟩:=I.list hx;have ajZ:=r.length;refine ⟨"list",_,slot_list_getitem.lookup,ht.isList.typeIs,?_⟩;refine wpAny_getItem_list_slice ht.isList hs pl pu .none (by simp) ?_ (by rw [J9] <;> lia);rw [uH,<-ajZ];refine ⟨.ref s.heap.objs.size,_,I.laid (t':=s.toks) (o:=.lst (Ld xs lo hi)) (fun b ob q=>G6 _ q) (Ea _) ?_,rfl,q _<|I.hok.fresh<|Ea _⟩;exact ⟨Eb (ql xs lo hi) hz,_,0,(r.drop<|HT.sIx xs.length 0 lo).take (HT.sIx xs.length xs.length hi - HT.sIx xs.length 0 lo),Hw _ rfl⟩
def Ir:V->Bool
 | .non=>true
 | .bl _=>true
 | .int _=>true
 | .str _=>true
 | _=>false
def eqV:V->V->Bool
 | .non,.non=>true
 | .bl a,.bl b=>a==b
 | .bl a,.int b=>(if a then 1 else 0)==b
 | .int a,.bl b=>a==(if b then 1 else 0)
 | .int a,.int b=>a==b
 | .str a,.str b=>a==b
 | _,_=>false
theorem ahM {A:Fg}{s:AP}{y x:V}{u v:Mk}(ry:RelV y u)(rx:RelV x v)(fy:Ir y=true)(fx:Ir x=true):WL A s u v (eqV y x):=by
 cases y with
 | non=>
  cases ry;cases x with
  | non=>cases rx;exact SeqAt.EqAt.same _
  | bl b=>cases rx;exact SeqAt.EqAt.none_bool b
  | int b=>obtain ⟨t,rfl⟩:=rx;exact SeqAt.EqAt.none_int b t
  | str b=>obtain ⟨t,rfl⟩:=rx;exact SeqAt.EqAt.none_str b t
  | _=>exact absurd (show false=true from fx) Lw
 | bl a=>
  cases ry;cases x with
  | non=>cases rx;exact SeqAt.EqAt.bool_none a
  | bl b=>cases rx;exact SeqAt.EqAt.bool_bool a b
  | int b=>obtain ⟨t,rfl⟩:=rx;exact SeqAt.EqAt.bool_int a b t
  | str b=>obtain ⟨t,rfl⟩:=rx;exact SeqAt.EqAt.bool_str a b t
  | _=>exact absurd (show false=true from fx) Lw
 | int a=>
  obtain ⟨t',rfl⟩:=ry;cases x with
  | non=>cases rx;exact SeqAt.EqAt.int_none a t'
  | bl b=>cases rx;exact SeqAt.EqAt.int_bool a t' b
  | int b=>obtain ⟨t,rfl⟩:=rx;exact SeqAt.EqAt.int_int a t' b t
  | str b=>obtain ⟨t,rfl⟩:=rx;exact SeqAt.EqAt.int_str a t' b t
  | _=>exact absurd (show false=true from fx) Lw
 | str a=>
  obtain ⟨t',rfl⟩:=ry;cases x with
  | non=>cases rx;exact SeqAt.EqAt.str_none a t'
  | bl b=>cases rx;exact SeqAt.EqAt.str_bool a t' b
  | int b=>obtain ⟨t,rfl⟩:=rx;exact SeqAt.EqAt.str_int a t' b t
  | str b=>obtain ⟨t,rfl⟩:=rx;exact SeqAt.EqAt.str_str a t' b t
  | _=>exact absurd (show false=true from fx) Lw
 | _=>exact absurd (show false=true from fy) Lw
theorem xX:d8 X (.builtin "len") (fun xs H Q=>∃ p ys,xs=[.ref p]/\(JF X.K H p ys\/Hj X.K H p ys)/\Q (.int ys.length) H):=by
 intro ajY s Z H xs us Q I r h;obtain ⟨p,ys,rfl,hq,q⟩:=h;obtain ⟨u,rfl,rx⟩:=vals1 r;cases rx;have hn:=rJ;rcases hq with hq | hq
 ·obtain ⟨its,r',pl,hz⟩:=I.list hq;have ajZ:=r'.length;exact Calls.call_len_list pl.isList (by simp only [J9] <;> lia) ⟨.int ys.length,H,I.tok _,⟨s.toks+1,by rw [J9,ajZ]⟩,q⟩
 ·obtain ⟨its,r',pl,hz⟩:=I.tuple hq;have ajZ:=r'.length;exact len_tuple pl (by simp only [J9] <;> lia) ⟨.int ys.length,H,I.tok _,⟨s.toks+1,by rw [J9,ajZ]⟩,q⟩
theorem d8.or {f:Mk}{r r':List V->Hp->VK->Prop}(h:d8 X f r)(h':d8 X f r'):d8 X f (fun xs H Q=>r xs H Q\/r' xs H Q):=by
 intro ajY s Z H xs us Q I rs q;rcases q with q | q
 ·exact h ajY s Z H xs us Q I rs q
 ·exact h' ajY s Z H xs us Q I rs q
theorem uD:d8 X (.type "tuple") (fun xs H Q=>∃ p ys,xs=[.ref p]/\((JF X.K H p ys/\∀ l,H l=FX->Q (.ref l) (Fb H l (.tup ys)))\/(Hj X.K H p ys/\Q (.ref p) H))):=by
 intro ajY s Z H xs us Q I r h;obtain ⟨p,ys,rfl,h⟩:=h;obtain ⟨u,rfl,rx⟩:=vals1 r;cases rx;rcases h with ⟨hq,q⟩ | ⟨hq,q⟩
 ·obtain ⟨its,r',pl,hz⟩:=I.list hq;have ajZ:=r'.length;refine call_tuple_list pl.isList (fun h' kp=>?_) (by simp only [J9] <;> lia);have I1:DX X ajY Z H { s with heap:=h' }:=I.kept (t':=s.toks) kp;have I2:DX X ajY Z (Fb H h'.objs.size (.tup ys)) { s with heap:=h'.push { cls:=.type "tuple",data:=.seq its.toArray } }:=
   I1.laid (t':=s.toks) (fun b o e=>G6 _ e) (Ea _) (show eH X.prog X.w _ _ _ (.tup ys) from ⟨hz,its,r',Ib.new _ _⟩)
  exact ⟨.ref h'.objs.size,_,I2,rfl,q _<|I1.hok.fresh<|Ea _⟩
 ·obtain ⟨its,r',pl,hz⟩:=I.tuple hq;exact call_tuple_same pl ⟨.ref p,H,I,rfl,q⟩
def tyV (K:Dp)(T:String)(x:V)(H:Hp):Prop:=match x with
 | .str _=>T = "str"
 | .int _=>T = "int"
 | .ref p=>(T = "list"/\∃ xs,JF K H p xs)\/(T = "tuple"/\∃ o,K.lookup p=FN o/\o.cls=.type "tuple"/\o.dict=FX) \/
   (T = "dict"/\((∃ kvs,H p=FN (.dK kvs))\/∃ kvs,H p=FN (.dT kvs)))\/(T = "set"/\∃ S n,H p=FN (.set S n))
 | _=>False
theorem Qf {ajY:List (Addr×Obj)}{Z : St}{H:Hp}{s:AP}{T:String}{x:V}{v:Mk}(I:DX X ajY Z H s)(r:RelV x v)(ty:tyV X.K T x H):
  s.TypeIs v T/\∀ a,v=.ref a->∃ ob,s.heap.get? a=FN ob/\ob.dict=FX:=by
 cases x with
 | str z=>
  obtain ⟨t,rfl⟩:=r;cases (show T = "str" from ty)
  exact ⟨typeIs_str s z t,fun _ e=>nomatch e⟩
 | int i=>
  obtain ⟨t,rfl⟩:=r;cases (show T = "int" from ty)
  exact ⟨typeIs_int s i t,fun _ e=>nomatch e⟩
 | ref p=>
  cases r;rcases ty with ⟨rfl,xs,hq⟩ | ⟨rfl,o,hk,hc,hd⟩ | ⟨rfl,hk⟩ | ⟨rfl,S,n,hk⟩
  ·obtain ⟨its,_,pl,_⟩:=I.list hq;refine ⟨pl.isList.typeIs,fun a e=>?_⟩;cases e;obtain ⟨o,n,e,c,hd,_⟩:=pl;exact ⟨o,e,hd⟩
  ·refine ⟨⟨o,I.kIn p o hk,hc⟩,fun a e=>?_⟩;cases e;exact ⟨o,I.kIn _ o hk,hd⟩
  ·have z:∃ o,s.heap.get? p=FN o/\o.ExactDict:=by
    rcases hk with ⟨kvs,hk⟩ | ⟨kvs,hk⟩
    ·obtain ⟨_,_,_,_,o,_,_,e,ex,_⟩:=I.hok p _ hk;exact ⟨o,e,ex⟩
    ·obtain ⟨_,_,_,_,o,_,_,e,ex,_⟩:=I.hok p _ hk;exact ⟨o,e,ex⟩
   obtain ⟨o,e,ex⟩:=z;refine ⟨⟨o,e,ex.1⟩,fun a e2=>?_⟩;cases e2;exact ⟨o,e,ex.2.1⟩
  ·obtain ⟨o,_,_,_,e,ex,_⟩:=I.hok p _ hk;refine ⟨⟨o,e,ex.1⟩,fun a e2=>?_⟩;cases e2;exact ⟨o,e,ex.2.1⟩
 | _=>exact TJ ty
def adf (K:Dp)(T:String)(r:V->List V->Hp->VK->Prop)(to:TE):TE:=fun Z H Q=>to Z H fun x H1=>tyV K T x H1/\r x [] H1 Q
def tBM (K:Dp)(T:String)(r:V->List V->Hp->VK->Prop)(to:TE)(t:TA):TE:=fun Z H Q=>to Z H fun x H1=>tyV K T x H1/\t Z H1 fun xs H2=>r x xs H2 Q
variable {o e:Expr}{es:List Expr}{to:TE}{t:TA}{name:Str}{apos akb:Pos}{T id:String}{r:V->List V->Hp->VK->Prop}
theorem aiB (pa:PlainAttrs T)(slot:Slot T name id)(hty:typeOf (.builtin id)=pure (.type "method_descriptor"))(hm:MtR X id r)(ho:PE X o to)
  (hbase:Vp o name X.env (eval o X.env)=eval o X.env:=by rfl) (hline:(apos.endLine==akb.line)=true:=by rfl):PE X (.Call (.Attribute o name apos) [] [] akb) (adf X.K T r to):=by
 intro ajY s Z H Q I h;refine wpAny_Call_method0_late hbase hline<|Fl (ho ajY s Z H _ I h) fun v s1 ⟨x,H1,I1,r1,ty,q1⟩=>?_
 obtain ⟨h1,h2⟩:=Qf I1 r1 ty;exact ⟨T,id,pa,slot,hty,h1,h2,YQ rfl<|PySem.evalArgs_none<|hm ajY s1 Z H1 x [] v [] Q I1 r1 .nil q1⟩
theorem aci (pa:PlainAttrs T)(slot:Slot T name id)(hty:typeOf (.builtin id)=pure (.type "method_descriptor"))(hm:MtR X id r)(ho:PE X o to)(ha:PA X (e::es) t)
  (hbase:Vp o name X.env (eval o X.env)=eval o X.env:=by rfl)
  (hfew:((JK akb (Eu (e::es) X.env)).all (fun x=>!x.1)&&(backToKw akb (Vl [] X.env)).all (fun x=>x.1.isSome)
   && decide ((e::es).length+([]:List Nq).length+(if ([]:List Nq).isEmpty then 0 else 1)<30))=true:=by rfl)
  (hline:(apos.endLine==akb.line)=true:=by rfl) (hs:Eu (e::es) X.env=(false,eval e X.env)::Eu es X.env:=by rfl) (hplain:(JK akb (Eu es X.env)).any (·.1)=false:=by rfl) :
  PE X (.Call (.Attribute o name apos) (e::es) [] akb) (tBM X.K T r to t):=by
 intro ajY s Z H Q I h;refine Yw hbase hfew hline rfl<|Fl (ho ajY s Z H _ I h) fun v s1 ⟨x,H1,I1,r1,ty,q1⟩=>?_
 obtain ⟨h1,h2⟩:=Qf I1 r1 ty;refine ⟨T,id,pa,slot,hty,h1,h2,?_⟩;have hA:=ha akb ajY s1 Z H1 _ I1 q1;rw [hs] at hA |-
 refine YQ (by show (false||(JK akb<|Eu es X.env).any (·.1))=false;rw [hplain] <;> rfl)<|Yv ?_
 exact Fl hA fun us s2 ⟨vs,H2,I2,r2,q2⟩=>hm ajY s2 Z H2 x vs v us Q I2 r1 r2 q2
/- xs.append(e), list.index on a module's tuple .. are MtR facts of 06m -/
end
def MtM (X:Cx)(id:String)(r:V->List V->Hp->VK->Prop):Prop:=
 ∀ (ajY:List (Addr×Obj)) (s:AP) (Z : St) (H:Hp) (x:V) (xs:List V) (v:Mk) (us:List Mk) (Q:VK),DX X ajY Z H s->RelV x v->DY xs us->r x xs H Q ->
  Dl (Dm X.prog X.w) X.A (call (.builtin id) (v::us)) (EP X ajY Z Q) X.xe s
theorem DY.one:∀ {x:V} {us:List Mk},DY [x] us->∃ u,us=[u]/\RelV x u
 | _,_,.cons r .nil=>⟨_,rfl,r⟩
theorem DY.zero:∀ {us:List Mk},DY [] us->us=[]
 | _,.nil=>rfl
theorem DY.rep {xs:List V}{us:List Mk}(h:DY xs us):∀ k:Nat,DY (Gv k xs).flatten (Gv k us).flatten
 | 0=>.nil
 | k+1=>by
  rw [RB,RB,W3,W3];exact DY.append h<|DY.rep h k
theorem foldl_rep (its:List Mk):∀ (k:Nat) (acc:List Mk),
  List.foldl (fun x1 x2=>x1++x2) acc.toArray (Gv k its.toArray)=(acc++(Gv k its).flatten).toArray
 | 0,acc=>by simp
 | k+1,acc=>by
  have e:acc.toArray++its.toArray=(acc++its).toArray:=by simp
  have e2:(acc++its)++(Gv k its).flatten=acc++(Gv (k+1) its).flatten:=by
   rw [RB,W3,Ri]
  rw [<-e2,<-foldl_rep its k (acc++its),<-e,RB,List.foldl_cons]
section
variable {X:Cx}{ajY:List (Addr×Obj)}{Z : St}{H:Hp}{s:AP}{b:Addr}{xs ys zs:List V}
theorem DX.lset {its its':List Mk}{n:Nat}{f:Array Mk->Array Mk}{t':Nat}(I:DX X ajY Z H s)(hH:H l=FN (.lst xs))
  (e:s.heap.get? l=FN { cls:=.type "list",data:=.seq its.toArray n }) (hf:f its.toArray=its'.toArray) (hv:DY ys its') (hz:ys.length<=G7) :
  DX X ajY Z (Fb H l (.lst ys)) { s with heap:=s.heap.update l (Uy f),toks:=t' }:=by
 have q:=PySem.IsL.update e f;rw [hf] at q;refine I.write (x:=l) (e:=l) (by rw [hH];exact trivial) (.inl rfl) (fun b' u hb hu=>(TY s.heap (Uy f)<|JD hb).trans hu) ⟨_,q⟩ ?_;exact ⟨hz,its',_,hv,q⟩
theorem DX.lnew {its:List Mk}{t':Nat}(I:DX X ajY Z H s)(hv:DY ys its)(hz:ys.length<=G7):
  DX X ajY Z (Fb H s.heap.objs.size (.lst ys)) { s with heap:=s.heap.push { cls:=.type "list",data:=.seq its.toArray },toks:=t' }:=
 I.laid (fun _ _ q=>G6 _ q) (Ea _) ⟨hz,its,0,hv,Hw _ rfl⟩
theorem DX.fresh (I:DX X ajY Z H s):H s.heap.objs.size=FX:=I.hok.fresh (Ea _)
theorem DX.lstM (I:DX X ajY Z H s)(hH:H l=FN (.lst xs)):xs.length<=G7/\∃ (its:List Mk) (n:Nat),DY xs its/\xs.length=its.length/\s.heap.get? l=FN { cls:=.type "list",data:=.seq its.toArray n }:=by
 obtain ⟨z,its,n,r,e⟩:=I.hok l _ hH;exact ⟨z,its,n,r,r.length,e⟩
end
section
variable {X:Cx}
def Kv:V->List V->Hp->VK->Prop:=fun x vs H Q=>∃ l xs y,x=.ref l/\vs=[y]/\H l=FN (.lst xs)/\xs.length<G7/\Q .non (Fb H l (.lst (xs++[y])))
theorem vO:MtM X "list.append" Kv:=by
 intro ajY s Z H x vs v us Q I rx rv h;obtain ⟨l,xs,y,rfl,rfl,hH,hz,q⟩:=h;cases rx;obtain ⟨u,rfl,ru⟩:=rv.one;obtain ⟨z,its,n,r,hl,e⟩:=I.lstM hH;refine call_meets F.slot_list_append ⟨_,e,rfl⟩ F.entry_list_append (F.args_list_append_2 _ _) (PySem.list_append l its.toArray n u (by rw [J9];lia)) ⟨e,?_⟩;refine ⟨.non,_,I.lset (its':=its++[u]) hH e (by simp) (r.append<|.cons ru .nil) ?_,rfl,q⟩;rw [JC,V2];lia
def adG:R2:=fun x y H Q=>∃ l b xs zs,x=.ref l/\y=.ref b/\H l=FN (.lst xs)/\H b=FN (.lst zs)/\xs.length+zs.length<=G7/\∀ p,H p=FX->Q (.ref p) (Fb H p (.lst (xs++zs)))
theorem aiC:Jo X (Mi .Add) adG:=by
 intro ajY s Z H x y v u Q I rx ry h;obtain ⟨l,b,xs,zs,rfl,rfl,hH,hB,hz,q⟩:=h;cases rx;cases ry;obtain ⟨z,its,n,r,hl,e⟩:=I.lstM hH;obtain ⟨z2,its2,n2,r2,hl2,e2⟩:=I.lstM hB;refine PySem.P.add_list e e2 ?_ (by rw [J9,J9];lia);have ea:its.toArray++its2.toArray=(its++its2).toArray:=by simp
 rw [ea];exact ⟨.ref _,_,I.lnew (t':=s.toks) (r.append r2) (by rw [JC];lia),rfl,q _ I.fresh⟩
theorem len_rep {α : Type}(xs:List α)(k:Nat):(Gv k xs).flatten.length=k*xs.length:=by
 induction k with
 | zero=>simp
 | succ k ih=>rw [RB,W3,JC,ih,Nat.succ_mul,WY]
end
section
variable {prog:Ew}{w:Em}{A:Fg}{E:Mk->AP->Prop}{s:AP}
end
section
variable {X:Cx}
end
end L2
namespace Att
open PySem PySem.W PySem.Calls PyProof.Rows
theorem qm {P:Params}{h:Heap}:∀ (ns:List Int) (vs:List Mk),WellAll P h vs (ns.map WData.int)->R0 vs ns:=by
 intro ns;induction ns with
 | nil=>
  intro vs w;rw [Mw] at w;cases w;exact .nil
 | cons n ns ih=>
  intro vs w;rw [Ed] at w;cases w with
  | cons a b=>
   cases a;exact .cons _ _<|ih _ b
theorem aec {l:OpenLaw}{n:Nat}(hn:l.most=FN n){P:Params}{h:Heap}{args:List WData}{vals:List Mk}
  (hpre:l.row.toRowW.claim.pre args=true) (hwl:WellAll P h vals args) :
  ∃ a vs ns,vals=[Value.ref a]/\args=[WData.list (ns.map WData.int)]/\h.get? a=FN { cls:=.type "list",data:=.seq vs.toArray }/\R0 vs ns/\ns.length<=n:=by
 have hsh:WShape.hasAll [] args [.list .int]=true:=(pre_splitW hpre).1;have hc:l.pre.holds [] { args:=args }=true:=(pre_splitW hpre).2;obtain ⟨d,r,rfl,h1,h2⟩:=hasAllW_cons hsh;obtain rfl:=hasAllW_nil h2;obtain ⟨xs,rfl,h3⟩:=hasW_list h1;obtain ⟨ns,rfl⟩:=items_int h3;have ajZ:ns.length<=n:=by
  unfold OpenLaw.pre at hc;have h4:(WTm.not (.lt (.lit (.int (n:Int))) (.len (.arg 0)))).holds [] { args:=[.list (ns.map .int)] }=true:=by
   have h4:=(holds_andW hc).1;rw [hn] at h4;exact h4
  have h5:=condW_of h4 (w_not (w_lt w_lit (w_len_list (w_arg rfl))));rw [Ec] at h5;refine Nat.le_of_not_lt fun q=>?_;have q':(n:Int)<((ns.length:Nat):Int):=by lia
  first
   | (rw [decide_eq_true q'] at h5;exact absurd h5 (by decide))
   | (simp at h5;lia)
 cases hwl with
 | cons w1 w2=>
  cases w2;cases w1 with
  | list ho hall=>exact ⟨_,_,ns,rfl,rfl,ho,qm ns _ hall,ajZ⟩
theorem zaK (l:OpenLaw)(args:List WData):l.row.toRowW.claim.post args (.bool true) args=true:=
 postW_of (r:=l.row.toRowW) (X:=(true==true))
  (show WShape.has [] (.bool true) .bool=true by first | rfl | decide | simp [WShape.has,WShape.arms,WShape.armsAll])
  (show (WTm.eq .res (.lit (.bool true))).value [] { args:=args,res:=FN (.bool true),after:=args }=FN (.bool (true==true)) from w_eq_bool (w_res rfl) w_lit) rfl
theorem zF {l:OpenLaw}{n:Nat}{q:Ew}{loose:List Str}{XP:(Str->Option Mk)->Heap->Prop}{YP:Em->Heap->Prop}{d:DefRec}
  (hn:l.most=FN n) (hdf:d.params.defaults=[])
  (call:∀ (w:Em) (s₀ s₁ : AP) (mg mb:Str->Option Mk) (fa:Addr) (o:Obj) (pm cd doc:Mk) (a:Addr) (vs:List Mk) (ns:List Int),
   Ground q loose [] XP w s₀ mg mb s₁.heap->YP w s₁.heap ->
   s₁.heap.get? fa=FN o->o.data=.func (docDef d.name d.params d.body d.scope pm cd doc)->s₁.heap.CodeRec cd d.name->mg d.name=FN (.ref fa) ->
   s₁.heap.get? a=FN { cls:=.type "list",data:=.seq vs.toArray }->R0 vs ns->ns.length<=n->s₁.gens = #[] ->
   Mh (Dm l.prog w) callerA (.call (.ref fa) ⟨[.ref a],[]⟩) (fun r s'=>r=.ok (.ret (.bool true))/\OldK s₁.heap s'.heap/\s'.os=s₁.os/\Tj s'.gens) s₁) :
  WalkO q loose XP YP l.row.toRowW d [] (fun f vs=>PySem.call f vs):=by
 intro w s₀ s₁ mg mb G Y fa o pm cd doc dV kV ho hd hcd hD hmg hg args vals as hpre hlay hrd hwl hlo;obtain rfl:dV=.none:=Dflts.none hD hdf;obtain rfl:kV=.none:=Dflts.noKw hD;obtain ⟨a,vs,ns,rfl,rfl,hobj,hints,ajZ⟩:=aec hn hpre hwl;refine enter_call<|codeAny_mono (call w s₀ s₁ mg mb fa o pm cd doc a vs ns G Y ho (fd_plain hd) hcd hmg hobj hints ajZ hg) fun r s' hq=>?_
 obtain ⟨rfl,h2,h3,h4⟩:=hq;exact ⟨.inl ⟨.bool true,.bool true,[],rfl,fun _=>rfl,.bool true,zaK l _,fun _=>⟨List.Pairwise.nil,fun _ hm=>(nomatch hm)⟩⟩,h2,h3,h4⟩
section
variable {prog:Ew}{w:Em}{A:Fg}{E:Mk->AP->Prop}{s:AP}{K:Frag}
def ledger (h:Heap)(L d:Addr):List (Addr×Obj):=(LC h.objs.size).filterMap fun a=>if a=L\/a=d then FX else (h.get? a).map fun o=>(a,o)
end
end Att
variable {XP : (Str->Option Mk)->Heap->Prop}{loose : List Str}{YP : Em->Heap->Prop}
namespace L2
open PySem PySem.Spec PyProof.Rows
theorem wj:∀ {vs:List Mk} {ns:List Int},R0 vs ns->DY (ns.map V.int) vs
 | _,_,.nil=>.nil
 | _,_,.cons n t h=>.cons ⟨t,rfl⟩ (wj h)
def Only (H:Hp):Prop:=∀ b,H b=FX\/∃ o xs,H b=FN (.frz o (.lst xs))
theorem zbd {P:Ew}{w:Em}{K:Dp}{mg mb:Str->Option Mk}{CX:Uq}{k:Nat}{fa a:Addr}{fd:N5}{x:Str}{sp:Sp}{s₁ : AP}{vs:List Mk}{ns:List Int}
  (KX:K.In s₁.heap) (hns:s₁.heap.Ns Jh mg) (hb:s₁.heap.Ns builtinsNs mb) (hbb:∀ x:Str,x ≠ "__name__"->mb x=S6 x) (hlim:s₁.heap.NoLimit) (hg:s₁.gens = #[])
  (ha:s₁.heap.get? a=FN { cls:=.type "list",data:=.seq vs.toArray }) (hi:R0 vs ns) (hl:ns.length<=G7) (hr:mJ k callerA)
  (F:∀ base:Heap,K.In base->base.Ns Jh mg->qO P w K mg base CX k fa fd [x] sp) (hbind:∀ (s:AP) (u:Mk),BindsTo s fd ⟨[u],[]⟩ [(x,u)])
  (hsp:∀ H:Hp,Only H->JF K H a (ns.map V.int)->sp [.ref a] H (fun v _=>v=.bl true) fun _ _ _=>False)
  (hCX:∀ H e s',CX [] H s₁ (fun _ _ _=>False) e s'->False) :
  Mh (Dm P w) callerA (.call (.ref fa) ⟨[.ref a],[]⟩) (fun r s'=>r=.ok (.ret (.bool true))/\OldK s₁.heap s'.heap/\s'.os=s₁.os/\Tj s'.gens) s₁:=by
 have rv:=wj hi;have lenV:=hi.length
 -- from an abstract heap in which nothing but the script may be tracked
 have core:∀ H:Hp,Only H->JF K H a (ns.map V.int)->KY P w H s₁.heap->(∀ b,H b≠FX->b=a)->(H a≠FX->K.lookup a=FX) ->
   Mh (Dm P w) callerA (.call (.ref fa) ⟨[.ref a],[]⟩) (fun r s'=>r=.ok (.ret (.bool true))/\OldK s₁.heap s'.heap/\s'.os=s₁.os/\Tj s'.gens) s₁:=by
  intro H hO hS hok hA hK;have base_of:∀ {b:Addr} {o:Obj},s₁.heap.get? b=FN o->H b=FX->(Nz s₁.heap H).get? b=FN o:=fun e n=>agq e n
  have noA:∀ {b:Addr} {o:Obj} {es:Array Ru} {ep:Nat},s₁.heap.get? b=FN o->o.data=.dict es ep->H b=FX:=fun {b o es ep} e d=>by
   cases q:H b with
   | none=>rfl
   | some u=>
    have e':b=a:=hA b (by rw [q];simp);subst e';rw [ha] at e;cases e;have d':Data.seq vs.toArray _=Data.dict es ep:=d;cases d'
  have nsK:∀ {b:Addr} {m:Str->Option Mk},s₁.heap.Ns b m->(Nz s₁.heap H).Ns b m:=fun {b m} ⟨o,es,ep,e,d,r⟩=>⟨o,es,ep,base_of e (noA e d),d,r⟩
  have hKb:K.In (Nz s₁.heap H):=fun b o e=>base_of (KX b o e) (by
   cases q:H b with
   | none=>rfl
   | some u=>
    have e':b=a:=hA b (by rw [q];simp);subst e';rw [hK (by rw [q];simp)] at e;cases e)
  have hM:Mod K mg (Nz s₁.heap H):=⟨hKb,nsK hns,⟨mb,nsK hb,hbb⟩,let ⟨mc,h1,h2⟩:=hlim;⟨mc,nsK h1,h2⟩⟩
  have e0:aak P w K mg (Nz s₁.heap H) callerA [] s₁ H:=⟨rfl,hM,fun b o e=>zbO e,Nat.le_of_eq (afy _ _),trivial,fun b hb=>absurd (show b∈([]:List Addr) from hb) (by simp),hok,.of_eq hg,fun v e=>(nomatch e)⟩
  refine codeAny_mono ((F _ hKb<|nsK hns).run callerA [] s₁ H ⟨[.ref a],[]⟩ [.ref a] [.ref a] _ _ hr e0 (hbind s₁<|.ref a) (.cons rfl .nil) (hsp H hO hS)) fun r s' h=>?_;cases r with
  | error e=>exact (hCX H e s' h).elim
  | ok fl=>
   cases fl with
   | next=>exact TJ h
   | brk=>exact TJ h
   | cont=>exact TJ h
   | ret u=>
    obtain ⟨v,H',os,bare,un,hok',r',q⟩:=h;have q':v=.bl true:=q;subst q';obtain rfl:u=Value.bool true:=r';refine ⟨rfl,OldK.of_keep fun b o e=>?_,os,bare⟩;cases q:H b with
    | none=>exact un.keep b o e q (by intro z;exact absurd (show b∈([]:List Addr) from z) (by simp)) (by simp)
    | some u=>
     rcases hO b with z | ⟨ob,xs,z⟩
     ·rw [q] at z;cases z
     ·have z2:=un.frzs b ob _ z;obtain ⟨e1,_⟩:=hok b _ z;obtain ⟨e2,_⟩:=hok' b _ z2;rw [e] at e1;cases e1;exact e2
 cases hk:K.lookup a with
 | some o=>
  -- the script is one of the module's own objects
  have e:=KX a o hk;rw [ha] at e;cases e;refine core (fun _=>FX) (fun _=>.inl rfl) (.inr ⟨_,vs.toArray,_,hk,rfl,rfl,rfl,by rw [J9,lenV];exact hl,by simpa using rv⟩) (fun b u z=>by have z':(FX:Option HO)=FN u:=z;cases z') (fun b z=>absurd rfl z) fun z=>absurd rfl z
 | none=>
  refine core (fun b=>if b=a then FN (.frz { cls:=.type "list",data:=.seq vs.toArray } (.lst<|ns.map V.int)) else FX) (fun b=>?_) (.inl<|.inr ⟨{ cls:=.type "list",data:=.seq vs.toArray },if_pos rfl⟩) (fun b u z=>?_) (fun b z=>?_) fun _=>hk
  ·by_cases hb:b=a
   ·exact .inr ⟨_,_,if_pos hb⟩
   ·exact .inl<|if_neg hb
  ·by_cases hb:b=a
   ·have z':=(if_pos hb).symm.trans z;cases z'
    subst hb;exact ⟨ha,by rw [Ec];exact hl,vs,_,rv,ha⟩
   ·have z':=(if_neg hb).symm.trans z;cases z'
  ·by_cases hb:b=a
   ·exact hb
   ·exact absurd (if_neg hb) z
theorem Gq {l:PySem.W.OpenLaw}{n k:Nat}{q:Ew}{d:DefRec}{K:Params->Dp}{CX:Em->Uq}{sp:Em->Sp}{x:Str}
  (hn:l.most=FN n) (hn2:n<=G7) (hdf:d.params.defaults=[]) (hr:mJ k callerA)
  (hY:∀ (w:Em) (h:Heap),YP w h->(K w.params).In h)
  (F:∀ (w:Em) (mg:Str->Option Mk) (fa:Addr) (h:Heap),(K w.params).In h->h.Ns Jh mg->mg d.name=FN (.ref fa) ->
   ∃ fd:N5,(∀ (s:AP) (u:Mk),BindsTo s fd ⟨[u],[]⟩ [(x,u)]) /\
    ∀ base:Heap,(K w.params).In base->base.Ns Jh mg->qO l.prog w (K w.params) mg base (CX w) k fa fd [x] (sp w))
  (hsp:∀ (w:Em) (H:Hp) (a:Addr) (ns:List Int),ns.length<=n->Only H->JF (K w.params) H a (ns.map V.int)->sp w [.ref a] H (fun v _=>v=.bl true) fun _ _ _=>False)
  (hCX:∀ (w:Em) (H:Hp) (s:AP) (e:Mk) (s':AP),CX w [] H s (fun _ _ _=>False) e s'->False) :
  PySem.W.WalkO q loose XP YP l.row.toRowW d [] (fun f vs=>PySem.call f vs):=by
 refine Att.zF hn hdf fun w s₀ s₁ mg mb fa o pm cd doc a vs ns G Y ho hd hcd hmg hobj hints ajZ hg=>?_;have KX:=hY w _ Y;obtain ⟨fd,hb,hF⟩:=F w mg fa _ KX G.T.g hmg;exact zbd KX G.T.g G.T.b G.T.builtins G.T.nolimit hg hobj hints (Eb ajZ hn2) hr hF hb (fun H hO hS=>hsp w H a ns ajZ hO hS) fun H e s'=>hCX w H s₁ e s'
end L2
/- THE LAST THEOREM (shape; LID, My.* are yours):
   My.Adr: a structure of the addresses that your layer names (classes,functions);My.Txt K t: a structure (Prop) of the equations over K;
   My.txt_mk:{K} {implicit addresses ..} (e1:nsIn K Jh "law" = FN (FN (.ref f))) (e2:K.lookup f=FN ⟨oc,od,.func (fnOf "law" "law" params body scope dV kV doc pm an cdv ct),sl⟩) (e3:codeIn K cdv "law" = true) .. : ∃ t,My.Txt K t
theorem PySem.Challenge.cw_LID_holds : PySem.Challenge.rw_LID.Holds := by
 w_on;o_law;k_head;(case hw=>w_witness2)
 k_fill
 refine L2.Gq (l:=PySem.Challenge.rw_LID) (n:=63) (k:=40) (x := "script") (CX:=fun w=>..) (sp:=fun _=>My.sp_law) rfl (by decide) rfl ⟨rfl,by decide,by decide⟩ (fun w h Y=>PySem.W.kIn_of Y) ?F ?S ?C
 case F=>
  intro w mg fa h KX G hmg;have T:∃ t,My.Txt (L2.KOf KX) t:=by
   dsimp only [L2.KOf]                          -- K must stand as «<heap const> w.params» for k_is;refine' My.txt_mk ?e1 ?e2 ?e3 ..
   (case e1=>PySem.W.k_is)                    -- in the order: a name -> its address -> its object -> its parts
   (case e2=>PySem.W.k_is)
   ..
  obtain ⟨t,T⟩:=T;have e0:=hmg.symm.trans (Wt KX G T.law);cases e0                                       -- fa is the law's own address
  exact ⟨_,fun s u=>.of_eq rfl,fun base kb nb=>My.law_fn T kb nb⟩     -- if «.of_eq rfl» comes too early: refine' ⟨_,?b,fun base kb nb=>My.law_fn T kb nb⟩;exact fun s u=>.of_eq rfl
 case S=>exact fun w H a ns hl hO hS=>..
 case C=>exact ..
(the tactic k_is has no namespace: write k_is) -/
namespace L2
open PySem PySem.Spec PyProof.Rows
def lY (s:Stmt):Arguments:=match s with
 | .FunctionDef _ a _ _ _ _ _ _ _ _=>a
 | _=>{ posonlyargs:=[],args:=[],vararg:=FX,kwonlyargs:=[],kw_defaults:=[],kwarg:=FX,defaults:=[] }
def eE (s:Stmt):List Stmt:=match s with
 | .FunctionDef _ _ b _ _ _ _ _ _ _=>b
 | _=>[]
def bw (s:Stmt):Scope:=match s with
 | .FunctionDef _ _ _ _ _ _ sc _ _ _=>sc
 | _=>{ kind:=.function,names:=[],isGenerator:=false,isCoroutine:=false }
abbrev Mg:Uq:=fun _ _ _ _ _ _=>False
abbrev E0:XK:=fun _ _ _=>False
theorem abt {X:Cx}:Passes Mg X E0:=fun _ _ _ _ _ _ _ h=>h.elim
structure Uo (K:Dp) (x qual:Str) (st:Stmt) (f:Addr) (fd:N5):Prop where
 ex:∃ (oc:Mk) (od:Option Addr) (kV doc pm:Mk) (an:Option Addr) (cdv ct:Mk) (osl:Array (Option Mk)),
  fd=Vr x qual (lY st) (eE st) (bw st) .none kV doc pm an cdv ct/\K.lookup f=FN ⟨oc,od,.func fd,osl⟩/\YH K cdv qual=true
 kp:U7 K (.ref f)=true
section
variable {P:Ew}{w:Em}{K:Dp}{mg:Str->Option Mk}{base:Heap}
theorem Uo.ok {x qual:Str}{st:Stmt}{f:Addr}{fd:N5}{N ps:List Str}{k:Nat}{sp:Sp}(F:Uo K x qual st f fd)(S:iI N ps (bw st))(len:∀ vs H Q E,sp vs H Q E->vs.length=ps.length)
  (hbody:∀ (cdv:Mk) (A:Fg) (outer:List Env) (s:AP) (H:Hp) (vs:List V) (Q:VK) (E:XK),mJ k (A.deeper (Rb qual (bw st) s.heap.objs.size f cdv))->sp vs H Q E ->
   ∃ t,Nm (Ft Mg P w K mg base N qual (bw st) f cdv A outer s H E).nox (eE st) t/\t { nx:=fun _ H'=>Q .non H',rt:=Q } (start N vs) H):qO P w K mg base Mg (k+1) f fd ps sp:=by
 obtain ⟨oc,od,kV,doc,pm,an,cdv,ct,osl,rfl,lk,hcd⟩:=F.ex;refine aaN lk hcd S len fun A outer s H vs Q E hr hsp=>?_;obtain ⟨t,h,q⟩:=hbody cdv A outer s H vs Q E hr hsp;exact ⟨t,h.nox,q⟩
theorem Uo.binds {x qual:Str}{st:Stmt}{f:Addr}{fd:N5}{ps:List Str}(F:Uo K x qual st f fd)
  (h:∀ (kV doc pm:Mk) (an:Option Addr) (cdv ct:Mk) (us:List Mk),us.length=ps.length->bindArgs (Vr x qual (lY st) (eE st) (bw st) .none kV doc pm an cdv ct) ⟨us,[]⟩=pure (ps.zip us)):Binds K fd ps []:=by
 obtain ⟨oc,od,kV,doc,pm,an,cdv,ct,osl,rfl,lk,hcd⟩:=F.ex;exact .all<|h kV doc pm an cdv ct
theorem FT {x qual:Str}{st:Stmt}{f:Addr}{oc:Mk}{od an:Option Addr}{osl:Array (Option Mk)}{kV doc pm cdv ct:Mk}(l:K.lookup f=FN ⟨oc,od,.func (Vr x qual (lY st) (eE st) (bw st) .none kV doc pm an cdv ct),osl⟩)
  (c:YH K cdv qual=true) (k:U7 K (.ref f)=true):Uo K x qual st f (Vr x qual (lY st) (eE st) (bw st) .none kV doc pm an cdv ct):=⟨⟨oc,od,kV,doc,pm,an,cdv,ct,osl,rfl,l,c⟩,k⟩
end
section
variable {X:Cx}
theorem pv (i:Nat){x:Str}{pos:Pos}(hN:X.N[i]?=FN x:=by rfl)(hv:Vis X.env.scope x:=by first | exact Or.inl rfl | exact Or.inr (Or.inl rfl) | exact Or.inr (Or.inr rfl))(hd:(x==("__debug__" : Str))=false:=by decide)
  (hcd:(x==("__classdict__" : Str))=false:=by decide):PE X (.Name x pos) (aa4 i):=aiy hN hv hd hcd
end
def U4 (env:Env):List (Str×M4)->List (Str×Addr)->List (Str×Addr)
 | [],cs=>cs
 | (n,k)::r,cs=>U4 env r (if (k==NameKind.free)=true then (n,(env.cells.lookup n).getD 0)::cs else cs)
def QL (scope:Scope)(env:Env):List (Str×Addr):=U4 env scope.names []
variable {env : Env}
theorem uJ {env:Env}{p:Str×Addr}:∀ (l:List (Str×M4)) (cs:List (Str×Addr)),p∈U4 env l cs->p∈cs\/((p.1,NameKind.free)∈l/\p.2=(env.cells.lookup p.1).getD 0)
 | [],cs,h=>.inl h
 | (n,k)::r,cs,h=>by
  rcases uJ r _ h with h | ⟨h1,h2⟩
  ·by_cases hk:(k==NameKind.free)=true
   ·rw [if_pos hk] at h;rcases J1.mp h with rfl | h
    ·have e:k=NameKind.free:=by simpa using hk
     subst e;exact .inr ⟨LQ,rfl⟩
    ·exact .inl h
   ·rw [if_neg hk] at h;exact .inl h
  ·exact .inr ⟨Jm _ h1,h2⟩
theorem Cp {env:Env}{x:Str}:∀ (l:List (Str×M4)) (cs:List (Str×Addr)),((x,NameKind.free)∈l\/∃ c,(x,c)∈cs)->∃ c,(x,c)∈U4 env l cs
 | [],cs,h=>by
  rcases h with h | h
  ·exact absurd h<|by simp
  ·exact h
 | (n,k)::r,cs,h=>by
  refine Cp r _ ?_;rcases h with h | ⟨c,h⟩
  ·rcases J1.mp h with e | h
   ·injection e with e1 e2
    subst e1;subst e2;exact .inr ⟨_,by rw [if_pos<|by rfl];exact LQ⟩
   ·exact .inl h
  ·refine .inr ⟨c,?_⟩;by_cases hk:(k==NameKind.free)=true
   ·rw [if_pos hk];exact Jm _ h
   ·rw [if_neg hk];exact h
theorem gD {x:Str}{c:Addr}:∀ {l:List (Str×Addr)},(x,c)∈l->∃ c',l.lookup x=FN c'
 | [],h=>absurd h (by simp)
 | (n,d)::r,h=>by
  by_cases e:x=n
  ·subst e;exact ⟨d,by simp [Ma]⟩
  ·rcases J1.mp h with q | q
   ·injection q with q1 _
    exact absurd q1 e
   ·obtain ⟨c',h'⟩:=gD q;refine ⟨c',?_⟩;have e':(x==n)=false:=beq_eq_false_iff_ne.mpr e;rw [Ma,e'];exact h'
theorem Gm {scope:Scope}(h:∀ y∈scope.names,y.2=NameKind.free->∃ c,env.cells.lookup y.1=FN c):closureFor scope env=pure (QL scope env):=by
 unfold closureFor QL;have key:∀ (l:List (Str×M4)) (cs:List (Str×Addr)),(∀ y∈l,y.2=NameKind.free->∃ c,env.cells.lookup y.1=FN c) ->
   (forIn l cs (fun (x:Str×M4) (cs:List (Str×Addr))=>(if (x.2==NameKind.free)=true then cellOf env x.1 >>= fun c=>pure (ForInStep.yield ((x.1,c)::cs)) else pure (ForInStep.yield cs):Sem (ForInStep (List (Str×Addr))))))=pure (U4 env l cs):=by
  intro l;induction l with
  | nil=>intro cs _;rfl
  | cons x r ih=>
   intro cs hl;obtain ⟨n,k⟩:=x;rw [YK];have hr:∀ y∈r,y.2=NameKind.free->∃ c,env.cells.lookup y.1=FN c:=fun y hy=>hl y (Jm _ hy)
   by_cases hk:(k==NameKind.free)=true
   ·obtain ⟨c,hc⟩:=hl (n,k) LQ (by simpa using hk);have hc':env.cells.lookup n=FN c:=hc;have e1:cellOf env n=pure c:=by unfold cellOf;rw [hc']
    simp only [hk,if_true,e1,pure_bind];rw [ih _ hr];simp only [U4,hk,if_true,hc',Xp]
   ·simp only [hk,if_false,pure_bind,SJ];rw [ih _ hr];simp only [U4,hk,if_false,SJ]
 have q:=key scope.names [] h
 simpa using q
variable {y : Str}
theorem iW {y:Str}{c:Addr}:∀ {names:List (Str×M4)} {n:Nat} {acc:List (Str×Addr)},(y,c)∈K8 n names acc↔(y,c)∈acc\/(y,c)∈K8 n names []
 | [],n,acc=>by simp [K8]
 | (name,kind)::r,n,acc=>by
  unfold K8;split
  ·rw [iW (acc:=(name,n)::acc),iW (acc:=[(name,n)])];simp only [J1,Q5,or_false];exact ⟨fun h=>h.elim (fun h=>h.elim (fun h=>.inr<|.inl h) .inl) fun h=>.inr<|.inr h,fun h=>h.elim (fun h=>.inl<|.inr h) fun h=>h.elim (fun h=>.inl<|.inl h) .inr⟩
  ·exact iW
theorem zV {y:Str}{c:Addr}:∀ {names:List (Str×M4)} {n:Nat},(y,c)∈K8 n names []->(y,NameKind.cell)∈names
 | [],n,h=>by simp [K8] at h
 | (name,kind)::r,n,h=>by
  unfold K8 at h;split at h
  ·rename_i hk;rcases iW.mp h with q | q
   ·have hk':kind=.cell:=by simpa using hk
    simp only [J1,Q5,or_false,Prod.mk.injEq] at q;rw [q.1,hk'];exact LQ
   ·exact Jm _<|zV q
  ·exact Jm _<|zV h
theorem GP {y:Str}:∀ {names:List (Str×M4)} {n:Nat},(y,NameKind.cell)∈names->∃ c,(y,c)∈K8 n names []
 | [],n,h=>by simp at h
 | (name,kind)::r,n,h=>by
  unfold K8;rcases J1.mp h with q | q
  ·cases q;rw [if_pos (by rfl)];exact ⟨n,iW.mpr<|.inl LQ⟩
  ·split
   ·obtain ⟨c,hc⟩:=GP (n:=n+1) q;exact ⟨c,iW.mpr<|.inr hc⟩
   ·exact GP q
variable {names : List (Str×M4)}
theorem ait {h:Heap}{c:Addr}(e:(y,c)∈K8 h.objs.size names []):(pushCells h names).IsCell c FX/\h.objs.size<=c:=
 (cellsFrom_ok names h h.objs.size [] ⟨fun _ _ z=>by simp at z,List.Pairwise.nil⟩ (Ea _)).empty y c e
theorem aeS {n:Nat}{z:Str}{c:Addr}(e:(y,c)∈K8 n names [])(e':(z,c)∈K8 n names []):y=z:=by
 have key:∀ (k:Nat),∃ h:Heap,h.objs.size=k:=fun k=>by
  induction k with
  | zero=>exact ⟨{ (default:Heap) with objs:=#[] },rfl⟩
  | succ k ih=>
   obtain ⟨h,e⟩:=ih;exact ⟨h.push { cls:=.type "cell",data:=.cell FX },by rw [Oh,e]⟩
 obtain ⟨h,rfl⟩:=key n;exact name_of_addr (cellsFrom_ok names h h.objs.size [] ⟨fun _ _ z=>by simp at z,List.Pairwise.nil⟩<|Ea _).apart e e'
variable {closure : List (Str×Addr)}
theorem zaE {M:Model}{A:Fg}{E:Mk->AP->Prop}{s:AP}{scope:Scope}{globals:Addr}{qual:Str}{func:Option Addr}{code:Mk}{ar:Env}{builtins:Addr}{Q:Env->AP->Prop}
  (hQ:Q { scope:=scope,locals:=s.heap.objs.size,globals:=globals,cells:=K8 (s.heap.objs.size+1) scope.names closure,qual:=qual,func:=func,code:=ar.code,frame:=ar.frame,builtins:=ar.builtins } { s with heap:=pushCells (s.heap.push { cls:=.type "dict",data:=.dict #[] }) scope.names }) :
  Dl M A (newFunctionEnv scope globals closure [] qual func code (FN ar) builtins) Q E s:=by
 simp only [newFunctionEnv,Option.isSome_some,if_true];refine CR<|wpAny_alloc ?_
 refine CR<|wpAny_layCells _ (fun name kind cells=>by cases hkc:kind==NameKind.cell <;> simp [hkc]) _ _ _ _ ?_
 rw [show ({ s with heap:=s.heap.push { cls:=.type "dict",data:=.dict #[] } }:AP).heap.objs.size=s.heap.objs.size+1 from Oh ..];rw [YF];exact CR<|Ds<|Ds hQ
def blk (X:Cx)(scope:Scope)(N':List Str)(C:Addr)(s:AP)(H:Hp)(ex:List Addr):Cx where
 prog:=X.prog
 w:=X.w
 K:=X.K
 mg:=X.mg
 base:=X.base
 A:=X.A
 N:=N'
 s₀:=s
 H₀:=H
 env:=compEnvC scope (K8 (C+1) scope.names (QL scope X.env)) C X.env
 outer:=X.stack
 stack:=X.stack
 ex:=ex
 fn:=fun y=>decide (scope.names.lookup y=FN .cell)
 calm:=X.calm
 pn:=[]
 xe:=fun _ _=>False
structure gZ (X:Cx) (scope:Scope) (x:List Str) (ix:List Nat):Prop where
 kind:scope.kind=.function
 own:∀ y∈x,scope.names.lookup y=FN .local\/scope.names.lookup y=FN .cell
 names:∀ y∈scope.names,scope.names.lookup y.1=FN y.2
 free:∀ y∈scope.names,y.2=.free->X.env.scope.names.lookup y.1=FN .cell\/X.env.scope.names.lookup y.1=FN .free
 ixs:∀ i∈ix,scope.names.lookup (X.N.getD i "")=FN .free
 nd:(x++ix.map fun i=>X.N.getD i "").Nodup
def Bk:List Str->Bool
 | []=>true
 | x::r=>!(r.contains x)&&Bk r
def acz (sc:Scope)(N:List Str)(scope:Scope)(x:List Str)(ix:List Nat):Bool:=
 decide (scope.kind=.function)&&x.all (fun y=>decide (scope.names.lookup y=FN .local)||decide (scope.names.lookup y=FN .cell)) &&
 scope.names.all (fun y=>decide (scope.names.lookup y.1=FN y.2)) &&
 scope.names.all (fun y=>!decide (y.2=.free)||decide (sc.names.lookup y.1=FN .cell)||decide (sc.names.lookup y.1=FN .free)) &&
 ix.all (fun i=>decide (scope.names.lookup (N.getD i "")=FN .free))&&Bk (x++ix.map fun i=>N.getD i "")
theorem yg:∀ {l:List Str},Bk l=true->l.Nodup
 | [],_=>Wz
 | x::r,h=>by
  unfold Bk at h;rw [V8] at h;refine RN.mpr ⟨fun hm=>?_,yg h.2⟩;have:r.contains x=true:=List.contains_iff_mem.mpr hm
  rw [this] at h;exact absurd h.1<|by decide
variable {ix : List Nat}
theorem cZ {X:Cx}{scope:Scope}{x:List Str}(h:acz X.env.scope X.N scope x ix=true):gZ X scope x ix:=by
 unfold acz at h;simp only [V8,Wq,decide_eq_true_eq,Bool.or_eq_true,Bool.not_eq_true',decide_eq_false_iff_not] at h;obtain ⟨⟨⟨⟨⟨h1,h3⟩,h4⟩,h5⟩,h6⟩,h7⟩:=h;refine ⟨h1,fun y hy=>h3 y hy,fun y hy=>h4 y hy,fun y hy hk=>?_,fun i hi=>h6 i hi,yg h7⟩
 ·rcases h5 y hy with (q | q) | q
  ·exact absurd hk q
  ·exact .inl q
  ·exact .inr q
def Eh (ix:List Nat)(Z : St):St:=ix.map fun i=>(Z[i]?).getD FX
abbrev fW (X:Cx)(x:List Str)(ix:List Nat):List Str:=x++ix.map fun i=>X.N.getD i ""
theorem fC {scope:Scope}{env:Env}{x:Str}:∀ {names:List (Str×M4)} {k:M4},
  (names.map fun (p:Str×M4)=>if (p.2==NameKind.free&&env.scope.kind==.function&&env.kindOf p.1==FN .cell)=true then (p.1,NameKind.cell) else (p.1,p.2)).lookup x=FN k ->
  names.lookup x=FN k\/(k=.cell/\names.lookup x=FN .free)
 | [],k,h=>by simp at h
 | (n,k')::r,k,h=>by
  rw [Ed] at h;cases hx:x==n with
  | true=>
   by_cases hc:(k'==NameKind.free&&env.scope.kind==.function&&env.kindOf n==FN .cell)=true
   ·rw [if_pos hc] at h;simp only [Ma,hx] at h;have hk:k'=.free:=by
     have:=(Bool.and_eq_true_iff.mp (Bool.and_eq_true_iff.mp hc).1).1
     simpa using this
    subst hk;cases h;exact .inr ⟨rfl,by simp [Ma,hx]⟩
   ·rw [if_neg hc] at h;simp only [Ma,hx] at h;cases h;exact .inl<|by simp [Ma,hx]
  | false=>
   have h':(r.map fun (p:Str×M4)=>if (p.2==NameKind.free&&env.scope.kind==.function&&env.kindOf p.1==FN .cell)=true then (p.1,NameKind.cell) else (p.1,p.2)).lookup x=FN k:=by
    by_cases hc:(k'==NameKind.free&&env.scope.kind==.function&&env.kindOf n==FN .cell)=true
    ·rw [if_pos hc] at h;simpa only [Ma,hx] using h
    ·rw [if_neg hc] at h;simpa only [Ma,hx] using h
   rcases fC (scope:=scope) (env:=env) h' with q | ⟨q1,q2⟩
   ·exact .inl<|by simpa only [Ma,hx] using q
   ·exact .inr ⟨q1,by simpa only [Ma,hx] using q2⟩
theorem nF {env:Env}{x:Str}:∀ {names:List (Str×M4)},names.lookup x=FN .free ->
  (names.map fun (p:Str×M4)=>if (p.2==NameKind.free&&env.scope.kind==.function&&env.kindOf p.1==FN .cell)=true then (p.1,NameKind.cell) else (p.1,p.2)).lookup x=FN .cell \/
  (names.map fun (p:Str×M4)=>if (p.2==NameKind.free&&env.scope.kind==.function&&env.kindOf p.1==FN .cell)=true then (p.1,NameKind.cell) else (p.1,p.2)).lookup x=FN .free
 | [],h=>by simp at h
 | (n,k')::r,h=>by
  rw [Ed];cases hx:x==n with
  | true=>
   simp only [Ma,hx] at h;cases h;by_cases hc:(NameKind.free==NameKind.free&&env.scope.kind==.function&&env.kindOf n==FN .cell)=true
   ·rw [if_pos hc];exact .inl (by simp [Ma,hx])
   ·rw [if_neg hc];exact .inr (by simp [Ma,hx])
  | false=>
   have h':r.lookup x=FN .free:=by simpa only [Ma,hx] using h
   have ih:=nF (env:=env) h';by_cases hc:(k'==NameKind.free&&env.scope.kind==.function&&env.kindOf n==FN .cell)=true
   ·rw [if_pos hc];simpa only [Ma,hx] using ih
   ·rw [if_neg hc];simpa only [Ma,hx] using ih
theorem mY {env:Env}{x:Str}:∀ {names:List (Str×M4)},names.lookup x=FN .cell ->
  (names.map fun (p:Str×M4)=>if (p.2==NameKind.free&&env.scope.kind==.function&&env.kindOf p.1==FN .cell)=true then (p.1,NameKind.cell) else (p.1,p.2)).lookup x=FN .cell
 | [],h=>by simp at h
 | (n,k')::r,h=>by
  rw [Ed];cases hx:x==n with
  | true=>
   simp only [Ma,hx] at h;cases h;rw [if_neg (by simp)];simp [Ma,hx]
  | false=>
   have ih:=mY (env:=env) (show r.lookup x=FN .cell by simpa only [Ma,hx] using h);split
   ·simpa only [Ma,hx] using ih
   ·simpa only [Ma,hx] using ih
section
variable {X:Cx}{ajY:List (Addr×Obj)}{Z : St}{H:Hp}{s:AP}{scope:Scope}{x:List Str}{C:Addr}{fp:List Addr}
theorem Hg (B:gZ X scope x ix)(hy:y∈x):Loc (relabel scope X.env) y/\(decide (scope.names.lookup y=FN .cell)=true\/(relabel scope X.env).names.lookup y=FN .local):=by
 rcases B.own y hy with q | q
 ·have:=lookup_relabel_local (env:=X.env) q
  exact ⟨.inl this,.inr this⟩
 ·exact ⟨.inr<|mY (env:=X.env) q,.inl<|decide_eq_true q⟩
theorem uL (I:DX X ajY Z H s)(B:gZ X scope x ix):∀ y∈scope.names,y.2=NameKind.free->∃ c,X.env.cells.lookup y.1=FN c:=fun y hy hk=>I.ok.has y.1 (B.free y hy hk)
theorem afR (I:DX X ajY Z H s)(B:gZ X scope x ix){c:Addr}(h:(y,c)∈QL scope X.env):X.env.cells.lookup y=FN c:=by
 rcases uJ scope.names [] h with q | ⟨q1,q2⟩
 ·exact absurd q<|by simp
 ·obtain ⟨c',e⟩:=uL I B _ q1 rfl;have e':X.env.cells.lookup y=FN c':=e;have q2':c=(X.env.cells.lookup y).getD 0:=q2;rw [e',Xp] at q2';rw [e',q2']
theorem mZ (I:DX X ajY Z H s)(B:gZ X scope x ix){c:Addr}(h:(K8 (C+1) scope.names (QL scope X.env)).lookup y=FN c):X.env.cells.lookup y=FN c\/(y,c)∈K8 (C+1) scope.names []:=
 (iW.mp (Ua h)).imp_left (afR I B)
theorem Hr {n:Nat}{c:Addr}(e:(y,c)∈K8 n names []):n<=c:=by
 have key:∀ (names:List (Str×M4)) (n:Nat),(y,c)∈K8 n names []->n<=c:=by
  intro names;induction names with
  | nil=>intro n h;simp [K8] at h
  | cons a r ih=>
   intro n h;obtain ⟨name,kind⟩:=a;unfold K8 at h;split at h
   ·rcases iW.mp h with q | q
    ·simp only [J1,Q5,or_false,Prod.mk.injEq] at q;exact Nat.le_of_eq q.2.symm
    ·exact Eb (Tp n)<|ih (n+1) q
   ·exact ih n h
 exact key names n e
theorem zbt (B:gZ X scope x ix){c:Addr}(hf:scope.names.lookup y=FN .free)(h:(y,c)∈K8 (C+1) scope.names []):False:=by
 have:=B.names _ (zV h)
 simp only at this;rw [hf] at this;cases this
theorem Ah (h:scope.names.lookup y=FN .free\/scope.names.lookup y=FN .cell):∃ c,(K8 (C+1) scope.names (QL scope X.env)).lookup y=FN c:=by
 rcases h with h | h
 ·obtain ⟨c,hc⟩:=Cp (env:=X.env) scope.names [] (.inl (Ua h));exact gD<|iW.mpr<|.inl hc
 ·obtain ⟨c,hc⟩:=GP (n:=C+1) (Ua h);exact gD<|iW.mpr<|.inr hc
theorem agi (I:DX X ajY Z H s)(B:gZ X scope x ix)(hC:s.heap.objs.size<=C)(hf:∀ b∈fp,Ej X ajY H b)(ho:∀ b∈fp,∃ o,s.heap.get? b=FN o):
  (blk X scope (fW X x ix) C s H fp).Ok where
 mod:=I.ok.mod
 kind:=B.kind
 glob:=I.ok.glob
 blt:=I.ok.blt
 above:=hC
 inj:=fun y z c h1 h2=>by
  have far:∀ {y z:Str},X.env.cells.lookup y=FN c->(z,c)∈K8 (C+1) scope.names []->False:=fun {y z} e q=>by
   obtain ⟨v,w⟩:=I.cell y c e;exact absurd (Hl w.lt<|Eb (Eb hC<|Tp C)<|Hr q)<|Nv _
  rcases mZ I B h1 with q1 | q1
  ·rcases mZ I B h2 with q2 | q2
   ·exact I.ok.inj y z c q1 q2
   ·exact (far q1 q2).elim
  ·rcases mZ I B h2 with q2 | q2
   ·exact (far q2 q1).elim
   ·exact aeS q1 q2
 has:=fun y hy=>by
  have hy':(relabel scope X.env).names.lookup y=FN .cell\/(relabel scope X.env).names.lookup y=FN .free:=hy;rcases hy' with q | q
  ·rcases fC (scope:=scope) (env:=X.env) q with r | ⟨_,r⟩
   ·exact Ah<|.inr r
   ·exact Ah<|.inl r
  ·rcases fC (scope:=scope) (env:=X.env) q with r | ⟨r,_⟩
   ·exact Ah<|.inl r
   ·cases r
 cab:=fun y c hf h=>by
  have hf':scope.names.lookup y=FN .cell:=of_decide_eq_true hf;rcases iW.mp (Ua h) with q | q
  ·rcases uJ scope.names [] q with q | ⟨q1,_⟩
   ·exact absurd q<|by simp
   ·have:=B.names _ q1
    simp only at this;rw [hf'] at this;cases this
  ·exact Eb (Eb hC<|Tp C)<|Hr q
 hd:=I.ok.hd
 qt:=I.qt0
 frames:=I.ok.frames
 stk:=.inl rfl
 exf:=fun b hb=>by
  obtain ⟨o,e⟩:=ho b hb;refine ⟨HX<|Hl (Fj e) hC,fun y c h=>?_⟩;rcases mZ I B h with q | q
  ·exact (hf b hb).2.2.2.2.1 y c q
  ·intro z;rw [z] at q;exact absurd (Hl (Fj e)<|Eb (Eb hC<|Tp C)<|Hr q)<|Nv _
 bs:=I.bs
 bsz:=Eb I.ok.bsz I.sz
 noex:=fun b o e hb=>by
  rcases (hf b hb).2.2.2.1 with q | q
  ·exact I.ok.noex b o e q
  ·exact absurd (Hl (Fj e)<|Eb I.ok.bsz q)<|Nv _
 exfs:=fun b hb z=>by
  obtain ⟨_,h1,h2,_⟩:=hf b hb;rcases J1.mp (I.stkSub b z) with e | e
  ·exact h1 e
  ·exact h2 e
 funs:=I.stack
 frf:=I.stkFree
theorem ahw {D:Addr}{h1:Heap}{tk:Nat}{m:Str->Option Mk}(I:DX X ajY Z H s)(B:gZ X scope x ix)(ok:(blk X scope (fW X x ix) C s H fp).Ok)
  (hD:D=s.heap.objs.size) (k:∀ b o,s.heap.get? b=FN o->h1.get? b=FN o) (hl:h1.get? D=FN { cls:=.type "list",data:=.seq #[] }) (hns:h1.Ns C m) (hCD:C≠D) (hC:s.heap.objs.size<=C) (hce:∀ y c,(y,c)∈K8 (C+1) scope.names []->h1.IsCell c FX) :
  DX (blk X scope (fW X x ix) C s H fp) [] (Gv x.length FX++Eh ix Z) (Fb H D (.lst [])) { s with heap:=h1,toks:=tk } where
 ok:=ok
 os:=rfl
 bare:=I.bare
 base:=Un.laid k (by rw [hD];exact Ea _) (I.hok.fresh (by rw [hD];exact Ea _))
 loc:=by
  refine ⟨m,hns,fun i y v e1 e2 e3=>?_⟩;by_cases hix:i<x.length
  ·rw [RQ (by simpa using hix),W0,if_pos hix] at e2;cases e2
  ·rw [Ob (by simpa using hix),List.length_replicate] at e2;have e1':(ix.map fun i=>X.N.getD i "")[i - x.length]?=FN y:=by
    have z:(x++ix.map fun i=>X.N.getD i "")[i]?=FN y:=e1
    rwa [Ob (by simpa using hix)] at z
   generalize i - x.length=j at e1' e2;unfold Eh at e2;rw [Gy] at e1' e2;cases hj:ix[j]? with
   | none=>rw [hj] at e2;cases e2
   | some i'=>
    rw [hj] at e1' e2;simp only [Option.map_some,Option.some.injEq] at e1' e2;have hi:Z[i']?=FN (FN v):=by
     cases q:Z[i']? with
     | none=>rw [q] at e2;cases e2
     | some z=>rw [q] at e2;exact congrArg FN e2
    have hlt:i'<X.N.length:=by
     have:=(Le.mp hi).1
     rw [I.len] at this;exact this
    have hn:X.N[i']?=FN y:=by
     rw [Hy,GK hlt,Xp] at e1';rw [GK hlt,e1']
    have hfree:scope.names.lookup y=FN .free:=by
     have:=B.ixs i' (Lx hj)
     rw [e1'] at this;exact this
    have kx:=B.free _ (Ua hfree) rfl;have vis:Vis X.env.scope y:=by
     rcases kx with q | q
     ·exact .inr<|.inl q
     ·exact .inr<|.inr q
    obtain ⟨m',_,hl'⟩:=I.loc;obtain ⟨u,r,lk⟩:=hl' i' y v hn hi vis;refine ⟨u,r,?_⟩;rcases lk with ⟨q,_⟩ | ⟨_,c,hc,hcell⟩
    ·have q':X.env.scope.names.lookup y=FN .local:=q;rcases kx with z | z <;> (rw [q'] at z;cases z)
    ·obtain ⟨c',hc'⟩:=Ah (X:=X) (C:=C) (.inl hfree);have e:=(mZ I B hc').resolve_right fun z=>zbt B hfree z
     rw [hc] at e;cases e;refine .inr ⟨nF (env:=X.env) hfree,c,hc',?_⟩;obtain ⟨o,ho,hd⟩:=hcell;exact ⟨o,k c o ho,hd⟩
 cell:=fun y c h=>by
  rcases mZ I B h with q | q
  ·obtain ⟨v,o,ho,hd⟩:=I.cell y c q;exact ⟨v,o,k c o ho,hd⟩
  ·exact ⟨FX,hce y c q⟩
 free:=by
  show Fb H D (.lst []) C=FX;rw [aO hCD];exact I.hok.fresh hC
 freeC:=fun y c h=>by
  show Fb H D (.lst []) c=FX;rcases mZ I B h with q | q
  ·obtain ⟨v,o,ho,hd⟩:=I.cell y c q;rw [aO (by rw [hD];exact HX (Fj ho))];exact I.freeC y c q
  ·have g:s.heap.objs.size<c:=Hl (Nat.lt_succ_of_le hC) (Hr q);rw [aO (by rw [hD];exact Lp g)];exact I.hok.fresh<|Mv g
 pin:=fun p hp=>absurd (show p∈([]:List (Addr×Obj)) from hp) (by simp)
 hok:=I.hok.laid k (by rw [hD];exact Ea _) ⟨Jk _,[],0,.nil,hl⟩
 len:=by
  show (Gv x.length FX++Eh ix Z).length=(fW X x ix).length;simp [Eh]
theorem HJ {Z':St}{H':Hp}{s':AP}{h':Heap}{p':List (Addr×Obj)}(I:DX X ajY Z H s)(hC:s.heap.objs.size<=C)(hf:∀ b∈fp,Ej X ajY H b)(J:DX (blk X scope (fW X x ix) C s H fp) p' Z' H' s')
  (hs:W6 C s'.heap h'):DX X ajY Z H' { s' with heap:=h' }:=by
 have I1:DX X ajY Z H' s':=I.call' (ch:=fp) J.os J.base J.hok J.bare fun b hb=>⟨(hf b hb).2.2.2.1,(hf b hb).2.1,(hf b hb).2.2.2.2.1,(hf b hb).2.2.2.2.2⟩
 refine I1.turned (it:=C) (t':=s'.toks) (fun b o hb e=>(hs.2 b hb).trans e) J.free (Lp<|Hl I.lt hC) (.inr<|Eb I.sz hC) (fun y c e z=>?_)<|fun p hp z=>?_
 ·obtain ⟨v,q⟩:=I.cell y c e;exact absurd (Hl q.lt (by rw [z];exact hC))<|Nv _
 ·exact absurd (Hl (Fj (I.pin p hp).1) (by rw [z];exact hC))<|Nv _
end
def VL (X:Cx)(ifs:List Expr)(t:TT):Prop:=
 ∀ (ajY:List (Addr×Obj)) (s:AP) (Z : St) (H:Hp) (Q:Bool->Hp->Prop),DX X ajY Z H s->t Z H Q ->
  Dl (Dm X.prog X.w) X.A (forIn ifs true fun c r=>if r=true then do let ok <-isTrue c X.env (eval c X.env);pure (ForInStep.yield ok) else pure (ForInStep.yield r)) (TP X ajY Z Q) X.xe s
def adU:TT:=fun _ H Q=>Q true H
theorem agb {X:Cx}:VL X [] adU:=fun _ _ _ H _ I h=>Ds ⟨H,I,h⟩
theorem zbL {X:Cx}{c:Expr}{t:TT}(h:PT X c t):VL X [c] t:=fun ajY s Z H Q I hq=>by
 rw [YK];refine CR ?_;rw [if_pos rfl];refine CR<|Fl (h ajY s Z H Q I hq) fun b s1 q=>Ds ?_
 exact Ds q
def abL (n:Nat)(own:V->Hp->List V->Prop)(ix:List Nat)(tt:TT)(te:TE)(Z : St)(Q:VK)(J:It)(H1:Hp)(D:Addr):Prop:=∃ W:Nat->Nat->List V->Hp->Prop,(∃ m,W 0 m [] (Fb H1 D (.lst [])))/\∀ i m ys H,W i m ys H->H D=FN (.lst ys) ->
 (J.stop i H/\Q (.ref D) H)\/(J.go i H/\ys.length<G7/\∀ x H',J.yld i H x H'->∃ vs,own x H' vs/\vs.length=n/\tt (vs.map FN++Eh ix Z) H' fun b H2=>
  if b=true then te (vs.map FN++Eh ix Z) H2 (fun v H3=>H3 D=FN (.lst ys)/\∃ m',m'<m/\W (i+1) m' (ys++[v]) (Fb H3 D (.lst (ys++[v]))))
  else H2 D=FN (.lst ys)/\∃ m',m'<m/\W (i+1) m' ys H2)
def wLC (n:Nat)(own:V->Hp->List V->Prop)(ix:List Nat)(tt:TT)(te:TE)(Z : St)(Q:VK)(J:It)(H1:Hp):Prop:=∀ D,H1 D=FX->abL n own ix tt te Z Q J H1 D
def tLC (n:Nat)(own:V->Hp->List V->Prop)(ix:List Nat)(wi:TI)(tt:TT)(te:TE):TE:=fun Z H Q=>wi Z H fun J H1=>wLC n own ix tt te Z Q J H1
def O6 (n:Nat)(own:V->Hp->List V->Prop):TG:=fun v Z H N=>∃ vs,own v H vs/\vs.length=n/\N (vs.map FN++Z.drop n) H
variable {elt : Expr}{ifs : List Expr}{R : Xy->AP->Prop}
theorem zaA {P:Ew}{w:Em}{A:Fg}{s:AP}{target iter:Expr}{scope:Scope}{pos:Pos}{it acc:Mk}(Iv:Nat->AP->Prop)
  (turn:∀ n s,Iv n s->Dl (Dm P w) A (Ln it) (fun r s₁=>match r with
   | none=>R (.ok .next) s₁
   | some v=>Dl (Dm P w) A (letOwnedTupleGo target it v) (fun _ t₁=>Dl (Dm P w) A (assign target env v) (fun _ s₂=>
     Dl (Dm P w) A (forIn ifs true fun c r=>if r=true then do let ok <-isTrue c env (eval c env);pure (ForInStep.yield ok) else pure (ForInStep.yield r)) (fun ok s₃=>
      if ok=true then Dl (Dm P w) A (eval elt env) (fun x s₄=>
       Dl (Dm P w) A (call (.builtin "list.append") [acc,x]) (fun _ s₅=>∃ m,m<n/\Iv m s₅) (notedBy (Dm P w) A env fun e s'=>R (.error e) s') s₄) (notedBy (Dm P w) A env fun e s'=>R (.error e) s') s₃
      else ∃ m,m<n/\Iv m s₃) (notedBy (Dm P w) A env fun e s'=>R (.error e) s') s₂) (notedBy (Dm P w) A env fun e s'=>R (.error e) s') t₁) (notedBy (Dm P w) A env fun e s'=>R (.error e) s') s₁) (notedBy (Dm P w) A env fun e s'=>R (.error e) s') s)
  (n:Nat) (h:Iv n s):Mh (Dm P w) A (.compLoop (.ListComp elt [⟨target,iter,ifs,0⟩] scope pos) 0 it acc env) R s:=by
 refine codeAny_loop rfl Iv (fun n s hI=>?_) n h;show Dl _ A ((compTurn (.ListComp elt [⟨target,iter,ifs,0⟩] scope pos) 0 it acc env).onRaise (fun x=>do noteFrame x env;theTreesLotGoes x)) _ _ s;refine wpAny_noted ?_;rw [compTurn_list];refine CR<|wpAny_standAt<|CR<|Mj (turn n s hI) (fun r s₁ k₁=>?_) fun _ _ z=>z
 cases r with
 | none=>exact Ds k₁
 | some v=>
  refine CR<|Mj k₁ (fun _ t₁ k₂=>CR<|Mj k₂ (fun _ s₂ k₃=>CR<|Mj k₃ (fun ok s₃ k₄=>?_) fun _ _ z=>z) fun _ _ z=>z) fun _ _ z=>z
  cases ok with
  | false=>exact Ds ⟨rfl,k₄⟩
  | true=>exact CR (CR (Mj k₄ (fun x s₄ k₅=>CR (Mj k₅ (fun _ s₅ k₆=>Ds (Ds ⟨rfl,k₆⟩)) fun _ _ z=>z)) fun _ _ z=>z))
section
variable {X:Cx}{scope:Scope}{x:List Str}{iter tg:Expr}{px pos:Pos}{wi:TI}{tt:TT}{te:TE}{own:V->Hp->List V->Prop}
theorem HS {ajY:List (Addr×Obj)}{Z : St}{s₂ : AP}{H2:Hp}{it:Addr}{fp:List Addr}{tn:Nat->Heap->Prop}{J:It}{Q:VK}{E:Mk->AP->Prop}{RR:Mk->Addr->Xy->AP->Prop}
  (hc:J.cm=true->X.calm=true) (B:gZ X scope x ix) (hg:∀ C s H fp,PG (blk X scope (fW X x ix) C s H fp) tg (O6 x.length own)) (ht:∀ C s H fp,VL (blk X scope (fW X x ix) C s H fp) ifs tt) (he:∀ C s H fp,PE (blk X scope (fW X x ix) C s H fp) elt te)
  (I2:DX X ajY Z H2 s₂) (T:Turn X.prog X.w X.K tg J fp it tn) (st2:tn 0 s₂.heap) (f2:∀ b∈fp,Ej X ajY H2 b) (hq:wLC x.length own ix tt te Z Q J H2)
  (hRR:∀ D C s' Z' H' p',s₂.heap.objs.size<=C->DX (blk X scope (fW X x ix) C s₂ H2 fp) p' Z' H' s'->Q (.ref D) H'->RR (.ref D) C (.ok .next) s') :
  Dl (Dm X.prog X.w) X.A (newList []) (fun acc s₃=>Dl (Dm X.prog X.w) X.A (newFunctionEnv scope X.env.globals (QL scope X.env) [] X.env.qual FX .none (FN X.env)) (fun cenv s₄=>
   Mh (Dm X.prog X.w) X.A (.compStart (.ListComp elt [⟨tg,iter,ifs,0⟩] scope pos) 0 (.ref it) acc { cenv with scope:=relabel scope X.env }) (RR acc cenv.locals) s₄) E s₃) E s₂:=by
 refine Ni<|zaE ?_
 dsimp only;generalize hH2:s₂.heap.push { cls:=.type "list",dict:=FX,data:=.seq ([]:List Mk).toArray }=HH;generalize hh1:pushCells (HH.push { cls:=.type "dict",data:=.dict #[] }) scope.names=h₁;have hns₁ : h₁.Ns HH.objs.size (fun _=>FX):=by
  obtain ⟨o,es,ep,ho,r⟩:=Heap.Ns.new HH (.type "dict");exact ⟨o,es,ep,by rw [<-hh1];exact pushCells_keeps _ _ _ _ ho,r⟩
 have hkeep:∀ b o,HH.get? b=FN o->h₁.get? b=FN o:=fun b o e=>by rw [<-hh1];exact pushCells_keeps _ _ _ _ (G6 _ e)
 have hce:∀ y c,(y,c)∈K8 (HH.objs.size+1) scope.names []->h₁.IsCell c FX:=fun y c e=>by
  rw [<-hh1];exact (ait (h:=HH.push { cls:=.type "dict",data:=.dict #[] }) (by rw [Oh];exact e)).1
 have hC:HH.objs.size=s₂.heap.objs.size+1:=by rw [<-hH2,Oh]
 have hDC:s₂.heap.objs.size≠HH.objs.size:=by rw [hC];exact HX (Xn _)
 have hCle:s₂.heap.objs.size<=HH.objs.size:=by rw [hC];exact Tp _
 have old:∀ b o,s₂.heap.get? b=FN o->h₁.get? b=FN o:=fun b o e=>hkeep b o (hH2 ▸ G6 _ e)
 have hacc:h₁.get? s₂.heap.objs.size=FN { cls:=.type "list",data:=.seq #[] }:=hkeep _ _ (hH2 ▸ Hw _ rfl);have hob:∀ b∈fp,∃ o,s₂.heap.get? b=FN o:=fun b hb=>let ⟨o,e,_⟩:=T.obj 0 _ st2 b hb;⟨o,e⟩
 have ok:=agi (C:=HH.objs.size) I2 B hCle f2 hob;obtain ⟨W,⟨m0,w0⟩,turn⟩:=hq s₂.heap.objs.size (I2.hok.fresh (Ea _))
 -- the iterator's records, in the block
 have stat:∀ {H':Hp},(∀ b∈fp,H' b=FX)->∀ b∈fp,Ej (blk X scope (fW X x ix) HH.objs.size s₂ H2 fp) [] H' b:=fun {H'} hn b hb=>by
  obtain ⟨o,e⟩:=hob b hb;obtain ⟨_,g1,g2,g3,g4,g5⟩:=f2 b hb;refine ⟨hn b hb,HX<|Hl (Fj e) hCle,fun z=>?_,.inl hb,fun y c h=>?_,fun p hp=>absurd (show p∈([]:List (Addr×Obj)) from hp)<|by simp⟩
  ·rcases J1.mp (I2.stkSub b z) with q | q
   ·exact g1 q
   ·exact g2 q
  ·rcases mZ I2 B h with q | q
   ·exact g4 y c q
   ·intro z;rw [z] at q;exact absurd (Hl (Fj e)<|Eb (Eb hCle<|Tp _)<|Hr q)<|Nv _
 have loop:∀ s₃ : AP,s₃ = { s₂ with heap:=h₁ } ->
   Mh (Dm X.prog X.w) X.A (.compLoop (.ListComp elt [⟨tg,iter,ifs,0⟩] scope pos) 0 (.ref it) (.ref s₂.heap.objs.size) (compEnvC scope (K8 (HH.objs.size+1) scope.names (QL scope X.env)) HH.objs.size X.env))
    (RR (.ref s₂.heap.objs.size) HH.objs.size) s₃:=by
  rintro s₃ rfl;have J0:=ahw (fp:=fp) (C:=HH.objs.size) (tk:=s₂.toks) I2 B ok rfl old hacc hns₁ (JD hDC) hCle hce;have fr0:∀ b∈fp,Fb H2 s₂.heap.objs.size (.lst []) b=FX:=fun b hb=>by
   obtain ⟨o,e⟩:=hob b hb;rw [aO (HX (Fj e))];exact (f2 b hb).1
  refine zaA (fun k s'=>∃ i ys H',DX (blk X scope (fW X x ix) HH.objs.size s₂ H2 fp) [] (Gv x.length FX++Eh ix Z) H' s'/\tn i s'.heap/\(∀ b∈fp,H' b=FX)/\H' s₂.heap.objs.size=FN (.lst ys)/\W i k ys H') ?_ m0
   ⟨0,[],_,J0,T.keep 0 _ _ st2 (fun b _ o e=>old b o e),fr0,aY,w0⟩
  rintro n s₄ ⟨i,ys,H4,I4,st4,fr4,hD4,w4⟩;rcases turn i n ys H4 w4 hD4 with ⟨stop,qn⟩ | ⟨go,hz,step⟩
  ·refine Fl (T.done (blk X scope (fW X x ix) HH.objs.size s₂ H2 fp) rfl rfl rfl hc i [] s₄ _ H4 _ I4 (stat fr4) st4 stop) fun r s5 ⟨hr,I5⟩=>?_;subst hr;exact hRR _ _ s5 _ H4 [] hCle I5 qn
  ·refine Fl (T.item (blk X scope (fW X x ix) HH.objs.size s₂ H2 fp) rfl rfl rfl hc i [] s₄ _ H4 _ I4 (stat fr4) st4 go) fun r s5 ⟨u,hr,h5⟩=>?_;subst hr;refine Mj h5 (fun _ s6 ⟨xv,H6,I6,r6,y6,st6,fr6⟩=>?_) fun _ _ z=>z;have I6':=I6.pinned (stat fr6) (T.obj _ _ st6);obtain ⟨vs,hov,hvl,q7⟩:=step xv H6 y6;have fgt:∀ {Z9:St} {H9:Hp} {s9:AP} {p9:List (Addr×Obj)},Z9.length=x.length->DX (blk X scope (fW X x ix) HH.objs.size s₂ H2 fp) p9 (Z9++Eh ix Z) H9 s9->DX (blk X scope (fW X x ix) HH.objs.size s₂ H2 fp) p9 (Gv x.length FX++Eh ix Z) H9 s9:=fun {Z9 H9 s9 p9} hl I9=>
    I9.weak (by simp [hl]) fun k v e=>by
     by_cases hk:k<x.length
     ·rw [RQ (by simpa using hk),W0,if_pos hk] at e;cases e
     ·rw [Ob (by simpa using hk),List.length_replicate] at e;rw [Ob (by rw [hl];lia),hl];exact e
   refine Mj (hg _ _ _ _ _ s6 _ H6 xv u (fun Z9 H9=>Z9=vs.map FN++(Gv x.length (FX:Option V)++Eh ix Z).drop x.length/\H9=H6) I6' r6 ⟨vs,hov,hvl,rfl,rfl⟩) (fun _ s7 ⟨Z7,H7,I7,e7,e8⟩=>?_) fun _ _ z=>z.elim;subst e7 e8;rw [List.drop_left' (by simp)] at I7;have hml:(vs.map FN).length=x.length:=by rw [Ec];exact hvl
   refine Mj (ht _ _ _ _ _ s7 _ H7 _ I7 q7) (fun b s8 ⟨H8,I8,q8⟩=>?_) fun _ _ z=>z.elim;have pinned:∀ {H9:Hp} {s9:AP} {Z9:St},DX (blk X scope (fW X x ix) HH.objs.size s₂ H2 fp) ([]++vW fp s6.heap) Z9 H9 s9->tn (i+1) s9.heap/\∀ b∈fp,H9 b=FX:=fun {H9 s9 Z9} I9=>by
    refine ⟨T.keep _ _ _ st6 fun b hb o e=>(I9.pin (b,o)<|S9 _<|S9 _<|jm hb e).1,fun b hb=>?_⟩;obtain ⟨o,e,d⟩:=T.obj _ _ st6 b hb;exact (I9.pin (b,o)<|S9 _<|S9 _<|jm hb e).2.1
   cases b with
   | false=>
    rw [if_neg Lw] at q8 |-
    obtain ⟨hD8,m',hm,w8⟩:=q8;obtain ⟨t8,f8⟩:=pinned I8;exact ⟨m',hm,i+1,ys,H8,fgt hml I8.unpinned,t8,f8,hD8,w8⟩
   | true=>
    rw [if_pos rfl] at q8 |-
    refine Mj (he _ _ _ _ _ s8 _ H8 _ I8 q8) (fun u9 s9 ⟨v9,H9,I9,r9,hD9,m',hm,w9⟩=>?_) fun _ _ z=>z.elim;refine Mj (vO (X:=blk X scope (fW X x ix) HH.objs.size s₂ H2 fp) _ s9 _ H9 (.ref s₂.heap.objs.size) [v9] _ [u9] (fun _ H'=>H'=Fb H9 s₂.heap.objs.size (.lst<|ys++[v9])) I9 rfl (.cons r9 .nil) ⟨_,ys,v9,rfl,rfl,hD9,hz,rfl⟩) (fun _ s10 ⟨_,H10,I10,_,e10⟩=>?_) fun _ _ z=>z.elim;subst e10;obtain ⟨t10,f10⟩:=pinned I10;exact ⟨m',hm,i+1,ys++[v9],_,fgt hml I10.unpinned,t10,f10,aY,w9⟩
 exact codeAny_compStart_list (loop _ rfl)<|T.self _ 0 _ _ _ (T.keep 0 _ _ st2<|fun b _ o e=>old b o e)<|loop _ rfl
theorem acn (ix:List Nat)(hc:X.calm=true)(B:gZ X scope x ix)(hg:∀ C s H fp,PG (blk X scope (fW X x ix) C s H fp) tg (O6 x.length own))(hi:PI X tg iter wi)(ht:∀ C s H fp,VL (blk X scope (fW X x ix) C s H fp) ifs tt)(he:∀ C s H fp,PE (blk X scope (fW X x ix) C s H fp) elt te)
  (hs:∀ v,V9 iter X.env v=pure v:=by intro _;rfl):PE X (.ListComp elt [⟨tg,iter,ifs,0⟩] scope pos) (tLC x.length own ix wi tt te):=by
 intro ajY s Z H Q I h;rw [eval_ListComp];refine wpAny_comprehension_free (use:=FX) rfl hs (Gm<|uL I B) B.kind (fun y hy hk=>by rw [B.names y hy,hk]) ?_;refine Fl (hi ajY s Z H _ I h) fun v s1 h1=>Fl h1 fun itv s2 h2=>?_;obtain ⟨it,fp,tn,J,H2,e,I2,T,st2,f2,hq⟩:=h2;subst e;refine HS (RR:=fun acc C=>compPost (Dm X.prog X.w) X.A X.xe FX (EP X ajY Z Q) acc C) (fun _=>hc) B hg ht he I2 T st2 f2 hq fun D C s' Z' H' p' hC I' q'=>?_;obtain ⟨m,hn,_⟩:=I'.loc;exact ⟨m,hn,fun h' hs'=>⟨.ref D,H',HJ I2 hC f2 I' hs',rfl,q'⟩⟩
theorem Xz (ix:List Nat){i:Nat}{py spos:Pos}(hN:X.N.Nodup)(hi':X.N[i]?=FN y)(hy:Loc X.env.scope y)(hc:X.calm=true)(B:gZ X scope x ix)(hg:∀ C s H fp,PG (blk X scope (fW X x ix) C s H fp) tg (O6 x.length own))(hi:PI X tg iter wi)
  (ht:∀ C s H fp,VL (blk X scope (fW X x ix) C s H fp) ifs tt) (he:∀ C s H fp,PE (blk X scope (fW X x ix) C s H fp) elt te)
  (hsw:Vh (.ListComp elt [⟨tg,iter,ifs,0⟩] scope pos) (FN (.Name y py)) spos.line X.env=pure true:=by rfl)
  (hf:X.fn y=true\/X.env.scope.names.lookup y=FN .local:=by first | exact .inl rfl | exact .inr rfl | assumption)
  (hs:∀ v,V9 iter X.env v=pure v:=by intro _;rfl):PS X (.Assign [.Name y py] (.ListComp elt [⟨tg,iter,ifs,0⟩] scope pos) spos) (ZW (tLC x.length own ix wi tt te) (Gb i)):=by
 intro ajY s Z H D I h;rw [exec_Assign_Name_used _ _ _ _ hsw];refine CR<|wpAny_standAt<|CR ?_
 show Dl _ X.A (do let _ <-comprehension (.ListComp elt [⟨tg,iter,ifs,0⟩] scope pos) scope X.env _ (newList []) false (eval iter X.env) (FN (assign (.Name y py) X.env))) _ _ s;refine CR<|Mj (wpAny_comprehension_free (use:=FN (assign (.Name y py) X.env)) (Q:=fun _ s'=>SP X ajY D .next s') rfl hs (Gm<|uL I B) B.kind (fun y hy hk=>by rw [B.names y hy,hk]) ?_) (fun _ s' hq=>Ds<|Ds hq) fun _ _ e=>e
 refine Fl (hi ajY s Z H _ I h) fun v s1 h1=>Fl h1 fun itv s2 h2=>?_;obtain ⟨it,fp,tn,J,H2,e,I2,T,st2,f2,hq⟩:=h2;subst e;refine HS (RR:=fun acc C=>compPost (Dm X.prog X.w) X.A X.xe (FN<|assign (.Name y py) X.env) (fun _ s'=>SP X ajY D .next s') acc C) (fun _=>hc) B hg ht he I2 T st2 f2 hq fun D' C s' Z' H' p' hC I' q'=>?_;obtain ⟨m,hn,_⟩:=I'.loc;have I3:DX X ajY Z H' s':=HJ (h':=s'.heap) I2 hC f2 I' (.refl ..);show Dl _ X.A (assign (.Name y py) X.env (.ref D')) _ _ s';have cneC:∀ z c,X.env.cells.lookup z=FN c->c≠C:=fun z c e q=>by
  obtain ⟨v,w⟩:=I2.cell z c e;exact absurd (Hl w.lt (by rw [q];exact hC))<|Nv _
 have lneC:X.env.locals≠C:=HX (Hl I2.lt hC);refine wpAny_assign_Name<|xq (v:=.ref D') I3 hN hi' hy rfl (fun s'' I'' hsb=>?_) hf
 obtain ⟨a,hsb,ha⟩:=hsb;have haC:C≠a:=by
  rcases ha with rfl | ha
  ·exact JD lneC
  ·exact JD<|cneC _ _ ha
 refine ⟨m,hn.sameBut hsb haC,fun h' hs'=>⟨_,H',?_,q'⟩⟩;refine I''.turned (it:=C) (t':=s''.toks) (fun b o hb e=>(hs'.2 b hb).trans e) I'.free (JD lneC) (.inr<|Eb I2.sz hC) cneC<|fun p hp z=>?_
 exact absurd (Hl (Fj (I2.pin p hp).1) (by rw [z];exact hC))<|Nv _
end
def Sm (n:Nat)(i:Int):Prop:=i.natAbs<2^n
theorem Sm.bits {n:Nat}{i:Int}(h:Sm n i):X7 i<=n:=by
 unfold X7;by_cases e:i=0
 ·subst e;exact Jk _
 ·have e':(i==0)=false:=beq_eq_false_iff_ne.mpr e;rw [e'];have h0:i.natAbs≠0:=by lia
  have:=(Nat.log2_lt h0).mpr h
  simp only [SJ,if_false];lia
variable {m : Nat}
theorem Sm.mono {n:Nat}{i:Int}(h:Sm m i)(hmn:m<=n):Sm n i:=Hl h (Ub (by decide) hmn)
theorem Sm.mul {n:Nat}{i j:Int}(h:Sm m i)(h':Sm n j):Sm (m+n) (i*j):=by
 unfold Sm at *;rw [Y4,Vi];by_cases e:j.natAbs=0
 ·rw [e,Nat.mul_zero];exact Nat.mul_pos (Vj<|by decide)<|Vj<|by decide
 ·exact Hl (Nat.mul_lt_mul_of_pos_right h<|Nat.pos_of_ne_zero e)<|Nat.mul_le_mul_left _<|Mv h'
theorem Sm.add {n:Nat}{i j:Int}(h:Sm m i)(h':Sm n j):Sm (max m n+1) (i+j):=by
 have h1:=h.mono (Nat.le_max_left m n);have h2:=h'.mono (YM m n);unfold Sm at *;rw [XO];lia
theorem Sm.neg {n:Nat}{i:Int}(h:Sm n i):Sm n (-i):=by unfold Sm at *;rw [Int.natAbs_neg];exact h
theorem Sm.sub {n:Nat}{i j:Int}(h:Sm m i)(h':Sm n j):Sm (max m n+1) (i - j):=by
 rw [Int.sub_eq_add_neg];exact h.add h'.neg
theorem Sm.zero {n:Nat}:Sm n 0:=Vj (by decide)
theorem jr {n:Nat}{i:Int}(h1:-(2^n:Int)<i)(h2:i<(2^n:Int)):Sm n i:=by
 unfold Sm;have e:((2^n:Nat):Int)=(2:Int)^n:=by simp
 lia
def qX (i j:Int):Prop:=∃ m n,m<=1000000/\n<=1000000/\Sm m i/\Sm n j
theorem qX.ok {i j:Int}(h:qX i j):IntMulOk i j:=by
 obtain ⟨m,n,hm,hn,h1,h2⟩:=h;have e:(2:Nat)^20=1048576:=by decide
 exact .of_bits (by have:=h1.bits;lia) (by have:=h2.bits;lia)
def Aa (_ j:Int):Prop:=j≠0/\∃ n,n<=8000/\Sm n j
theorem agy {n:Nat}{j:Int}(hn:n<=8000)(h:Sm n j):j.natAbs.log2<9000:=by
 by_cases e:j.natAbs=0
 ·rw [e];decide
 ·have:=(Nat.log2_lt e).mpr h
  lia
section
variable {X:Cx}
theorem GD:Jo X (Mi .Mult) (rI qX fun i j=>.int (i*j)):=opI fun _ _ _ _ _ _ _ hc q=>mul_int q hc.ok
theorem aeH:Jo X (Mi .FloorDiv) (rI Aa fun i j=>.int (i.fdiv j)):=opI fun i j _ _ _ _ _ hc q=>by
 obtain ⟨h1,n,hn,h2⟩:=hc;exact floordiv_int h1 q<|.inl<|PyProof.noPylong_of_log2<|agy hn h2
theorem oW:∀ {bs:List Bool} {its:List Mk} {i:Nat} {v:Mk},DY (bs.map V.bl) its->its[i]?=FN v->∃ b,bs[i]?=FN b/\v=.bool b
 | [],_,_,_,.nil,e=>by simp at e
 | b::bs,_,0,_,.cons r _,e=>by simp at e;subst e;exact ⟨b,rfl,r⟩
 | _::bs,_,i+1,v,.cons _ t,e=>by
  obtain ⟨b,h1,h2⟩:=oW (i:=i) (v:=v) t (by simpa using e);exact ⟨b,by simpa using h1,h2⟩
theorem sO:∀ (bs:List Bool),((LC bs.length).all fun i=>(bs[i]?).getD true)=bs.all id:=fun bs=>by
 rw [V3,Wq,Wq];constructor
 ·intro h b hb;obtain ⟨i,hi,rfl⟩:=RD.mp hb;have:=h i (Tz.mpr hi)
  simpa [hi] using this
 ·intro h i hi;have hi':=Tz.mp hi;have:=h bs[i] (TQ hi')
  simpa [hi'] using this
theorem zaN (hc:X.calm=true):d8 X (.builtin "all") (fun xs H Q=>∃ (p:Addr) (bs:List Bool),xs=[.ref p]/\JF X.K H p (bs.map V.bl)/\Q (.bl (bs.all id)) H):=by
 intro ajY s Z H xs us Q I r h;obtain ⟨p,bs,rfl,hS,q⟩:=h;obtain ⟨u,rfl,ru⟩:=vals1 r;cases ru;obtain ⟨its,rv,pl,hz⟩:=I.list hS;have ajZ:its.length=bs.length:=by rw [<-rv.length,Ec]
 have hl:=pl.isList;have hlt:p<s.heap.objs.size:=by obtain ⟨_,e,_⟩:=hl;exact Fj e
 refine call_all_walk<|VB hl ?_
 refine ⟨s.heap.objs.size,[s.heap.objs.size,p],[s.heap.objs.size],its.toArray.size,_,_,fun i=>(bs[i]?).getD true,rfl,Walks.list (A:=X.A.in1) (I.ok.hd hc) _ p (HX hlt) its.toArray,
  ⟨⟨_,Hw _ rfl,rfl,rfl⟩,hl.push _⟩,fun i v s' Q' E' hP hQ=>?_,fun h' tk hk=>?_⟩
 ·obtain ⟨b,e,rfl⟩:=oW rv (by simpa using hP);simp only [e,Xp] at hQ;exact VD hQ
 ·have e:((LC its.toArray.size).all fun i=>(bs[i]?).getD true)=bs.all id:=by
   rw [J9,ajZ];exact sO bs
  rw [e];refine ⟨.bl<|bs.all id,H,I.kept (h':=h') (t':=tk)<|fun b x e=>?_,rfl,q⟩;exact hk b x (fun hm=>by rw [K5.mp hm] at e;exact Nv _ (Fj e))<|G6 _ e
def acH (K:Dp)(H:Hp):V->String->Bool->Prop
 | .int _,T,b=>(T = "int"/\b=true)\/(T = "bool"/\b=false)\/(T = "tuple"/\b=false)\/(T = "list"/\b=false)
 | .bl _,T,b=>(T = "int"/\b=true)\/(T = "bool"/\b=true)\/(T = "tuple"/\b=false)\/(T = "list"/\b=false)
 | .str _,T,b=>(T = "int"/\b=false)\/(T = "bool"/\b=false)\/(T = "tuple"/\b=false)\/(T = "list"/\b=false)
 | .non,T,b=>(T = "int"/\b=false)\/(T = "bool"/\b=false)\/(T = "tuple"/\b=false)\/(T = "list"/\b=false)
 | .ref p,T,b=>(∃ xs,Hj K H p xs/\((T = "int"/\b=false)\/(T = "bool"/\b=false)\/(T = "tuple"/\b=true)\/(T = "list"/\b=false))) \/
   (∃ xs,JF K H p xs/\((T = "int"/\b=false)\/(T = "bool"/\b=false)\/(T = "tuple"/\b=false)\/(T = "list"/\b=true)))
 | _,_,_=>False
theorem zbk:d8 X (.builtin "isinstance") (fun xs H Q=>∃ x T b,xs=[x,.ty T]/\acH X.K H x T b/\Q (.bl b) H):=by
 intro ajY s Z H xs us Q I r h;obtain ⟨x,T,b,rfl,hi,q⟩:=h;obtain ⟨u,w',rfl,rx,ru⟩:=vals2 r;cases ru;have k0:EP X ajY Z Q (.bool b) s:=⟨.bl b,H,I,rfl,q⟩
 have k1:EP X ajY Z Q (.bool b) { s with toks:=s.toks+1 }:=⟨.bl b,H,I.tok _,rfl,q⟩
 cases x with
 | int i=>
  obtain ⟨t,rfl⟩:=rx;rcases hi with ⟨rfl,rfl⟩ | ⟨rfl,rfl⟩ | ⟨rfl,rfl⟩ | ⟨rfl,rfl⟩
  ·exact IsiPair.int_int k0
  ·exact IsiPair.int_bool k1
  ·exact IsiPair.int_tuple k1
  ·exact IsiPair.int_list k1
 | bl i=>
  cases rx;rcases hi with ⟨rfl,rfl⟩ | ⟨rfl,rfl⟩ | ⟨rfl,rfl⟩ | ⟨rfl,rfl⟩
  ·first | exact IsiPair.bool_int k0 | exact IsiPair.bool_int k1
  ·first | exact IsiPair.bool_bool k0 | exact IsiPair.bool_bool k1
  ·exact IsiPair.bool_tuple k1
  ·exact IsiPair.bool_list k1
 | str i=>
  obtain ⟨t,rfl⟩:=rx;rcases hi with ⟨rfl,rfl⟩ | ⟨rfl,rfl⟩ | ⟨rfl,rfl⟩ | ⟨rfl,rfl⟩
  ·exact IsiPair.str_int k1
  ·exact IsiPair.str_bool k1
  ·exact IsiPair.str_tuple k1
  ·exact IsiPair.str_list k1
 | non=>
  cases rx;rcases hi with ⟨rfl,rfl⟩ | ⟨rfl,rfl⟩ | ⟨rfl,rfl⟩ | ⟨rfl,rfl⟩
  ·exact IsiPair.NoneType_int k1
  ·exact IsiPair.NoneType_bool k1
  ·exact IsiPair.NoneType_tuple k1
  ·exact IsiPair.NoneType_list k1
 | ref p=>
  cases rx;rcases hi with ⟨xs,hS,hi⟩ | ⟨xs,hS,hi⟩
  ·obtain ⟨its,_,⟨o,e,c,_⟩,_⟩:=I.tuple hS;rcases hi with ⟨rfl,rfl⟩ | ⟨rfl,rfl⟩ | ⟨rfl,rfl⟩ | ⟨rfl,rfl⟩
   ·exact IsiPair.tuple_int e c k1
   ·exact IsiPair.tuple_bool e c k1
   ·exact IsiPair.tuple_tuple e c k0
   ·exact IsiPair.tuple_list e c k1
  ·obtain ⟨its,_,pl,_⟩:=I.list hS;obtain ⟨o,e,c,_⟩:=pl.isList;rcases hi with ⟨rfl,rfl⟩ | ⟨rfl,rfl⟩ | ⟨rfl,rfl⟩ | ⟨rfl,rfl⟩
   ·exact IsiPair.list_int e c k1
   ·exact IsiPair.list_bool e c k1
   ·exact IsiPair.list_tuple e c k1
   ·exact IsiPair.list_list e c k0
 | _=>exact (show False from hi).elim
end
inductive W where
 | non | bl (b:Bool) | int (i:Int) | str (x:Str) | ty (n:String) | tup (ws:List W) | lst (ws:List W) | loc (n:Nat) | kls (ws:List W) | exc (n:Str)
 | exa (n:Str) (ws:List W)
 | fnv (f:Addr) (i:Nat)
inductive Cell where
 | lst (ws:List W) | obj (C:Addr) (fs:List (Str×W)) | dct (kvs:List (Key×W))
 | dtt (kvs:List (List Int×W))
structure Gh where
 nx:Nat
 c:Nat->Option Cell
structure Mu where
 f:Nat->Option Addr
 hid:Addr->Prop
def adS (K:Dp)(p:Addr)(xs:List V):Prop:=
 ∃ (o:Obj) (its:Array Mk) (n:Nat),K.lookup p=FN o/\o.cls=.type "list"/\o.dict=FX/\o.data=.seq its n/\its.size<=G7/\DY xs its.toList
def Frz (H:Hp)(μ : Mu)(p:Addr)(xs:List V):Prop:=H p=FN (.lst xs)/\(∀ n,μ.f n≠FN p)/\¬ μ.hid p
def Frk (K:Dp)(H:Hp)(p:Addr)(xs:List V):Prop:=(∃ o,H p=FN (.frz o (.lst xs)))\/adS K p xs
variable {μ : Mu}
theorem Frz.sq {K:Dp}{H:Hp}{p:Addr}{xs:List V}(h:Frz H μ p xs):JF K H p xs:=.inl (.inl h.1)
theorem Frk.sq {K:Dp}{H:Hp}{p:Addr}{xs:List V}(h:Frk K H p xs):JF K H p xs:=by
 rcases h with h | h
 ·exact .inl<|.inr h
 ·exact .inr h
def vmB:List Mk:=[.type "ValueError",.type "Exception",.type "BaseException",.type "object"]
def adY (K:Dp)(C:Addr)(n:Str):Bool:=M7 K Jh n==FN (FN (.ref C))&&PySem.W.typeIn K (.ref C)==FN (.type "type")&&match PySem.W.clsIn K C with
 | some cd=>cd.name==n&&cd.mro.contains (.type "BaseException")
 | none=>false
def aaT (K:Dp)(C:Addr)(n:Str):Bool:=adY K C n&&(match PySem.W.clsIn K C with
 | some cd=>(match cd.mro with
  | [.ref C',.ref R,a,b,c,d]=>C'==C&&[a,b,c,d]==vmB&&M7 K Jh "EaselError"==FN (FN (.ref R))&&(PySem.W.clsIn K R).any (fun c=>c.name==("EaselError" : Str))
  | _=>false)
 | none=>false)&&U3 K (.ref C) "__getattribute__"==FN (FN (.builtin "BaseException.__getattribute__"))&&U3 K (.ref C) "__getattr__"==FN FX&&U3 K (.ref C) "__class__"==FN (FN (.builtin "object.__class__"))&&PySem.W.specialIn K (.builtin "object.__class__") "__get__"==FN (FN (.builtin "getset_descriptor.__get__"))
 && PySem.W.takesIn K (.builtin "object.__class__")==FN true
def acN (n:Str):List Str:=if n = "Apart" then ["word", "places"] else ["at"]
def ac9 (K:Dp)(C:Addr)(n:Str):Bool:=aaT K C n&&PySem.W.hasDictIn K C&&(acN n).all fun f=>U3 K (.ref C) f==FN FX
def Xoa (K:Dp)(o:Obj)(n:Str)(dd:Addr):Prop:=∃ C,o.cls=.ref C/\o.dict=FN dd/\PySem.W.notCls o=true/\ac9 K C n=true
def Xob (K:Dp)(o:Obj)(n:Str):Prop:=∃ C,o.cls=.ref C/\o.dict=FX/\PySem.W.notCls o=true/\aaT K C n=true
mutual
def DP (K:Dp)(H:Hp)(μ : Mu):W->V->Prop
 | .non,v=>v=.non
 | .bl b,v=>v=.bl b
 | .int i,v=>v=.int i
 | .str x,v=>v=.str x
 | .ty n,v=>v=.ty n
 | .tup ws,v=>∃ p xs,v=.ref p/\Hj K H p xs/\aJ K H μ ws xs
 | .lst ws,v=>∃ p xs,v=.ref p/\Frz H μ p xs/\aJ K H μ ws xs
 | .kls ws,v=>∃ p xs,v=.ref p/\Frk K H p xs/\aJ K H μ ws xs
 | .loc n,v=>∃ p,v=.ref p/\μ.f n=FN p
 | .exc n,v=>∃ p o u,v=.ref p/\H p=FN (.frz o u)/\Xob K o n
 | .exa n ws,v=>∃ p o u dd ns xs,v=.ref p/\H p=FN (.frz o u)/\Xoa K o n dd/\H dd=FN (.xd (List.zip ns xs))/\ns=acN n/\ns.length=xs.length/\aJ K H μ ws xs
 | .fnv f _,v=>v=.ref f
def aJ (K:Dp)(H:Hp)(μ : Mu):List W->List V->Prop
 | [],xs=>xs=[]
 | w::ws,xs=>∃ v vs,xs=v::vs/\DP K H μ w v/\aJ K H μ ws vs
end
section
variable {K:Dp}{H H' H1 H2:Hp}{μ' μ1 μ2 : Mu}{h h':Gh}{w:W}{ws:List W}{v:V}{xs:List V}
theorem aJ.len:∀ {ws:List W} {xs:List V},aJ K H μ ws xs->ws.length=xs.length
 | [],xs,h=>by
  have e:xs=[]:=by rw [aJ] at h;exact h
  rw [e];rfl
 | w::ws,xs,h=>by
  rw [aJ] at h;obtain ⟨v,vs,e,_,h⟩:=h;rw [e,K9,K9,aJ.len h]
theorem aJ.get:∀ {ws:List W} {xs:List V} {i:Nat} {w:W},aJ K H μ ws xs->ws[i]?=FN w->∃ v,xs[i]?=FN v/\DP K H μ w v
 | [],_,_,_,_,e=>by simp at e
 | a::ws,xs,0,w,h,e=>by
  rw [aJ] at h;obtain ⟨v,vs,e1,r,_⟩:=h;simp at e;subst e;subst e1;exact ⟨v,rfl,r⟩
 | a::ws,xs,i+1,w,h,e=>by
  rw [aJ] at h;obtain ⟨v,vs,e1,_,h⟩:=h;subst e1;obtain ⟨u,h1,h2⟩:=aJ.get (i:=i) (w:=w) h (by simpa using e);exact ⟨u,by simpa using h1,h2⟩
theorem aJ.nil:aJ K H μ [] []:=by rw [aJ]
theorem aJ.cons (r:DP K H μ w v)(h:aJ K H μ ws xs):aJ K H μ (w::ws) (v::xs):=by
 rw [aJ];exact ⟨v,xs,rfl,r,h⟩
theorem aJ.append:∀ {ws:List W} {xs:List V} {us:List W} {ys:List V},aJ K H μ ws xs->aJ K H μ us ys->aJ K H μ (ws++us) (xs++ys)
 | [],xs,us,ys,h,g=>by
  rw [aJ] at h;subst h;exact g
 | w::ws,xs,us,ys,h,g=>by
  rw [aJ] at h;obtain ⟨v,vs,e,r,h⟩:=h;subst e;exact aJ.cons r<|aJ.append h g
theorem aJ.one (r:DP K H μ w v):aJ K H μ [w] [v]:=aJ.cons r aJ.nil
theorem aJ.set (r:DP K H μ w v):∀ {ws:List W} {xs:List V} (i:Nat),aJ K H μ ws xs->aJ K H μ (ws.set i w) (xs.set i v)
 | [],xs,i,h=>by rw [aJ] at h;subst h;exact aJ.nil
 | a::ws,xs,0,h=>by
  rw [aJ] at h;obtain ⟨u,vs,e,_,h⟩:=h;subst e;exact aJ.cons r h
 | a::ws,xs,i+1,h=>by
  rw [aJ] at h;obtain ⟨u,vs,e,q,h⟩:=h;subst e;exact aJ.cons q<|aJ.set r i h
theorem aJ.take:∀ {ws:List W} {xs:List V} (n:Nat),aJ K H μ ws xs->aJ K H μ (ws.take n) (xs.take n)
 | _,_,0,_=>by simp only [List.take_zero];exact aJ.nil
 | [],xs,n+1,h=>by rw [aJ] at h;subst h;exact aJ.nil
 | a::ws,xs,n+1,h=>by
  rw [aJ] at h;obtain ⟨u,vs,e,q,h⟩:=h;subst e;exact aJ.cons q<|aJ.take n h
theorem aJ.drop:∀ {ws:List W} {xs:List V} (n:Nat),aJ K H μ ws xs->aJ K H μ (ws.drop n) (xs.drop n)
 | _,_,0,h=>h
 | [],xs,n+1,h=>by rw [aJ] at h;subst h;exact aJ.nil
 | a::ws,xs,n+1,h=>by
  rw [aJ] at h;obtain ⟨u,vs,e,q,h⟩:=h;subst e;exact aJ.drop n h
structure Ex0 (K:Dp) (H:Hp) (μ : Mu) (H':Hp) (μ':Mu):Prop where
 t:∀ p xs,Hj K H p xs->Hj K H' p xs
 l:∀ p xs,Frz H μ p xs->Frz H' μ' p xs
 k:∀ p xs,Frk K H p xs->Frk K H' p xs
 m:∀ n p,μ.f n=FN p->μ'.f n=FN p
 x:∀ p o u,H p=FN (.frz o u)->H' p=FN (.frz o u)
 y:∀ p fs,H p=FN (.xd fs)->H' p=FN (.xd fs)
structure Ex (K:Dp) (H:Hp) (μ : Mu) (H':Hp) (μ':Mu):Prop extends Ex0 K H μ H' μ' where
 o:∀ p u,μ.hid p->H p=FN u->μ'.hid p/\H' p=FN u
mutual
theorem DP.ex (e:Ex0 K H μ H' μ'):∀ {w:W} {v:V},DP K H μ w v->DP K H' μ' w v
 | .non,_,h=>by rw [DP] at h |-;exact h
 | .bl _,_,h=>by rw [DP] at h |-;exact h
 | .int _,_,h=>by rw [DP] at h |-;exact h
 | .str _,_,h=>by rw [DP] at h |-;exact h
 | .ty _,_,h=>by rw [DP] at h |-;exact h
 | .tup ws,_,h=>by
  rw [DP] at h |-
  obtain ⟨p,xs,e1,hs,hr⟩:=h;exact ⟨p,xs,e1,e.t _ _ hs,aJ.ex e hr⟩
 | .lst ws,_,h=>by
  rw [DP] at h |-
  obtain ⟨p,xs,e1,hs,hr⟩:=h;exact ⟨p,xs,e1,e.l _ _ hs,aJ.ex e hr⟩
 | .kls ws,_,h=>by
  rw [DP] at h |-
  obtain ⟨p,xs,e1,hs,hr⟩:=h;exact ⟨p,xs,e1,e.k _ _ hs,aJ.ex e hr⟩
 | .loc n,_,h=>by
  rw [DP] at h |-
  obtain ⟨p,e1,hm⟩:=h;exact ⟨p,e1,e.m _ _ hm⟩
 | .exc n,_,h=>by
  rw [DP] at h |-
  obtain ⟨p,o,u,e1,hm,hx⟩:=h;exact ⟨p,o,u,e1,e.x _ _ _ hm,hx⟩
 | .exa n ws,_,h=>by
  rw [DP] at h |-
  obtain ⟨p,o,u,dd,ns,xs,e1,hm,hx,hd,e2,e3,hr⟩:=h;exact ⟨p,o,u,dd,ns,xs,e1,e.x _ _ _ hm,hx,e.y _ _ hd,e2,e3,aJ.ex e hr⟩
 | .fnv _ _,_,h=>by rw [DP] at h |-;exact h
theorem aJ.ex (e:Ex0 K H μ H' μ'):∀ {ws:List W} {xs:List V},aJ K H μ ws xs->aJ K H' μ' ws xs
 | [],_,h=>by rw [aJ] at h |-;exact h
 | w::ws,_,h=>by
  rw [aJ] at h |-
  obtain ⟨v,vs,e1,r,h⟩:=h;exact ⟨v,vs,e1,DP.ex e r,aJ.ex e h⟩
end
structure Ij (K:Dp) (H:Hp) (μ : Mu) (H':Hp) (μ':Mu):Prop where
 r:∀ w v,DP K H μ w v->DP K H' μ' w v
 o:∀ p u,μ.hid p->H p=FN u->μ'.hid p/\H' p=FN u
theorem Ij.refl:Ij K H μ H μ:=⟨fun _ _ h=>h,fun _ _ h g=>⟨h,g⟩⟩
theorem Ij.trans (a:Ij K H μ H1 μ1)(b:Ij K H1 μ1 H2 μ2):Ij K H μ H2 μ2:=
 ⟨fun w v h=>b.r w v (a.r w v h),fun p u h g=>let ⟨h1,g1⟩:=a.o p u h g;b.o p u h1 g1⟩
theorem Ex.ext (e:Ex K H μ H' μ'):Ij K H μ H' μ':=⟨fun _ _ h=>DP.ex e.toEx0 h,e.o⟩
theorem Ij.s (e:Ij K H μ H' μ'):∀ {ws:List W} {xs:List V},aJ K H μ ws xs->aJ K H' μ' ws xs
 | [],_,h=>by rw [aJ] at h |-;exact h
 | w::ws,_,h=>by
  rw [aJ] at h |-
  obtain ⟨v,vs,e1,r,h⟩:=h;exact ⟨v,vs,e1,e.r _ _ r,Ij.s e h⟩
def aaf:Option HO->Prop
 | some (.lst _)=>True
 | some (.dK _)=>True
 | some (.ins _ _ _)=>True
 | some (.ext _)=>True
 | _=>False
def jq {κ : Type}(K:Dp)(H:Hp)(μ : Mu):List (κ×W)->List (κ×V)->Prop:=La fun (p:κ×W) (q:κ×V)=>p.1=q.1/\DP K H μ p.2 q.2
def adz (x:List Int×Addr×Mk):Ru:=⟨reduceHash (Builtin.Tuple.tupleHashOf (x.1.map hashInt)),.ref x.2.1,x.2.2⟩
def zR (a:Addr)(xs:List (List Int×Addr×Mk))(h:Heap):Prop:=xs.length<=G7/\(a==Mx)=false/\(xs.map (·.1)).Nodup/\∃ o es ep,h.get? a=FN o/\o.ExactDict/\o.data=.dict es ep/\es.toList=xs.map adz
def sU (K:Dp)(H:Hp)(μ : Mu)(p:Addr):Cell->Prop
 | .lst ws=>∃ xs,H p=FN (.lst xs)/\aJ K H μ ws xs
 | .obj C fs=>∃ dx fvs,H p=FN (.ins C dx fvs)/\jq K H μ fs fvs
 | .dct kvs=>∃ kvv,H p=FN (.dK kvv)/\jq K H μ kvs kvv
 | .dtt kvs=>∃ xs vs,H p=FN (.ext (zR p xs))/\kvs.map (·.1)=xs.map (·.1)/\DY vs (xs.map (·.2.2))/\aJ K H μ (kvs.map fun x=>W.tup (x.1.map W.int)) (xs.map fun x=>V.ref x.2.1)/\aJ K H μ (kvs.map (·.2)) vs
structure Er (K:Dp) (μ : Mu) (H:Hp) (h:Gh):Prop where
 inj:∀ m n p,μ.f m=FN p->μ.f n=FN p->m=n
 dom:∀ n p,μ.f n=FN p->n<h.nx
 trk:∀ n p,μ.f n=FN p->aaf (H p)
 cel:∀ n c,h.c n=FN c->∃ p,μ.f n=FN p/\sU K H μ p c
 hd:∀ p,μ.hid p->(∃ xs,H p=FN (.lst xs))/\∀ n,μ.f n≠FN p
theorem sU.ext {p:Addr}{c:Cell}(e:Ij K H μ H' μ')(hp:H' p=H p)(x:sU K H μ p c):sU K H' μ' p c:=by
 cases c with
 | lst ws=>obtain ⟨xs,a,b⟩:=x;exact ⟨xs,hp.trans a,e.s b⟩
 | obj C fs=>obtain ⟨dx,fvs,a,b⟩:=x;exact ⟨dx,fvs,hp.trans a,Paired.mapP b fun _ _ z=>⟨z.1,e.r _ _ z.2⟩⟩
 | dct kvs=>obtain ⟨kvv,a,b⟩:=x;exact ⟨kvv,hp.trans a,Paired.mapP b fun _ _ z=>⟨z.1,e.r _ _ z.2⟩⟩
 | dtt kvs=>obtain ⟨xs,vs,a,b,c,d,f⟩:=x;exact ⟨xs,vs,hp.trans a,b,c,e.s d,e.s f⟩
theorem Rd.laid {p q:Addr}{o u:HO}(hp:H p=FX)(r:Rd H q u):Rd (Fb H p o) q u:=by
 have ne:q≠p:=by
  rcases r with r | ⟨_,r⟩
  ·exact aR r hp
  ·exact aR r hp
 unfold Rd;rw [aO ne];exact r
theorem Ex.laid {p:Addr}{o:HO}(hp:H p=FX):Ex K H μ (Fb H p o) μ where
 t:=fun q xs h=>by
  rcases h with h | h
  ·exact .inl<|h.laid hp
  ·exact .inr h
 l:=fun q xs h=>⟨by rw [aO (aR h.1 hp)];exact h.1,h.2⟩
 k:=fun q xs h=>by
  rcases h with ⟨o',h⟩ | h
  ·exact .inl ⟨o',by rw [aO<|aR h hp];exact h⟩
  ·exact .inr h
 m:=fun _ _ h=>h
 x:=fun q o' u e=>by rw [aO (aR e hp)];exact e
 y:=fun q fs e=>by rw [aO (aR e hp)];exact e
 o:=fun q u z e=>⟨z,by rw [aO (aR e hp)];exact e⟩
theorem Er.laid {p:Addr}{o:HO}(R:Er K μ H h)(hp:H p=FX):Er K μ (Fb H p o) h where
 inj:=R.inj
 dom:=R.dom
 trk:=fun n q e=>by
  have:=R.trk n q e
  have ne:q≠p:=fun z=>by subst z;rw [hp] at this;exact this
  rw [aO ne];exact this
 cel:=fun n c e=>by
  obtain ⟨q,e1,x⟩:=R.cel n c e;have:=R.trk n q e1
  have ne:q≠p:=fun z=>by subst z;rw [hp] at this;exact this
  exact ⟨q,e1,x.ext (Ex.laid hp).ext (aO ne)⟩
 hd:=fun q z=>by
  obtain ⟨⟨xs,e⟩,g⟩:=R.hd q z;exact ⟨⟨xs,by rw [aO<|aR e hp];exact e⟩,g⟩
theorem DP.tupNew {p:Addr}(hp:H p=FX)(r:aJ K H μ ws xs):DP K (Fb H p (.tup xs)) μ (.tup ws) (.ref p):=by
 rw [DP];exact ⟨p,xs,rfl,Hj.of aY,(Ex.laid hp).ext.s r⟩
theorem DP.lstNew {p:Addr}(R:Er K μ H h)(hp:H p=FX)(r:aJ K H μ ws xs):DP K (Fb H p (.lst xs)) μ (.lst ws) (.ref p):=by
 rw [DP];refine ⟨p,xs,rfl,⟨aY,fun n e=>?_,fun z=>?_⟩,(Ex.laid hp).ext.s r⟩
 ·have:=R.trk n p e
  rw [hp] at this;exact this
 ·obtain ⟨⟨xs,e⟩,_⟩:=R.hd p z;rw [hp] at e;cases e
def Mu.put (μ : Mu)(n:Nat)(p:Addr):Mu:=⟨fun m=>if m=n then FN p else μ.f m,μ.hid⟩
theorem Mu.put_same {n:Nat}{p:Addr}:(μ.put n p).f n=FN p:=by show (if n=n then FN p else μ.f n)=_;rw [if_pos rfl]
theorem Mu.put_ne {n:Nat}{p:Addr}(e:m≠n):(μ.put n p).f m = μ.f m:=by show (if m=n then FN p else μ.f m)=_;rw [if_neg e]
def Gh.new (h:Gh)(c:Cell):Gh:=⟨h.nx+1,fun m=>if m=h.nx then FN c else h.c m⟩
def Gh.set (h:Gh)(n:Nat)(c:Cell):Gh:=⟨h.nx,fun m=>if m=n then FN c else h.c m⟩
theorem Er.dead (R:Er K μ H h){n:Nat}(hn:h.nx<=n):μ.f n=FX:=by
 cases e:μ.f n with
 | none=>rfl
 | some p=>exact absurd (R.dom n p e) (by lia)
theorem Ex.newCell {p:Addr}{o:HO}(R:Er K μ H h)(hp:H p=FX):Ex K H μ (Fb H p o) (μ.put h.nx p) where
 t:=fun q xs z=>(Ex.laid (μ:=μ) hp).t q xs z
 l:=fun q xs z=>by
  have nq:=aR z.1 hp;refine ⟨by rw [aO nq];exact z.1,fun n e=>?_,z.2.2⟩;by_cases hn:n=h.nx
  ·subst hn;rw [Mu.put_same] at e;exact nq (Gw e).symm
  ·rw [Mu.put_ne hn] at e;exact z.2.1 n e
 k:=fun q xs z=>(Ex.laid (μ:=μ) hp).k q xs z
 m:=fun n q e=>by
  have hn:n≠h.nx:=fun z=>by subst z;rw [R.dead (Ea _)] at e;cases e
  rw [Mu.put_ne hn];exact e
 x:=fun q o' u e=>by rw [aO (aR e hp)];exact e
 y:=fun q fs e=>by rw [aO (aR e hp)];exact e
 o:=fun q u z e=>⟨z,by rw [aO (aR e hp)];exact e⟩
theorem Er.newCell {p:Addr}{o:HO}{c:Cell}(R:Er K μ H h)(hp:H p=FX)(mo:aaf (FN o))(ck:sU K (Fb H p o) (μ.put h.nx p) p c):Er K (μ.put h.nx p) (Fb H p o) (h.new c) where
 inj:=fun m n q em en=>by
  by_cases hm:m=h.nx
  ·by_cases hn:n=h.nx
   ·rw [hm,hn]
   ·rw [hm,Mu.put_same] at em;rw [Mu.put_ne hn] at en;have e:p=q:=Gw em;subst e;have:=R.trk n _ en
    rw [hp] at this;exact this.elim
  ·rw [Mu.put_ne hm] at em;by_cases hn:n=h.nx
   ·rw [hn,Mu.put_same] at en;have e:p=q:=Gw en;subst e;have:=R.trk m _ em
    rw [hp] at this;exact this.elim
   ·rw [Mu.put_ne hn] at en;exact R.inj m n q em en
 dom:=fun n q e=>by
  show n<h.nx+1;by_cases hn:n=h.nx
  ·lia
  ·rw [Mu.put_ne hn] at e;have:=R.dom n q e
   lia
 trk:=fun n q e=>by
  by_cases hn:n=h.nx
  ·rw [hn,Mu.put_same] at e;have e:p=q:=Gw e;subst e;rw [aY];exact mo
  ·rw [Mu.put_ne hn] at e;have:=R.trk n q e
   have ne:q≠p:=fun z=>by subst z;rw [hp] at this;exact this
   rw [aO ne];exact this
 cel:=fun n d e=>by
  have e:(if n=h.nx then FN c else h.c n)=FN d:=e;by_cases hn:n=h.nx
  ·rw [if_pos hn] at e;have e:c=d:=Gw e;subst e;exact ⟨p,by rw [hn,Mu.put_same],ck⟩
  ·rw [if_neg hn] at e;obtain ⟨q,e1,x⟩:=R.cel n d e;have:=R.trk n q e1
   have ne:q≠p:=fun z=>by subst z;rw [hp] at this;exact this
   exact ⟨q,by rw [Mu.put_ne hn];exact e1,x.ext (Ex.newCell R hp).ext (aO ne)⟩
 hd:=fun q z=>by
  obtain ⟨⟨xs,e⟩,g⟩:=R.hd q z;have ne:=aR e hp;refine ⟨⟨xs,by rw [aO ne];exact e⟩,fun n en=>?_⟩;by_cases hn:n=h.nx
  ·rw [hn,Mu.put_same] at en;exact ne (Gw en).symm
  ·rw [Mu.put_ne hn] at en;exact g n en
theorem Rd.kept {p q:Addr}{o u:HO}(mo:aaf (H p))(r:Rd H q u)(hn:q≠p):Rd (Fb H p o) q u:=by
 unfold Rd;rw [aO hn];exact r
theorem Ex.write {n:Nat}{p:Addr}{o:HO}(R:Er K μ H h)(hn:μ.f n=FN p):Ex K H μ (Fb H p o) μ where
 t:=fun q xs z=>by
  rcases z with z | z
  ·refine .inl<|z.kept (R.trk n p hn) fun e=>?_
   subst e;have:=R.trk n q hn
   rcases z with r | ⟨_,r⟩ <;> rw [r] at this <;> exact this
  ·exact .inr z
 l:=fun q xs z=>⟨by rw [aO (fun e=>z.2.1 n (by rw [e];exact hn))];exact z.1,z.2⟩
 k:=fun q xs z=>by
  rcases z with ⟨o',z⟩ | z
  ·refine .inl ⟨o',?_⟩;rw [aO (fun e=>?_)]
   ·exact z
   ·subst e;have:=R.trk n q hn
    rw [z] at this;exact this
  ·exact .inr z
 m:=fun _ _ e=>e
 x:=fun q o' u e=>by
  rw [aO (fun y=>?_)]
  ·exact e
  ·subst y;have:=R.trk n q hn
   rw [e] at this;exact this
 y:=fun q fs e=>by
  rw [aO (fun y=>?_)]
  ·exact e
  ·subst y;have:=R.trk n q hn
   rw [e] at this;exact this
 o:=fun q u z e=>⟨z,by rw [aO (fun y=>(R.hd q z).2 n (by rw [y];exact hn))];exact e⟩
theorem Er.write {n:Nat}{p:Addr}{o:HO}{c:Cell}(R:Er K μ H h)(hn:μ.f n=FN p)(mo:aaf (FN o))(ck:sU K (Fb H p o) μ p c):Er K μ (Fb H p o) (h.set n c) where
 inj:=R.inj
 dom:=R.dom
 trk:=fun m q e=>by
  by_cases z:q=p
  ·subst z;rw [aY];exact mo
  ·rw [aO z];exact R.trk m q e
 cel:=fun m d e=>by
  have e:(if m=n then FN c else h.c m)=FN d:=e;by_cases hm:m=n
  ·rw [if_pos hm] at e;have e:c=d:=Gw e;subst e;exact ⟨p,by rw [hm];exact hn,ck⟩
  ·rw [if_neg hm] at e;obtain ⟨q,e1,x⟩:=R.cel m d e;have ne:q≠p:=fun z=>by subst z;exact hm (R.inj m n q e1 hn)
   exact ⟨q,e1,x.ext (Ex.write R hn).ext (aO ne)⟩
 hd:=fun q z=>by
  obtain ⟨⟨xs,e⟩,g⟩:=R.hd q z;exact ⟨⟨xs,by rw [aO<|fun y=>g n (by rw [y];exact hn)];exact e⟩,g⟩
mutual
def Lo (k:Nat):W->Prop
 | .tup ws=>Jc k ws
 | .lst ws=>Jc k ws
 | .kls ws=>Jc k ws
 | .exa _ ws=>Jc k ws
 | .loc n=>n<k
 | _=>True
def Jc (k:Nat):List W->Prop
 | []=>True
 | w::ws=>Lo k w/\Jc k ws
end
mutual
theorem DP.lo {k:Nat}(hd:∀ n p,μ.f n=FN p->n<k):∀ {w:W} {v:V},DP K H μ w v->Lo k w
 | .non,_,_=>by rw [Lo] <;> first | trivial | (intros;contradiction)
 | .bl _,_,_=>by rw [Lo] <;> first | trivial | (intros;contradiction)
 | .int _,_,_=>by rw [Lo] <;> first | trivial | (intros;contradiction)
 | .str _,_,_=>by rw [Lo] <;> first | trivial | (intros;contradiction)
 | .ty _,_,_=>by rw [Lo] <;> first | trivial | (intros;contradiction)
 | .exc _,_,_=>by rw [Lo] <;> first | trivial | (intros;contradiction)
 | .fnv _ _,_,_=>by rw [Lo] <;> first | trivial | (intros;contradiction)
 | .exa _ ws,_,h=>by
  rw [DP] at h;obtain ⟨_,_,_,_,_,_,_,_,_,_,_,_,hr⟩:=h;rw [Lo];exact aJ.lo hd hr
 | .tup ws,_,h=>by
  rw [DP] at h;obtain ⟨p,xs,_,_,hr⟩:=h;rw [Lo];exact aJ.lo hd hr
 | .lst ws,_,h=>by
  rw [DP] at h;obtain ⟨p,xs,_,_,hr⟩:=h;rw [Lo];exact aJ.lo hd hr
 | .kls ws,_,h=>by
  rw [DP] at h;obtain ⟨p,xs,_,_,hr⟩:=h;rw [Lo];exact aJ.lo hd hr
 | .loc n,_,h=>by
  rw [DP] at h;obtain ⟨p,_,hm⟩:=h;rw [Lo];exact hd n p hm
theorem aJ.lo {k:Nat}(hd:∀ n p,μ.f n=FN p->n<k):∀ {ws:List W} {xs:List V},aJ K H μ ws xs->Jc k ws
 | [],_,_=>by rw [Jc];trivial
 | w::ws,_,h=>by
  rw [aJ] at h;obtain ⟨v,vs,_,r,h⟩:=h;rw [Jc];exact ⟨DP.lo hd r,aJ.lo hd h⟩
end
def Mu.cut (μ : Mu)(k:Nat):Mu:=⟨fun n=>if n<k then μ.f n else FX,μ.hid⟩
theorem Mu.cut_some {k n:Nat}{p:Addr}(e:(μ.cut k).f n=FN p):n<k/\μ.f n=FN p:=by
 have e:(if n<k then μ.f n else FX)=FN p:=e;by_cases hn:n<k
 ·rw [if_pos hn] at e;exact ⟨hn,e⟩
 ·rw [if_neg hn] at e;cases e
mutual
theorem DP.cut {k:Nat}:∀ {w:W} {v:V},DP K H μ w v->Lo k w->DP K H (μ.cut k) w v
 | .non,_,h,_=>by rw [DP] at h |-;exact h
 | .bl _,_,h,_=>by rw [DP] at h |-;exact h
 | .int _,_,h,_=>by rw [DP] at h |-;exact h
 | .str _,_,h,_=>by rw [DP] at h |-;exact h
 | .ty _,_,h,_=>by rw [DP] at h |-;exact h
 | .exc _,_,h,_=>by rw [DP] at h |-;exact h
 | .fnv _ _,_,h,_=>by rw [DP] at h |-;exact h
 | .exa _ ws,_,h,l=>by
  rw [DP] at h |-
  rw [Lo] at l;obtain ⟨p,o,u,dd,ns,xs,e1,hm,hx,hd,e2,e3,hr⟩:=h;exact ⟨p,o,u,dd,ns,xs,e1,hm,hx,hd,e2,e3,aJ.cut hr l⟩
 | .tup ws,_,h,l=>by
  rw [DP] at h |-
  rw [Lo] at l;obtain ⟨p,xs,e1,hs,hr⟩:=h;exact ⟨p,xs,e1,hs,aJ.cut hr l⟩
 | .lst ws,_,h,l=>by
  rw [DP] at h |-
  rw [Lo] at l;obtain ⟨p,xs,e1,hs,hr⟩:=h;exact ⟨p,xs,e1,⟨hs.1,fun n e=>hs.2.1 n (Mu.cut_some e).2,hs.2.2⟩,aJ.cut hr l⟩
 | .kls ws,_,h,l=>by
  rw [DP] at h |-
  rw [Lo] at l;obtain ⟨p,xs,e1,hs,hr⟩:=h;exact ⟨p,xs,e1,hs,aJ.cut hr l⟩
 | .loc n,_,h,l=>by
  rw [DP] at h |-
  rw [Lo] at l;obtain ⟨p,e1,hm⟩:=h;refine ⟨p,e1,?_⟩;show (if n<k then μ.f n else FX)=FN p;rw [if_pos l];exact hm
theorem aJ.cut {k:Nat}:∀ {ws:List W} {xs:List V},aJ K H μ ws xs->Jc k ws->aJ K H (μ.cut k) ws xs
 | [],_,h,_=>by rw [aJ] at h |-;exact h
 | w::ws,_,h,l=>by
  rw [aJ] at h |-
  rw [Jc] at l;obtain ⟨v,vs,e1,r,h⟩:=h;exact ⟨v,vs,e1,DP.cut r l.1,aJ.cut h l.2⟩
end
end
variable {ws : List W}{μ' : Mu}
section
variable {K:Dp}{H H' H1 H2:Hp}{μ1 μ2 : Mu}{h h':Gh}{w:W}{v:V}{xs ys:List V}{p:Addr}
def Mu.hide (μ : Mu)(p:Addr):Mu:=⟨μ.f,fun q=>q=p\/μ.hid q⟩
def Mu.unhide (μ : Mu)(p:Addr):Mu:=⟨μ.f,fun q=>q≠p/\μ.hid q⟩
structure KR (p:Addr) (K:Dp) (H:Hp) (μ : Mu) (H':Hp) (μ':Mu):Prop where
 r:∀ w v,DP K H μ w v->DP K H' μ' w v
 o:∀ q u,q≠p->μ.hid q->H q=FN u->μ'.hid q/\H' q=FN u
theorem Ij.x (a:Ij K H μ H1 μ1)(hp:¬ μ.hid p)(b:KR p K H1 μ1 H2 μ2):Ij K H μ H2 μ2:=
 ⟨fun w v z=>b.r w v (a.r w v z),fun q u z e=>let ⟨z1,e1⟩:=a.o q u z e;b.o q u (fun y=>hp (by rw [<-y];exact z)) z1 e1⟩
theorem Ij.hide {o:HO}(hp:H p=FX):Ij K H μ (Fb H p o) (μ.hide p):=Ex.ext {
 t:=fun q xs z=>(Ex.laid (μ:=μ) hp).t q xs z
 l:=fun q xs z=>by
  have nq:=aR z.1 hp;refine ⟨by rw [aO nq];exact z.1,z.2.1,fun y=>?_⟩;rcases y with y | y
  ·exact nq y
  ·exact z.2.2 y
 k:=fun q xs z=>(Ex.laid (μ:=μ) hp).k q xs z
 m:=fun _ _ e=>e
 x:=fun q o' u e=>by rw [aO (aR e hp)];exact e
 y:=fun q fs e=>by rw [aO (aR e hp)];exact e
 o:=fun q u z e=>⟨.inr z,by rw [aO (aR e hp)];exact e⟩ }
theorem Er.nohid (R:Er K μ H h)(hp:H p=FX):¬ μ.hid p:=fun z=>by
 obtain ⟨⟨xs,e⟩,_⟩:=R.hd p z;rw [hp] at e;cases e
theorem Er.hide (R:Er K μ H h)(hp:H p=FX):Er K (μ.hide p) (Fb H p (.lst xs)) h where
 inj:=R.inj
 dom:=R.dom
 trk:=(R.laid hp).trk
 cel:=fun n c e=>by
  obtain ⟨q,e1,x⟩:=R.cel n c e;have:=R.trk n q e1
  have ne:q≠p:=fun z=>by subst z;rw [hp] at this;exact this
  exact ⟨q,e1,x.ext (Ij.hide hp)<|aO ne⟩
 hd:=fun q z=>by
  rcases z with z | z
  ·subst z;refine ⟨⟨xs,aY⟩,fun n e=>?_⟩;have:=R.trk n q e
   rw [hp] at this;exact this
  ·exact (R.laid (o:=.lst xs) hp).hd q z
theorem Ex0.grow (R:Er K μ H h)(hp:μ.hid p):Ex0 K H μ (Fb H p (.lst ys)) μ where
 t:=fun q xs z=>by
  rcases z with z | z
  ·refine .inl ?_;unfold Rd;rw [aO (fun y=>?_)]
   ·exact z
   ·subst y;obtain ⟨⟨xs',e⟩,_⟩:=R.hd q hp;rcases z with r | ⟨_,r⟩ <;> rw [e] at r <;> cases r
  ·exact .inr z
 l:=fun q xs z=>⟨by rw [aO (fun y=>z.2.2 (by rw [y];exact hp))];exact z.1,z.2⟩
 k:=fun q xs z=>by
  rcases z with ⟨o',z⟩ | z
  ·refine .inl ⟨o',?_⟩;rw [aO (fun y=>?_)]
   ·exact z
   ·subst y;obtain ⟨⟨xs',e⟩,_⟩:=R.hd q hp;rw [e] at z;cases z
  ·exact .inr z
 m:=fun _ _ e=>e
 x:=fun q o' u e=>by
  rw [aO (fun y=>?_)]
  ·exact e
  ·subst y;obtain ⟨⟨xs',e'⟩,_⟩:=R.hd q hp;rw [e'] at e;cases e
 y:=fun q fs e=>by
  rw [aO (fun y=>?_)]
  ·exact e
  ·subst y;obtain ⟨⟨xs',e'⟩,_⟩:=R.hd q hp;rw [e'] at e;cases e
theorem KR.grow (R:Er K μ H h)(hp:μ.hid p):KR p K H μ (Fb H p (.lst ys)) μ:=
 ⟨fun _ _ z=>DP.ex (Ex0.grow R hp) z,fun q u ne z e=>⟨z,by rw [aO ne];exact e⟩⟩
theorem Er.grow (R:Er K μ H h)(hp:μ.hid p):Er K μ (Fb H p (.lst ys)) h where
 inj:=R.inj
 dom:=R.dom
 trk:=fun n q e=>by
  have ne:q≠p:=fun z=>(R.hd p hp).2 n (by rw [<-z];exact e)
  rw [aO ne];exact R.trk n q e
 cel:=fun n c e=>by
  obtain ⟨q,e1,x⟩:=R.cel n c e;have ne:q≠p:=fun z=>(R.hd p hp).2 n (by rw [<-z];exact e1)
  refine ⟨q,e1,?_⟩;cases c with
  | lst ws=>obtain ⟨xs,a,b⟩:=x;exact ⟨xs,(aO ne).trans a,aJ.ex (Ex0.grow R hp) b⟩
  | obj C fs=>obtain ⟨dx,fvs,a,b⟩:=x;exact ⟨dx,fvs,(aO ne).trans a,Paired.mapP b fun _ _ z=>⟨z.1,DP.ex (Ex0.grow R hp) z.2⟩⟩
  | dct kvs=>obtain ⟨kvv,a,b⟩:=x;exact ⟨kvv,(aO ne).trans a,Paired.mapP b fun _ _ z=>⟨z.1,DP.ex (Ex0.grow R hp) z.2⟩⟩
  | dtt kvs=>obtain ⟨xs,vs,a,b,c,d,f⟩:=x;exact ⟨xs,vs,(aO ne).trans a,b,c,aJ.ex (Ex0.grow R hp) d,aJ.ex (Ex0.grow R hp) f⟩
 hd:=fun q z=>by
  by_cases e:q=p
  ·subst e;exact ⟨⟨ys,aY⟩,(R.hd q hp).2⟩
  ·rw [aO e];exact R.hd q z
theorem Ex0.unhide:Ex0 K H μ H (μ.unhide p) where
 t:=fun _ _ z=>z
 l:=fun q xs z=>⟨z.1,z.2.1,fun y=>z.2.2 y.2⟩
 k:=fun _ _ z=>z
 m:=fun _ _ e=>e
 x:=fun _ _ _ e=>e
 y:=fun _ _ e=>e
theorem KR.unhide:KR p K H μ H (μ.unhide p):=⟨fun _ _ z=>DP.ex Ex0.unhide z,fun q u ne z e=>⟨⟨ne,z⟩,e⟩⟩
theorem Er.unhide (R:Er K μ H h):Er K (μ.unhide p) H h where
 inj:=R.inj
 dom:=R.dom
 trk:=R.trk
 cel:=fun n c e=>by
  obtain ⟨q,e1,x⟩:=R.cel n c e;refine ⟨q,e1,?_⟩;cases c with
  | lst ws=>obtain ⟨xs,a,b⟩:=x;exact ⟨xs,a,aJ.ex Ex0.unhide b⟩
  | obj C fs=>obtain ⟨dx,fvs,a,b⟩:=x;exact ⟨dx,fvs,a,Paired.mapP b fun _ _ z=>⟨z.1,DP.ex Ex0.unhide z.2⟩⟩
  | dct kvs=>obtain ⟨kvv,a,b⟩:=x;exact ⟨kvv,a,Paired.mapP b fun _ _ z=>⟨z.1,DP.ex Ex0.unhide z.2⟩⟩
  | dtt kvs=>obtain ⟨xs,vs,a,b,c,d,f⟩:=x;exact ⟨xs,vs,a,b,c,aJ.ex Ex0.unhide d,aJ.ex Ex0.unhide f⟩
 hd:=fun q z=>R.hd q z.2
theorem DP.built (R:Er K μ H h)(hp:μ.hid p)(e:H p=FN (.lst xs))(r:aJ K H μ ws xs):DP K H (μ.unhide p) (.lst ws) (.ref p):=by
 rw [DP];exact ⟨p,xs,rfl,⟨e,(R.hd p hp).2,fun z=>z.1 rfl⟩,aJ.ex Ex0.unhide r⟩
end
abbrev Sw:=List (Option W)
abbrev WK:=W->Gh->Prop
abbrev ME:=Sw->Gh->WK->Prop
abbrev MT:=Sw->Gh->(Bool->Gh->Prop)->Prop
abbrev MA:=Sw->Gh->(List W->Gh->Prop)->Prop
structure bK where
 nx:Sw->Gh->Prop
 rt:WK
 bk:Sw->Gh->Prop:=fun _ _=>False
 ct:Sw->Gh->Prop:=fun _ _=>False
abbrev MS:=bK->Sw->Gh->Prop
abbrev MG:=W->Sw->Gh->(Sw->Gh->Prop)->Prop
abbrev RX:=List W->Sw->Gh->(Sw->Gh->Prop)->Prop
structure Xw where
 cls:Str
 fs:List (Str×W)
abbrev FQ:=Xw->Gh->Prop
abbrev Dr:=List W->Gh->WK->FQ->Prop
def EF:FQ:=fun _ _=>False
structure Slots (K:Dp) (H:Hp) (μ : Mu) (Zw:Sw) (Z : St):Prop where
 len:Zw.length = Z.length
 get:∀ (i:Nat) (w:W),Zw[i]?=FN (FN w)->∃ v,Z[i]?=FN (FN v)/\DP K H μ w v
inductive DQ (K:Dp) (H:Hp) (μ : Mu) (Q:WK) (v:V) (H':Hp):Prop where
 | mk (μ':Mu) (w:W) (h':Gh) (e:Ij K H μ H' μ') (R:Er K μ' H' h') (r:DP K H' μ' w v) (q:Q w h'):DQ K H μ Q v H'
inductive DB (K:Dp) (H:Hp) (μ : Mu) (Q:Bool->Gh->Prop) (b:Bool) (H':Hp):Prop where
 | mk (μ':Mu) (h':Gh) (e:Ij K H μ H' μ') (R:Er K μ' H' h') (q:Q b h'):DB K H μ Q b H'
inductive DA (K:Dp) (H:Hp) (μ : Mu) (Q:List W->Gh->Prop) (vs:List V) (H':Hp):Prop where
 | mk (μ':Mu) (ws:List W) (h':Gh) (e:Ij K H μ H' μ') (R:Er K μ' H' h') (r:aJ K H' μ' ws vs) (q:Q ws h'):DA K H μ Q vs H'
inductive DN (K:Dp) (H:Hp) (μ : Mu) (N:Sw->Gh->Prop) (Z':St) (H':Hp):Prop where
 | mk (μ':Mu) (Zw':Sw) (h':Gh) (e:Ij K H μ H' μ') (R:Er K μ' H' h') (S:Slots K H' μ' Zw' Z') (q:N Zw' h'):DN K H μ N Z' H'
section
variable {K:Dp}{H H' H1 H2:Hp}{μ1 μ2 : Mu}{h h' h1:Gh}{w:W}{v:V}{Z : St}{Zw:Sw}
theorem Slots.ext (S:Slots K H μ Zw Z)(e:Ij K H μ H' μ'):Slots K H' μ' Zw Z:=⟨S.len,fun i w q=>let ⟨v,a,b⟩:=S.get i w q;⟨v,a,e.r _ _ b⟩⟩
theorem Slots.set (S:Slots K H μ Zw Z)(r:DP K H μ w v)(i:Nat):Slots K H μ (Zw.set i (FN w)) (Z.set i (FN v)):=by
 refine ⟨by rw [Wn,Wn,S.len],fun j u q=>?_⟩;rw [List.getElem?_set] at q |-
 by_cases hij:i=j
 ·rw [if_pos hij] at q |-
  by_cases hl:i < Zw.length
  ·rw [if_pos hl] at q;rw [if_pos (by rw [<-S.len];exact hl)];have e:w=u:=by injection q with q;injection q
   subst e;exact ⟨v,rfl,r⟩
  ·rw [if_neg hl] at q;cases q
 ·rw [if_neg hij] at q |-
  exact S.get j u q
theorem DQ.trans {Q:WK}(e:Ij K H μ H1 μ1)(q:DQ K H1 μ1 Q v H'):DQ K H μ Q v H':=let ⟨μ',w,h',a,b,c,d⟩:=q;⟨μ',w,h',e.trans a,b,c,d⟩
theorem DB.trans {Q:Bool->Gh->Prop}{b:Bool}(e:Ij K H μ H1 μ1)(q:DB K H1 μ1 Q b H'):DB K H μ Q b H':=let ⟨μ',h',a,b,c⟩:=q;⟨μ',h',e.trans a,b,c⟩
theorem DN.trans {N:Sw->Gh->Prop}{Z':St}(e:Ij K H μ H1 μ1)(q:DN K H1 μ1 N Z' H'):DN K H μ N Z' H':=let ⟨μ',w,h',a,b,c,d⟩:=q;⟨μ',w,h',e.trans a,b,c,d⟩
end
inductive tD (K:Dp) (m:ME) (Z : St) (H:Hp) (Q:VK):Prop where
 | mk (μ : Mu) (h:Gh) (Zw:Sw) (Qw:WK) (R:Er K μ H h) (S:Slots K H μ Zw Z) (x:m Zw h Qw) (k:∀ v H',DQ K H μ Qw v H'->Q v H'):tD K m Z H Q
inductive tDT (K:Dp) (m:MT) (Z : St) (H:Hp) (Q:Bool->Hp->Prop):Prop where
 | mk (μ : Mu) (h:Gh) (Zw:Sw) (Qw:Bool->Gh->Prop) (R:Er K μ H h) (S:Slots K H μ Zw Z) (x:m Zw h Qw) (k:∀ b H',DB K H μ Qw b H'->Q b H'):tDT K m Z H Q
inductive tDA (K:Dp) (m:MA) (Z : St) (H:Hp) (Q:List V->Hp->Prop):Prop where
 | mk (μ : Mu) (h:Gh) (Zw:Sw) (Qw:List W->Gh->Prop) (R:Er K μ H h) (S:Slots K H μ Zw Z) (x:m Zw h Qw) (k:∀ vs H',DA K H μ Qw vs H'->Q vs H'):tDA K m Z H Q
inductive tDG (K:Dp) (g:MG) (v:V) (Z : St) (H:Hp) (N:St->Hp->Prop):Prop where
 | mk (μ : Mu) (h:Gh) (Zw:Sw) (w:W) (Nw:Sw->Gh->Prop) (R:Er K μ H h) (S:Slots K H μ Zw Z) (r:DP K H μ w v) (x:g w Zw h Nw) (k:∀ Z' H',DN K H μ Nw Z' H'->N Z' H'):tDG K g v Z H N
inductive ac1 (K:Dp) (g:RX) (vs:List V) (Z : St) (H:Hp) (N:St->Hp->Prop):Prop where
 | mk (μ : Mu) (h:Gh) (Zw:Sw) (ws:List W) (Nw:Sw->Gh->Prop) (R:Er K μ H h) (S:Slots K H μ Zw Z) (r:aJ K H μ ws vs) (x:g ws Zw h Nw) (k:∀ Z' H',DN K H μ Nw Z' H'->N Z' H'):ac1 K g vs Z H N
structure CP (K:Dp) (H:Hp) (μ : Mu) (Dw:bK) (D:Ends):Prop where
 nx:∀ Z' H',DN K H μ Dw.nx Z' H'->D.nx Z' H'
 rt:∀ v H',DQ K H μ Dw.rt v H'->D.rt v H'
 bk:∀ Z' H',DN K H μ Dw.bk Z' H'->D.bk Z' H'
 ct:∀ Z' H',DN K H μ Dw.ct Z' H'->D.ct Z' H'
inductive tDS (K:Dp) (m:MS) (D:Ends) (Z : St) (H:Hp):Prop where
 | mk (μ : Mu) (h:Gh) (Zw:Sw) (Dw:bK) (R:Er K μ H h) (S:Slots K H μ Zw Z) (x:m Dw Zw h) (k:CP K H μ Dw D):tDS K m D Z H
theorem CP.trans {K:Dp}{H H1:Hp}{μ μ1:Mu}{Dw:bK}{D:Ends}(k:CP K H μ Dw D)(e:Ij K H μ H1 μ1):CP K H1 μ1 Dw D:=
 ⟨fun _ _ q=>k.nx _ _ (q.trans e),fun _ _ q=>k.rt _ _ (q.trans e),fun _ _ q=>k.bk _ _ (q.trans e),fun _ _ q=>k.ct _ _ (q.trans e)⟩
section
variable {X:Cx}{e:Expr}{es:List Expr}{st:Stmt}{sts:List Stmt}
theorem PE.of {t t':TE}(h:PE X e t)(k:∀ Z H Q,t' Z H Q->t Z H Q):PE X e t':=fun ajY s Z H Q I q=>h ajY s Z H Q I (k Z H Q q)
theorem PT.of {t t':TT}(h:PT X e t)(k:∀ Z H Q,t' Z H Q->t Z H Q):PT X e t':=fun ajY s Z H Q I q=>h ajY s Z H Q I (k Z H Q q)
theorem PW.of {t t':TT}(h:PW X e t)(k:∀ Z H Q,t' Z H Q->t Z H Q):PW X e t':=fun wh ajY s Z H Q I q=>h wh ajY s Z H Q I (k Z H Q q)
theorem PA.of {t t':TA}(h:PA X es t)(k:∀ Z H Q,t' Z H Q->t Z H Q):PA X es t':=fun pos ajY s Z H Q I q=>h pos ajY s Z H Q I (k Z H Q q)
theorem PG.of {t t':TG}(h:PG X e t)(k:∀ v Z H Q,t' v Z H Q->t v Z H Q):PG X e t':=fun ajY s Z H v u Q I r q=>h ajY s Z H v u Q I r (k v Z H Q q)
theorem Ug.of {t t':Tc}(h:Ug X es t)(k:∀ v Z H Q,t' v Z H Q->t v Z H Q):Ug X es t':=fun ajY s Z H v u Q I r q=>h ajY s Z H v u Q I r (k v Z H Q q)
theorem PS.of {t t':TS}(h:PS X st t)(k:∀ D Z H,t' D Z H->t D Z H):PS X st t':=fun ajY s Z H D I q=>h ajY s Z H D I (k D Z H q)
theorem Nm.of {t t':TS}(h:Nm X sts t)(k:∀ D Z H,t' D Z H->t D Z H):Nm X sts t':=fun ajY s Z H D I q=>h ajY s Z H D I (k D Z H q)
end
abbrev DE (X:Cx)(e:Expr)(m:ME):Prop:=PE X e (tD X.K m)
abbrev DT (X:Cx)(e:Expr)(m:MT):Prop:=PT X e (tDT X.K m)
abbrev DWt (X:Cx)(e:Expr)(m:MT):Prop:=PW X e (tDT X.K m)
abbrev KZ (X:Cx)(es:List Expr)(m:MA):Prop:=PA X es (tDA X.K m)
abbrev DG (X:Cx)(e:Expr)(m:MG):Prop:=PG X e (tDG X.K m)
abbrev aap (X:Cx)(es:List Expr)(m:RX):Prop:=Ug X es (ac1 X.K m)
abbrev DS (X:Cx)(st:Stmt)(m:MS):Prop:=PS X st (tDS X.K m)
abbrev Rn (X:Cx)(st:List Stmt)(m:MS):Prop:=Nm X st (tDS X.K m)
section
variable {X:Cx}{e a b c:Expr}{ma mb mc:ME}{pos:Pos}
def aB (i:Nat):ME:=fun Z h Q=>match Z[i]? with
 | some (FN w)=>Q w h
 | _=>False
def mC (w:W):ME:=fun _ h Q=>Q w h
theorem dv (i:Nat)(he:PE X e (aa4 i)):DE X e (aB i):=he.of fun Z H Q ⟨μ,h,Zw,Qw,R,S,m,k⟩=>by
 unfold aB at m;cases q:Zw[i]? with
 | none=>rw [q] at m;exact m.elim
 | some o=>
  rw [q] at m;cases o with
  | none=>exact m.elim
  | some w=>
   obtain ⟨v,h1,h2⟩:=S.get i w q;exact ⟨v,h1,k _ _ ⟨μ,w,h,.refl,R,h2,m⟩⟩
theorem dc {w:W}{v:V}(he:PE X e (tC v))(r:∀ H μ,DP X.K H μ w v):DE X e (mC w):=he.of fun Z H Q ⟨μ,h,Zw,Qw,R,S,m,k⟩=>k _ _ ⟨μ,w,h,.refl,R,r H μ,m⟩
theorem aH {i:Int}{j pos}:DE X (.Constant (.int i) j pos) (mC (.int i)):=dc agD fun _ _=>by rw [DP]
theorem BX {i:Bool}{j pos}:DE X (.Constant (.bool i) j pos) (mC (.bl i)):=dc aaX fun _ _=>by rw [DP]
theorem Uj {j pos}:DE X (.Constant .none j pos) (mC .non):=dc ahR fun _ _=>by rw [DP]
theorem eZ {i:Str}{j pos}:DE X (.Constant (.str i) j pos) (mC (.str i)):=dc ahm fun _ _=>by rw [DP]
abbrev M2:=W->W->Gh->WK->Prop
def DR (r:M2)(ma mb:ME):ME:=fun Z h Q=>ma Z h fun x h1=>mb Z h1 fun y h2=>r x y h2 Q
def aao (K:Dp)(r:R2)(mr:M2):Prop:=∀ {H:Hp} {μ : Mu} {h:Gh} {x y:V} {wx wy:W} {Qw:WK} {Q:VK},Er K μ H h->DP K H μ wx x->DP K H μ wy y->mr wx wy h Qw ->
 (∀ v H',DQ K H μ Qw v H'->Q v H')->r x y H Q
theorem two {K:Dp}{Z : St}{H:Hp}{Q:VK}{mr:M2}{R2':V->V->Hp->Prop}(h:tD K (DR mr ma mb) Z H Q)
  (k:∀ {H2:Hp} {μ2:Mu} {h2:Gh} {x y:V} {wx wy:W} {Qw:WK},Er K μ2 H2 h2->DP K H2 μ2 wx x->DP K H2 μ2 wy y->mr wx wy h2 Qw->(∀ v H',DQ K H2 μ2 Qw v H'->Q v H')->R2' x y H2) :
  tD K ma Z H fun x H1=>tD K mb Z H1 fun y H2=>R2' x y H2:=by
 obtain ⟨μ,g,Zw,Qw,R,S,m,q⟩:=h;refine ⟨μ,g,Zw,_,R,S,m,fun x H1 ⟨μ1,wx,h1,e1,R1,r1,m1⟩=>?_⟩;refine ⟨μ1,h1,Zw,_,R1,S.ext e1,m1,fun y H2 ⟨μ2,wy,h2,e2,R2,r2,m2⟩=>?_⟩;exact k R2 (e2.r _ _ r1) r2 m2 fun v H' z=>q _ _<|(z.trans e2).trans e1
def M5 (X:Cx)(f:Mk->Mk->Sem Mk)(mr:M2):Prop:=∃ r,Jo X f r/\aao X.K r mr
theorem cg {op:Operator}{mr:M2}(ho:M5 X (Mi op) mr)(ha:DE X a ma)(hb:DE X b mb):DE X (.BinOp a op b pos) (DR mr ma mb):=by
 obtain ⟨r,o,s⟩:=ho;exact (abV o ha hb).of fun Z H Q h=>two h fun R r1 r2 m k=>s R r1 r2 m k
theorem abd {op:CmpOp}{mr:M2}(ho:M5 X (K3 op) mr)(ha:DE X a ma)(hb:DE X b mb)(hm:Vq op b=false):DE X (.Compare a [op] [b] pos) (DR mr ma mb):=by
 obtain ⟨r,o,s⟩:=ho;exact (zbM o ha hb hm).of fun Z H Q h=>two h fun R r1 r2 m k=>s R r1 r2 m k
def bO (m:ME):MT:=fun Z h Q=>m Z h fun w h1=>match w with
 | .bl c=>Q c h1
 | _=>False
theorem afB {K:Dp}{Z : St}{H:Hp}{m:ME}{Q:Bool->Hp->Prop}(h:tDT K (bO m) Z H Q):tD K m Z H fun x H'=>∃ k,x=.bl k/\Q k H':=by
 obtain ⟨μ,g,Zw,Qw,R,S,mm,q⟩:=h;refine ⟨μ,g,Zw,_,R,S,mm,fun v H' ⟨μ1,w,h1,e1,R1,r1,m1⟩=>?_⟩;cases w with
 | bl c=>rw [DP] at r1;exact ⟨c,r1,q _ _ ⟨μ1,h1,e1,R1,m1⟩⟩
 | _=>exact m1.elim
theorem ahI {op:CmpOp}{mr:M2}(ho:M5 X (K3 op) mr)(ha:DE X a ma)(hb:DE X b mb)(hm:Vq op b=false):DT X (.Compare a [op] [b] pos) (bO (DR mr ma mb)):=by
 obtain ⟨r,o,s⟩:=ho;exact (afC o ha hb hm).of fun Z H Q h=>two (afB h) fun R r1 r2 m k=>s R r1 r2 m k
def Jw (c:Bool)(a b:Prop):Prop:=match c with
 | true=>a
 | false=>b
def br (c:Bool)(a b:Prop):Prop:=(c=true->a)/\(c=false->b)
theorem abT {c:Bool}{a b:Prop}(e:c=true)(x:a):br c a b:=⟨fun _=>x,fun z=>by rw [e] at z;cases z⟩
theorem rH {c:Bool}{a b:Prop}(e:c=false)(x:b):br c a b:=⟨fun z=>(by rw [e] at z;cases z),fun _=>x⟩
theorem pA {c:Prop}[Decidable c]{a b:Prop}(x:c->a)(y:¬ c->b):br (decide c) a b:=⟨fun e=>x (of_decide_eq_true e),fun e=>y (of_decide_eq_false e)⟩
def ZM (t u:MT):MT:=fun Z h Q=>t Z h fun c h1=>br c (u Z h1 Q) (Q false h1)
def Tf (t u:MT):MT:=fun Z h Q=>t Z h fun c h1=>br c (Q true h1) (u Z h1 Q)
def Kz (t:MT):MT:=fun Z h Q=>t Z h fun c h1=>Q (!c) h1
variable {tA tB':MT}{rest:List Expr}
theorem Hf (ha:DT X a tA):DWt X (.BoolOp .And [a] pos) tA:=aeZ ha
theorem oO (ha:DT X a tA):DWt X (.BoolOp .Or [a] pos) tA:=aiw ha
theorem Ik (ha:DT X a tA)(hb:DWt X (.BoolOp .And (b::rest) pos) tB'):DWt X (.BoolOp .And (a::b::rest) pos) (ZM tA tB'):=(Zn ha hb).of fun Z H Q ⟨μ,g,Zw,Qw,R,S,m,q⟩=>by
 refine ⟨μ,g,Zw,_,R,S,m,fun c H1 ⟨μ1,h1,e1,R1,m1⟩=>?_⟩;cases c with
 | true=>
  rw [if_pos rfl];exact ⟨μ1,h1,Zw,_,R1,S.ext e1,m1.1 rfl,fun b H' z=>q _ _<|z.trans e1⟩
 | false=>
  rw [if_neg Lw];exact q _ _ ⟨μ1,h1,e1,R1,m1.2 rfl⟩
theorem yP (ha:DT X a tA)(hb:DWt X (.BoolOp .Or (b::rest) pos) tB'):DWt X (.BoolOp .Or (a::b::rest) pos) (Tf tA tB'):=(ab6 ha hb).of fun Z H Q ⟨μ,g,Zw,Qw,R,S,m,q⟩=>by
 refine ⟨μ,g,Zw,_,R,S,m,fun c H1 ⟨μ1,h1,e1,R1,m1⟩=>?_⟩;cases c with
 | true=>
  rw [if_pos rfl];exact q _ _ ⟨μ1,h1,e1,R1,m1.1 rfl⟩
 | false=>
  rw [if_neg Lw];exact ⟨μ1,h1,Zw,_,R1,S.ext e1,m1.2 rfl,fun b H' z=>q _ _<|z.trans e1⟩
theorem mW (ha:DT X a tA):DT X (.UnaryOp .Not a pos) (Kz tA):=(aiT ha).of fun Z H Q ⟨μ,g,Zw,Qw,R,S,m,q⟩=>
 ⟨μ,g,Zw,_,R,S,m,fun c H1 ⟨μ1,h1,e1,R1,m1⟩=>q _ _ ⟨μ1,h1,e1,R1,m1⟩⟩
def yZ (a b:ME):ME:=fun Z h Q=>a Z h fun x h1=>match x with
 | .bl true=>b Z h1 Q
 | .bl false=>Q (.bl false) h1
 | _=>False
def adq (a b:ME):ME:=fun Z h Q=>a Z h fun x h1=>match x with
 | .bl false=>b Z h1 Q
 | .bl true=>Q (.bl true) h1
 | _=>False
def Uc (a:ME):ME:=fun Z h Q=>a Z h fun x h1=>match x with
 | .bl c=>Q (.bl (!c)) h1
 | _=>False
theorem Lq {op}(h:DE X a ma):DE X (.BoolOp op [a] pos) ma:=ajd h
theorem G4 (ha:DE X a ma)(hb:DE X (.BoolOp .And (b::rest) pos) mb):DE X (.BoolOp .And (a::b::rest) pos) (yZ ma mb):=(ahX ha hb).of fun Z H Q ⟨μ,g,Zw,Qw,R,S,m,q⟩=>by
 refine ⟨μ,g,Zw,_,R,S,m,fun v H1 ⟨μ1,w,h1,e1,R1,r1,m1⟩=>?_⟩;cases w with
 | bl c=>
  rw [DP] at r1;refine ⟨c,r1,?_⟩;cases c with
  | true=>rw [if_pos rfl];exact ⟨μ1,h1,Zw,_,R1,S.ext e1,m1,fun b H' z=>q _ _ (z.trans e1)⟩
  | false=>rw [if_neg Lw];exact q _ _ ⟨μ1,.bl false,h1,e1,R1,by rw [DP],m1⟩
 | _=>exact m1.elim
theorem abu (ha:DE X a ma):DE X (.UnaryOp .Not a pos) (Uc ma):=(aij ha).of fun Z H Q ⟨μ,g,Zw,Qw,R,S,m,q⟩=>by
 refine ⟨μ,g,Zw,_,R,S,m,fun v H1 ⟨μ1,w,h1,e1,R1,r1,m1⟩=>?_⟩;cases w with
 | bl c=>rw [DP] at r1;exact ⟨c,r1,q _ _ ⟨μ1,.bl (!c),h1,e1,R1,by rw [DP],m1⟩⟩
 | _=>exact m1.elim
def mIf (t:MT)(a b:ME):ME:=fun Z h Q=>t Z h fun c h1=>br c (a Z h1 Q) (b Z h1 Q)
theorem abI (hc:DT X c tA)(ha:DE X a ma)(hb:DE X b mb):DE X (.IfExp c a b pos) (mIf tA ma mb):=(afi hc ha hb).of fun Z H Q ⟨μ,g,Zw,Qw,R,S,m,q⟩=>by
 refine ⟨μ,g,Zw,_,R,S,m,fun c H1 ⟨μ1,h1,e1,R1,m1⟩=>?_⟩;cases c with
 | true=>
  rw [if_pos rfl];exact ⟨μ1,h1,Zw,_,R1,S.ext e1,m1.1 rfl,fun b H' z=>q _ _<|z.trans e1⟩
 | false=>
  rw [if_neg Lw];exact ⟨μ1,h1,Zw,_,R1,S.ext e1,m1.2 rfl,fun b H' z=>q _ _<|z.trans e1⟩
def Oe (r:W->Gh->WK->Prop)(a:ME):ME:=fun Z h Q=>a Z h fun x h1=>r x h1 Q
def CZ:W->Gh->WK->Prop:=fun x h Q=>match x with
 | .int i=>Q (.int (-i)) h
 | _=>False
theorem nG (ha:DE X a ma):DE X (.UnaryOp .USub a pos) (Oe CZ ma):=(abB Zc ha).of fun Z H Q ⟨μ,g,Zw,Qw,R,S,m,q⟩=>by
 refine ⟨μ,g,Zw,_,R,S,m,fun v H1 ⟨μ1,w,h1,e1,R1,r1,m1⟩=>?_⟩;cases w with
 | int i=>rw [DP] at r1;exact ⟨i,r1,q _ _ ⟨μ1,.int (-i),h1,e1,R1,by rw [DP],m1⟩⟩
 | _=>exact m1.elim
def aN:MA:=fun _ h Q=>Q [] h
def ao (a:ME)(r:MA):MA:=fun Z h Q=>a Z h fun x h1=>r Z h1 fun xs h2=>Q (x::xs) h2
variable {es:List Expr}{mr:MA}
theorem d7:KZ X [] aN:=ZV.of fun Z H Q ⟨μ,g,Zw,Qw,R,S,m,q⟩=>q _ _ ⟨μ,[],g,.refl,R,.nil,m⟩
theorem agE (ha:DE X e ma)(hr:KZ X es mr)(hs:Eu (e::es) X.env=(false,eval e X.env)::Eu es X.env:=by rfl):KZ X (e::es) (ao ma mr):=(aiD ha hr hs).of fun Z H Q ⟨μ,g,Zw,Qw,R,S,m,q⟩=>by
 refine ⟨μ,g,Zw,_,R,S,m,fun v H1 ⟨μ1,w,h1,e1,R1,r1,m1⟩=>?_⟩;refine ⟨μ1,h1,Zw,_,R1,S.ext e1,m1,fun vs H2 ⟨μ2,ws,h2,e2,R2,r2,m2⟩=>?_⟩;exact q _ _ ⟨μ2,w::ws,h2,e1.trans e2,R2,.cons (e2.r _ _ r1) r2,m2⟩
def fV (n:Nat)(P:Prop):Prop:=Jw (Nat.ble n 1000) P (n<=G7/\P)
theorem fV.ok {n:Nat}{P:Prop}(h:fV n P):n<=G7/\P:=by
 unfold fV at h;cases e:Nat.ble n 1000 with
 | true=>rw [e] at h;exact ⟨Eb (Nat.le_of_ble_eq_true e) (by decide),h⟩
 | false=>rw [e] at h;exact h
theorem fV.mk {n:Nat}{P:Prop}(hn:n<=G7)(h:P):fV n P:=by
 unfold fV;cases e:Nat.ble n 1000 with
 | true=>exact h
 | false=>exact ⟨hn,h⟩
def lO (t:MA):ME:=fun Z h Q=>t Z h fun ws h1=>fV ws.length (Q (.tup ws) h1)
def KJ (t:MA):ME:=fun Z h Q=>t Z h fun ws h1=>fV ws.length (Q (.lst ws) h1)
def mF (t:MA):ME:=fun Z h Q=>t Z h fun ws h1=>fV ws.length (Q (.loc h1.nx) (h1.new (.lst ws)))
theorem fL {x1}(h:KZ X es mr):DE X (.Tuple es x1 pos) (lO mr):=(aio h).of fun Z H Q ⟨μ,g,Zw,Qw,R,S,m,q⟩=>
 ⟨μ,g,Zw,_,R,S,m,fun vs H1 ⟨μ1,ws,h1,e1,R1,r1,sz⟩=>⟨by rw [<-r1.len];exact sz.ok.1,fun p hp=>q _ _ ⟨μ1,.tup ws,h1,e1.trans (Ex.laid hp).ext,R1.laid hp,.tupNew hp r1,sz.ok.2⟩⟩⟩
theorem xO (h:KZ X es mr):DE X (.List es pos) (KJ mr):=(P0 h).of fun Z H Q ⟨μ,g,Zw,Qw,R,S,m,q⟩=>
 ⟨μ,g,Zw,_,R,S,m,fun vs H1 ⟨μ1,ws,h1,e1,R1,r1,sz⟩=>⟨by rw [<-r1.len];exact sz.ok.1,fun p hp=>q _ _ ⟨μ1,.lst ws,h1,e1.trans (Ex.laid hp).ext,R1.laid hp,.lstNew R1 hp r1,sz.ok.2⟩⟩⟩
theorem ahh {K:Dp}{H:Hp}{h:Gh}{p:Addr}{xs:List V}(R:Er K μ H h)(hp:H p=FX)(r:aJ K H μ ws xs):
  Er K (μ.put h.nx p) (Fb H p (.lst xs)) (h.new (.lst ws)):=R.newCell hp trivial ⟨xs,aY,(Ex.newCell R hp).ext.s r⟩
theorem jT (h:KZ X es mr):DE X (.List es pos) (mF mr):=(P0 h).of fun Z H Q ⟨μ,g,Zw,Qw,R,S,m,q⟩=>
 ⟨μ,g,Zw,_,R,S,m,fun vs H1 ⟨μ1,ws,h1,e1,R1,r1,sz⟩=>⟨by rw [<-r1.len];exact sz.ok.1,fun p hp=>q _ _ ⟨μ1.put h1.nx p,.loc h1.nx,h1.new (.lst ws),e1.trans (Ex.newCell R1 hp).ext,ahh R1 hp r1,by rw [DP];exact ⟨p,rfl,Mu.put_same⟩,sz.ok.2⟩⟩⟩
inductive lift (K:Dp) (ms:Dr) (vs:List V) (H:Hp) (Q:VK) (E:XK):Prop where
 | mk (μ : Mu) (h:Gh) (ws:List W) (Qw:WK) (R:Er K μ H h) (r:aJ K H μ ws vs) (x:ms ws h Qw EF) (k:∀ v H',DQ K H μ Qw v H'->Q v H'):lift K ms vs H Q E
def bf (ms:Dr)(E:FQ)(ma:MA):ME:=fun Z h Q=>ma Z h fun ws h1=>ms ws h1 Q E
theorem call_of {K:Dp}{Z : St}{H:Hp}{Q:VK}{E:XK}{ms:Dr}{ma:MA}(h:tD K (bf ms EF ma) Z H Q):W8 (lift K ms) [] E (tDA K ma) Z H Q:=by
 obtain ⟨μ,g,Zw,Qw,R,S,m,q⟩:=h;refine ⟨μ,g,Zw,_,R,S,m,fun vs H1 ⟨μ1,ws,h1,e1,R1,r1,m1⟩=>?_⟩;show lift K ms (vs++[]) H1 Q E;rw [V4];exact ⟨μ1,h1,ws,Qw,R1,r1,m1,fun v H' z=>q _ _<|z.trans e1⟩
theorem agJ {k:Nat}{f:Addr}{fd:N5}{ps:List Str}{ms:Dr}{x:Str}{p:Pos}(F:qO X.prog X.w X.K X.mg X.base Mg k f fd ps (lift X.K ms))(hr:mJ k X.A)(hg:Gl X x)(hm:X.mg x=FN (.ref f))(hk:U7 X.K (.ref f)=true)
  (hb:Binds X.K fd ps []) (ha:KZ X (e::es) mr) (hdb:(x==("__debug__" : Str))=false:=by decide) (he:Eu (e::es) X.env=(false,eval e X.env)::Eu es X.env:=by rfl) (hpl:(JK pos (Eu es X.env)).any (·.1)=false:=by rfl) :
  DE X (.Call (.Name x p) (e::es) [] pos) (bf ms EF mr):=(aiE F hr hg hm hk hb .nil abt ha hdb he hpl).of fun _ _ _ h=>call_of h
def aai (h:Gh)(w:W):Option Bool:=match w with
 | .non=>FN false
 | .bl b=>FN b
 | .int i=>FN (i != 0)
 | .tup ws=>FN (!ws.isEmpty)
 | .lst ws=>FN (!ws.isEmpty)
 | .kls ws=>FN (!ws.isEmpty)
 | .loc n=>(match h.c n with
  | some (.lst ws)=>FN (!ws.isEmpty)
  | _=>FX)
 | _=>FX
def yu (m:ME):MT:=fun Z h Q=>m Z h fun w h1=>match aai h1 w with
 | some b=>Q b h1
 | none=>False
theorem aJ.emp {K:Dp}{H:Hp}{xs:List V}(r:aJ K H μ ws xs):ws.isEmpty=xs.isEmpty:=by
 have:=r.len
 cases ws <;> cases xs <;> first | rfl | cases this
theorem fY (he:DE X e ma)(h:∀ whole,isTrue e X.env whole=(do let v <-whole;standAt e.pos;Rr [v] (truthy v)):=by intro _;rfl):DT X e (yu ma):=(Ba he h).of fun Z H Q ⟨μ,g,Zw,Qw,R,S,m,q⟩=>by
 refine ⟨μ,g,Zw,_,R,S,m,fun v H1 ⟨μ1,w,h1,e1,R1,r1,m1⟩=>?_⟩;split at m1
 ·rename_i b eb;refine ⟨b,?_,q _ _ ⟨μ1,h1,e1,R1,m1⟩⟩;cases w with
  | non=>rw [DP] at r1;subst r1;cases eb;rfl
  | bl c=>rw [DP] at r1;subst r1;cases eb;rfl
  | int c=>rw [DP] at r1;subst r1;cases eb;rfl
  | tup ws=>
   rw [DP] at r1;obtain ⟨p,xs,ev,hs,rs⟩:=r1;subst ev;cases eb;exact .inr<|.inl ⟨xs,hs,by rw [rs.emp]⟩
  | lst ws=>
   rw [DP] at r1;obtain ⟨p,xs,ev,hs,rs⟩:=r1;subst ev;cases eb;exact .inl ⟨xs,hs.sq,by rw [rs.emp]⟩
  | kls ws=>
   rw [DP] at r1;obtain ⟨p,xs,ev,hs,rs⟩:=r1;subst ev;cases eb;exact .inl ⟨xs,hs.sq,by rw [rs.emp]⟩
  | loc n=>
   rw [DP] at r1;obtain ⟨p,ev,hm⟩:=r1;subst ev;unfold aai at eb;dsimp only at eb;cases ec:h1.c n with
   | none=>rw [ec] at eb;cases eb
   | some cl=>
    rw [ec] at eb;cases cl with
    | lst ws=>
     cases eb;obtain ⟨p',hm',xs,hx,rs⟩:=R1.cel n _ ec;have ep:p'=p:=by rw [hm] at hm';exact (Gw hm').symm
     subst ep;exact .inl ⟨xs,.of hx,by rw [rs.emp]⟩
    | _=>cases eb
  | _=>cases eb
 ·exact m1.elim
abbrev MC:=List W->Gh->WK->Prop
def Hu (r:MC)(ma:MA):ME:=fun Z h Q=>ma Z h fun ws h1=>r ws h1 Q
def aa5 (K:Dp)(r:List V->Hp->VK->Prop)(mr:MC):Prop:=∀ {H:Hp} {μ : Mu} {h:Gh} {vs:List V} {ws:List W} {Qw:WK} {Q:VK},Er K μ H h->aJ K H μ ws vs->mr ws h Qw->(∀ v H',DQ K H μ Qw v H'->Q v H')->r vs H Q
def eY (X:Cx)(f:Mk)(mr:MC):Prop:=∃ r,d8 X f r/\aa5 X.K r mr
theorem Vk {K:Dp}{Z : St}{H:Hp}{Q:VK}{r:List V->Hp->VK->Prop}{mc:MC}{ma:MA}(s:aa5 K r mc)(h:tD K (Hu mc ma) Z H Q):tCB r (tDA K ma) Z H Q:=by
 obtain ⟨μ,g,Zw,Qw,R,S,m,q⟩:=h;exact ⟨μ,g,Zw,_,R,S,m,fun vs H1 ⟨μ1,ws,h1,e1,R1,r1,m1⟩=>s R1 r1 m1 fun v H' z=>q _ _<|z.trans e1⟩
theorem zbQ {x:Str}{p:Pos}{id:String}{mc:MC}(hc:eY X (.builtin id) mc)(hg:Gl X x)(hm:X.mg x=FX)(hv:S6 x=FN (.builtin id))(ha:KZ X (e::es) mr)(hn:x ≠ "__name__":=by decide)(hdb:(x==("__debug__" : Str))=false:=by decide)
  (he:Eu (e::es) X.env=(false,eval e X.env)::Eu es X.env:=by rfl) (hpl:(JK pos (Eu es X.env)).any (·.1)=false:=by rfl):DE X (.Call (.Name x p) (e::es) [] pos) (Hu mc mr):=by
 obtain ⟨r,c,s⟩:=hc;exact (afd c hg hm hv ha hn hdb he hpl).of fun _ _ _ h=>Vk s h
theorem ahe {x:Str}{p:Pos}{T:String}{mc:MC}(hc:eY X (.type T) mc)(hg:Gl X x)(hm:X.mg x=FX)(hv:S6 x=FN (.type T))(ha:KZ X (e::es) mr)(hn:x ≠ "__name__":=by decide)(hdb:(x==("__debug__" : Str))=false:=by decide)
  (he:Eu (e::es) X.env=(false,eval e X.env)::Eu es X.env:=by rfl) (hpl:(JK pos (Eu es X.env)).any (·.1)=false:=by rfl):DE X (.Call (.Name x p) (e::es) [] pos) (Hu mc mr):=by
 obtain ⟨r,c,s⟩:=hc;exact (zaG c hg hm hv ha hn hdb he hpl).of fun _ _ _ h=>Vk s h
end
variable {mr : MA}{ma mb : ME}{ms : Dr}{c : Prop}
section
variable {X:Cx}{e a b c tg:Expr}{mc:ME}{pos:Pos}{es:List Expr}
def kI (i:Nat):MG:=fun w Z h N=>N (Z.set i (FN w)) h
theorem agn {i:Nat}(hg:PG X e (Gb i)):DG X e (kI i):=hg.of fun v Z H N ⟨μ,h,Zw,w,Nw,R,S,r,m,k⟩=>k _ _ ⟨μ,Zw.set i (FN w),h,.refl,R,S.set r i,m⟩
def zE:RX:=fun ws Z h N=>match ws with
 | []=>N Z h
 | _=>False
def cT (g:MG)(r:RX):RX:=fun ws Z h N=>match ws with
 | w::ws'=>g w Z h fun Z1 h1=>r ws' Z1 h1 N
 | []=>False
theorem dR:aap X [] zE:=Iz.of fun vs Z H N ⟨μ,h,Zw,ws,Nw,R,S,r,m,k⟩=>by
 cases ws with
 | nil=>rw [aJ] at r;exact ⟨r,k _ _ ⟨μ,Zw,h,.refl,R,S,m⟩⟩
 | cons w ws=>exact m.elim
theorem aX {g:MG}{u:RX}(h1:DG X e g)(h2:aap X es u)(hs:(M6 (e::es) X.env).map (·.2)=assign e X.env::(M6 es X.env).map (·.2):=by rfl):aap X (e::es) (cT g u):=(uR h1 h2 hs).of fun vs Z H N ⟨μ,h,Zw,ws,Nw,R,S,r,m,k⟩=>by
 cases ws with
 | nil=>exact m.elim
 | cons w ws=>
  rw [aJ] at r;obtain ⟨v,vr,ev,r1,r2⟩:=r;refine ⟨v,vr,ev,μ,h,Zw,w,_,R,S,r1,m,fun Z1 H1 ⟨μ1,Zw1,h1,e1,R1,S1,m1⟩=>?_⟩;exact ⟨μ1,h1,Zw1,ws,_,R1,S1,e1.s r2,m1,fun Z2 H2 z=>k _ _<|z.trans e1⟩
def acW (n:Nat)(g:RX):MG:=fun w Z h N=>match w with
 | .tup ws=>Jw (Ly ws.length n) (g ws Z h N) False
 | _=>False
abbrev Vy:=W->W->W->Gh->(Gh->Prop)->Prop
def Aw (K:Dp)(t:UG)(ms:Vy):Prop:=∀ {H:Hp} {μ : Mu} {h:Gh} {o i v:V} {wo wi w:W} {Nw:Gh->Prop} {N:Hp->Prop},Er K μ H h->DP K H μ wo o->DP K H μ wi i->DP K H μ w v->ms wo wi w h Nw ->
 (∀ H',(∃ μ' h',Ij K H μ H' μ'/\Er K μ' H' h'/\Nw h')->N H')->t o i v H N
def Ql (mo mi:ME)(ms:Vy):MG:=fun w Z h N=>mo Z h fun o h1=>mi Z h1 fun i h2=>ms o i w h2 fun h3=>N Z h3
theorem rQ {o i:Expr}{mo mi:ME}{t:UG}{ms:Vy}(ho:DE X o mo)(hi:DE X i mi)(hs:Wb X t)(hm:Aw X.K t ms)
  (ha:∀ v,assign (.Subscript o i pos) X.env v=(do
   let ov <-Rr [v] (eval o X.env)
   let iv <-Rr [v,ov] (eval i X.env)
   standAt pos
   Rr [v,ov,iv] (setItem ov iv v)
   release [v,ov,iv] []):=by intro _;rfl):DG X (.Subscript o i pos) (Ql mo mi ms):=
 (aiJ ho hi hs ha).of fun v Z H N ⟨μ,h,Zw,w,Nw,R,S,r,m,k⟩=>by
  refine ⟨μ,h,Zw,_,R,S,m,fun o H1 ⟨μ1,wo,h1,e1,R1,r1,m1⟩=>?_⟩;refine ⟨μ1,h1,Zw,_,R1,S.ext e1,m1,fun i H2 ⟨μ2,wi,h2,e2,R2,r2,m2⟩=>?_⟩;refine hm R2 (e2.r _ _ r1) r2 (e2.r _ _<|e1.r _ _ r) m2 fun H3 ⟨μ3,h3,e3,R3,m3⟩=>?_;exact k _ _ ⟨μ3,Zw,h3,(e1.trans e2).trans e3,R3,S.ext<|(e1.trans e2).trans e3,m3⟩
def Fw:Vy:=fun o i w h N=>match o,i with
 | .loc n,.int k=>(match h.c n with
  | some (.lst ws)=>(match NQ ws.length k with
   | some j=>N (h.set n (.lst (ws.set j w)))
   | none=>False)
  | _=>False)
 | _,_=>False
theorem Er.lstAt {K:Dp}{H:Hp}{h:Gh}{n:Nat}(R:Er K μ H h)(e:h.c n=FN (.lst ws)):∃ p xs,μ.f n=FN p/\H p=FN (.lst xs)/\aJ K H μ ws xs:=by
 obtain ⟨p,e1,xs,e2,r⟩:=R.cel n _ e;exact ⟨p,xs,e1,e2,r⟩
theorem BZ {K:Dp}:Aw K Xd Fw:=by
 intro H μ h o i v wo wi w Nw N R ro ri r m k;cases wo with
 | loc n=>
  cases wi with
  | int z=>
   rw [DP] at ro;rw [DP] at ri;obtain ⟨p,eo,hp⟩:=ro;unfold Fw at m;dsimp only at m;cases ec:h.c n with
   | none=>rw [ec] at m;exact m.elim
   | some cl=>
    rw [ec] at m;cases cl with
    | lst ws=>
     dsimp only at m;obtain ⟨p',xs,hp',hx,rs⟩:=R.lstAt ec;have ep:p'=p:=by rw [hp] at hp';exact (Gw hp').symm
     subst ep;cases ej:NQ ws.length z with
     | none=>rw [ej] at m;exact m.elim
     | some j=>
      rw [ej] at m;refine ⟨p',xs,z,j,eo,ri,hx,by rw [<-rs.len];exact ej,k _ ⟨μ,_,(Ex.write R hp).ext,R.write hp trivial ?_,m⟩⟩;exact ⟨_,aY,aJ.set ((Ex.write R hp).ext.r _ _ r) j<|(Ex.write R hp).ext.s rs⟩
    | _=>exact m.elim
  | _=>exact m.elim
 | _=>exact m.elim
variable {st:Stmt}{rest body:List Stmt}{m1 m2:MS}{t:MT}
def cY:MS:=fun D Z h=>D.nx Z h
def bD (m u:MS):MS:=fun D Z h=>m { D with nx:=u D } Z h
theorem bG:Rn X [] cY:=zbz.of fun D Z H ⟨μ,h,Zw,Dw,R,S,m,k⟩=>k.nx _ _ ⟨μ,Zw,h,.refl,R,S,m⟩
theorem aD (h1:DS X st m1):Rn X [st] m1:=aiF h1
theorem aq (h1:DS X st m1)(h2:Rn X rest m2):Rn X (st::rest) (bD m1 m2):=(zaX h1 h2).of fun D Z H ⟨μ,h,Zw,Dw,R,S,m,k⟩=>by
 refine ⟨μ,h,Zw,_,R,S,m,?_,k.rt,k.bk,k.ct⟩;intro Z' H' ⟨μ1,Zw1,h1,e1,R1,S1,m1⟩;exact ⟨μ1,h1,Zw1,Dw,R1,S1,m1,k.trans e1⟩
def dO (m:ME):MS:=fun D Z h=>m Z h fun _ h1=>D.nx Z h1
theorem bV (he:DE X e ma)(hs:Vh e FX pos.line X.env=pure false:=by rfl):DS X (.Expr e pos) (dO ma):=(afu he hs).of fun D Z H ⟨μ,h,Zw,Dw,R,S,m,k⟩=>
 ⟨μ,h,Zw,_,R,S,m,fun v H1 ⟨μ1,w,h1,e1,R1,_,m1⟩=>k.nx _ _ ⟨μ1,Zw,h1,e1,R1,S.ext e1,m1⟩⟩
def dU (m:ME):MS:=fun D Z h=>m Z h D.rt
theorem aV (he:DE X e ma):DS X (.Return (FN e) pos) (dU ma):=(ahP he).of fun D Z H ⟨μ,h,Zw,Dw,R,S,m,k⟩=>⟨μ,h,Zw,_,R,S,m,k.rt⟩
def gk (t:MT)(a b:MS):MS:=fun D Z h=>t Z h fun c h1=>br c (a D Z h1) (b D Z h1)
theorem cD {a b:List Stmt}(hc:DT X c t)(ha:Rn X a m1)(hb:Rn X b m2):DS X (.If c a b pos) (gk t m1 m2):=(acd hc ha hb).of fun D Z H ⟨μ,h,Zw,Dw,R,S,m,k⟩=>by
 refine ⟨μ,h,Zw,_,R,S,m,fun b H1 ⟨μ1,h1,e1,R1,q⟩=>?_⟩;cases b with
 | true=>rw [if_pos rfl];exact ⟨μ1,h1,Zw,Dw,R1,S.ext e1,q.1 rfl,k.trans e1⟩
 | false=>rw [if_neg Lw];exact ⟨μ1,h1,Zw,Dw,R1,S.ext e1,q.2 rfl,k.trans e1⟩
def mV (x:Str)(E:FQ):MS:=fun _ _ h=>E ⟨x,[]⟩ h
theorem je {x:Str}:DS X st (mV x EF):=aia.of fun _ _ _ ⟨_,_,_,_,_,_,m,_⟩=>m.elim
def bZ (m:ME)(g:MG):MS:=fun D Z h=>m Z h fun w h1=>g w Z h1 D.nx
theorem agN {K:Dp}{Z : St}{H:Hp}{D:Ends}{m:ME}{g:MG}(q:tDS K (bZ m g) D Z H):ZW (tD K m) (tDG K g) D Z H:=by
 obtain ⟨μ,h,Zw,Dw,R,S,m,k⟩:=q;exact ⟨μ,h,Zw,_,R,S,m,fun v H1 ⟨μ1,w,h1,e1,R1,r1,m1⟩=>⟨μ1,h1,Zw,w,_,R1,S.ext e1,r1,m1,fun Z' H' z=>k.nx _ _<|z.trans e1⟩⟩
theorem p7 {g:MG}(he:DE X e ma)(hg:DG X tg g)(hs:swapsWithSole [tg] e pos.line X.env=pure false:=by rfl)(hw:swappedStores [tg] e X.env=pure FX:=by rfl)
  (h1:(M6 [tg] X.env).map (·.2)=[assign tg X.env]:=by rfl):DS X (.Assign [tg] e pos) (bZ ma g):=(ajh he hg hs hw h1).of fun _ _ _ q=>agN q
theorem JL {K:Dp}{Z : St}{H:Hp}{D:Ends}{m:ME}{t:TE}{i:Nat}(ht:∀ Z H Q,tD K m Z H Q->t Z H Q)(q:tDS K (bZ m (kI i)) D Z H):ZW t (Gb i) D Z H:=by
 obtain ⟨μ,h,Zw,Dw,R,S,m,k⟩:=q;exact ht _ _ _ ⟨μ,h,Zw,_,R,S,m,fun v H1 ⟨μ1,w,h1,e1,R1,r1,m1⟩=>k.nx _ _ ⟨μ1,Zw.set i<|some w,h1,e1,R1,(S.ext e1).set r1 i,m1⟩⟩
theorem ahJ {i:Nat}{x:Str}{pos':Pos}(hN:X.N.Nodup)(hi:X.N[i]?=FN x)(hx:Loc X.env.scope x)(he:DE X e ma)(hs:Vh e (FN (.Name x pos')) pos.line X.env=pure false:=by rfl)
  (hf:X.fn x=true\/X.env.scope.names.lookup x=FN .local:=by first | exact .inl rfl | exact .inr rfl | assumption) :
  DS X (.Assign [.Name x pos'] e pos) (bZ ma (kI i)):=(aii hN hi hx he hs hf).of fun _ _ _ q=>JL (fun _ _ _ z=>z) q
def ad3 (i j:Nat)(ta:MA):MS:=fun D Z h=>ta Z h fun ws h1=>match ws with
 | [v,w]=>D.nx ((Z.set i (FN v)).set j (FN w)) h1
 | _=>False
def Fv (t:MT)(b:MS):MS:=fun D Z h=>∃ Wm:Nat->Sw->Gh->Prop,(∃ m,Wm m Z h)/\∀ m Z h,Wm m Z h ->
 t Z h fun c h1=>br c (b { D with nx:=fun Z' h'=>∃ m',m'<m/\Wm m' Z' h',ct:=fun Z' h'=>∃ m',m'<m/\Wm m' Z' h',bk:=D.nx } Z h1) (D.nx Z h1)
theorem CQ {body:List Stmt}{pos:Pos}(hp:ZQ (Dm X.prog X.w) X.A X.env X.xe)(hc:DT X c t)(hb:Rn X body m1):DS X (.While c body [] pos) (Fv t m1):=(zbf hp hc hb).of fun D Z H ⟨μ,h,Zw,Dw,R,S,m,k⟩=>by
 obtain ⟨Wm,⟨m0,w0⟩,turn⟩:=m;refine ⟨fun n Z' H'=>DN X.K H μ (Wm n) Z' H',⟨m0,μ,Zw,h,.refl,R,S,w0⟩,fun n Z1 H1 ⟨μ1,Zw1,h1,e1,R1,S1,w1⟩=>?_⟩;refine ⟨μ1,h1,Zw1,_,R1,S1,turn n Zw1 h1 w1,fun b H2 ⟨μ2,h2,e2,R2,q⟩=>?_⟩;have e12:=e1.trans e2;cases b with
 | true=>
  dsimp only;rw [if_pos rfl];refine ⟨fun Z' H'=>∃ m',m'<n/\DN X.K H μ (Wm m') Z' H',fun _ _ z=>z,μ2,h2,Zw1,_,R2,S1.ext e2,q.1 rfl,?_⟩;have again:∀ (Z':St) (H':Hp),DN X.K H2 μ2 (fun Z' h'=>∃ m',m'<n/\Wm m' Z' h') Z' H'->∃ m',m'<n/\DN X.K H μ (Wm m') Z' H':=fun Z' H' ⟨μ3,Zw3,h3,e3,R3,S3,m',hm,w3⟩=>
   ⟨m',hm,μ3,Zw3,h3,e12.trans e3,R3,S3,w3⟩
  exact ⟨again,fun v H' z=>k.rt _ _<|z.trans e12,fun Z' H' z=>k.nx _ _<|z.trans e12,again⟩
 | false=>
  dsimp only;rw [if_neg Lw];exact k.nx _ _ ⟨μ2,Zw1,h2,e12,R2,S1.ext e2,q.2 rfl⟩
structure Src where
 ws:List W
 cell:Option (Nat×List W)
def Src.chk (s:Src)(h:Gh):Prop:=match s.cell with
 | none=>True
 | some n=>h.c n.1=FN (.lst n.2)
abbrev MI:=Sw->Gh->(Src->Gh->Prop)->Prop
def VP (K:Dp)(J:It)(src:Src)(H:Hp)(μ : Mu):Prop:=∀ {H2:Hp} {μ2:Mu} {h2:Gh} {i:Nat},Ij K H μ H2 μ2->Er K μ2 H2 h2->src.chk h2 ->
 (∀ w,src.ws[i]?=FN w->J.go i H2/\∀ x H3,J.yld i H2 x H3->∃ μ3,Ij K H2 μ2 H3 μ3/\Er K μ3 H3 h2/\DP K H3 μ3 w x)/\(src.ws.length<=i->J.stop i H2)
inductive DI (K:Dp) (H:Hp) (μ : Mu) (Rw:Src->Gh->Prop) (J:It) (H':Hp):Prop where
 | mk (μ':Mu) (src:Src) (h':Gh) (e:Ij K H μ H' μ') (R:Er K μ' H' h') (o:VP K J src H' μ') (q:Rw src h'):DI K H μ Rw J H'
inductive tDI (K:Dp) (mi:MI) (Z : St) (H:Hp) (R:It->Hp->Prop):Prop where
 | mk (μ : Mu) (h:Gh) (Zw:Sw) (Rw:Src->Gh->Prop) (q:Er K μ H h) (S:Slots K H μ Zw Z) (x:mi Zw h Rw) (k:∀ J H',DI K H μ Rw J H'->R J H'):tDI K mi Z H R
abbrev Rp (X:Cx)(tg iter:Expr)(mi:MI):Prop:=PI X tg iter (tDI X.K mi)
theorem PI.of {iter:Expr}{t t':TI}(h:PI X tg iter t)(k:∀ Z H R,t' Z H R->t Z H R):PI X tg iter t':=fun ajY s Z H R I q=>h ajY s Z H R I (k Z H R q)
def dF (h:Gh):W->Option (List W)
 | .lst ws=>FN ws
 | .kls ws=>FN ws
 | .loc n=>(match h.c n with
  | some (.lst ws)=>FN ws
  | _=>FX)
 | _=>FX
def view (h:Gh):W->Option (List W)
 | .tup ws=>FN ws
 | .lst ws=>FN ws
 | .kls ws=>FN ws
 | .loc n=>dF h (.loc n)
 | _=>FX
def O2 (h:Gh):W->Option Src
 | .tup ws=>FN ⟨ws,FX⟩
 | .lst ws=>FN ⟨ws,FX⟩
 | .kls ws=>FN ⟨ws,FX⟩
 | .loc n=>(match h.c n with
  | some (.lst ws)=>FN ⟨ws,FN (n,ws)⟩
  | _=>FX)
 | _=>FX
theorem afU {K:Dp}{H:Hp}{p:Addr}(r:DP K H μ (.lst ws) (.ref p)):VP K (Itl K p) ⟨ws,FX⟩ H μ:=by
 intro H2 μ2 h2 i e R2 _;have r2:=e.r _ _ r;rw [DP] at r2;obtain ⟨q,xs,eq,hf,rs⟩:=r2;cases eq;refine ⟨fun w ew=>?_,fun hl=>⟨xs,hf.sq,by rw [<-rs.len];exact hl⟩⟩;obtain ⟨v,ev,rv⟩:=rs.get ew;refine ⟨⟨xs,v,hf.sq,ev⟩,fun x H3 ⟨e3,y⟩=>?_⟩;subst e3;have:=y xs hf.sq
 rw [ev] at this;cases this;exact ⟨μ2,.refl,R2,rv⟩
theorem afJ {K:Dp}{H:Hp}{p:Addr}(r:DP K H μ (.kls ws) (.ref p)):VP K (Itl K p) ⟨ws,FX⟩ H μ:=by
 intro H2 μ2 h2 i e R2 _;have r2:=e.r _ _ r;rw [DP] at r2;obtain ⟨q,xs,eq,hf,rs⟩:=r2;cases eq;refine ⟨fun w ew=>?_,fun hl=>⟨xs,hf.sq,by rw [<-rs.len];exact hl⟩⟩;obtain ⟨v,ev,rv⟩:=rs.get ew;refine ⟨⟨xs,v,hf.sq,ev⟩,fun x H3 ⟨e3,y⟩=>?_⟩;subst e3;have:=y xs hf.sq
 rw [ev] at this;cases this;exact ⟨μ2,.refl,R2,rv⟩
theorem afF {K:Dp}{H:Hp}{p:Addr}{n:Nat}(r:DP K H μ (.loc n) (.ref p)):VP K (Itl K p) ⟨ws,FN (n,ws)⟩ H μ:=by
 intro H2 μ2 h2 i e R2 ck;have r2:=e.r _ _ r;rw [DP] at r2;obtain ⟨q,eq,hm⟩:=r2;cases eq;obtain ⟨p',xs,hm',hx,rs⟩:=R2.lstAt (show h2.c n=FN (.lst ws) from ck);have ep:p'=p:=by rw [hm] at hm';exact (Gw hm').symm
 subst ep;refine ⟨fun w ew=>?_,fun hl=>⟨xs,.of hx,by rw [<-rs.len];exact hl⟩⟩;obtain ⟨v,ev,rv⟩:=rs.get ew;refine ⟨⟨xs,v,.of hx,ev⟩,fun x H3 ⟨e3,y⟩=>?_⟩;subst e3;have:=y xs (.of hx)
 rw [ev] at this;cases this;exact ⟨μ2,.refl,R2,rv⟩
theorem ahG {K:Dp}{H:Hp}{p:Addr}(r:DP K H μ (.tup ws) (.ref p)):VP K (Itt K p) ⟨ws,FX⟩ H μ:=by
 intro H2 μ2 h2 i e R2 _;have r2:=e.r _ _ r;rw [DP] at r2;obtain ⟨q,xs,eq,hf,rs⟩:=r2;cases eq;refine ⟨fun w ew=>?_,fun hl=>⟨xs,hf,by rw [<-rs.len];exact hl⟩⟩;obtain ⟨v,ev,rv⟩:=rs.get ew;refine ⟨⟨xs,v,hf,ev⟩,fun x H3 ⟨e3,y⟩=>?_⟩;subst e3;have:=y xs hf
 rw [ev] at this;cases this;exact ⟨μ2,.refl,R2,rv⟩
def adW (K:Dp)(tl:TE):TI:=fun Z H R=>tl Z H fun x H1=>(∃ a,x=.ref a/\(∃ xs,JF K H1 a xs)/\R (Itl K a) H1)\/(∃ a,x=.ref a/\(∃ xs,Hj K H1 a xs)/\R (Itt K a) H1)
theorem Zq {l:Expr}{tl:TE}(hl:PE X l tl):PI X tg l (adW X.K tl):=by
 intro ajY s Z H R I h;refine Fl (hl ajY s Z H _ I h) fun v s1 ⟨x,H1,I1,r1,q1⟩=>?_;rcases q1 with ⟨a,e,⟨xs,hq⟩,q⟩ | ⟨a,e,⟨xs,hq⟩,q⟩
 ·subst e;cases r1;obtain ⟨its,rv,p,hz⟩:=I1.list hq;refine VB p.isList ?_;refine ⟨s1.heap.objs.size,[s1.heap.objs.size],_,_,H1,rfl,I1.kept (t':=s1.toks) fun b o e=>G6 _ e,zaq a _,⟨_,Hw _ rfl,rfl,rfl⟩,fun b hb=>?_,q⟩;have e:b=s1.heap.objs.size:=by simpa using hb
  subst e;exact I1.fpOk (Ea _)<|I1.hok.fresh<|Ea _
 ·subst e;cases r1;obtain ⟨its,rv,p,hz⟩:=I1.tuple hq;refine Xb (show s1.heap.IsTuple a its.toArray from p) ?_;refine ⟨s1.heap.objs.size,[s1.heap.objs.size],_,_,H1,rfl,I1.kept (t':=s1.toks) fun b o e=>G6 _ e,zao a _,⟨_,Hw _ rfl,rfl,rfl⟩,fun b hb=>?_,q⟩;have e:b=s1.heap.objs.size:=by simpa using hb
  subst e;exact I1.fpOk (Ea _)<|I1.hok.fresh<|Ea _
def K1 (m:ME):MI:=fun Z h R=>m Z h fun w h1=>match O2 h1 w with
 | some s=>R s h1
 | none=>False
theorem cP {l:Expr}(hl:DE X l ma):Rp X tg l (K1 ma):=PI.of (Zq hl) fun Z H Q ⟨μ,h,Zw,Rw,R,S,m,k⟩=>by
 refine ⟨μ,h,Zw,_,R,S,m,fun v H1 ⟨μ1,w,h1,e1,R1,r1,m1⟩=>?_⟩;cases w with
 | tup ws=>
  have r1':=r1;rw [DP] at r1;obtain ⟨p,xs,ev,hs,_⟩:=r1;subst ev;exact .inr ⟨p,rfl,⟨xs,hs⟩,k _ _ ⟨μ1,⟨ws,FX⟩,h1,e1,R1,ahG r1',m1⟩⟩
 | lst ws=>
  have r1':=r1;rw [DP] at r1;obtain ⟨p,xs,ev,hs,_⟩:=r1;subst ev;exact .inl ⟨p,rfl,⟨xs,hs.sq⟩,k _ _ ⟨μ1,⟨ws,FX⟩,h1,e1,R1,afU r1',m1⟩⟩
 | kls ws=>
  have r1':=r1;rw [DP] at r1;obtain ⟨p,xs,ev,hs,_⟩:=r1;subst ev;exact .inl ⟨p,rfl,⟨xs,hs.sq⟩,k _ _ ⟨μ1,⟨ws,FX⟩,h1,e1,R1,afJ r1',m1⟩⟩
 | loc n=>
  have r1':=r1;rw [DP] at r1;obtain ⟨p,ev,hm⟩:=r1;subst ev;unfold O2 at m1;dsimp only at m1;cases ec:h1.c n with
  | none=>rw [ec] at m1;exact m1.elim
  | some cl=>
   rw [ec] at m1;cases cl with
   | lst ws=>
    obtain ⟨p',xs,hm',hx,rs⟩:=R1.lstAt ec;have ep:p'=p:=by rw [hm] at hm';exact (Gw hm').symm
    subst ep;exact .inl ⟨p',rfl,⟨xs,.of hx⟩,k _ _ ⟨μ1,⟨ws,FN (n,ws)⟩,h1,e1,R1,afF r1',m1⟩⟩
   | _=>exact m1.elim
 | _=>exact m1.elim
def yt (lo:Int)(n:Nat):List W:=(LC n).map fun (k:Nat)=>.int (lo+(k:Int))
theorem PL {K:Dp}{H:Hp}{lo:Int}{n:Nat}:VP K (Itr lo n) ⟨yt lo n,FX⟩ H μ:=by
 intro H2 μ2 h2 i e R2 _;refine ⟨fun w ew=>?_,fun hl=>?_⟩
 ·have hi:i<n:=by
   have:=(Le.mp ew).1
   simpa [yt] using this
  have ew':w=.int (lo+(i:Int)):=by
   unfold yt at ew;rw [Gy,Yr hi] at ew;exact (Gw ew).symm
  subst ew';refine ⟨hi,fun x H3 ⟨e3,y⟩=>?_⟩;subst e3;exact ⟨μ2,.refl,R2,by rw [DP];exact y⟩
 ·have:n<=i:=by simpa [yt] using hl
  exact this
def yp (j:Int)(P:Prop):Prop:=Jw (decide (-1000<=j)&&decide (j<=1000)) P ((-(2^62)<=j/\j<2^62)/\P)
theorem yp.ok {j:Int}{P:Prop}(h:yp j P):(-(2^62)<=j/\j<2^62)/\P:=by
 unfold yp at h;cases e:(decide (-1000<=j)&&decide (j<=1000)) with
 | true=>
  rw [e] at h;rw [V8,decide_eq_true_iff,decide_eq_true_iff] at e;exact ⟨⟨by lia,by lia⟩,h⟩
 | false=>rw [e] at h;exact h
theorem yp.mk {j:Int}{P:Prop}(h1:-(2^62)<=j)(h2:j<2^62)(h:P):yp j P:=by
 unfold yp;cases e:(decide (-1000<=j)&&decide (j<=1000)) with
 | true=>exact h
 | false=>exact ⟨⟨h1,h2⟩,h⟩
def iY (ma:MA):MI:=fun Z h R=>ma Z h fun ws h1=>match ws with
 | [.int j]=>yp j (R ⟨yt 0 j.toNat,FX⟩ h1)
 | _=>False
def Vm (ma:MA):MI:=fun Z h R=>ma Z h fun ws h1=>match ws with
 | [.int i,.int j]=>yp i (yp j (R ⟨yt i (j - i).toNat,FX⟩ h1))
 | _=>False
theorem aeB {a:Expr}{p pos:Pos}(hg:Gl X "range")(hm:X.mg "range" = FX)(ha:KZ X [a] mr)(hs:Eu [a] X.env=[(false,eval a X.env)]:=by rfl):Rp X tg (.Call (.Name "range" p) [a] [] pos) (iY mr):=
 PI.of (zat hg hm ha hs) fun Z H Q ⟨μ,h,Zw,Rw,R,S,m,k⟩=>by
  refine ⟨μ,h,Zw,_,R,S,m,fun vs H1 ⟨μ1,ws,h1,e1,R1,r1,m1⟩=>?_⟩;split at m1
  ·rename_i j;rw [aJ] at r1;obtain ⟨v,vr,ev,ra,r1⟩:=r1;rw [aJ] at r1;rw [DP] at ra;subst ev r1 ra;exact ⟨j,rfl,m1.ok.1.1,m1.ok.1.2,k _ _ ⟨μ1,_,h1,e1,R1,PL,m1.ok.2⟩⟩
  ·exact m1.elim
theorem zaJ {a b:Expr}{p pos:Pos}(hg:Gl X "range")(hm:X.mg "range" = FX)(ha:KZ X [a,b] mr)(hs:Eu [a,b] X.env=[(false,eval a X.env),(false,eval b X.env)]:=by rfl)(hs2:Eu [b] X.env=[(false,eval b X.env)]:=by rfl):
  Rp X tg (.Call (.Name "range" p) [a,b] [] pos) (Vm mr):=
 PI.of (afa hg hm ha hs hs2) fun Z H Q ⟨μ,h,Zw,Rw,R,S,m,k⟩=>by
  refine ⟨μ,h,Zw,_,R,S,m,fun vs H1 ⟨μ1,ws,h1,e1,R1,r1,m1⟩=>?_⟩;split at m1
  ·rename_i i j;rw [aJ] at r1;obtain ⟨v,vr,ev,ra,r1⟩:=r1;rw [aJ] at r1;obtain ⟨v',vr',ev',rb,r1⟩:=r1;rw [aJ] at r1;rw [DP] at ra rb;subst ev ev' r1 ra rb;exact ⟨i,j,rfl,⟨m1.ok.1.1,m1.ok.1.2,m1.ok.2.ok.1.1,m1.ok.2.ok.1.2⟩,k _ _ ⟨μ1,_,h1,e1,R1,PL,m1.ok.2.ok.2⟩⟩
  ·exact m1.elim
def Src.go (s:Src)(h:Gh)(P:Prop):Prop:=match s.cell with
 | none=>P
 | some n=>h.c n.1=FN (.lst n.2)/\P
theorem Src.go_ok {s:Src}{h:Gh}{P:Prop}(x:s.go h P):s.chk h/\P:=by
 unfold Src.go at x;unfold Src.chk;cases e:s.cell with
 | none=>rw [e] at x;exact ⟨trivial,x⟩
 | some n=>rw [e] at x;exact x
def fK (s:Src)(g:MG)(b:MS)(D:bK):List W->Sw->Gh->Prop
 | [],Z,h=>s.go h (D.nx Z h)
 | w::r,Z,h=>s.go h (g w Z h fun Z1 h1=>b { D with nx:=fK s g b D r,ct:=fK s g b D r,bk:=D.nx } Z1 h1)
def lA (mi:MI)(g:MG)(b:MS):MS:=fun D Z h=>mi Z h fun s h1=>fK s g b D s.ws Z h1
theorem cU {iter:Expr}{body:List Stmt}{mi:MI}{g:MG}{mb0:MS}{pos:Pos}(hp:ZQ (Dm X.prog X.w) X.A X.env X.xe)(hc:X.calm=true)(hi:Rp X tg iter mi)(hg:DG X tg g)(hb:Rn X body mb0)
  (hs:∀ x,V9 iter X.env x=pure x:=by intro _;rfl):DS X (.For tg iter body [] pos) (lA mi g mb0):=(ahE hp hc hi hg hb hs).of fun D Z H ⟨μ,h,Zw,Dw,R,S,m,k⟩=>by
 refine ⟨μ,h,Zw,_,R,S,m,fun J H1 ⟨μ1,src,h1,e1,R1,ok,m1⟩=>?_⟩;refine ⟨fun i n Z' H'=>n=src.ws.length - i/\i<=src.ws.length/\DN X.K H1 μ1 (fK src g mb0 Dw<|src.ws.drop i) Z' H',⟨src.ws.length,by simp,Jk _,μ1,Zw,h1,.refl,R1,S.ext e1,by rw [Wy];exact m1⟩,?_⟩;rintro i n Z2 H2 ⟨hn,hle,μ2,Zw2,h2,e2,R2,S2,m2⟩;by_cases hlt:i<src.ws.length
 ·rw [Vd hlt] at m2;obtain ⟨ck,m2⟩:=Src.go_ok m2;obtain ⟨hgo,hy⟩:=(ok e2 R2 ck).1 src.ws[i] (GK hlt);refine .inr ⟨hgo,fun Z' H'=>DN X.K H2 μ2 (fK src g mb0 Dw<|src.ws.drop<|i+1) Z' H',fun Z' H' z=>⟨src.ws.length - (i+1),by lia,rfl,hlt,z.trans e2⟩,fun x H3 y=>?_⟩;obtain ⟨μ3,e3,R3,rx⟩:=hy x H3 y;refine ⟨μ3,h2,Zw2,src.ws[i],_,R3,S2.ext e3,rx,m2,fun Z4 H4 ⟨μ4,Zw4,h4,e4,R4,S4,m4⟩=>?_⟩;have e24:=e3.trans e4;have e14:=(e1.trans e2).trans e24;exact ⟨μ4,h4,Zw4,_,R4,S4,m4,fun Z' H' z=>z.trans e24,fun v H' z=>k.rt _ _<|z.trans e14,fun Z' H' z=>k.nx _ _<|z.trans e14,fun Z' H' z=>z.trans e24⟩
 ·have ei:i=src.ws.length:=by lia
  subst ei;rw [List.drop_length] at m2;obtain ⟨ck,m2⟩:=Src.go_ok m2;exact .inl ⟨(ok e2 R2 ck).2 (Ea _),k.nx _ _ ⟨μ2,Zw2,h2,e1.trans e2,R2,S2,m2⟩⟩
def pY (ix:List Nat)(Z : Sw):Sw:=ix.map fun i=>(Z[i]?).getD FX
theorem Slots.blk {K:Dp}{H:Hp}{Zw:Sw}{Z : St}(S:Slots K H μ Zw Z):∀ {ws:List W} {vs:List V},aJ K H μ ws vs->Slots K H μ (ws.map FN++pY ix Zw) (vs.map FN++Eh ix Z):=by
 intro ws vs r;have hl:=r.len;refine ⟨by simp [pY,Eh,hl],fun i u q=>?_⟩;by_cases hi:i<ws.length
 ·rw [RQ (by simpa using hi),Gy] at q;have q':ws[i]?=FN u:=by
   cases e:ws[i]? with
   | none=>rw [e] at q;cases q
   | some a=>rw [e] at q;simpa using q
  obtain ⟨v,hv,rv⟩:=r.get q';refine ⟨v,?_,rv⟩;rw [RQ (by rw [Ec];lia),Gy,hv];rfl
 ·rw [Ob (by simpa using hi),Ec] at q;rw [Ob (by rw [Ec];lia),Ec,<-hl];generalize i - ws.length=i at q |-
  unfold pY at q;unfold Eh;rw [Gy] at q |-
  cases e:ix[i]? with
  | none=>rw [e] at q;cases q
  | some j=>
   rw [e] at q;cases e2:Zw[j]? with
   | none=>simp [e2] at q
   | some o=>
    have eo:o=FN u:=by simpa [e2] using q
    subst eo;obtain ⟨v',h1,h2⟩:=S.get j u e2;exact ⟨v',by simp [h1],h2⟩
def ou:MT:=fun _ h Q=>Q true h
def oX (s:Src)(own:W->Option (List W))(ix:List Nat)(tt:MT)(te:ME)(Z : Sw)(Q:WK):List W->List W->Gh->Prop
 | [],acc,h=>s.go h (Q (.lst acc) h)
 | w::r,acc,h=>s.go h (match own w with
  | some vs=>tt (vs.map FN++pY ix Z) h fun c h1=>Jw c (te (vs.map FN++pY ix Z) h1 fun v h2=>oX s own ix tt te Z Q r (acc++[v]) h2) (oX s own ix tt te Z Q r acc h1)
  | none=>False)
def Jy (own:W->Option (List W))(ix:List Nat)(mi:MI)(tt:MT)(te:ME):ME:=fun Z h Q=>mi Z h fun s h1=>fV s.ws.length (oX s own ix tt te Z Q s.ws [] h1)
def zW (K:Dp)(n:Nat)(own:V->Hp->List V->Prop)(ow:W->Option (List W)):Prop:=∀ {H:Hp} {μ : Mu} {w:W} {v:V} {ws:List W},DP K H μ w v->ow w=FN ws->∃ vs,own v H vs/\vs.length=n/\aJ K H μ ws vs
def Np (w:W):Option (List W):=FN [w]
def RZ (n:Nat)(w:W):Option (List W):=match w with
 | .tup ws=>(match Ly ws.length n with
  | true=>FN ws
  | false=>FX)
 | _=>FX
def ov1:V->Hp->List V->Prop:=fun v _ vs=>vs=[v]
def ovT (K:Dp):V->Hp->List V->Prop:=fun v H vs=>∃ a,v=.ref a/\Hj K H a vs
theorem abN {K:Dp}:zW K 1 ov1 Np:=by
 intro H μ w v ws r e;cases (show FN [w]=FN ws from e)
 exact ⟨[v],rfl,rfl,.one r⟩
theorem vY {K:Dp}{n:Nat}:zW K n (ovT K) (RZ n):=by
 intro H μ w v ws r e;cases w with
 | tup us=>
  unfold RZ at e;dsimp only at e;cases en:Ly us.length n with
  | false=>rw [en] at e;cases e
  | true=>
   rw [en] at e;cases (show FN us=FN ws from e)
   rw [DP] at r;obtain ⟨p,xs,ev,hs,rs⟩:=r;exact ⟨xs,⟨p,ev,hs⟩,by rw [<-rs.len];exact Xj en,rs⟩
 | _=>cases e
abbrev VF (X:Cx)(ifs:List Expr)(m:MT):Prop:=VL X ifs (tDT X.K m)
theorem gw:VF X [] ou:=fun ajY s Z H Q I ⟨μ,h,Zw,Qw,R,S,m,k⟩=>agb ajY s Z H Q I (k _ _ ⟨μ,h,.refl,R,m⟩)
theorem ais (h:DT X c t):VF X [c] t:=zbL h
theorem ZR {K:Dp}{Z : St}{H:Hp}{Q:VK}{n:Nat}{own:V->Hp->List V->Prop}{ow:W->Option (List W)}{mi:MI}{tt:MT}{te:ME}(oo:zW K n own ow)(q:tD K (Jy ow ix mi tt te) Z H Q):tLC n own ix (tDI K mi) (tDT K tt) (tD K te) Z H Q:=by
 obtain ⟨μ,h,Zw,Qw,R,S,m,k⟩:=q;refine ⟨μ,h,Zw,_,R,S,m,fun J H1 ⟨μ1,src,h1,e1,R1,ok,hz0⟩=>?_⟩;obtain ⟨hz,m1⟩:=hz0.ok;intro D hD;have nD:=R1.nohid hD;have hD1:Ij K H1 μ1 (Fb H1 D (.lst [])) (μ1.hide D):=Ij.hide hD;refine ⟨fun i n ys H'=>n=src.ws.length - i/\i<=src.ws.length/\ys.length<=i/\H' D=FN (.lst ys)/\∃ μ' acc h',Ij K H1 μ1 H' μ'/\Er K μ' H' h'/\μ'.hid D/\aJ K H' μ' acc ys/\oX src ow ix tt te Zw Qw (src.ws.drop i) acc h',
  ⟨src.ws.length,by simp,Jk _,Ea _,aY,μ1.hide D,[],h1,hD1,R1.hide hD,.inl rfl,.nil,by rw [Wy];exact m1⟩,?_⟩
 rintro i n' ys H2 ⟨hn,hle,hys,hH2,μ2,acc,h2,e2,R2,hid2,ra,m2⟩ _;by_cases hlt:i<src.ws.length
 ·rw [Vd hlt] at m2;obtain ⟨ck,m2⟩:=Src.go_ok m2;obtain ⟨hgo,hy⟩:=(ok e2 R2 ck).1 src.ws[i] (GK hlt);refine .inr ⟨hgo,by lia,fun x H3 y=>?_⟩;obtain ⟨μ3,e3,R3,rx⟩:=hy x H3 y;have e13:=e2.trans e3;cases eo:ow src.ws[i] with
  | none=>rw [eo] at m2;exact m2.elim
  | some us=>
   rw [eo] at m2;obtain ⟨vs,hov,hvl,rvs⟩:=oo rx eo;have S3:=(S.ext (e1.trans e13)).blk (ix:=ix) rvs;refine ⟨vs,hov,hvl,μ3,h2,_,_,R3,S3,m2,fun b H4 ⟨μ4,h4,e4,R4,m4⟩=>?_⟩;have e24:=e3.trans e4;obtain ⟨hid4,hH4⟩:=e24.o D _ hid2 hH2;cases b with
   | false=>
    dsimp only;rw [if_neg Lw];exact ⟨hH4,src.ws.length - (i+1),by lia,rfl,hlt,by lia,hH4,μ4,acc,h4,e2.trans e24,R4,hid4,e24.s ra,m4⟩
   | true=>
    dsimp only;rw [if_pos rfl];refine ⟨μ4,h4,_,_,R4,S3.ext e4,m4,fun v H5 ⟨μ5,w5,h5,e5,R5,r5,m5⟩=>?_⟩;have e25:=e24.trans e5;obtain ⟨hid5,hH5⟩:=e25.o D _ hid2 hH2;have g:=KR.grow (ys:=ys++[v]) R5 hid5;have rs:aJ K (Fb H5 D (.lst (ys++[v]))) μ5 (acc++[w5]) (ys++[v]):=aJ.ex (Ex0.grow R5 hid5) (aJ.append (e25.s ra) (aJ.one r5));exact ⟨hH5,src.ws.length - (i+1),by lia,rfl,hlt,by rw [JC];simp;lia,aY,μ5,acc++[w5],h5,(e2.trans e25).x nD g,R5.grow hid5,hid5,rs,m5⟩
 ·have ei:i=src.ws.length:=by lia
  subst ei;rw [List.drop_length] at m2;obtain ⟨ck,m2⟩:=Src.go_ok m2;exact .inl ⟨(ok e2 R2 ck).2 (Ea _),k _ _ ⟨μ2.unhide D,.lst acc,h2,e1.trans<|e2.x nD .unhide,R2.unhide,DP.built R2 hid2 hH2 ra,m2⟩⟩
variable {scope:Scope}{x:Str}{xs:List Str}{iter:Expr}{px:Pos}{mi:MI}{tt:MT}{te:ME}
theorem aaZ (B:gZ X scope [x] ix)(C:Addr)(s:AP)(H:Hp)(fp:List Addr):PG (blk X scope (fW X [x] ix) C s H fp) (.Name x px) (O6 1 ov1):=by
 obtain ⟨o1,o2⟩:=Hg B (y:=x) (by simp);intro ajY s' Z H' v u Q I r ⟨vs,hv,hl,q⟩;cases hv;refine ux (X:=blk X scope (fW X [x] ix) C s H fp) (i:=0) B.nd rfl o1 o2 ajY s' Z H' v u Q I r ?_;have ajZ:Z.length=(fW X [x] ix).length:=I.len;cases Z with
 | nil=>simp at ajZ
 | cons o Z=>exact q
theorem wC {py pt:Pos}{kt:Nat}(hc:X.calm=true)(B:gZ X scope [x,y] ix)(C:Addr)(s:AP)(H:Hp)(fp:List Addr)
  (h1:∀ env,(M6 [.Name x px,.Name y py] env).map (·.2)=assign (.Name x px) env::(M6 [.Name y py] env).map (·.2):=by intro _;rfl)
  (h2:∀ env,(M6 [.Name y py] env).map (·.2)=assign (.Name y py) env::(M6 [] env).map (·.2):=by intro _;rfl)
  (h3:∀ env,(M6 [.Name x px,.Name y py] env).length=2:=by intro _;rfl) (h4:∀ env,(M6 [.Name x px,.Name y py] env).findIdx? (·.1)=FX:=by intro _;rfl) :
  PG (blk X scope (fW X [x,y] ix) C s H fp) (.Tuple [.Name x px,.Name y py] kt pt) (O6 2 (ovT X.K)):=by
 obtain ⟨o1,u1⟩:=Hg B (y:=x) (by simp);obtain ⟨o2,u2⟩:=Hg B (y:=y) (by simp);intro ajY s' Z H' v u Q I r ⟨vs,⟨a,ea,ha⟩,hl,q⟩;have ajZ:Z.length=(fW X [x,y] ix).length:=I.len;refine ahZ (X:=blk X scope (fW X [x,y] ix) C s H fp) (n:=2) hc (uR (ux (i:=0) B.nd rfl o1 u1) (uR (ux (i:=1) B.nd rfl o2 u2) Iz<|h2 _)<|h1 _) (h3 _) (h4 _) ajY s' Z H' v u Q I r ?_;refine ⟨a,vs,ea,ha,hl,?_⟩;match vs,hl,q with
 | [v1,v2],_,q=>
  match Z,ajZ,q with
  | [],ajZ,_=>simp at ajZ
  | [_],ajZ,_=>simp at ajZ
  | _::_::Z,_,q=>exact ⟨v1,[v2],rfl,v2,[],rfl,rfl,q⟩
theorem VJ {own:V->Hp->List V->Prop}{ow:W->Option (List W)}(ix:List Nat)(hc:X.calm=true)(B:gZ X scope xs ix)(oo:zW X.K xs.length own ow)(hg:∀ C s H fp,PG (blk X scope (fW X xs ix) C s H fp) tg (O6 xs.length own))(hi:Rp X tg iter mi)
  (ht:∀ C s H fp,VF (blk X scope (fW X xs ix) C s H fp) ifs tt) (he:∀ C s H fp,DE (blk X scope (fW X xs ix) C s H fp) elt te)
  (hs:∀ v,V9 iter X.env v=pure v:=by intro _;rfl):DE X (.ListComp elt [⟨tg,iter,ifs,0⟩] scope pos) (Jy ow ix mi tt te):=(acn ix hc B hg hi ht he hs).of fun _ _ _ q=>ZR oo q
theorem aa6 {own:V->Hp->List V->Prop}{ow:W->Option (List W)}(ix:List Nat){i:Nat}{py spos:Pos}(hN:X.N.Nodup)(hi':X.N[i]?=FN y)(hy:Loc X.env.scope y)(hc:X.calm=true)(B:gZ X scope xs ix)(oo:zW X.K xs.length own ow)
  (hg:∀ C s H fp,PG (blk X scope (fW X xs ix) C s H fp) tg (O6 xs.length own)) (hi:Rp X tg iter mi)
  (ht:∀ C s H fp,VF (blk X scope (fW X xs ix) C s H fp) ifs tt) (he:∀ C s H fp,DE (blk X scope (fW X xs ix) C s H fp) elt te)
  (hsw:Vh (.ListComp elt [⟨tg,iter,ifs,0⟩] scope pos) (FN (.Name y py)) spos.line X.env=pure true:=by rfl)
  (hf:X.fn y=true\/X.env.scope.names.lookup y=FN .local:=by first | exact .inl rfl | exact .inr rfl | assumption)
  (hs:∀ v,V9 iter X.env v=pure v:=by intro _;rfl):DS X (.Assign [.Name y py] (.ListComp elt [⟨tg,iter,ifs,0⟩] scope pos) spos) (bZ (Jy ow ix mi tt te) (kI i)):=
 (Xz ix hN hi' hy hc B hg hi ht he hsw hf hs).of fun _ _ _ q=>JL (fun _ _ _ z=>ZR oo z) q
theorem abD {κ : Type}{K:Dp}{H0 H:Hp}{μ0 μ : Mu}{k:Nat}(hd:∀ n p,μ0.f n=FN p->n<k):∀ {fs:List (κ×W)} {f0 fv:List (κ×V)},jq K H0 μ0 fs f0->jq K H μ fs fv->jq K H (μ.cut k) fs fv
 | [],_,_,_,.nil=>.nil
 | _::_,_,_,.cons a b,.cons c d=>.cons ⟨c.1,DP.cut c.2 (DP.lo hd a.2)⟩ (abD hd b d)
def wQ (pure:Bool)(h:Gh)(w:W)(h':Gh)(Q:WK):Prop:=match pure with
 | false=>Q w h'
 | true=>(∀ n c,n<h.nx->h.c n=FN c->h'.c n=FN c)/\((Lo h.nx w/\Q w h)\/∃ n ws,w=.loc n/\h.nx<=n/\h'.c n=FN (.lst ws)/\Jc h.nx ws/\Q (.lst ws) h)
def J5 (n N:Nat)(pure:Bool)(body:FQ->MS):Dr:=fun ws h Q E=>Jw (Ly ws.length n)
 (body E { nx:=fun _ h'=>wQ pure h .non h' Q,rt:=fun w h'=>wQ pure h w h' Q } (ws.map FN++Gv (N - ws.length) FX) h) False
theorem Qv {n N:Nat}{pure:Bool}{body:FQ->MS}{h:Gh}{Q:WK}{E:FQ}(x:J5 n N pure body ws h Q E):ws.length=n /\
  body E { nx:=fun _ h'=>wQ pure h .non h' Q,rt:=fun w h'=>wQ pure h w h' Q } (ws.map FN++Gv (N - ws.length) FX) h:=by
 unfold J5 at x;cases e:Ly ws.length n with
 | true=>rw [e] at x;exact ⟨Xj e,x⟩
 | false=>rw [e] at x;exact (show False from x).elim
theorem Er.cut {K:Dp}{H H':Hp}{μ μ':Mu}{h h':Gh}(R:Er K μ H h)(R':Er K μ' H' h')(e:Ij K H μ H' μ')(hc:∀ n c,h.c n=FN c->h'.c n=FN c):Er K (μ'.cut h.nx) H' h where
 inj:=fun m n p a b=>R'.inj m n p (Mu.cut_some a).2 (Mu.cut_some b).2
 dom:=fun n p a=>(Mu.cut_some a).1
 trk:=fun n p a=>R'.trk n p (Mu.cut_some a).2
 cel:=fun n c a=>by
  obtain ⟨p0,m0,x0⟩:=R.cel n c a;obtain ⟨p,m,x⟩:=R'.cel n c (hc n c a);have hn:=R.dom n p0 m0;refine ⟨p,by show (if n<h.nx then μ'.f n else FX)=FN p;rw [if_pos hn];exact m,?_⟩;cases c with
  | lst ws=>
   obtain ⟨xs0,_,r0⟩:=x0;obtain ⟨xs,hx,r⟩:=x;exact ⟨xs,hx,aJ.cut r<|aJ.lo R.dom r0⟩
  | obj C fs=>
   obtain ⟨dx0,f0,_,r0⟩:=x0;obtain ⟨dx,fv,hx,r⟩:=x;exact ⟨dx,fv,hx,abD R.dom r0 r⟩
  | dct kvs=>
   obtain ⟨f0,_,r0⟩:=x0;obtain ⟨fv,hx,r⟩:=x;exact ⟨fv,hx,abD R.dom r0 r⟩
  | dtt kvs=>
   obtain ⟨_,_,_,_,_,d0,f0⟩:=x0;obtain ⟨xs,vs,a,b,c,d,f⟩:=x;exact ⟨xs,vs,a,b,c,aJ.cut d<|aJ.lo R.dom d0,aJ.cut f<|aJ.lo R.dom f0⟩
 hd:=fun p z=>⟨(R'.hd p z).1,fun n a=>(R'.hd p z).2 n (Mu.cut_some a).2⟩
theorem Ij.cut {K:Dp}{H H':Hp}{μ μ':Mu}{h:Gh}(R:Er K μ H h)(e:Ij K H μ H' μ'):Ij K H μ H' (μ'.cut h.nx):=
 ⟨fun w v r=>DP.cut (e.r w v r) (DP.lo R.dom r),fun p u z a=>e.o p u z a⟩
theorem FJ {K:Dp}{H H':Hp}{h h':Gh}{w:W}{v:V}{Q:WK}{pure:Bool}(R:Er K μ H h)(e:Ij K H μ H' μ')(R':Er K μ' H' h')(r:DP K H' μ' w v)(x:wQ pure h w h' Q):DQ K H μ Q v H':=by
 cases pure with
 | false=>exact ⟨μ',w,h',e,R',r,x⟩
 | true=>
  obtain ⟨hc0,⟨lo,q⟩ | ⟨n,ws,ew,hn,ec,lo,q⟩⟩:=x;all_goals have hc:∀ n c,h.c n=FN c->h'.c n=FN c:=fun n c a=>hc0 n c (let ⟨p,m,_⟩:=R.cel n c a;R.dom n p m) a
  ·exact ⟨μ'.cut h.nx,w,h,e.cut R,R.cut R' e hc,DP.cut r lo,q⟩
  ·subst ew;refine ⟨μ'.cut h.nx,.lst ws,h,e.cut R,R.cut R' e hc,?_,q⟩;rw [DP] at r;rw [DP];obtain ⟨p,ev,hm⟩:=r;obtain ⟨p',xs,hm',hx,rs⟩:=R'.lstAt ec;have ep:p'=p:=by rw [hm] at hm';exact (Gw hm').symm
   subst ep;refine ⟨p',xs,ev,⟨hx,fun m a=>?_,fun z=>(R'.hd p' z).2 n hm⟩,aJ.cut rs lo⟩;obtain ⟨a1,a2⟩:=Mu.cut_some a;have:=R'.inj m n p' a2 hm
   lia
theorem qK {K:Dp}{H:Hp}{N:List Str}:∀ {ws:List W} {vs:List V},aJ K H μ ws vs->Slots K H μ (ws.map FN++Gv (N.length - ws.length) FX) (start N vs):=by
 intro ws vs r;have hl:=r.len;refine ⟨by simp [start,hl],fun i w q=>?_⟩;by_cases hi:i<ws.length
 ·rw [RQ (by simpa using hi),Gy] at q;have q':ws[i]?=FN w:=by
   cases e:ws[i]? with
   | none=>rw [e] at q;cases q
   | some a=>rw [e] at q;simpa using q
  obtain ⟨v,hv,rv⟩:=r.get q';refine ⟨v,?_,rv⟩;unfold start;rw [RQ (by rw [Ec];lia),Gy,hv];rfl
 ·rw [Ob (by simpa using hi),W0] at q;split at q <;> cases q
theorem acC {P:Ew}{w:Em}{K:Dp}{mg:Str->Option Mk}{base:Heap}{x qual:Str}{st:Stmt}{f:Addr}{fd:N5}{N ps:List Str}{k:Nat}{pure:Bool}{body:FQ->MS}(F:Uo K x qual st f fd)(S:iI N ps (bw st))
  (hb:∀ (cdv:Mk) (A:Fg) (outer:List Env) (s:AP) (H:Hp) (E:XK),mJ k (A.deeper (Rb qual (bw st) s.heap.objs.size f cdv)) ->
   Rn (Ft Mg P w K mg base N qual (bw st) f cdv A outer s H E).nox (eE st) (body EF)):qO P w K mg base Mg (k+1) f fd ps (lift K (J5 ps.length N.length pure body)):=by
 refine F.ok S (fun vs H Q E ⟨μ,h,ws,Qw,R,r,m,k⟩=>by rw [<-r.len];exact (Qv m).1)<|fun cdv A outer s H vs Q E hr ⟨μ,h,ws,Qw,R,r,m0,k⟩=>?_
 obtain ⟨hl,m⟩:=Qv m0;refine ⟨_,hb cdv A outer s H E hr,μ,h,_,_,R,qK r,m,?_,?_,?_,?_⟩
 ·rintro Z' H' ⟨μ1,Zw1,h1,e1,R1,S1,m1⟩;exact k _ _<|FJ (w:=.non) R e1 R1 (by rw [DP]) m1
 ·rintro v H' ⟨μ1,w1,h1,e1,R1,r1,m1⟩;exact k _ _<|FJ R e1 R1 r1 m1
 ·rintro Z' H' ⟨μ1,Zw1,h1,e1,R1,S1,m1⟩;exact m1.elim
 ·rintro Z' H' ⟨μ1,Zw1,h1,e1,R1,S1,m1⟩;exact m1.elim
end
variable {te : ME}{mi : MI}{tt : MT}{kt : Nat}{ow : W->Option (List W)}
section
variable {X:Cx}{K:Dp}
theorem DQ.int {H:Hp}{μ : Mu}{h:Gh}{i:Int}{Q:WK}(R:Er K μ H h)(q:Q (.int i) h):DQ K H μ Q (.int i) H:=⟨μ,.int i,h,.refl,R,by rw [DP],q⟩
theorem DQ.bl {H:Hp}{μ : Mu}{h:Gh}{i:Bool}{Q:WK}(R:Er K μ H h)(q:Q (.bl i) h):DQ K H μ Q (.bl i) H:=⟨μ,.bl i,h,.refl,R,by rw [DP],q⟩
def zac (C:Int->Int->Prop)(g:Int->Int->Int):M2:=fun x y h Q=>match x,y with
 | .int i,.int j=>C i j/\Q (.int (g i j)) h
 | _,_=>False
def Hx:M2:=fun x y h Q=>match x,y with
 | .int i,.int j=>Q (.int (i - j)) h
 | _,_=>False
theorem yj:M5 X (Mi .Sub) Hx:=⟨_,agG,by
 intro H μ h x y wx wy Qw Q R rx ry m k;unfold Hx at m;split at m
 ·rw [DP] at rx ry;exact ⟨_,_,rx,ry,k _ _<|.int R m⟩
 ·exact m.elim⟩
def sS:M2:=fun x y h Q=>match x,y with
 | .int i,.int j=>qX i j/\Q (.int (i*j)) h
 | _,_=>False
theorem iw:M5 X (Mi .Mult) sS:=⟨_,GD,by
 intro H μ h x y wx wy Qw Q R rx ry m k;unfold sS at m;split at m
 ·rw [DP] at rx ry;exact ⟨_,_,rx,ry,m.1,k _ _<|.int R m.2⟩
 ·exact m.elim⟩
def KN:M2:=fun x y h Q=>match x,y with
 | .int i,.int j=>Aa i j/\Q (.int (i.fdiv j)) h
 | _,_=>False
theorem yM:M5 X (Mi .FloorDiv) KN:=⟨_,aeH,by
 intro H μ h x y wx wy Qw Q R rx ry m k;unfold KN at m;split at m
 ·rw [DP] at rx ry;exact ⟨_,_,rx,ry,m.1,k _ _<|.int R m.2⟩
 ·exact m.elim⟩
def rR:M2:=fun x y h Q=>match x,y with
 | .int i,.int j=>j≠0/\Q (.int (i.fmod j)) h
 | _,_=>False
theorem iG:M5 X (Mi .Mod) rR:=⟨_,agj,by
 intro H μ h x y wx wy Qw Q R rx ry m k;unfold rR at m;split at m
 ·rw [DP] at rx ry;exact ⟨_,_,rx,ry,m.1,k _ _<|.int R m.2⟩
 ·exact m.elim⟩
def Ow:M2:=fun x y h Q=>match x,y with
 | .int i,.int j=>acf i j/\Q (.int (i^j.toNat)) h
 | _,_=>False
theorem JM:M5 X (Mi .Pow) Ow:=⟨_,aiP,by
 intro H μ h x y wx wy Qw Q R rx ry m k;unfold Ow at m;split at m
 ·rw [DP] at rx ry;exact ⟨_,_,rx,ry,m.1,k _ _<|.int R m.2⟩
 ·exact m.elim⟩
def kLt:M2:=fun x y h Q=>match x,y with
 | .int i,.int j=>Q (.bl (decide (i<j))) h
 | _,_=>False
theorem acZ:M5 X (K3 .Lt) kLt:=⟨_,aa8,by
 intro H μ h x y wx wy Qw Q R rx ry m k;unfold kLt at m;split at m
 ·rw [DP] at rx ry;exact ⟨_,_,rx,ry,k _ _<|.bl R m⟩
 ·exact m.elim⟩
def Tg:M2:=fun x y h Q=>match x,y with
 | .int i,.int j=>Q (.bl (decide (i<=j))) h
 | _,_=>False
theorem aan:M5 X (K3 .LtE) Tg:=⟨_,abh,by
 intro H μ h x y wx wy Qw Q R rx ry m k;unfold Tg at m;split at m
 ·rw [DP] at rx ry;exact ⟨_,_,rx,ry,k _ _<|.bl R m⟩
 ·exact m.elim⟩
def Sh:M2:=fun x y h Q=>match x,y with
 | .int i,.int j=>Q (.bl (decide (j<i))) h
 | _,_=>False
theorem U0:M5 X (K3 .Gt) Sh:=⟨_,aaG,by
 intro H μ h x y wx wy Qw Q R rx ry m k;unfold Sh at m;split at m
 ·rw [DP] at rx ry;exact ⟨_,_,rx,ry,k _ _<|.bl R m⟩
 ·exact m.elim⟩
theorem aJ.ne_nil {H:Hp}{xs:List V}(r:aJ K H μ ws xs):xs=[]↔ws=[]:=by
 have:=r.len
 constructor
 ·intro e;subst e;exact RT this
 ·intro e;subst e;exact RT this.symm
def Fi:M2:=fun x y h Q=>match y with
 | .int i=>(match view h x with
  | some ws=>(match J7 ws i with
   | some w=>Q w h
   | none=>False)
  | none=>False)
 | _=>False
theorem aJ.at {H:Hp}{μ : Mu}{ws:List W}{xs:List V}{i:Int}{w:W}(r:aJ K H μ ws xs)(e:J7 ws i=FN w):∃ v,J7 xs i=FN v/\DP K H μ w v:=by
 unfold J7 at e |-
 rw [<-r.len];cases q:NQ ws.length i with
 | none=>rw [q] at e;cases e
 | some j=>rw [q] at e;exact r.get e
theorem cC {H:Hp}{h:Gh}{w:W}{v:V}(R:Er K μ H h)(r:DP K H μ w v)(e:dF h w=FN ws):∃ p xs,v=.ref p/\JF K H p xs/\aJ K H μ ws xs:=by
 cases w with
 | lst us=>
  rw [DP] at r;obtain ⟨p,xs,ev,hs,rs⟩:=r;cases (show FN us=FN ws from e)
  exact ⟨p,xs,ev,hs.sq,rs⟩
 | kls us=>
  rw [DP] at r;obtain ⟨p,xs,ev,hs,rs⟩:=r;cases (show FN us=FN ws from e)
  exact ⟨p,xs,ev,hs.sq,rs⟩
 | loc n=>
  rw [DP] at r;obtain ⟨p,ev,hm⟩:=r;unfold dF at e;dsimp only at e;cases ec:h.c n with
  | none=>rw [ec] at e;cases e
  | some cl=>
   rw [ec] at e;cases cl with
   | lst us=>
    cases (show FN us=FN ws from e)
    obtain ⟨p',xs,hm',hx,rs⟩:=R.lstAt ec;have ep:p'=p:=by rw [hm] at hm';exact (Gw hm').symm
    subst ep;exact ⟨p',xs,ev,.of hx,rs⟩
   | _=>cases e
 | _=>cases e
theorem zO {H:Hp}{h:Gh}{w:W}{v:V}(R:Er K μ H h)(r:DP K H μ w v)(e:view h w=FN ws):∃ p xs,v=.ref p/\(JF K H p xs\/Hj K H p xs)/\aJ K H μ ws xs:=by
 cases w with
 | tup us=>
  rw [DP] at r;obtain ⟨p,xs,ev,hs,rs⟩:=r;cases (show FN us=FN ws from e)
  exact ⟨p,xs,ev,.inr hs,rs⟩
 | lst us=>
  obtain ⟨p,xs,ev,hs,rs⟩:=cC (ws:=ws) R r e;exact ⟨p,xs,ev,.inl hs,rs⟩
 | kls us=>
  obtain ⟨p,xs,ev,hs,rs⟩:=cC (ws:=ws) R r e;exact ⟨p,xs,ev,.inl hs,rs⟩
 | loc n=>
  obtain ⟨p,xs,ev,hs,rs⟩:=cC (ws:=ws) R r e;exact ⟨p,xs,ev,.inl hs,rs⟩
 | _=>cases e
theorem ahq:aao K (rIx K) Fi:=by
 intro H μ h x y wx wy Qw Q R rx ry m k;unfold Fi at m;split at m
 ·rename_i i;split at m
  ·rename_i ws ev;split at m
   ·rename_i w ew;obtain ⟨p,xs,ex,hs,rs⟩:=zO R rx ev;obtain ⟨v,hv,rv⟩:=rs.at ew;rw [DP] at ry;have fin:=k _ _ ⟨μ,w,h,.refl,R,rv,m⟩;rcases hs with hs | hs
    ·exact .inl ⟨p,xs,i,v,ex,ry,hs,hv,fin⟩
    ·exact .inr<|.inl ⟨p,xs,i,v,ex,ry,hs,hv,fin⟩
   ·exact m.elim
  ·exact m.elim
 ·exact m.elim
theorem adJ {a b:Expr}{pos:Pos}(ha:DE X a ma)(hb:DE X b mb)(hs:zq b):DE X (.Subscript a b pos) (DR Fi ma mb):=(aay Zt ha hb hs).of fun Z H Q h=>two h fun R r1 r2 m k=>ahq R r1 r2 m k
abbrev MO:=Sw->Gh->(Option Int->Gh->Prop)->Prop
def tDO (K:Dp)(m:MO):TO:=fun Z H Q=>∃ μ h Zw Qw,Er K μ H h/\Slots K H μ Zw Z/\m Zw h Qw/\∀ o H',(∃ μ' h',Ij K H μ H' μ'/\Er K μ' H' h'/\Qw o h')->Q o H'
abbrev DO (X:Cx)(e:Option Expr)(m:MO):Prop:=PO X e (tDO X.K m)
theorem PO.of {e:Option Expr}{t t':TO}(h:PO X e t)(k:∀ Z H Q,t' Z H Q->t Z H Q):PO X e t':=by
 unfold PO at h |-
 intros
 apply h <;> first | assumption | (apply k;assumption)
def mO:MO:=fun _ h Q=>Q FX h
def qQ (m:ME):MO:=fun Z h Q=>m Z h fun w h1=>match w with
 | .int i=>Q (FN i) h1
 | _=>False
theorem Jf:DO X FX mO:=PO.of zbq fun Z H Q ⟨μ,h,Zw,Qw,R,S,m,k⟩=>k _ _ ⟨μ,h,.refl,R,m⟩
theorem lC {e:Expr}(he:DE X e ma):DO X (FN e) (qQ ma):=PO.of (ahs he) fun Z H Q ⟨μ,h,Zw,Qw,R,S,m,k⟩=>by
 refine ⟨μ,h,Zw,_,R,S,m,fun v H1 ⟨μ1,w,h1,e1,R1,r1,m1⟩=>?_⟩;split at m1
 ·rw [DP] at r1;exact ⟨_,r1,k _ _ ⟨μ1,h1,e1,R1,m1⟩⟩
 ·exact m1.elim
def xT (xs:List W)(lo hi:Option Int):List W:=(xs.drop (HT.sIx xs.length 0 lo)).take (HT.sIx xs.length xs.length hi - HT.sIx xs.length 0 lo)
def Ut (r:W->Option Int->Option Int->Gh->WK->Prop)(m:ME)(l u:MO):ME:=fun Z h Q=>m Z h fun x h1=>l Z h1 fun lo h2=>u Z h2 fun hi h3=>r x lo hi h3 Q
theorem aJ.cutv {H:Hp}{xs:List V}(r:aJ K H μ ws xs)(lo hi:Option Int):aJ K H μ (xT ws lo hi) (Ld xs lo hi):=by
 unfold xT Ld;rw [<-r.len];exact (r.drop _).take _
end
mutual
def Gg:W->W->Bool
 | .non,.non=>true
 | .bl a,.bl b=>a==b
 | .bl a,.int b=>(if a then 1 else 0)==b
 | .int a,.bl b=>a==(if b then 1 else 0)
 | .int a,.int b=>a==b
 | .str a,.str b=>a==b
 | .tup a,.tup b=>kJ a b
 | .lst a,.lst b=>kJ a b
 | _,_=>false
def kJ:List W->List W->Bool
 | [],[]=>true
 | a::as,b::bs=>Gg a b&&kJ as bs
 | _,_=>false
end
def HD:Nat->W->Bool
 | _,.non=>true
 | _,.bl _=>true
 | _,.int _=>true
 | _,.str _=>true
 | n+1,.tup ws=>ws.all (HD n)
 | n+1,.lst ws=>ws.all (HD n)
 | _,_=>false
mutual
def Dt (K:Dp)(H:Hp):W->V->Prop
 | .non,v=>v=.non
 | .bl b,v=>v=.bl b
 | .int i,v=>v=.int i
 | .str x,v=>v=.str x
 | .tup ws,v=>∃ p xs,v=.ref p/\Hj K H p xs/\Jq K H ws xs
 | .lst ws,v=>∃ p xs,v=.ref p/\JF K H p xs/\Jq K H ws xs
 | .ty _,_=>False
 | .kls _,_=>False
 | .loc _,_=>False
 | .exc _,_=>False
 | .exa _ _,_=>False
 | .fnv _ _,_=>False
def Jq (K:Dp)(H:Hp):List W->List V->Prop
 | [],xs=>xs=[]
 | w::ws,xs=>∃ v vs,xs=v::vs/\Dt K H w v/\Jq K H ws vs
end
section
variable {X:Cx}{K:Dp}{H:Hp}{h:Gh}
theorem Jq.len:∀ {ws:List W} {xs:List V},Jq K H ws xs->ws.length=xs.length
 | [],xs,h=>by
  have e:xs=[]:=by rw [Jq] at h;exact h
  rw [e];rfl
 | w::ws,xs,h=>by
  rw [Jq] at h;obtain ⟨v,vs,e,_,h⟩:=h;rw [e,K9,K9,Jq.len h]
theorem Jq.get:∀ {ws:List W} {xs:List V} {i:Nat} {w:W},Jq K H ws xs->ws[i]?=FN w->∃ v,xs[i]?=FN v/\Dt K H w v
 | [],_,_,_,_,e=>by simp at e
 | a::ws,xs,0,w,h,e=>by
  rw [Jq] at h;obtain ⟨v,vs,e1,r,_⟩:=h;simp at e;subst e;subst e1;exact ⟨v,rfl,r⟩
 | a::ws,xs,i+1,w,h,e=>by
  rw [Jq] at h;obtain ⟨v,vs,e1,_,h⟩:=h;subst e1;obtain ⟨u,h1,h2⟩:=Jq.get (i:=i) (w:=w) h (by simpa using e);exact ⟨u,by simpa using h1,h2⟩
theorem Cq {n:Nat}(one:∀ {w:W} {v:V},DP K H μ w v->HD n w=true->Dt K H w v):∀ {ws:List W} {xs:List V},aJ K H μ ws xs->ws.all (HD n)=true->Jq K H ws xs
 | [],_,h,_=>by rw [aJ] at h;rw [Jq];exact h
 | w::ws,_,h,p=>by
  rw [aJ] at h;rw [Jq];obtain ⟨v,vs,e,r,h⟩:=h;rw [XQ,V8] at p;exact ⟨v,vs,e,one r p.1,Cq one h p.2⟩
theorem Wc:∀ (n:Nat) {w:W} {v:V},DP K H μ w v->HD n w=true->Dt K H w v:=by
 intro n;induction n with
 | zero=>
  intro w v r p;cases w with
  | non=>rw [DP] at r;rw [Dt];exact r
  | bl _=>rw [DP] at r;rw [Dt];exact r
  | int _=>rw [DP] at r;rw [Dt];exact r
  | str _=>rw [DP] at r;rw [Dt];exact r
  | _=>simp [HD] at p
 | succ n ih=>
  intro w v r p;cases w with
  | non=>rw [DP] at r;rw [Dt];exact r
  | bl _=>rw [DP] at r;rw [Dt];exact r
  | int _=>rw [DP] at r;rw [Dt];exact r
  | str _=>rw [DP] at r;rw [Dt];exact r
  | tup ws=>
   rw [DP] at r;rw [Dt];obtain ⟨p',xs,e,hs,rs⟩:=r;exact ⟨p',xs,e,hs,Cq ih rs<|by simpa [HD] using p⟩
  | lst ws=>
   rw [DP] at r;rw [Dt];obtain ⟨p',xs,e,hs,rs⟩:=r;exact ⟨p',xs,e,hs.sq,Cq ih rs<|by simpa [HD] using p⟩
  | _=>simp [HD] at p
theorem tB:∀ {a b:List W},a.length≠b.length->kJ a b=false
 | [],[],h=>absurd rfl h
 | [],_::_,_=>by simp [kJ]
 | _::_,[],_=>by simp [kJ]
 | a::as,b::bs,h=>by
  rw [kJ,tB (a:=as) (b:=bs) (by simpa using h),Bool.and_false]
def Wh (a b:List W)(j:Nat):Bool:=Gg (a.getD j .non) (b.getD j .non)
theorem ud:∀ {a b:List W},a.length=b.length->(LC a.length).all (Wh a b)=kJ a b
 | [],[],_=>by simp [kJ]
 | [],_::_,h=>by simp at h
 | _::_,[],h=>by simp at h
 | a::as,b::bs,h=>by
  rw [kJ,<-ud (a:=as) (b:=bs) (by simpa using h),K9,List.range_succ_eq_map,XQ,List.all_map];rfl
mutual
theorem Ce {ajY:List (Addr×Obj)}{s:AP}{Z : St}(I:DX X ajY Z H s):∀ {w u:W} {v:V},Dt X.K H w v->Dt X.K H u v->Gg w u=true
 | .non,u,v,h,g=>by rw [Dt] at h;subst h;cases u <;> rw [Dt] at g <;> first | rfl | exact g.elim | (obtain ⟨_,_,g,_⟩:=g;cases g;done) | (cases g;done)
 | .bl b,u,v,h,g=>by rw [Dt] at h;subst h;cases u <;> rw [Dt] at g <;> first | (injection g with g;simp [Gg,g];done) | exact g.elim | (obtain ⟨_,_,g,_⟩:=g;cases g;done) | (cases g;done)
 | .int b,u,v,h,g=>by rw [Dt] at h;subst h;cases u <;> rw [Dt] at g <;> first | (injection g with g;simp [Gg,g];done) | exact g.elim | (obtain ⟨_,_,g,_⟩:=g;cases g;done) | (cases g;done)
 | .str b,u,v,h,g=>by rw [Dt] at h;subst h;cases u <;> rw [Dt] at g <;> first | (injection g with g;simp [Gg,g];done) | exact g.elim | (obtain ⟨_,_,g,_⟩:=g;cases g;done) | (cases g;done)
 | .tup ws,u,v,h,g=>by
  rw [Dt] at h;obtain ⟨p,xs,e,hs,ds⟩:=h;subst e;cases u with
  | tup us=>
   rw [Dt] at g;obtain ⟨p',xs',e',hs',ds'⟩:=g;cases e'
   have:=I.tuple_inj hs hs'
   subst this;rw [Gg];exact qG I ds ds'
  | lst us=>
   rw [Dt] at g;obtain ⟨p',xs',e',hs',ds'⟩:=g;cases e'
   obtain ⟨_,_,t,_⟩:=I.tuple hs;obtain ⟨_,_,l,_⟩:=I.list hs';exact absurd rfl<|Ym l.isList<|show s.heap.IsTuple _ _ from t
  | ty _=>rw [Dt] at g;exact g.elim
  | loc _=>rw [Dt] at g;exact g.elim
  | kls _=>rw [Dt] at g;exact g.elim
  | _=>rw [Dt] at g;cases g
 | .lst ws,u,v,h,g=>by
  rw [Dt] at h;obtain ⟨p,xs,e,hs,ds⟩:=h;subst e;cases u with
  | lst us=>
   rw [Dt] at g;obtain ⟨p',xs',e',hs',ds'⟩:=g;cases e'
   have:=I.list_inj hs hs'
   subst this;rw [Gg];exact qG I ds ds'
  | tup us=>
   rw [Dt] at g;obtain ⟨p',xs',e',hs',ds'⟩:=g;cases e'
   obtain ⟨_,_,t,_⟩:=I.tuple hs';obtain ⟨_,_,l,_⟩:=I.list hs;exact absurd rfl<|Ym l.isList<|show s.heap.IsTuple _ _ from t
  | ty _=>rw [Dt] at g;exact g.elim
  | loc _=>rw [Dt] at g;exact g.elim
  | kls _=>rw [Dt] at g;exact g.elim
  | _=>rw [Dt] at g;cases g
 | .ty _,_,_,h,_=>by rw [Dt] at h;exact h.elim
 | .loc _,_,_,h,_=>by rw [Dt] at h;exact h.elim
 | .exc _,_,_,h,_=>by rw [Dt] at h;exact h.elim
 | .exa _ _,_,_,h,_=>by rw [Dt] at h;exact h.elim
 | .kls _,_,_,h,_=>by rw [Dt] at h;exact h.elim
theorem qG {ajY:List (Addr×Obj)}{s:AP}{Z : St}(I:DX X ajY Z H s):∀ {ws us:List W} {vs:List V},Jq X.K H ws vs->Jq X.K H us vs->kJ ws us=true
 | [],us,vs,h,g=>by
  rw [Jq] at h;subst h;cases us with
  | nil=>rfl
  | cons _ _=>rw [Jq] at g;obtain ⟨_,_,g,_⟩:=g;cases g
 | w::ws,us,vs,h,g=>by
  rw [Jq] at h;obtain ⟨v,vs',e,h1,h2⟩:=h;subst e;cases us with
  | nil=>rw [Jq] at g;cases g
  | cons u us=>
   rw [Jq] at g;obtain ⟨v',vs'',e',g1,g2⟩:=g;cases e'
   rw [kJ,Ce I h1 g1,qG I h2 g2];rfl
end
theorem in1_units {A:Fg}:A.in1.units=A.units+1:=rfl
theorem aeR {n:Nat}(h:HD n (.lst ws)=true):∃ m,n=m+1/\ws.all (HD m)=true:=by
 cases n with
 | zero=>simp [HD] at h
 | succ m=>exact ⟨m,rfl,by simpa [HD] using h⟩
theorem Ab {s:AP}{A:Fg}{n:Nat}{us:List W}{xs ys:List V}{its jts:List Mk}(d1:Jq K H ws xs)(d2:Jq K H us ys)(p1:ws.all (HD n)=true)(p2:us.all (HD n)=true)(r1:DY xs its)(r2:DY ys jts)
  (one:∀ {w u:W} {v x:V} {a b:Mk},Dt K H w v->Dt K H u x->HD n w=true->HD n u=true->RelV v a->RelV x b->WL A s a b (Gg w u)) :
  ∀ j (h1:j<its.toArray.size) (h2:j<jts.toArray.size),WL A s its.toArray[j] jts.toArray[j] (Wh ws us j):=by
 intro j h1 h2;have l1:j<ws.length:=by rw [d1.len,r1.length];simpa using h1
 have l2:j<us.length:=by rw [d2.len,r2.length];simpa using h2
 obtain ⟨v,ev,dv⟩:=d1.get (GK l1);obtain ⟨x,ex,dx⟩:=d2.get (GK l2);obtain ⟨a,ea,ra⟩:=r1.get ev;obtain ⟨b,eb,rb⟩:=r2.get ex;have ea':its.toArray[j]=a:=by simpa using (Le.mp ea).2
 have eb':jts.toArray[j]=b:=by simpa using (Le.mp eb).2
 have e:Wh ws us j=Gg ws[j] us[j]:=by
  unfold Wh;rw [Hy,Hy,GK l1,GK l2];rfl
 rw [ea',eb',e];exact one dv dx (Wq.mp p1 _<|TQ l1) (Wq.mp p2 _<|TQ l2) ra rb
theorem size_of {xs:List V}{its:List Mk}(d:Jq K H ws xs)(r:DY xs its):its.toArray.size=ws.length:=by
 rw [d.len,r.length];simp
theorem afn {us:List W}:((LC (min ws.length us.length)).all (Wh ws us)&&ws.length==us.length)=kJ ws us:=by
 by_cases e:ws.length=us.length
 ·rw [<-e,Nat.min_self,ud e];simp
 ·rw [tB e];have e2:(ws.length==us.length)=false:=beq_eq_false_iff_ne.mpr e;rw [e2,Bool.and_false]
inductive Kd (s:AP):W->Mk->Prop where
 | non:Kd s .non .none
 | bl (b:Bool):Kd s (.bl b) (.bool b)
 | int (i:Int) (t:Tok):Kd s (.int i) (.int i t)
 | str (x:Str) (t:Tok):Kd s (.str x) (.str x t)
 | tup (ws:List W) {p:Addr} {its:Array Mk} (q:s.heap.IsTuple p its):Kd s (.tup ws) (.ref p)
 | lst (ws:List W) {p:Addr} {its:Array Mk} (q:s.heap.IsList p its):Kd s (.lst ws) (.ref p)
theorem wZ {ajY:List (Addr×Obj)}{s:AP}{Z : St}(I:DX X ajY Z H s){w:W}{v:V}{a:Mk}(d:Dt X.K H w v)(r:RelV v a):Kd s w a:=by
 cases w with
 | non=>rw [Dt] at d;subst d;cases r;exact .non
 | bl b=>rw [Dt] at d;subst d;cases r;exact .bl b
 | int b=>rw [Dt] at d;subst d;obtain ⟨t,rfl⟩:=r;exact .int b t
 | str b=>rw [Dt] at d;subst d;obtain ⟨t,rfl⟩:=r;exact .str b t
 | tup ws=>rw [Dt] at d;obtain ⟨p,xs,e,hs,_⟩:=d;subst e;cases r;obtain ⟨its,_,q,_⟩:=I.tuple hs;exact .tup ws q
 | lst ws=>rw [Dt] at d;obtain ⟨p,xs,e,hs,_⟩:=d;subst e;cases r;obtain ⟨its,_,q,_⟩:=I.list hs;exact .lst ws q.isList
 | _=>rw [Dt] at d;exact d.elim
def sq1:W->Bool
 | .tup _=>true
 | .lst _=>true
 | _=>false
def pX:W->W->Bool
 | .tup _,.tup _=>true
 | .lst _,.lst _=>true
 | _,_=>false
def aav (w u:W):Bool:=!(sq1 w||sq1 u)
open SeqAt.EqAt in
theorem Qd {s:AP}{A:Fg}{w u:W}{a b:Mk}(hu:A.units<Jj)(k1:Kd s w a)(k2:Kd s u b)(h:pX w u=false)(f:aav w u=false):WL A s a b (Gg w u):=by
 cases k1 <;> cases k2 <;> try (first | (cases h;done) | (cases f;done))
 ·apply none_tuple <;> assumption
 ·apply none_list <;> assumption
 ·apply bool_tuple <;> assumption
 ·apply bool_list <;> assumption
 ·apply int_tuple <;> assumption
 ·apply int_list <;> assumption
 ·apply str_tuple <;> assumption
 ·apply str_list <;> assumption
 ·apply tuple_none <;> assumption
 ·apply tuple_bool <;> assumption
 ·apply tuple_int <;> assumption
 ·apply tuple_str <;> assumption
 ·apply tuple_list <;> assumption
 ·apply list_none <;> assumption
 ·apply list_bool <;> assumption
 ·apply list_int <;> assumption
 ·apply list_str <;> assumption
 ·apply list_tuple <;> assumption
open SeqAt.RcAt in
theorem aja {s:AP}{A:Fg}{w u:W}{a b:Mk}(hu:A.units<Jj)(k1:Kd s w a)(k2:Kd s u b)(h:pX w u=false):SeqAt.RcAt A s a b (Gg w u):=by
 cases k1 <;> cases k2 <;> try (first | (cases h;done))
 ·apply none_none <;> assumption
 ·apply none_bool <;> assumption
 ·apply none_int <;> assumption
 ·apply none_str <;> assumption
 ·apply none_tuple <;> assumption
 ·apply none_list <;> assumption
 ·apply bool_none <;> assumption
 ·apply bool_bool <;> assumption
 ·apply bool_int <;> assumption
 ·apply bool_str <;> assumption
 ·apply bool_tuple <;> assumption
 ·apply bool_list <;> assumption
 ·apply int_none <;> assumption
 ·apply int_bool <;> assumption
 ·apply int_int <;> assumption
 ·apply int_str <;> assumption
 ·apply int_tuple <;> assumption
 ·apply int_list <;> assumption
 ·apply str_none <;> assumption
 ·apply str_bool <;> assumption
 ·apply str_int <;> assumption
 ·apply str_str <;> assumption
 ·apply str_tuple <;> assumption
 ·apply str_list <;> assumption
 ·apply tuple_none <;> assumption
 ·apply tuple_bool <;> assumption
 ·apply tuple_int <;> assumption
 ·apply tuple_str <;> assumption
 ·apply tuple_list <;> assumption
 ·apply list_none <;> assumption
 ·apply list_bool <;> assumption
 ·apply list_int <;> assumption
 ·apply list_str <;> assumption
 ·apply list_tuple <;> assumption
open SeqAt.RcNeAt in
theorem aiu {s:AP}{A:Fg}{w u:W}{a b:Mk}(hu:A.units<Jj)(k1:Kd s w a)(k2:Kd s u b)(h:pX w u=false):SeqAt.RcNeAt A s a b (!Gg w u):=by
 cases k1 <;> cases k2 <;> try (first | (cases h;done))
 ·apply none_none <;> assumption
 ·apply none_bool <;> assumption
 ·apply none_int <;> assumption
 ·apply none_str <;> assumption
 ·apply none_tuple <;> assumption
 ·apply none_list <;> assumption
 ·apply bool_none <;> assumption
 ·apply bool_bool <;> assumption
 ·apply bool_int <;> assumption
 ·apply bool_str <;> assumption
 ·apply bool_tuple <;> assumption
 ·apply bool_list <;> assumption
 ·apply int_none <;> assumption
 ·apply int_bool <;> assumption
 ·apply int_int <;> assumption
 ·apply int_str <;> assumption
 ·apply int_tuple <;> assumption
 ·apply int_list <;> assumption
 ·apply str_none <;> assumption
 ·apply str_bool <;> assumption
 ·apply str_int <;> assumption
 ·apply str_str <;> assumption
 ·apply str_tuple <;> assumption
 ·apply str_list <;> assumption
 ·apply tuple_none <;> assumption
 ·apply tuple_bool <;> assumption
 ·apply tuple_int <;> assumption
 ·apply tuple_str <;> assumption
 ·apply tuple_list <;> assumption
 ·apply list_none <;> assumption
 ·apply list_bool <;> assumption
 ·apply list_int <;> assumption
 ·apply list_str <;> assumption
 ·apply list_tuple <;> assumption
theorem wU:∀ {w u:W},pX w u=true->(∃ ws us,w=.tup ws/\u=.tup us)\/∃ ws us,w=.lst ws/\u=.lst us
 | .tup ws,.tup us,_=>.inl ⟨ws,us,rfl,rfl⟩
 | .lst ws,.lst us,_=>.inr ⟨ws,us,rfl,rfl⟩
def wV:V->W
 | .bl b=>.bl b
 | .int b=>.int b
 | .str b=>.str b
 | _=>.non
theorem aaD {v x:V}(h:Ir v=true)(g:Ir x=true):Gg (wV v) (wV x)=eqV v x:=by
 cases v <;> first | (cases h;done) | (cases x <;> first | (cases g;done) | rfl)
theorem Qh {w:W}{v:V}(d:Dt K H w v)(h:sq1 w=false):Ir v=true/\w=wV v:=by
 cases w with
 | tup _=>cases h
 | lst _=>cases h
 | non=>rw [Dt] at d;subst d;exact ⟨rfl,rfl⟩
 | bl _=>rw [Dt] at d;subst d;exact ⟨rfl,rfl⟩
 | int _=>rw [Dt] at d;subst d;exact ⟨rfl,rfl⟩
 | str _=>rw [Dt] at d;subst d;exact ⟨rfl,rfl⟩
 | _=>rw [Dt] at d;exact d.elim
theorem Pa {s:AP}{A:Fg}{w u:W}{v x:V}{a b:Mk}(dw:Dt K H w v)(du:Dt K H u x)(hf:aav w u=true)(ra:RelV v a)(rb:RelV x b):WL A s a b (Gg w u):=by
 have hf:=Bool.or_eq_false_iff.mp (Eq.mp (Bool.not_eq_true' _) hf);have ⟨f1,e1⟩:=Qh dw hf.1;have ⟨f2,e2⟩:=Qh du hf.2;rw [e1,e2,aaD f1 f2];exact ahM ra rb f1 f2
theorem QM {ajY:List (Addr×Obj)}{s:AP}{Z : St}(I:DX X ajY Z H s){n:Nat}{A:Fg}{w u:W}{v x:V}{a b:Mk}(ih:∀ {w u:W} {v x:V} {a b:Mk},Dt X.K H w v->Dt X.K H u x->HD n w=true->HD n u=true->RelV v a->RelV x b->WL A.in1 s a b (Gg w u))(hu:A.units<Jj)(h2:pX w u=true)(dw:Dt X.K H w v)(du:Dt X.K H u x)(pw:HD (n+1) w=true)(pu:HD (n+1) u=true)(ra:RelV v a)(rb:RelV x b):∃ p q,v=.ref p/\x=.ref q/\a=.ref p/\b=.ref q/\SeqAt.RcAt A s a b (Gg w u)/\SeqAt.RcNeAt A s a b (!Gg w u):=by
 rcases wU h2 with ⟨ws,us,rfl,rfl⟩ | ⟨ws,us,rfl,rfl⟩ <;> rw [Dt] at dw du <;> obtain ⟨p,xs1,rfl,hs1,ds1⟩:=dw <;> obtain ⟨q,xs2,rfl,hs2,ds2⟩:=du <;> cases ra <;> cases rb <;> refine ⟨p,q,rfl,rfl,rfl,rfl,?_⟩ <;> rw [Gg] <;> rw [HD] at pw pu
 ·obtain ⟨its1,rv1,q1,_⟩:=I.tuple hs1;obtain ⟨its2,rv2,q2,_⟩:=I.tuple hs2;have it:=Ab ds1 ds2 pw pu rv1 rv2 ih;rw [<-afn,<-size_of ds1 rv1,<-size_of ds2 rv2];exact ⟨.tuples q1 q2 hu it,.tuples q1 q2 hu it⟩
 ·obtain ⟨its1,rv1,q1,_⟩:=I.list hs1;obtain ⟨its2,rv2,q2,_⟩:=I.list hs2;by_cases hl:ws.length=us.length
  ·have it:=Ab ds1 ds2 pw pu rv1 rv2 ih;have e:its1.toArray.size=its2.toArray.size:=by rw [size_of ds1 rv1,size_of ds2 rv2,hl]
   rw [<-ud hl,<-size_of ds1 rv1];exact ⟨.lists q1.isList q2.isList e hu it,.lists q1.isList q2.isList e hu it⟩
  ·rw [tB hl];have e:(its1.toArray.size != its2.toArray.size)=true:=by rw [size_of ds1 rv1,size_of ds2 rv2];exact bne_iff_ne.mpr hl
   exact ⟨.lists_lengths q1.isList q2.isList e hu,.lists_lengths q1.isList q2.isList e hu⟩
theorem FW {w u:W}(h:pX w u=true):∀ {n:Nat},HD n w=true->∃ m,n=m+1
 | 0,p=>by rcases wU h with ⟨_,_,rfl,_⟩ | ⟨_,_,rfl,_⟩ <;> cases p
 | m+1,_=>⟨m,rfl⟩
theorem ab5 {ajY:List (Addr×Obj)}{s:AP}{Z : St}(I:DX X ajY Z H s):∀ (n:Nat) {A:Fg} {w u:W} {v x:V} {a b:Mk},A.units+n<Jj->Dt X.K H w v->Dt X.K H u x->HD n w=true->HD n u=true->RelV v a->RelV x b->WL A s a b (Gg w u):=by
 intro n;induction n with
 | zero=>
  intro A w u v x a b hu dw du pw pu ra rb;by_cases hf:aav w u=true
  ·exact Pa dw du hf ra rb
  by_cases h2:pX w u=true
  ·obtain ⟨m,e⟩:=FW h2 pw;cases e
  ·exact Qd hu (wZ I dw ra) (wZ I du rb) (Xo _ ▸ h2)<|Xo _ ▸ hf
 | succ n ih=>
  intro A w u v x a b hu dw du pw pu ra rb;by_cases hf:aav w u=true
  ·exact Pa dw du hf ra rb
  by_cases h2:pX w u=true
  ·have hu':=Rj (Wo _ _) hu;obtain ⟨p,q,rfl,rfl,rfl,rfl,z,_⟩:=QM I (ih (A:=A.in1) (by rw [in1_units,Nat.add_assoc,WY 1];exact hu)) hu' h2 dw du pw pu ra rb;by_cases hp:p=q
   ·subst hp;rw [Ce I dw du];exact SeqAt.EqAt.same _
   ·exact SeqAt.EqAt.of_refs hp z
  ·exact Qd (Rj (Wo _ _) hu) (wZ I dw ra) (wZ I du rb) (Xo _ ▸ h2)<|Xo _ ▸ hf
theorem rcN {ajY:List (Addr×Obj)}{s:AP}{Z : St}(I:DX X ajY Z H s){A:Fg}{w u:W}{v x:V}{a b:Mk}{p:Prop}(hu:A.units+(m+1)<Jj)(hu':A.units<Jj)(h2:pX w u=true)(dw:Dt X.K H w v)(du:Dt X.K H u x)(pw:HD (m+1) w=true)(pu:HD (m+1) u=true)(ra:RelV v a)(rb:RelV x b)(f:SeqAt.RcAt A s a b (Gg w u)/\SeqAt.RcNeAt A s a b (!Gg w u)->p):p:=by
 obtain ⟨_,_,_,_,_,_,z⟩:=QM I (ab5 I m (A:=A.in1) (by rw [in1_units,Nat.add_assoc,WY 1];exact hu)) hu' h2 dw du pw pu ra rb;exact f z
theorem aaU {ajY:List (Addr×Obj)}{s:AP}{Z : St}(I:DX X ajY Z H s)(n:Nat){A:Fg}{w u:W}{v x:V}{a b:Mk}(hu:A.units+n<Jj)(dw:Dt X.K H w v)(du:Dt X.K H u x)(pw:HD n w=true)(pu:HD n u=true)(ra:RelV v a)(rb:RelV x b):SeqAt.RcAt A s a b (Gg w u):=by
 have hu':=Rj (Wo _ _) hu;by_cases h2:pX w u=true
 ·obtain ⟨m,rfl⟩:=FW h2 pw;exact rcN I hu hu' h2 dw du pw pu ra rb (·.1)
 ·exact aja hu' (wZ I dw ra) (wZ I du rb)<|Xo _ ▸ h2
theorem zbF {ajY:List (Addr×Obj)}{s:AP}{Z : St}(I:DX X ajY Z H s)(n:Nat){A:Fg}{w u:W}{v x:V}{a b:Mk}(hu:A.units+n<Jj)(dw:Dt X.K H w v)(du:Dt X.K H u x)(pw:HD n w=true)(pu:HD n u=true)(ra:RelV v a)(rb:RelV x b):SeqAt.RcNeAt A s a b (!Gg w u):=by
 have hu':=Rj (Wo _ _) hu;by_cases h2:pX w u=true
 ·obtain ⟨m,rfl⟩:=FW h2 pw;exact rcN I hu hu' h2 dw du pw pu ra rb (·.2)
 ·exact aiu hu' (wZ I dw ra) (wZ I du rb)<|Xo _ ▸ h2
def Sq (h:Gh):W->Option W
 | .loc n=>(match h.c n with
  | some (.lst ws)=>FN (.lst ws)
  | _=>FX)
 | w=>FN w
theorem tu {w d:W}{v:V}{n:Nat}(R:Er K μ H h)(r:DP K H μ w v)(e:Sq h w=FN d)(p:HD n d=true):Dt K H d v:=by
 have other:Sq h w=FN w->Dt K H d v:=fun z=>by
  rw [z] at e;cases e;exact Wc n r p
 cases w with
 | loc m=>
  unfold Sq at e;dsimp only at e;cases ec:h.c m with
  | none=>rw [ec] at e;cases e
  | some cl=>
   rw [ec] at e;cases cl with
   | lst us=>
    cases (show FN (W.lst us)=FN d from e)
    obtain ⟨p',xs,hm',hx,rs⟩:=R.lstAt ec;rw [DP] at r;obtain ⟨q,ev,hm⟩:=r;have ep:p'=q:=by rw [hm] at hm';exact (Gw hm').symm
    subst ep;obtain ⟨k,rfl,p⟩:=aeR p;rw [Dt];exact ⟨p',xs,ev,.of hx,Cq (Wc k) rs p⟩
   | _=>cases e
 | _=>exact other rfl
def acX (K:Dp)(neg:Bool):R2:=fun x y H Q=>∃ w u,Dt K H w x/\Dt K H u y/\HD 30 w=true/\HD 30 u=true/\Q (.bl (if neg then !Gg w u else Gg w u)) H
theorem agW (hu:X.A.units+30<Jj):Jo X (K3 .Eq) (acX X.K false):=by
 intro ajY s Z H x y v u Q I rx ry ⟨w,w',d1,d2,p1,p2,q⟩;exact aaU I 30 hu d1 d2 p1 p2 rx ry X.prog X.w X.xe _<|sW I q rfl
theorem ajo (hu:X.A.units+30<Jj):Jo X (K3 .NotEq) (acX X.K true):=by
 intro ajY s Z H x y v u Q I rx ry ⟨w,w',d1,d2,p1,p2,q⟩;exact zbF I 30 hu d1 d2 p1 p2 rx ry X.prog X.w X.xe _<|sW I q rfl
def Jg:M2:=fun x y h Q=>match Sq h x,Sq h y with
 | some a,FN b=>Jw (HD 30 a&&HD 30 b) (Q (.bl (Gg a b)) h) False
 | _,_=>False
def Lh:M2:=fun x y h Q=>match Sq h x,Sq h y with
 | some a,FN b=>Jw (HD 30 a&&HD 30 b) (Q (.bl (!Gg a b)) h) False
 | _,_=>False
theorem qN (hu:X.A.units+30<Jj):M5 X (K3 .Eq) Jg:=⟨_,agW hu,by
 intro H μ h x y wx wy Qw Q R rx ry m k;unfold Jg at m;split at m
 ·rename_i a b ea eb;cases hp:(HD 30 a&&HD 30 b) with
  | true=>
   rw [hp] at m;rw [V8] at hp;exact ⟨a,b,tu R rx ea hp.1,tu R ry eb hp.2,hp.1,hp.2,k _ _<|.bl R m⟩
  | false=>rw [hp] at m;exact (show False from m).elim
 ·exact m.elim⟩
theorem Fo (hu:X.A.units+30<Jj):M5 X (K3 .NotEq) Lh:=⟨_,ajo hu,by
 intro H μ h x y wx wy Qw Q R rx ry m k;unfold Lh at m;split at m
 ·rename_i a b ea eb;cases hp:(HD 30 a&&HD 30 b) with
  | true=>
   rw [hp] at m;rw [V8] at hp;exact ⟨a,b,tu R rx ea hp.1,tu R ry eb hp.2,hp.1,hp.2,k _ _<|.bl R m⟩
  | false=>rw [hp] at m;exact (show False from m).elim
 ·exact m.elim⟩
theorem adN {A:Fg}{k:Nat}(hr:mJ k A):A.units+30<Jj:=by have:=hr.units;lia
end
section
variable {X:Cx}{K:Dp}
theorem gC {H:Hp}{w:W}{vs:List V}(r:aJ K H μ [w] vs):∃ v,vs=[v]/\DP K H μ w v:=by
 rw [aJ] at r;obtain ⟨v,vr,ev,ra,r⟩:=r;rw [aJ] at r;subst r;exact ⟨v,ev,ra⟩
theorem zA {H:Hp}{w u:W}{vs:List V}(r:aJ K H μ [w,u] vs):∃ v x,vs=[v,x]/\DP K H μ w v/\DP K H μ u x:=by
 rw [aJ] at r;obtain ⟨v,vr,ev,ra,r⟩:=r;obtain ⟨x,e,rb⟩:=gC r;subst e;exact ⟨v,x,ev,ra,rb⟩
theorem qX.of {i j:Int}{n:Nat}(hi:Sm m i)(hj:Sm n j)(hm:m<=1000000)(hn:n<=1000000):qX i j:=⟨m,n,hm,hn,hi,hj⟩
theorem Sm.lit {i:Int}(h:Nat.ble (i.natAbs+1) (2^64)=true):Sm 64 i:=by
 have:=Nat.le_of_ble_eq_true h
 unfold Sm;lia
def Ji:MC:=fun ws h Q=>match ws with
 | [w]=>(match view h w with
  | some xs=>Q (.int (xs.length:Int)) h
  | none=>False)
 | _=>False
theorem oF:eY X (.builtin "len") Ji:=⟨_,xX,by
 intro H μ h vs ws Qw Q R r m k;unfold Ji at m;split at m
 ·split at m
  ·rename_i w _ xs ev;obtain ⟨v,e,rv⟩:=gC r;obtain ⟨p,ys,ex,hs,rs⟩:=zO R rv ev;subst e ex;exact ⟨p,ys,rfl,hs,by rw [<-rs.len];exact k _ _ (.int R m)⟩
  ·exact m.elim
 ·exact m.elim⟩
def ac8:MC:=fun ws h Q=>match ws with
 | [.int i]=>Q (.int (if i<0 then -i else i)) h
 | _=>False
def ZJ:MC:=fun ws h Q=>match ws with
 | [.int i,.int j]=>Q (.int (if j>i then j else i)) h
 | _=>False
theorem Yp (hc:X.calm=true):eY X (.builtin "max") ZJ:=⟨_,wL hc,by
 intro H μ h vs ws Qw Q R r m k;unfold ZJ at m;split at m
 ·obtain ⟨v,x,e,rv,rx⟩:=zA r;rw [DP] at rv rx;subst e rv rx;exact ⟨_,_,rfl,k _ _<|.int R m⟩
 ·exact m.elim⟩
def Ek:List W->Option (List Bool)
 | []=>FN []
 | .bl b::ws=>(Ek ws).map (b::·)
 | _=>FX
theorem yD {H:Hp}{μ : Mu}:∀ {ws:List W} {xs:List V} {bs:List Bool},aJ K H μ ws xs->Ek ws=FN bs->xs=bs.map V.bl
 | [],xs,bs,r,e=>by
  rw [aJ] at r;cases (show FN []=FN bs from e)
  exact r
 | w::ws,xs,bs,r,e=>by
  rw [aJ] at r;obtain ⟨v,vr,ev,ra,r⟩:=r;cases w with
  | bl b=>
   rw [DP] at ra;rw [Ek] at e;cases q:Ek ws with
   | none=>rw [q] at e;cases e
   | some cs=>
    rw [q] at e;cases (show FN (b::cs)=FN bs from e)
    rw [ev,ra,yD r q];rfl
  | _=>cases e
def Qn:MC:=fun ws h Q=>match ws with
 | [w]=>(match dF h w with
  | some us=>(match Ek us with
   | some bs=>Q (.bl (bs.all id)) h
   | none=>False)
  | none=>False)
 | _=>False
theorem UL (hc:X.calm=true):eY X (.builtin "all") Qn:=⟨_,zaN hc,by
 intro H μ h vs ws Qw Q R r m k;unfold Qn at m;split at m
 ·split at m
  ·split at m
   ·rename_i w _ us ev _ bs eb;obtain ⟨v,e,rv⟩:=gC r;obtain ⟨p,ys,ex,hs,rs⟩:=cC R rv ev;subst e ex;exact ⟨p,bs,rfl,by rw [<-yD rs eb];exact hs,k _ _<|.bl R m⟩
   ·exact m.elim
  ·exact m.elim
 ·exact m.elim⟩
def aaj (h:Gh)(w:W)(T:String):Option Bool:=match w with
 | .int _=>if T = "int" then FN true else if T = "bool"\/T = "tuple"\/T = "list" then FN false else FX
 | .bl _=>if T = "int"\/T = "bool" then FN true else if T = "tuple"\/T = "list" then FN false else FX
 | .str _=>if T = "int"\/T = "bool"\/T = "tuple"\/T = "list" then FN false else FX
 | .non=>if T = "int"\/T = "bool"\/T = "tuple"\/T = "list" then FN false else FX
 | .tup _=>if T = "tuple" then FN true else if T = "int"\/T = "bool"\/T = "list" then FN false else FX
 | w=>(match dF h w with
  | some _=>if T = "list" then FN true else if T = "int"\/T = "bool"\/T = "tuple" then FN false else FX
  | none=>FX)
theorem aiS {H:Hp}{h:Gh}{w:W}{v:V}{T:String}{b:Bool}(R:Er K μ H h)(r:DP K H μ w v)(e:aaj h w T=FN b):acH K H v T b:=by
 unfold aaj at e;split at e
 ·rw [DP] at r;subst r;split at e
  ·rename_i t;subst t;cases e;exact .inl ⟨rfl,rfl⟩
  ·split at e
   ·rename_i t;cases e;rcases t with t | t | t <;> subst t
    ·exact .inr<|.inl ⟨rfl,rfl⟩
    ·exact .inr<|.inr<|.inl ⟨rfl,rfl⟩
    ·exact .inr<|.inr<|.inr ⟨rfl,rfl⟩
   ·cases e
 ·rw [DP] at r;subst r;split at e
  ·rename_i t;cases e;rcases t with t | t <;> subst t
   ·exact .inl ⟨rfl,rfl⟩
   ·exact .inr<|.inl ⟨rfl,rfl⟩
  ·split at e
   ·rename_i t;cases e;rcases t with t | t <;> subst t
    ·exact .inr<|.inr<|.inl ⟨rfl,rfl⟩
    ·exact .inr<|.inr<|.inr ⟨rfl,rfl⟩
   ·cases e
 ·rw [DP] at r;subst r;split at e
  ·rename_i t;cases e;rcases t with t | t | t | t <;> subst t
   ·exact .inl ⟨rfl,rfl⟩
   ·exact .inr<|.inl ⟨rfl,rfl⟩
   ·exact .inr<|.inr<|.inl ⟨rfl,rfl⟩
   ·exact .inr<|.inr<|.inr ⟨rfl,rfl⟩
  ·cases e
 ·rw [DP] at r;subst r;split at e
  ·rename_i t;cases e;rcases t with t | t | t | t <;> subst t
   ·exact .inl ⟨rfl,rfl⟩
   ·exact .inr<|.inl ⟨rfl,rfl⟩
   ·exact .inr<|.inr<|.inl ⟨rfl,rfl⟩
   ·exact .inr<|.inr<|.inr ⟨rfl,rfl⟩
  ·cases e
 ·rw [DP] at r;obtain ⟨p,xs,ev,hs,_⟩:=r;subst ev;refine .inl ⟨xs,hs,?_⟩;split at e
  ·rename_i t;subst t;cases e;exact .inr (.inr (.inl ⟨rfl,rfl⟩))
  ·split at e
   ·rename_i t;cases e;rcases t with t | t | t <;> subst t
    ·exact .inl ⟨rfl,rfl⟩
    ·exact .inr<|.inl ⟨rfl,rfl⟩
    ·exact .inr<|.inr<|.inr ⟨rfl,rfl⟩
   ·cases e
 ·split at e
  ·rename_i ws ev;obtain ⟨p,xs,ex,hs,_⟩:=cC R r ev;subst ex;refine .inr ⟨xs,hs,?_⟩;split at e
   ·rename_i t;subst t;cases e;exact .inr (.inr (.inr ⟨rfl,rfl⟩))
   ·split at e
    ·rename_i t;cases e;rcases t with t | t | t <;> subst t
     ·exact .inl ⟨rfl,rfl⟩
     ·exact .inr<|.inl ⟨rfl,rfl⟩
     ·exact .inr<|.inr<|.inl ⟨rfl,rfl⟩
    ·cases e
  ·cases e
def Lk:MC:=fun ws h Q=>match ws with
 | [w,.ty T]=>(match aaj h w T with
  | some b=>Q (.bl b) h
  | none=>False)
 | _=>False
theorem Jd:eY X (.builtin "isinstance") Lk:=⟨_,zbk,by
 intro H μ h vs ws Qw Q R r m k;unfold Lk at m;split at m
 ·split at m
  ·rename_i w T _ b eb;obtain ⟨v,x,e,rv,rx⟩:=zA r;have hi:=aiS R rv eb;rw [DP] at rx;subst e rx;exact ⟨v,T,b,rfl,hi,k _ _<|.bl R m⟩
  ·exact m.elim
 ·exact m.elim⟩
def ni:MC:=fun ws h Q=>match ws with
 | [.tup us]=>Q (.tup us) h
 | [w]=>(match dF h w with
  | some us=>Q (.tup us) h
  | none=>False)
 | _=>False
theorem oR:eY X (.type "tuple") ni:=⟨_,uD,by
 intro H μ h vs ws Qw Q R r m k;unfold ni at m;split at m
 ·obtain ⟨v,e,rv⟩:=gC r;have rv':=rv;rw [DP] at rv;obtain ⟨p,xs,ex,hs,rs⟩:=rv;subst e ex;exact ⟨p,xs,rfl,.inr ⟨hs,k _ _ ⟨μ,_,h,.refl,R,rv',m⟩⟩⟩
 ·split at m
  ·rename_i w _ _ us ev;obtain ⟨v,e,rv⟩:=gC r;obtain ⟨p,ys,ex,hs,rs⟩:=cC R rv ev;subst e ex;exact ⟨p,ys,rfl,.inl ⟨hs,fun l hl=>k _ _ ⟨μ,_,h,(Ex.laid hl).ext,R.laid hl,.tupNew hl rs,m⟩⟩⟩
  ·exact m.elim
 ·exact m.elim⟩
abbrev MM:=W->List W->Gh->WK->Prop
def acL (K:Dp)(r:V->List V->Hp->VK->Prop)(mr:MM):Prop:=∀ {H:Hp} {μ : Mu} {h:Gh} {x:V} {vs:List V} {wx:W} {ws:List W} {Qw:WK} {Q:VK},Er K μ H h->DP K H μ wx x->aJ K H μ ws vs->mr wx ws h Qw->(∀ v H',DQ K H μ Qw v H'->Q v H')->r x vs H Q
def Et (h:Gh)(w:W)(P:Prop):Prop:=match w with
 | .loc n=>(match h.c n with
  | some (.lst _)=>P
  | _=>False)
 | _=>False
theorem Ao {H:Hp}{h:Gh}{w:W}{v:V}{P:Prop}(R:Er K μ H h)(r:DP K H μ w v)(e:Et h w P):tyV K "list" v H/\P:=by
 unfold Et at e;split at e
 ·split at e
  ·rename_i n _ ws ec;rw [DP] at r;obtain ⟨p,ev,hm⟩:=r;obtain ⟨p',xs,hm',hx,rs⟩:=R.lstAt ec;have ep:p'=p:=by rw [hm] at hm';exact (Gw hm').symm
   subst ep ev;exact ⟨.inl ⟨rfl,xs,.of hx⟩,e⟩
  ·exact e.elim
 ·exact e.elim
def pP (r:MM)(mo:ME)(ma:MA):ME:=fun Z h Q=>mo Z h fun x h1=>Et h1 x (ma Z h1 fun xs h2=>r x xs h2 Q)
variable {o e:Expr}{es:List Expr}{mo:ME}{ma:MA}{name:Str}{apos akb:Pos}{id:String}{r:V->List V->Hp->VK->Prop}{mr:MM}
theorem adu (slot:Slot "list" name id)(hty:typeOf (.builtin id)=pure (.type "method_descriptor"))(hm:MtR X id r)(hs:acL X.K r mr)(ho:DE X o mo)(ha:KZ X (e::es) ma)
  (hbase:Vp o name X.env (eval o X.env)=eval o X.env:=by rfl)
  (hfew:((JK akb (Eu (e::es) X.env)).all (fun x=>!x.1)&&(backToKw akb (Vl [] X.env)).all (fun x=>x.1.isSome)
   && decide ((e::es).length+([]:List Nq).length+(if ([]:List Nq).isEmpty then 0 else 1)<30))=true:=by rfl)
  (hline:(apos.endLine==akb.line)=true:=by rfl) (hst:Eu (e::es) X.env=(false,eval e X.env)::Eu es X.env:=by rfl) (hplain:(JK akb (Eu es X.env)).any (·.1)=false:=by rfl) :
  DE X (.Call (.Attribute o name apos) (e::es) [] akb) (pP mr mo ma):=(aci PySem.F.plainAttrs_list slot hty hm ho ha hbase hfew hline hst hplain).of fun Z H Q ⟨μ,h,Zw,Qw,R,S,m,k⟩=>by
 refine ⟨μ,h,Zw,_,R,S,m,fun v H1 ⟨μ1,w,h1,e1,R1,r1,il⟩=>⟨(Ao R1 r1 il).1,?_⟩⟩;have m1:=(Ao R1 r1 il).2;exact ⟨μ1,h1,Zw,_,R1,S.ext e1,m1,fun vs H2 ⟨μ2,ws,h2,e2,R2,r2,m2⟩=>hs R2 (e2.r _ _ r1) r2 m2 fun v H' z=>k _ _<|(z.trans e2).trans e1⟩
def bB:MM:=fun x ws h Q=>match x,ws with
 | .loc n,[w]=>(match h.c n with
  | some (.lst us)=>us.length<G7/\Q .non (h.set n (.lst (us++[w])))
  | _=>False)
 | _,_=>False
theorem Yg {H:Hp}{h:Gh}{n:Nat}{v:V}{us:List W}(R:Er K μ H h)(r:DP K H μ (.loc n) v)(ec:h.c n=FN (.lst us)):∃ p xs,v=.ref p/\μ.f n=FN p/\H p=FN (.lst xs)/\aJ K H μ us xs:=by
 rw [DP] at r;obtain ⟨p,ev,hm⟩:=r;obtain ⟨p',xs,hm',hx,rs⟩:=R.lstAt ec;have ep:p'=p:=by rw [hm] at hm';exact (Gw hm').symm
 subst ep;exact ⟨p',xs,ev,hm,hx,rs⟩
theorem DQ.wrote {H:Hp}{h:Gh}{n:Nat}{p:Addr}{us:List W}{xs:List V}{Q:WK}{w:W}{v:V}(R:Er K μ H h)(hm:μ.f n=FN p)(rs:aJ K H μ us xs)(rw':DP K H μ w v)(q:Q w (h.set n (.lst us))):DQ K H μ Q v (Fb H p (.lst xs)):=
 ⟨μ,w,h.set n (.lst us),(Ex.write R hm).ext,R.write hm trivial ⟨xs,aY,(Ex.write R hm).ext.s rs⟩,(Ex.write R hm).ext.r _ _ rw',q⟩
theorem zaV:acL K Kv bB:=by
 intro H μ h x vs wx ws Qw Q R rx rs m k;unfold bB at m;split at m
 ·split at m
  ·rename_i n w _ us ec;obtain ⟨p,xs,ex,hm,hx,r1⟩:=Yg R rx ec;obtain ⟨v,ev,rv⟩:=gC rs;exact ⟨p,xs,v,ex,ev,hx,by rw [<-r1.len];exact m.1,k _ _<|.wrote R hm (r1.append<|.one rv) (by rw [DP]) m.2⟩
  ·exact m.elim
 ·exact m.elim
theorem bN (ho:DE X o mo)(ha:KZ X [e] ma)
  (hbase:Vp o "append" X.env (eval o X.env)=eval o X.env:=by rfl)
  (hfew:((JK akb (Eu [e] X.env)).all (fun x=>!x.1)&&(backToKw akb (Vl [] X.env)).all (fun x=>x.1.isSome)
   && decide (([e]:List Expr).length+([]:List Nq).length+(if ([]:List Nq).isEmpty then 0 else 1)<30))=true:=by rfl)
  (hline:(apos.endLine==akb.line)=true:=by rfl) (hst:Eu [e] X.env=(false,eval e X.env)::Eu [] X.env:=by rfl) (hplain:(JK akb (Eu [] X.env)).any (·.1)=false:=by rfl) :
  DE X (.Call (.Attribute o "append" apos) [e] [] akb) (pP bB mo ma):=adu PySem.F.slot_list_append PySem.F.type_list_append vO zaV ho ha hbase hfew hline hst hplain
end
section
variable {X:Cx}{K:Dp}
theorem ahj:Jo X (K3 .Is) (fun x y H Q=>∃ c b,x=.bl c/\y=.bl b/\Q (.bl (c==b)) H):=by
 intro ajY s Z H x y v u Q I rx ry ⟨c,b,ex,ey,q⟩;subst ex ey;cases rx;cases ry;exact is_bool<|sW I q rfl
theorem aiW:Jo X (K3 .IsNot) (fun x y H Q=>∃ c b,x=.bl c/\y=.bl b/\Q (.bl (!(c==b))) H):=by
 intro ajY s Z H x y v u Q I rx ry ⟨c,b,ex,ey,q⟩;subst ex ey;cases rx;cases ry;exact Ds<|sW I q (by cases c <;> cases b <;> rfl)
def U6:W->Bool
 | .non=>true
 | _=>false
theorem G5 {H:Hp}{w:W}{v:V}(r:DP K H μ w v):decide (v=.non)=U6 w:=by
 cases w with
 | non=>rw [DP] at r;subst r;rfl
 | bl _=>rw [DP] at r;subst r;rfl
 | int _=>rw [DP] at r;subst r;rfl
 | str _=>rw [DP] at r;subst r;rfl
 | ty _=>rw [DP] at r;subst r;rfl
 | tup _=>rw [DP] at r;obtain ⟨_,_,e,_⟩:=r;subst e;rfl
 | lst _=>rw [DP] at r;obtain ⟨_,_,e,_⟩:=r;subst e;rfl
 | kls _=>rw [DP] at r;obtain ⟨_,_,e,_⟩:=r;subst e;rfl
 | loc _=>rw [DP] at r;obtain ⟨_,e,_⟩:=r;subst e;rfl
 | exc _=>rw [DP] at r;obtain ⟨_,_,_,e,_⟩:=r;subst e;rfl
 | exa _ _=>rw [DP] at r;obtain ⟨_,_,_,_,_,_,e,_⟩:=r;subst e;rfl
 | fnv _ _=>rw [DP] at r;subst r;rfl
def kIs:M2:=fun x y h Q=>match x,y with
 | .bl c,.bl b=>Q (.bl (c==b)) h
 | w,.non=>Q (.bl (U6 w)) h
 | _,_=>False
def Nh:M2:=fun x y h Q=>match x,y with
 | .bl c,.bl b=>Q (.bl (!(c==b))) h
 | w,.non=>Q (.bl (!U6 w)) h
 | _,_=>False
theorem ad0:M5 X (K3 .Is) kIs:=⟨_,ahj.or Zf,by
 intro H μ h x y wx wy Qw Q R rx ry m k;unfold kIs at m;split at m
 ·rw [DP] at rx ry;exact .inl ⟨_,_,rx,ry,k _ _<|.bl R m⟩
 ·rw [<-G5 rx] at m;rw [DP] at ry;exact .inr ⟨ry,k _ _<|.bl R m⟩
 ·exact m.elim⟩
theorem aiO:M5 X (K3 .IsNot) Nh:=⟨_,aiW.or afP,by
 intro H μ h x y wx wy Qw Q R rx ry m k;unfold Nh at m;split at m
 ·rw [DP] at rx ry;exact .inl ⟨_,_,rx,ry,k _ _<|.bl R m⟩
 ·rw [<-G5 rx] at m;rw [DP] at ry;exact .inr ⟨ry,k _ _<|.bl R m⟩
 ·exact m.elim⟩
theorem zag (bs:List Bool):((LC bs.length).any fun i=>(bs[i]?).getD true)=bs.any id:=by
 rw [V3,Tt,Tt];constructor
 ·rintro ⟨i,hi,e⟩;have hi':=Tz.mp hi;exact ⟨bs[i],TQ hi',by simpa [hi'] using e⟩
 ·rintro ⟨b,hb,e⟩;obtain ⟨i,hi,rfl⟩:=RD.mp hb;exact ⟨i,Tz.mpr hi,by simpa [hi] using e⟩
theorem zap (hc:X.calm=true):d8 X (.builtin "any") (fun xs H Q=>∃ (p:Addr) (bs:List Bool),xs=[.ref p]/\JF X.K H p (bs.map V.bl)/\Q (.bl (bs.any id)) H):=by
 intro ajY s Z H xs us Q I r ⟨p,bs,e,hS,q⟩;subst e;obtain ⟨u,rfl,ru⟩:=vals1 r;cases ru;obtain ⟨its,rv,pl,hz⟩:=I.list hS;have ajZ:its.length=bs.length:=by rw [<-rv.length,Ec]
 have hl:=pl.isList;have hlt:p<s.heap.objs.size:=by obtain ⟨_,e,_⟩:=hl;exact Fj e
 refine call_any_walk<|VB hl ?_
 refine ⟨s.heap.objs.size,[s.heap.objs.size,p],[s.heap.objs.size],its.toArray.size,_,_,fun i=>(bs[i]?).getD true,rfl,Walks.list (A:=X.A.in1) (I.ok.hd hc) _ p (HX hlt) its.toArray,
  ⟨⟨_,Hw _ rfl,rfl,rfl⟩,hl.push _⟩,fun i v s' Q' E' hP hQ=>?_,fun h' tk hk=>?_⟩
 ·obtain ⟨b,e,rfl⟩:=oW rv (by simpa using hP);simp only [e,Xp] at hQ;exact VD hQ
 ·have e:((LC its.toArray.size).any fun i=>(bs[i]?).getD true)=bs.any id:=by
   rw [J9,ajZ];exact zag bs
  rw [e];refine ⟨.bl<|bs.any id,H,I.kept (h':=h') (t':=tk)<|fun b x e=>?_,rfl,q⟩;exact hk b x (fun hm=>by rw [K5.mp hm] at e;exact Nv _ (Fj e))<|G6 _ e
def QS:MC:=fun ws h Q=>match ws with
 | [w]=>(match dF h w with
  | some us=>(match Ek us with
   | some bs=>Q (.bl (bs.any id)) h
   | none=>False)
  | none=>False)
 | _=>False
theorem SM (hc:X.calm=true):eY X (.builtin "any") QS:=⟨_,zap hc,by
 intro H μ h vs ws Qw Q R r m k;unfold QS at m;split at m
 ·split at m
  ·split at m
   ·rename_i w _ us ev _ bs eb;obtain ⟨v,e,rv⟩:=gC r;obtain ⟨p,ys,ex,hs,rs⟩:=cC R rv ev;subst e ex;exact ⟨p,bs,rfl,by rw [<-yD rs eb];exact hs,k _ _<|.bl R m⟩
   ·exact m.elim
  ·exact m.elim
 ·exact m.elim⟩
theorem aeW:Jo X (Mi .Add) (fun x y H Q=>∃ a b ys,x=.ref a/\y=.ref b/\Hj X.K H a []/\Hj X.K H b ys/\Q (.ref b) H):=by
 intro ajY s Z H x y v u Q I rx ry ⟨a,b,ys,ex,ey,ha,hb,q⟩;subst ex ey;cases rx;cases ry;obtain ⟨its,r1,p1,_⟩:=I.tuple ha;obtain ⟨jts,r2,p2,_⟩:=I.tuple hb;cases r1;obtain ⟨⟨cls,dd,data,sl⟩,ho,hc,n,hd⟩:=id p1;obtain ⟨⟨cls2,dd2,data2,sl2⟩,ho2,hc2,n2,hd2⟩:=id p2;simp only at hc hd hc2 hd2;subst hc hd hc2 hd2;exact concat_meets ⟨_,ho,rfl⟩ ⟨_,ho2,rfl⟩ noFill_tuple_add seq_tuple_add PySem.F.slot_tuple_add PySem.F.entry_tuple_add (PySem.F.args_tuple_add_2 _ _)
  (tuple_addW0 a b _ _ n n2 dd dd2 sl sl2 (by simp)) ⟨ho,ho2,⟨.ref b,H,I,rfl,q⟩⟩
def aar (h:Gh):W->Option (List W)
 | .lst ws=>FN ws
 | .loc n=>(match h.c n with
  | some (.lst ws)=>FN ws
  | _=>FX)
 | _=>FX
theorem JR {H:Hp}{h:Gh}{w:W}{v:V}(R:Er K μ H h)(r:DP K H μ w v)(e:aar h w=FN ws):∃ p xs,v=.ref p/\H p=FN (.lst xs)/\aJ K H μ ws xs:=by
 cases w with
 | lst us=>
  rw [DP] at r;obtain ⟨p,xs,ev,hs,rs⟩:=r;cases (show FN us=FN ws from e)
  exact ⟨p,xs,ev,hs.1,rs⟩
 | loc n=>
  unfold aar at e;dsimp only at e;cases ec:h.c n with
  | none=>rw [ec] at e;cases e
  | some cl=>
   rw [ec] at e;cases cl with
   | lst us=>
    cases (show FN us=FN ws from e)
    obtain ⟨p,xs,ev,_,hx,rs⟩:=Yg R r ec;exact ⟨p,xs,ev,hx,rs⟩
   | _=>cases e
 | _=>cases e
def cA:M2:=fun x y h Q=>match x,y with
 | .int i,.int j=>Q (.int (i+j)) h
 | .tup [],.tup b=>Q (.tup b) h
 | .tup (a0::a),.tup b=>fV (a.length+1+b.length) (Q (.tup (a0::a++b)) h)
 | x,y=>(match aar h x,aar h y with
  | some a,FN b=>fV (a.length+b.length) (Q (.lst (a++b)) h)
  | _,_=>False)
theorem bQ:M5 X (Mi .Add) cA:=⟨_,(aac.or (aeW.or afK)).or aiC,by
 intro H μ h x y wx wy Qw Q R rx ry m k;unfold cA at m;split at m
 ·rw [DP] at rx ry;exact .inl<|.inl ⟨_,_,rx,ry,k _ _<|.int R m⟩
 ·rename_i b;have ry':=ry;rw [DP] at rx ry;obtain ⟨p,xs,ex,hx,r1⟩:=rx;obtain ⟨q,ys,ey,hy,r2⟩:=ry;rw [aJ] at r1;subst r1;rw [ey] at ry';exact .inl<|.inr<|.inl ⟨p,q,ys,ex,ey,hx,hy,k _ _ ⟨μ,_,h,.refl,R,ry',m⟩⟩
 ·rename_i a0 a b;have rx':=rx;rw [DP] at rx ry;obtain ⟨p,xs,ex,hx,r1⟩:=rx;obtain ⟨q,ys,ey,hy,r2⟩:=ry;have sz:=m.ok.1;refine .inl<|.inr<|.inr ⟨p,q,xs,ys,ex,ey,hx,hy,fun z=>(by have:=r1.ne_nil.mp z;cases this),by rw [<-r1.len,<-r2.len];exact sz,fun z=>?_,fun z l hl=>?_⟩
  ·have eb:b=[]:=r2.ne_nil.mp z;subst eb;refine k _ _ ⟨μ,.tup (a0::a++[]),h,.refl,R,?_,m.ok.2⟩;rw [V4,<-ex];exact rx'
  ·exact k _ _ ⟨μ,_,h,(Ex.laid hl).ext,R.laid hl,.tupNew hl<|r1.append r2,m.ok.2⟩
 ·split at m
  ·rename_i a b ea eb;obtain ⟨p,xs,ex,hx,r1⟩:=JR R rx ea;obtain ⟨q,ys,ey,hy,r2⟩:=JR R ry eb;have sz:=m.ok.1;exact .inr ⟨p,q,xs,ys,ex,ey,hx,hy,by rw [<-r1.len,<-r2.len];exact sz,fun l hl=>k _ _ ⟨μ,_,h,(Ex.laid hl).ext,R.laid hl,.lstNew R hl<|r1.append r2,m.ok.2⟩⟩
  ·exact m.elim⟩
variable {o e:Expr}{mo:ME}{ma:MA}{apos akb:Pos}
end
def K4 (K:Dp):Sp:=fun vs H Q _=>∃ (a:Addr) (ns:List Int),vs=[.ref a]/\JF K H a (ns.map V.int)/\Only H/\ns.length<=63/\∀ H',Q (.bl true) H'
def g0:Gh:=⟨0,fun _=>FX⟩
def μ0:Mu:=⟨fun _=>FX,fun _=>False⟩
theorem acg {K:Dp}{H:Hp}:Er K μ0 H g0 where
 inj:=fun m n p h=>by cases (show (FX:Option Addr)=FN p from h)
 dom:=fun n p h=>by cases (show (FX:Option Addr)=FN p from h)
 trk:=fun n p h=>by cases (show (FX:Option Addr)=FN p from h)
 cel:=fun n c h=>by cases (show (FX:Option Cell)=FN c from h)
 hd:=fun p h=>TJ h
theorem p8 {K:Dp}{H:Hp}{μ : Mu}:∀ ns:List Int,aJ K H μ (ns.map W.int) (ns.map V.int)
 | []=>.nil
 | n::ns=>.cons (by rw [DP]) (p8 ns)
theorem zbK {P:Ew}{w:Em}{K:Dp}{mg:Str->Option Mk}{base:Heap}{k:Nat}{f:Addr}{fd:N5}{ps:List Str}
  (hm:∀ ns:List Int,ns.length<=63->ms [.kls (ns.map W.int)] g0 (fun w _=>w=.bl true) EF) (F:qO P w K mg base Mg k f fd ps (lift K ms)):qO P w K mg base Mg k f fd ps (K4 K):=
 F.imp fun vs H Q E ⟨a,ns,e,hS,hO,hl,q⟩=>by
  subst e;refine ⟨μ0,g0,[.kls<|ns.map W.int],_,acg,.one ?_,hm ns hl,fun v H' ⟨μ',w',h',_,_,r,e⟩=>?_⟩
  ·rw [DP];refine ⟨a,ns.map V.int,rfl,?_,p8 ns⟩;rcases hS with (hS | hS) | hS
   ·rcases hO a with z | ⟨o,xs,z⟩ <;> rw [hS] at z <;> cases z
   ·exact .inl hS
   ·exact .inr hS
  ·subst e;rw [DP] at r;subst r;exact q H'
inductive Sk where
 | l | t
def Sk.sq (k:Sk)(h:Heap)(a:Addr)(its:Array Mk):Prop:=match k with
 | .l=>h.IsList a its
 | .t=>h.IsTuple a its
def Sk.it (k:Sk)(h:Heap)(i a:Addr)(n:Nat):Prop:=match k with
 | .l=>h.IsListIter i a n
 | .t=>h.IsTupleIter i a n
def Sk.nm:Sk->String
 | .l => "list_iterator"
 | .t => "tuple_iterator"
section
variable {P:Ew}{w:Em}{A:Fg}{E:Mk->AP->Prop}{s:AP}{k k1 k2:Sk}
theorem Sk.it_at {h h':Heap}{i a:Addr}{n:Nat}(x:k.it h i a n)(e:∀ o,h.get? i=FN o->h'.get? i=FN o):k.it h' i a n:=by
 cases k with
 | l=>obtain ⟨o,ho,r⟩:=x;exact ⟨o,e o ho,r⟩
 | t=>obtain ⟨o,ho,r⟩:=x;exact ⟨o,e o ho,r⟩
theorem Sk.sq_at {h h':Heap}{a:Addr}{its:Array Mk}(x:k.sq h a its)(e:∀ o,h.get? a=FN o->h'.get? a=FN o):k.sq h' a its:=by
 cases k with
 | l=>obtain ⟨o,ho,r⟩:=x;exact ⟨o,e o ho,r⟩
 | t=>obtain ⟨o,ho,r⟩:=x;exact ⟨o,e o ho,r⟩
theorem Sk.it_obj {h:Heap}{i a:Addr}{n:Nat}(x:k.it h i a n):∃ o,h.get? i=FN o/\o.cls=.type k.nm/\o.data=.fields #[.ref a,.int n 0]:=by
 cases k with
 | l=>exact x
 | t=>exact x
theorem CJ {it t:Addr}{i:Nat}{its:Array Mk}{x:Mk}{Q:Mk->AP->Prop}(hi:s.heap.IsTupleIter it t i)(ht:s.heap.IsTuple t its)(hx:its[i]?=FN x)
  (q:∀ h',h'.IsTupleIter it t (i+1)->W6 it s.heap h'->Q x { s with heap:=h' }):Dl (Dm P w) A (UW (.ref it)) Q E s:=by
 obtain ⟨o,go,gc,gd⟩:=id hi;obtain ⟨ol,gol,_,nl,gdl⟩:=ht;unfold UW;refine CR (Ue (name:=Tq "__next__") hi.typeIs Z8
  (Rz Z8 hi.typeIs PySem.F.entry_tuple_iterator_next ?_ (PySem.F.args_tuple_iterator_next_1 _)))
 show Dl _ _ (field (.ref it) 0 >>= _) _ _ s;refine CR<|Mt go gd (x:=.ref t) rfl ?_
 show Dl _ _ (if (Value.ref t==Value.none)=true then _ else _) _ _ s;rw [if_neg (by exact Lw)];show Dl _ _ (field (.ref it) 1 >>= _) _ _ s;refine CR<|Mt go gd (x:=.int i 0) rfl ?_
 show Dl _ _ (seqItems? (.ref t) >>= _) _ _ s;refine CR<|Rx gol gdl ?_
 simp only [Wr,hx];refine CR<|wpAny_setField go gd (by simp)<|Ds ⟨x,rfl,Ds<|q _ ?_<|Yh ..⟩
 exact ⟨_,Vv _ go<|Obj.isFreed_of_fields<|YW gd _,(Obj.cls_mapFields ..).trans gc,by rw [YW gd];simp [Nf]⟩
theorem iZ {it t:Addr}{i:Nat}{its:Array Mk}{Q:Mk->AP->Prop}(hh:A.handled=FX)(hi:s.heap.IsTupleIter it t i)(ht:s.heap.IsTuple t its)(hx:its[i]?=FX)
  (q:∀ h' e,Wg it s.heap h'->(∃ o,h'.get? e=FN o/\o.cls=.type "StopIteration")->E (.ref e) { s with heap:=h' }):Dl (Dm P w) A (UW (.ref it)) Q E s:=by
 obtain ⟨o,go,gc,gd⟩:=id hi;obtain ⟨ol,gol,_,nl,gdl⟩:=ht;unfold UW;refine CR (Ue (name:=Tq "__next__") hi.typeIs Z8
  (Rz Z8 hi.typeIs PySem.F.entry_tuple_iterator_next ?_ (PySem.F.args_tuple_iterator_next_1 _)))
 show Dl _ _ (field (.ref it) 0 >>= _) _ _ s;refine CR<|Mt go gd (x:=.ref t) rfl ?_
 show Dl _ _ (if (Value.ref t==Value.none)=true then _ else _) _ _ s;rw [if_neg (by exact Lw)];show Dl _ _ (field (.ref it) 1 >>= _) _ _ s;refine CR<|Mt go gd (x:=.int i 0) rfl ?_
 show Dl _ _ (seqItems? (.ref t) >>= _) _ _ s;refine CR<|Rx gol gdl ?_
 simp only [Wr,hx];refine CR<|Ml<|CR<|wpAny_setField go gd (by simp) ?_
 show Dl _ _ (newExc (.type "StopIteration") [] >>= _) _ _ _;refine CR ?_;simp only [newExc,newTuple];refine CR<|Ni ?_<|by size_fits
 refine CR (m:=XS _ _)<|XF (a:=Value.none) (by first | rfl | (simp only [XS];rfl)) ?_
 refine Ni ?_<|by size_fits
 simp only [raiseNew];refine CR<|wpAny_handled ?_
 first | rw [show A.in1.handled=FX from hh] | rw [hh]
 refine CR<|Ds<|wpAny_throw ?_
 exact q _ _ (((Yh ..).extBut.push _).push _) ⟨_,Hw _ rfl,rfl⟩
theorem Sk.next {it a:Addr}{i:Nat}{its:Array Mk}{x:Mk}{Q:Mk->AP->Prop}(hi:k.it s.heap it a i)(hs:k.sq s.heap a its)(hx:its[i]?=FN x)
  (q:∀ h',k.it h' it a (i+1)->W6 it s.heap h'->Q x { s with heap:=h' }):Dl (Dm P w) A (UW (.ref it)) Q E s:=by
 cases k with
 | l=>exact wpAny_nextOf_list_item hi hs hx q
 | t=>exact CJ hi hs hx q
theorem Sk.stop {it a:Addr}{i:Nat}{its:Array Mk}{Q:Mk->AP->Prop}(hh:A.handled=FX)(hi:k.it s.heap it a i)(hs:k.sq s.heap a its)(hx:its[i]?=FX)
  (q:∀ h' e,Wg it s.heap h'->(∃ o,h'.get? e=FN o/\o.cls=.type "StopIteration")->E (.ref e) { s with heap:=h' }):Dl (Dm P w) A (UW (.ref it)) Q E s:=by
 cases k with
 | l=>exact wpAny_nextOf_list_end hh hi hs hx q
 | t=>exact iZ hh hi hs hx q
theorem Sk.iter {a:Addr}{its:Array Mk}{Q:Mk->AP->Prop}(hs:k.sq s.heap a its)
  (q:Q (.ref s.heap.objs.size) { s with heap:=s.heap.push { cls:=.type k.nm,data:=.fields #[.ref a,.int 0 0] } }):Dl (Dm P w) A (pyIter (.ref a)) Q E s:=by
 cases k with
 | l=>exact VB hs q
 | t=>exact Xb hs q
structure Zap (z TI TO i1 i2:Addr):Prop where
 a1:TI≠z
 a2:TO≠z
 a3:i1≠z
 a4:i2≠z
 a5:TI≠TO
 a6:TI≠i1
 a7:TI≠i2
 a8:TO≠i1
 a9:TO≠i2
 b1:i1≠i2
structure Off (a z TO i1 i2:Addr):Prop where
 z:a≠z
 o:a≠TO
 i:a≠i1
 j:a≠i2
theorem zba {z TI TO i1 i2 l1 l2:Addr}{n1 n2:Nat}{xs ys:Array Mk}{x y a b:Mk}{Q:Option Mk->AP->Prop}(D:Zap z TI TO i1 i2)(o1:Off l1 z TO i1 i2)(o2:Off l2 z TO i1 i2)
  (gz:IsZip s.heap z TI TO .none) (gI:Nx s.heap TI (.ref i1) (.ref i2)) (gO:Nx s.heap TO a b) (g1:k1.it s.heap i1 l1 n1) (g2:k2.it s.heap i2 l2 n2) (gx:k1.sq s.heap l1 xs) (gy:k2.sq s.heap l2 ys)
  (hx:xs[n1]?=FN x) (hy:ys[n2]?=FN y)
  (q:∀ h',IsZip h' z TI TO (Nf s.heap.objs.size)->Nx h' TO x y->k1.it h' i1 l1 (n1+1)->k2.it h' i2 l2 (n2+1)->Nx h' s.heap.objs.size x y->h'.objs.size=s.heap.objs.size+1 ->
   (∀ c o,c≠z->c≠TO->c≠i1->c≠i2->s.heap.get? c=FN o->h'.get? c=FN o)->Q (FN (.ref s.heap.objs.size)) { s with heap:=h' }) :
  Dl (Dm P w) A (Ln (.ref z)) Q E s:=by
 have gT:s.TypeIs (.ref z) "zip":=⟨_,gz,rfl⟩
 unfold Ln;refine CR<|Wd<|Ue (name:=Tq "__next__") gT Yl<|Rz Yl gT PySem.F.entry_zip_next ?_<|PySem.F.args_zip_next_1 _
 show Dl _ _ (field (.ref z) 2 >>= _) _ _ _;refine CR<|Mt gz rfl (x:=.bool false) rfl ?_
 show Dl _ _ (field (.ref z) 3 >>= _) _ _ _;refine CR<|Mt gz rfl (x:=.ref TI) rfl ?_
 refine CR<|Rx gI rfl ?_
 show Dl _ _ (ZS (.ref z) >>= _) _ _ _;refine CR ?_;unfold ZS;refine CR<|Mt gz rfl (x:=.none) rfl<|Ds ?_
 simp only [if_true];refine CR<|Ml ?_
 refine CR<|Mt gz rfl (x:=.ref TO) rfl ?_
 refine CR<|Xc gz (by simp) fun h₁ z₁ s₁=>?_
 replace z₁ : IsZip h₁ z TI TO .ellipsis:=z₁;refine CR ?_;simp only [List.zipIdx_cons,List.zipIdx_nil,YK,YF]
 -- the first one
 refine CR<|CR<|wpAny_onRaise ?_
 show Dl _ _ (UW (.ref i1) >>= _) _ _ _;refine CR<|Sk.next (k:=k1) (s:={ s with heap:=h₁ }) (Sk.it_at g1 fun o e=>s₁.extBut _ o D.a3 e) (Sk.sq_at gx fun o e=>s₁.extBut _ o o1.z e) hx fun h₂ g1₂ s₂=>Ds ?_
 have gO₂ : Nx h₂ TO a b:=s₂.extBut _ _ D.a8 (s₁.extBut _ _ D.a2 gO);refine CR<|Rx gO₂ rfl ?_
 refine CR<|wpAny_updateSeq_pair gO₂ fun h₃ gO₃ s₃=>?_
 replace gO₃ : Nx h₃ TO x b:=gO₃;refine CR<|Vn<|Ds ?_
 -- the second one
 refine CR<|CR<|wpAny_onRaise ?_
 show Dl _ _ (UW (.ref i2) >>= _) _ _ _;refine CR (Sk.next (k:=k2) (s:={ s with heap:=h₃ }) (Sk.it_at g2 fun o e=>s₃.extBut _ o D.a9.symm (s₂.extBut _ o D.b1.symm (s₁.extBut _ o D.a4 e)))
  (Sk.sq_at gy fun o e=>s₃.extBut _ o o2.o (s₂.extBut _ o o2.i (s₁.extBut _ o o2.z e))) hy fun h₄ g2₄ s₄=>Ds ?_)
 have gO₄ : Nx h₄ TO x b:=s₄.extBut _ _ D.a9 gO₃;refine CR<|Rx gO₄ rfl ?_
 refine CR<|wpAny_updateSeq_pair gO₄ fun h₅ gO₅ s₅=>?_
 replace gO₅ : Nx h₅ TO x y:=gO₅;refine CR<|Vn<|Ds<|Ds ?_
 -- the pair is handed out
 refine CR<|Rx gO₅ rfl ?_
 refine CR<|wpAny_newTuple ?_
 have size:h₅.objs.size=s.heap.objs.size:=by rw [s₅.1,s₄.1,s₃.1,s₂.1,s₁.1]
 have z₅ : IsZip h₅ z TI TO .ellipsis:=s₅.extBut _ _ D.a2.symm (s₄.extBut _ _ D.a4.symm (s₃.extBut _ _ D.a2.symm (s₂.extBut _ _ D.a3.symm z₁)));have all₅ : ∀ c o,c≠z->c≠TO->c≠i1->c≠i2->s.heap.get? c=FN o->h₅.get? c=FN o:=fun c o c1 c2 c3 c4 e=>s₅.extBut _ _ c2 (s₄.extBut _ _ c4 (s₃.extBut _ _ c2 (s₂.extBut _ _ c3 (s₁.extBut _ _ c1 e))))
 have g1₅ : k1.it h₅ i1 l1 (n1+1):=Sk.it_at g1₂ fun o e=>s₅.extBut _ o D.a8.symm (s₄.extBut _ o D.b1 (s₃.extBut _ o D.a8.symm e))
 have g2₅ : k2.it h₅ i2 l2 (n2+1):=Sk.it_at g2₄ fun o e=>s₅.extBut _ o D.a9.symm e
 have zlt:z<h₅.objs.size:=Fj z₅;show Dl _ _ (Builtin.SmallTypes.ownedTupleHandOut (.ref z) (.ref h₅.objs.size) >>= _) _ _ _;refine CR ?_;unfold Builtin.SmallTypes.ownedTupleHandOut;have z₆ : IsZip (h₅.push { cls:=.type "tuple",data:=.seq #[x,y] }) z TI TO .ellipsis:=G6 _ z₅;refine CR<|Xc z₆ (by simp) fun h₇ z₇ s₇=>?_
 replace z₇ : IsZip h₇ z TI TO (Nf h₅.objs.size):=z₇;refine Xc z₇ (by simp) fun h₈ z₈ s₈=>?_;replace z₈ : IsZip h₈ z TI TO (Nf h₅.objs.size):=z₈;have up:∀ c o,c≠z->h₅.get? c=FN o->h₈.get? c=FN o:=fun c o c1 e=>s₈.extBut _ _ c1 (s₇.extBut _ _ c1 (G6 _ e))
 have T₈ : Nx h₈ h₅.objs.size x y:=s₈.extBut _ _ (Lp zlt) (s₇.extBut _ _ (Lp zlt) (Hw _ rfl));have size8:h₈.objs.size=h₅.objs.size+1:=by rw [s₈.1,s₇.1,Oh]
 rw [size] at z₈ T₈ size8;refine Ds ⟨_,rfl,Ds ?_⟩;show Q (FN (.ref h₅.objs.size)) _;rw [size];exact q h₈ z₈ (up _ _ D.a2 gO₅) (Sk.it_at g1₅ fun o e=>up _ o D.a3 e) (Sk.it_at g2₅ fun o e=>up _ o D.a4 e) T₈ size8 fun c o c1 c2 c3 c4 e=>up c o c1<|all₅ c o c1 c2 c3 c4 e
theorem zbg {z TI TO i1 i2 l1 l2:Addr}{n1 n2:Nat}{xs ys:Array Mk}{a b:Mk}{Q:Option Mk->AP->Prop}(hh:A.handled=FX)(D:Zap z TI TO i1 i2)(o1:Off l1 z TO i1 i2)(o2:Off l2 z TO i1 i2)
  (gz:IsZip s.heap z TI TO .none) (gI:Nx s.heap TI (.ref i1) (.ref i2)) (gO:Nx s.heap TO a b) (g1:k1.it s.heap i1 l1 n1) (g2:k2.it s.heap i2 l2 n2) (gx:k1.sq s.heap l1 xs) (gy:k2.sq s.heap l2 ys)
  (hend:xs[n1]?=FX\/ys[n2]?=FX)
  (q:∀ h',(∀ c o,c≠z->c≠TO->c≠i1->c≠i2->s.heap.get? c=FN o->h'.get? c=FN o)->Q FX { s with heap:=h' }):Dl (Dm P w) A (Ln (.ref z)) Q E s:=by
 have gT:s.TypeIs (.ref z) "zip":=⟨_,gz,rfl⟩
 have fin:∀ (h':Heap) (e:Addr),(∀ c o,c≠z->c≠TO->c≠i1->c≠i2->s.heap.get? c=FN o->h'.get? c=FN o)->(∃ o,h'.get? e=FN o/\o.cls=.type "StopIteration") ->
   Dl (Dm P w) A (do if <-isInstance (.ref e) (.type "StopIteration") then pure FX else throw (.ref e)) Q E { s with heap:=h' }:=fun h' e all ⟨o,ho,hc⟩=>
  CR (YJ (T := "StopIteration") (b:=true) ⟨o,ho,hc⟩ isSubtype_stop (Ds (q _ all)))
 unfold Ln;refine CR<|Wd<|Ue (name:=Tq "__next__") gT Yl<|Rz Yl gT PySem.F.entry_zip_next ?_<|PySem.F.args_zip_next_1 _
 show Dl _ _ (field (.ref z) 2 >>= _) _ _ _;refine CR<|Mt gz rfl (x:=.bool false) rfl ?_
 show Dl _ _ (field (.ref z) 3 >>= _) _ _ _;refine CR<|Mt gz rfl (x:=.ref TI) rfl ?_
 refine CR<|Rx gI rfl ?_
 show Dl _ _ (ZS (.ref z) >>= _) _ _ _;refine CR ?_;unfold ZS;refine CR<|Mt gz rfl (x:=.none) rfl<|Ds ?_
 simp only [if_true];refine CR<|Ml ?_
 refine CR<|Mt gz rfl (x:=.ref TO) rfl ?_
 refine CR<|Xc gz (by simp) fun h₁ z₁ s₁=>?_
 replace z₁ : IsZip h₁ z TI TO .ellipsis:=z₁;refine CR ?_;simp only [List.zipIdx_cons,List.zipIdx_nil,YK,YF];refine CR<|CR<|wpAny_onRaise ?_
 show Dl _ _ (UW (.ref i1) >>= _) _ _ _;have g1₁ : k1.it h₁ i1 l1 n1:=Sk.it_at g1 fun o e=>s₁.extBut _ o D.a3 e
 have gx₁ : k1.sq h₁ l1 xs:=Sk.sq_at gx fun o e=>s₁.extBut _ o o1.z e
 cases hx:xs[n1]? with
 | none=>
  refine CR<|Sk.stop (k:=k1) (s:={ s with heap:=h₁ }) hh g1₁ gx₁ hx fun h₂ e s₂ he=>?_
  obtain ⟨oe,hoe,hce⟩:=he;have z₂ : IsZip h₂ z TI TO .ellipsis:=s₂ _ _ D.a3.symm z₁;have ez:e≠z:=fun y=>by subst y;rw [z₂] at hoe;cases hoe;simp at hce
  refine Xc z₂ (by simp) fun h₃ _ s₃=>fin h₃ e (fun c o c1 _ c3 _ y=>s₃.extBut _ _ c1<|s₂ _ _ c3<|s₁.extBut _ _ c1 y) ⟨oe,s₃.extBut _ _ ez hoe,hce⟩
 | some x=>
  have hy:ys[n2]?=FX:=by
   rcases hend with h | h
   ·rw [hx] at h;cases h
   ·exact h
  refine CR<|Sk.next (k:=k1) (s:={ s with heap:=h₁ }) g1₁ gx₁ hx fun h₂ g1₂ s₂=>Ds ?_
  have gO₂ : Nx h₂ TO a b:=s₂.extBut _ _ D.a8 (s₁.extBut _ _ D.a2 gO);refine CR<|Rx gO₂ rfl ?_
  refine CR<|wpAny_updateSeq_pair gO₂ fun h₃ gO₃ s₃=>?_
  refine CR<|Vn<|Ds ?_
  refine CR<|CR<|wpAny_onRaise ?_
  show Dl _ _ (UW (.ref i2) >>= _) _ _ _;refine CR (Sk.stop (k:=k2) (s:={ s with heap:=h₃ }) hh (Sk.it_at g2 fun o e=>s₃.extBut _ o D.a9.symm (s₂.extBut _ o D.b1.symm (s₁.extBut _ o D.a4 e)))
   (Sk.sq_at gy fun o e=>s₃.extBut _ o o2.o (s₂.extBut _ o o2.i (s₁.extBut _ o o2.z e))) hy fun h₄ e s₄ he=>?_)
  obtain ⟨oe,hoe,hce⟩:=he;have z₄ : IsZip h₄ z TI TO .ellipsis:=s₄ _ _ D.a4.symm (s₃.extBut _ _ D.a2.symm (s₂.extBut _ _ D.a3.symm z₁));have ez:e≠z:=fun y=>by subst y;rw [z₄] at hoe;cases hoe;simp at hce
  refine Xc z₄ (by simp) fun h₅ _ s₅=>fin h₅ e (fun c o c1 c2 c3 c4 y=>s₅.extBut _ _ c1<|s₄ _ _ c4<|s₃.extBut _ _ c2<|s₂.extBut _ _ c3<|s₁.extBut _ _ c1 y) ⟨oe,s₅.extBut _ _ ez hoe,hce⟩
abbrev zh1 (k1:Sk)(h:Heap)(l1:Addr):Heap:=h.push { cls:=.type k1.nm,data:=.fields #[.ref l1,.int 0 0] }
abbrev zh2 (k1 k2:Sk)(h:Heap)(l1 l2:Addr):Heap:=(zh1 k1 h l1).push { cls:=.type k2.nm,data:=.fields #[.ref l2,.int 0 0] }
abbrev zh3 (k1 k2:Sk)(h:Heap)(l1 l2:Addr):Heap:=(zh2 k1 k2 h l1 l2).push { cls:=.type "tuple",data:=.seq #[.ref h.objs.size,.ref (zh1 k1 h l1).objs.size] }
abbrev zh4 (k1 k2:Sk)(h:Heap)(l1 l2:Addr):Heap:=(zh3 k1 k2 h l1 l2).push { cls:=.type "tuple",data:=.seq #[.none,.none] }
abbrev zh5 (k1 k2:Sk)(h:Heap)(l1 l2:Addr):Heap:=(zh4 k1 k2 h l1 l2).push { cls:=.type "zip",data:=.fields #[.none,.bool false,.bool false,.ref (zh2 k1 k2 h l1 l2).objs.size,.ref (zh3 k1 k2 h l1 l2).objs.size] }
theorem agx (l1 l2:Addr)(xs ys:Array Mk):Meets (Q6.«zip.__new__» ⟨[.type "zip",.ref l1,.ref l2],[]⟩) (fun _ R s=>k1.sq s.heap l1 xs/\k2.sq s.heap l2 ys /\
   R (.ok (.ret (.ref (zh4 k1 k2 s.heap l1 l2).objs.size))) { s with heap:=zh5 k1 k2 s.heap l1 l2 }):=
 .of_wp fun prog w A R s h=>by
  obtain ⟨hp,g,d,tk,os⟩:=s;obtain ⟨gl1,gl2,h⟩:=h;have hsub:=sub_zip;have L1:k1.sq (Shared.heap ⟨hp,g,d,tk,os⟩) l1 xs:=gl1;have L2':k2.sq (Shared.heap ⟨hp.push { cls:=.type k1.nm,data:=.fields #[.ref l1,.int 0 0] },g,d,tk,os⟩) l2 ys:=Sk.sq_at gl2 fun o e=>G6 _ e
  wp_walk using Sk.iter L1,Sk.iter L2'
  exact ⟨_,rfl,h⟩
theorem zbb {l1 l2:Addr}{xs ys:Array Mk}{Q:Mk->AP->Prop}(gl1:k1.sq s.heap l1 xs)(gl2:k2.sq s.heap l2 ys)
  (q:∀ h',IsZip h' (s.heap.objs.size+4) (s.heap.objs.size+2) (s.heap.objs.size+3) .none->Nx h' (s.heap.objs.size+2) (.ref s.heap.objs.size) (.ref (s.heap.objs.size+1)) ->
   Nx h' (s.heap.objs.size+3) .none .none->k1.it h' s.heap.objs.size l1 0->k2.it h' (s.heap.objs.size+1) l2 0->h'.objs.size=s.heap.objs.size+5 ->
   (∀ c o,s.heap.get? c=FN o->h'.get? c=FN o)->Q (.ref (s.heap.objs.size+4)) { s with heap:=h' }):Dl (Dm P w) A (call (.type "zip") [.ref l1,.ref l2]) Q E s:=by
 refine callType_new PySem.F.called_zip (by decide) (PySem.F.typeCall_zip_2 _ _) (PySem.F.newCall_zip_2 _ _) (fun obj=>PySem.F.args_object_init_3 obj _ _) PySem.F.entry_zip_new (agx (k1:=k1) (k2:=k2) l1 l2 xs ys) ⟨gl1,gl2,?_⟩;have e1:(zh1 k1 s.heap l1).objs.size=s.heap.objs.size+1:=Oh ..;have e2:(zh2 k1 k2 s.heap l1 l2).objs.size=s.heap.objs.size+2:=by rw [Oh,e1]
 have e3:(zh3 k1 k2 s.heap l1 l2).objs.size=s.heap.objs.size+3:=by rw [Oh,e2]
 have e4:(zh4 k1 k2 s.heap l1 l2).objs.size=s.heap.objs.size+4:=by rw [Oh,e3]
 have e5:(zh5 k1 k2 s.heap l1 l2).objs.size=s.heap.objs.size+5:=by rw [Oh,e4]
 have f5:(zh5 k1 k2 s.heap l1 l2).get? (zh4 k1 k2 s.heap l1 l2).objs.size=FN _:=Hw _ rfl;have f4:(zh5 k1 k2 s.heap l1 l2).get? (zh3 k1 k2 s.heap l1 l2).objs.size=FN _:=G6 _ (Hw _ rfl);have f3:(zh5 k1 k2 s.heap l1 l2).get? (zh2 k1 k2 s.heap l1 l2).objs.size=FN _:=G6 _ (G6 _ (Hw _ rfl));have f2:(zh5 k1 k2 s.heap l1 l2).get? (zh1 k1 s.heap l1).objs.size=FN _:=G6 _ (G6 _ (G6 _ (Hw _ rfl)));have f1:(zh5 k1 k2 s.heap l1 l2).get? s.heap.objs.size=FN _:=G6 _ (G6 _ (G6 _ (G6 _ (Hw _ rfl))));show _/\_;rw [e2,e3,e4] at f5;rw [e1,e2] at f3;rw [e3] at f4;rw [e1] at f2;rw [e4];refine ⟨⟨_,f5,rfl⟩,q _ f5 f3 f4 ?_ ?_ e5 fun c o x=>G6 _<|G6 _<|G6 _<|G6 _<|G6 _ x⟩
 ·cases k1 with
  | l=>exact ⟨_,f1,rfl,rfl⟩
  | t=>exact ⟨_,f1,rfl,rfl⟩
 ·cases k2 with
  | l=>exact ⟨_,f2,rfl,rfl⟩
  | t=>exact ⟨_,f2,rfl,rfl⟩
end
section
variable {X:Cx}{ajY:List (Addr×Obj)}{Z : St}{H:Hp}{s:AP}{h':Heap}
theorem DX.turnedL {t':Nat}{ch:List Addr}(I:DX X ajY Z H s)(k:∀ b o,b∉ch->s.heap.get? b=FN o->h'.get? b=FN o)(hf:∀ b∈ch,Ej X ajY H b):DX X ajY Z H { s with heap:=h',toks:=t' }:=by
 have nit:∀ b u,H b=FN u->b∉ch:=fun b u e z=>by rw [(hf b z).1] at e;cases e
 refine I.step (g':=s.gens) (d':=s.drawn) (ch:=ch) (fun b hb=>?_) (fun b o _ _ hc e _=>k b o hc e) (fun b o _ _ hc e _=>⟨o.slots,k b o hc e⟩) (fun _ _ _ _ n=>n)
  (fun b o hc e=>⟨o,k b o hc e⟩) (fun _ _ e=>e) (fun _ _ _ e=>e) (fun b ps e=>⟨#[],by rw [e];simp⟩) (fun m hm=>?_) (fun b u e=>?_) I.bare
 ·obtain ⟨_,f1,_,f3,f4,f5⟩:=hf b hb;exact ⟨f3,f1,f4,f5⟩
 ·obtain ⟨o,es,ep,ho,r⟩:=hm;exact ⟨o,es,ep,k _ o (fun z=>(hf _ z).2.1 rfl) ho,r⟩
 ·refine (I.hok b u e).stay (fun c v hc q=>k c v ?_ q) (fun _ q=>q) fun _ _ q=>q;rcases hc with z | z
  ·rw [z];exact nit b u e
  ·exact nit c _ z
end
def Sk.v (k:Sk)(K:Dp)(H:Hp)(a:Addr)(xs:List V):Prop:=match k with
 | .l=>JF K H a xs
 | .t=>Hj K H a xs
theorem DX.sk {X:Cx}{ajY:List (Addr×Obj)}{Z : St}{H:Hp}{s:AP}{k:Sk}{a:Addr}{xs:List V}(I:DX X ajY Z H s)(h:k.v X.K H a xs):∃ its:List Mk,DY xs its/\k.sq s.heap a its.toArray:=by
 cases k with
 | l=>obtain ⟨its,r,p,_⟩:=I.list h;exact ⟨its,r,p.isList⟩
 | t=>obtain ⟨its,r,p,_⟩:=I.tuple h;exact ⟨its,r,p⟩
theorem DX.sk_inj {X:Cx}{ajY:List (Addr×Obj)}{Z : St}{H:Hp}{s:AP}{k:Sk}{a:Addr}{xs ys:List V}(I:DX X ajY Z H s)(h:k.v X.K H a xs)(g:k.v X.K H a ys):xs=ys:=by
 cases k with
 | l=>exact I.list_inj h g
 | t=>exact I.tuple_inj h g
def Itz (K:Dp)(k1 k2:Sk)(l1 l2:Addr):It:=
  ⟨fun i H=>∃ xs ys x y,k1.v K H l1 xs/\k2.v K H l2 ys/\xs[i]?=FN x/\ys[i]?=FN y,
   fun i H v H'=>∃ p x y,H p=FX/\v=.ref p/\H'=Fb H p (.tup [x,y])/\(∀ xs,k1.v K H l1 xs->xs[i]?=FN x)/\∀ ys,k2.v K H l2 ys->ys[i]?=FN y,
   fun i H=>∃ xs ys,k1.v K H l1 xs/\k2.v K H l2 ys/\(xs.length<=i\/ys.length<=i),true⟩
def acq (k1 k2:Sk)(z TI TO i1 i2 l1 l2:Addr)(n:Nat)(h:Heap):Prop:=IsZip h z TI TO .none/\Nx h TI (.ref i1) (.ref i2)/\(∃ a b,Nx h TO a b)/\k1.it h i1 l1 n/\k2.it h i2 l2 n
variable {elts : List Expr}
theorem zaS {P:Ew}{w:Em}{K:Dp}{pos:Pos}{k1 k2:Sk}{z TI TO i1 i2 l1 l2:Addr}(D:Zap z TI TO i1 i2)(o1:Off l1 z TO i1 i2)(o2:Off l2 z TO i1 i2):
  Turn P w K (.Tuple elts kt pos) (Itz K k1 k2 l1 l2) [z,TI,TO,i1,i2] z (acq k1 k2 z TI TO i1 i2 l1 l2) where
 mem:=by simp
 obj:=fun i h st b hb=>by
  obtain ⟨gz,gI,⟨a,b',gO⟩,g1,g2⟩:=st;simp only [J1,Q5,or_false] at hb;rcases hb with rfl | rfl | rfl | rfl | rfl
  ·exact ⟨_,gz,fun v y=>by cases y⟩
  ·exact ⟨_,gI,fun v y=>by cases y⟩
  ·exact ⟨_,gO,fun v y=>by cases y⟩
  ·obtain ⟨o,e,_,d⟩:=Sk.it_obj g1;exact ⟨o,e,fun v y=>by rw [d] at y;cases y⟩
  ·obtain ⟨o,e,_,d⟩:=Sk.it_obj g2;exact ⟨o,e,fun v y=>by rw [d] at y;cases y⟩
 keep:=fun i h h' st k=>by
  obtain ⟨gz,gI,⟨a,b,gO⟩,g1,g2⟩:=st;exact ⟨k z (by simp) _ gz,k TI (by simp) _ gI,⟨a,b,k TO (by simp) _ gO⟩,Sk.it_at g1 fun o e=>k i1 (by simp) o e,Sk.it_at g2 fun o e=>k i2 (by simp) o e⟩
 item:=by
  intro X hP hw hK hc i ajY s Z H E I hf st hg;subst hP hw hK;obtain ⟨gz,gI,⟨a,b,gO⟩,g1,g2⟩:=st;obtain ⟨xs,ys,x,y,hx,hy,ex,ey⟩:=hg;obtain ⟨its,r1,p1⟩:=I.sk hx;obtain ⟨jts,r2,p2⟩:=I.sk hy;obtain ⟨u,hu,ru⟩:=r1.get ex;obtain ⟨v,hv,rv⟩:=r2.get ey;refine zba D o1 o2 gz gI gO g1 g2 p1 p2 (x:=u) (y:=v) (by simpa using hu) (by simpa using hv) fun h1 z1 O1 g1' g2' T1 size1 all1=>⟨_,rfl,?_⟩;have pz:s.heap.objs.size≠z:=Lp (Fj gz);have lt:∀ b∈[z,TI,TO,i1,i2],s.heap.objs.size≠b:=fun b hb=>by
   simp only [J1,Q5,or_false] at hb;rcases hb with rfl | rfl | rfl | rfl | rfl
   ·exact pz
   ·exact Lp<|Fj gI
   ·exact Lp<|Fj gO
   ·obtain ⟨o,e,_⟩:=Sk.it_obj g1;exact Lp (Fj e)
   ·obtain ⟨o,e,_⟩:=Sk.it_obj g2;exact Lp (Fj e)
  have all:∀ c o,c∉[z,TI,TO,i1,i2]->s.heap.get? c=FN o->h1.get? c=FN o:=fun c o hc e=>
   all1 c o (fun q=>hc (by simp [q])) (fun q=>hc (by simp [q])) (fun q=>hc (by simp [q])) (fun q=>hc (by simp [q])) e
  refine wpAny_letOwnedTupleGo_zip (s:={ s with heap:=h1 }) z1 fun h2 z2 sb=>?_;have fr:H s.heap.objs.size=FX:=I.hok.fresh (Ea _);have I1:DX X ajY Z (Fb H s.heap.objs.size (.tup [x,y])) { s with heap:=s.heap.push { cls:=.type "tuple",data:=.seq #[u,v] } }:=
   I.laid (t':=s.toks) (fun b o e=>G6 _ e) (Ea _) ⟨(by show 2<=G7;decide),[u,v],.cons ru (.cons rv .nil),⟨_,Hw _ rfl,rfl,⟨_,rfl⟩,rfl⟩⟩
  have hf1:∀ b∈[z,TI,TO,i1,i2],Ej X ajY (Fb H s.heap.objs.size (.tup [x,y])) b:=fun b hb=>⟨by rw [aO (JD (lt b hb))];exact (hf b hb).1,(hf b hb).2⟩
  have I2:DX X ajY Z (Fb H s.heap.objs.size (.tup [x,y])) { s with heap:=h2 }:=by
   refine DX.turnedL (s:={ s with heap:=s.heap.push { cls:=.type "tuple",data:=.seq #[u,v] } }) (h':=h2) (t':=s.toks) (ch:=[z,TI,TO,i1,i2]) I1 (fun b o hb e=>?_) hf1;have bz:b≠z:=fun q=>hb (by simp [q])
   rcases Heap.get?_push_cases e with ⟨rfl,rfl⟩ | e'
   ·exact sb.extBut _ _ bz T1
   ·exact sb.extBut _ _ bz<|all b o hb e'
  refine ⟨.ref s.heap.objs.size,_,I2,rfl,⟨s.heap.objs.size,x,y,fr,rfl,rfl,fun xs' q=>by rw [I.sk_inj q hx];exact ex,fun ys' q=>by rw [I.sk_inj q hy];exact ey⟩,?_,fun b hb=>(hf1 b hb).1⟩;exact ⟨z2,sb.extBut _ _ D.a1<|all1 _ _ D.a1 D.a5 D.a6 D.a7 gI,⟨u,v,sb.extBut _ _ D.a2 O1⟩,Sk.it_at g1' fun o e=>sb.extBut _ o D.a3 e,Sk.it_at g2' fun o e=>sb.extBut _ o D.a4 e⟩
 done:=by
  intro X hP hw hK hc i ajY s Z H E I hf st hg;subst hP hw hK;obtain ⟨gz,gI,⟨a,b,gO⟩,g1,g2⟩:=st;obtain ⟨xs,ys,hx,hy,hend⟩:=hg;obtain ⟨its,r1,p1⟩:=I.sk hx;obtain ⟨jts,r2,p2⟩:=I.sk hy;have l1:=r1.length;have l2:=r2.length;refine zbg (I.ok.hd<|hc rfl) D o1 o2 gz gI gO g1 g2 p1 p2 (hend.imp (fun q=>by simp;lia) fun q=>by simp;lia) fun h1 all1=>⟨rfl,I.turnedL (t':=s.toks) (ch:=[z,TI,TO,i1,i2]) (fun c o hc e=>?_) hf⟩;exact all1 c o (fun q=>hc<|by simp [q]) (fun q=>hc<|by simp [q]) (fun q=>hc<|by simp [q]) (fun q=>hc<|by simp [q]) e
 self:=fun _ _ _ _ _ st h=>wpAny_pyIter_zip st.1 h
section
variable {X:Cx}{K:Dp}
def sqk (K:Dp)(H:Hp)(x:V)(k:Sk)(a:Addr):Prop:=x=.ref a/\∃ xs,k.v K H a xs
def adR (K:Dp)(ta:TA):TI:=fun Z H R=>ta Z H fun vs H1=>∃ x y k1 k2 a b,vs=[x,y]/\sqk K H1 x k1 a/\sqk K H1 y k2 b/\R (Itz K k1 k2 a b) H1
theorem Sk.sq_lt {k:Sk}{h:Heap}{a:Addr}{its:Array Mk}(x:k.sq h a its):a<h.objs.size:=by
 cases k with
 | l=>obtain ⟨o,e,_⟩:=x;exact Fj e
 | t=>obtain ⟨o,e,_⟩:=x;exact Fj e
theorem jC {a b:Nat}(h:a≠b):(show Addr from a)≠(show Addr from b):=h
theorem agZ (n:Nat):Zap (n+4) (n+2) (n+3) n (n+1) where
 a1:=jC (show n+2≠n+4 by lia)
 a2:=jC (show n+3≠n+4 by lia)
 a3:=jC (show n≠n+4 by lia)
 a4:=jC (show n+1≠n+4 by lia)
 a5:=jC (show n+2≠n+3 by lia)
 a6:=jC (show n+2≠n by lia)
 a7:=jC (show n+2≠n+1 by lia)
 a8:=jC (show n+3≠n by lia)
 a9:=jC (show n+3≠n+1 by lia)
 b1:=jC (show n≠n+1 by lia)
theorem Pn {a n:Nat}(h:a<n):Off a (n+4) (n+3) n (n+1) where
 z:=jC (show a≠n+4 by lia)
 o:=jC (show a≠n+3 by lia)
 i:=jC (show a≠n by lia)
 j:=jC (show a≠n+1 by lia)
theorem aaW {n c:Nat}(h:c∈([n+4,n+2,n+3,n,n+1]:List Nat)):n<=c:=by
 simp only [J1,Q5,or_false] at h;lia
theorem ahV {e1 e2:Expr}{ta:TA}{p pos tpos:Pos}(hg:Gl X "zip")(hm:X.mg "zip" = FX)(ha:PA X [e1,e2] ta)
  (hs:Eu [e1,e2] X.env=(false,eval e1 X.env)::Eu [e2] X.env:=by rfl) (hpl:(JK pos (Eu [e2] X.env)).any (·.1)=false:=by rfl) :
  PI X (.Tuple elts kt tpos) (.Call (.Name "zip" p) [e1,e2] [] pos) (adR X.K ta):=by
 intro ajY s Z H R I h;refine W5<|ju I hg hm boot_zip ?_ (by decide)<|by decide
 refine X8 (Fl (ha pos ajY s Z H _ I h) fun us s1 ⟨vs,H1,I1,r1,q1⟩=>?_) hs hpl;obtain ⟨x,y,k1,k2,a,b,ev,⟨ex,xs,hx⟩,⟨ey,ys,hy⟩,q⟩:=q1;subst ev ex ey;obtain ⟨u1,u2,eu,ru1,ru2⟩:=vals2 r1;subst eu;cases ru1;cases ru2;obtain ⟨its,r1,p1⟩:=I1.sk hx;obtain ⟨jts,r2,p2⟩:=I1.sk hy;have la:=Sk.sq_lt p1;have lb:=Sk.sq_lt p2;refine zbb p1 p2 fun h' gz gI gO g1 g2 size all=>?_;refine wpAny_pyIter_zip gz ?_;have I2:DX X ajY Z H1 { s1 with heap:=h' }:=I1.kept (t':=s1.toks) all;generalize hn:s1.heap.objs.size=n at gz gI gO g1 g2 size la lb |-
 refine ⟨n+4,[n+4,n+2,n+3,n,n+1],_,_,H1,rfl,I2,zaS (agZ n) (Pn la)<|Pn lb,⟨gz,gI,⟨_,_,gO⟩,g1,g2⟩,fun c hc=>?_,q⟩;have hc':n<=c:=aaW hc;exact I1.fpOk (by rw [hn];exact hc')<|I1.hok.fresh (by rw [hn];exact hc')
def nJ:List W->List W->List W
 | a::as,b::bs=>.tup [a,b]::nJ as bs
 | _,_=>[]
theorem kY:∀ {as bs:List W} {i:Nat} {w:W},(nJ as bs)[i]?=FN w->∃ a b,as[i]?=FN a/\bs[i]?=FN b/\w=.tup [a,b]
 | [],_,_,_,e=>by simp [nJ] at e
 | _::_,[],_,_,e=>by simp [nJ] at e
 | a::as,b::bs,0,w,e=>by
  have e:FN (W.tup [a,b])=FN w:=e;exact ⟨a,b,rfl,rfl,(Gw e).symm⟩
 | a::as,b::bs,i+1,w,e=>by
  obtain ⟨x,y,h1,h2,h3⟩:=kY (as:=as) (bs:=bs) (i:=i) (w:=w) (by simpa [nJ] using e);exact ⟨x,y,by simpa using h1,by simpa using h2,h3⟩
theorem uO:∀ {as bs:List W},(nJ as bs).length=min as.length bs.length
 | [],bs=>by simp [nJ]
 | _::_,[]=>by simp [nJ]
 | a::as,b::bs=>by rw [nJ,K9,uO,K9,K9];lia
def oJ:W->Option (List W)
 | .tup ws=>FN ws
 | .lst ws=>FN ws
 | .kls ws=>FN ws
 | _=>FX
theorem CG {H:Hp}{w:W}{v:V}(r:DP K H μ w v)(e:oJ w=FN ws):∃ k a,v=.ref a/\∀ {H2:Hp} {μ2:Mu},Ij K H μ H2 μ2->∃ xs,Sk.v k K H2 a xs/\aJ K H2 μ2 ws xs:=by
 cases w with
 | tup us=>
  cases (show FN us=FN ws from e)
  have r0:=r;rw [DP] at r;obtain ⟨p,xs,ev,hs,rs⟩:=r;subst ev;refine ⟨.t,p,rfl,fun {H2 μ2} x=>?_⟩;have r2:=x.r _ _ r0;rw [DP] at r2;obtain ⟨q,ys,ev,hs,rs⟩:=r2;cases ev;exact ⟨ys,hs,rs⟩
 | lst us=>
  cases (show FN us=FN ws from e)
  have r0:=r;rw [DP] at r;obtain ⟨p,xs,ev,hs,rs⟩:=r;subst ev;refine ⟨.l,p,rfl,fun {H2 μ2} x=>?_⟩;have r2:=x.r _ _ r0;rw [DP] at r2;obtain ⟨q,ys,ev,hs,rs⟩:=r2;cases ev;exact ⟨ys,hs.sq,rs⟩
 | kls us=>
  cases (show FN us=FN ws from e)
  have r0:=r;rw [DP] at r;obtain ⟨p,xs,ev,hs,rs⟩:=r;subst ev;refine ⟨.l,p,rfl,fun {H2 μ2} x=>?_⟩;have r2:=x.r _ _ r0;rw [DP] at r2;obtain ⟨q,ys,ev,hs,rs⟩:=r2;cases ev;exact ⟨ys,hs.sq,rs⟩
 | _=>cases e
def QW (h:Gh)(x y:W):Option Src:=match oJ x,oJ y with
 | some as,FN bs=>FN ⟨nJ as bs,FX⟩
 | none,FN bs=>(match x with
  | .loc n=>(match h.c n with
   | some (.lst as)=>FN ⟨nJ as bs,FN (n,as)⟩
   | _=>FX)
  | _=>FX)
 | _,_=>FX
theorem afZ {H:Hp}{h:Gh}{w:W}{v:V}{o:Option (Nat×List W)}(R:Er K μ H h)(r:DP K H μ w v)(e:(oJ w=FN ws/\o=FX)\/∃ n,w=.loc n/\h.c n=FN (.lst ws)/\o=FN (n,ws)):
  ∃ k a,v=.ref a/\∀ {H2:Hp} {μ2:Mu} {h2:Gh},Ij K H μ H2 μ2->Er K μ2 H2 h2->Src.chk ⟨ws,o⟩ h2->∃ xs,Sk.v k K H2 a xs/\aJ K H2 μ2 ws xs:=by
 rcases e with ⟨e,rfl⟩ | ⟨n,rfl,ec,rfl⟩
 ·obtain ⟨k,a,ev,f⟩:=CG r e;exact ⟨k,a,ev,fun x _ _=>f x⟩
 ·have r0:=r;rw [DP] at r;obtain ⟨p,ev,hm⟩:=r;subst ev;refine ⟨.l,p,rfl,fun {H2 μ2 h2} x R2 ck=>?_⟩;have r2:=x.r _ _ r0;rw [DP] at r2;obtain ⟨q,eq,hm2⟩:=r2;cases eq;obtain ⟨p',xs,hm',hx,rs⟩:=R2.lstAt (show h2.c n=FN (.lst ws) from ck);have ep:p'=p:=by rw [hm2] at hm';exact (Gw hm').symm
  subst ep;exact ⟨xs,.of hx,rs⟩
theorem zbx {h:Gh}{x y:W}{s:Src}(e:QW h x y=FN s):∃ as bs o,s=⟨nJ as bs,o⟩/\((oJ x=FN as/\o=FX)\/∃ n,x=.loc n/\h.c n=FN (.lst as)/\o=FN (n,as))/\oJ y=FN bs:=by
 unfold QW at e;split at e
 ·rename_i as bs ea eb;exact ⟨as,bs,FX,(Gw e).symm,.inl ⟨ea,rfl⟩,eb⟩
 ·rename_i bs ea eb;split at e
  ·split at e
   ·rename_i n _ as ec;exact ⟨as,bs,_,(Gw e).symm,.inr ⟨n,rfl,ec,rfl⟩,eb⟩
   ·cases e
  ·cases e
 ·cases e
def QB (ma:MA):MI:=fun Z h R=>ma Z h fun ws h1=>match ws with
 | [x,y]=>(match QW h1 x y with
  | some s=>R s h1
  | none=>False)
 | _=>False
theorem rM {e1 e2:Expr}{p pos tpos:Pos}(hg:Gl X "zip")(hm:X.mg "zip" = FX)(ha:KZ X [e1,e2] mr)
  (hs:Eu [e1,e2] X.env=(false,eval e1 X.env)::Eu [e2] X.env:=by rfl) (hpl:(JK pos (Eu [e2] X.env)).any (·.1)=false:=by rfl) :
  Rp X (.Tuple elts kt tpos) (.Call (.Name "zip" p) [e1,e2] [] pos) (QB mr):=PI.of (ahV hg hm ha hs hpl) fun Z H Q ⟨μ,h,Zw,Rw,R,S,m,k⟩=>by
 refine ⟨μ,h,Zw,_,R,S,m,fun vs H1 ⟨μ1,ws,h1,e1,R1,r1,m1⟩=>?_⟩;split at m1
 ·split at m1
  ·rename_i x y _ s es;obtain ⟨as,bs,o,rfl,ea,eb⟩:=zbx es;obtain ⟨v,u,ev,rv,ru⟩:=zA r1;obtain ⟨ka,a,e3,fa⟩:=afZ R1 rv ea;obtain ⟨kb,b,e4,fb⟩:=CG ru eb;have ck1:Src.chk ⟨as,o⟩ h1:=by
    rcases ea with ⟨_,rfl⟩ | ⟨n,_,ec,rfl⟩
    ·exact trivial
    ·exact ec
   obtain ⟨xs,hxs,_⟩:=fa .refl R1 ck1;obtain ⟨ys,hys,_⟩:=fb .refl;refine ⟨v,u,ka,kb,a,b,ev,⟨e3,xs,hxs⟩,⟨e4,ys,hys⟩,k _ _ ⟨μ1,⟨nJ as bs,o⟩,h1,e1,R1,?_,m1⟩⟩;intro H2 μ2 h2 i e2 R2 ck;obtain ⟨xs2,hxs2,rxs⟩:=fa e2 R2 ck;obtain ⟨ys2,hys2,rys⟩:=fb e2;refine ⟨fun w ew=>?_,fun hl=>⟨xs2,ys2,hxs2,hys2,?_⟩⟩
   ·obtain ⟨p1,p2,ep1,ep2,rfl⟩:=kY ew;obtain ⟨q1,eq1,rq1⟩:=rxs.get ep1;obtain ⟨q2,eq2,rq2⟩:=rys.get ep2;refine ⟨⟨xs2,ys2,q1,q2,hxs2,hys2,eq1,eq2⟩,fun x' H3 ⟨pa,x1,x2,hp,ex',eH3,f1,f2⟩=>?_⟩;have g1:=f1 xs2 hxs2;have g2:=f2 ys2 hys2;rw [eq1] at g1;rw [eq2] at g2;cases g1;cases g2;subst ex' eH3;exact ⟨μ2,(Ex.laid hp).ext,R2.laid hp,.tupNew hp<|.cons rq1<|.one rq2⟩
   ·have l1:=rxs.len;have l2:=rys.len;have:min as.length bs.length<=i:=by rw [<-uO];exact hl
    lia
  ·exact m1.elim
 ·exact m1.elim
end
variable {e1 e2 : Expr}
section
variable {X:Cx}{K:Dp}
theorem tL:∀ {ns:List Int} {its:List Mk} {i:Nat} {v:Mk},DY (ns.map V.int) its->its[i]?=FN v->∃ t,v=.int (ns.getD i 0) t
 | [],_,_,_,.nil,e=>by simp at e
 | n::ns,_,0,_,.cons r _,e=>by
  simp at e;subst e;exact r
 | _::ns,_,i+1,v,.cons _ t,e=>by
  obtain ⟨t',h⟩:=tL (i:=i) (v:=v) t (by simpa using e);exact ⟨t',by simpa using h⟩
def vd:List W->Option (List Int)
 | []=>FN []
 | .int i::ws=>(vd ws).map (i::·)
 | _=>FX
theorem Ai {H:Hp}{μ : Mu}:∀ {ws:List W} {xs:List V} {ns:List Int},aJ K H μ ws xs->vd ws=FN ns->xs=ns.map V.int
 | [],xs,ns,r,e=>by
  rw [aJ] at r;cases (show FN []=FN ns from e)
  exact r
 | w::ws,xs,ns,r,e=>by
  rw [aJ] at r;obtain ⟨v,vr,ev,ra,r⟩:=r;cases w with
  | int b=>
   rw [DP] at ra;rw [vd] at e;cases q:vd ws with
   | none=>rw [q] at e;cases e
   | some cs=>
    rw [q] at e;cases (show FN (b::cs)=FN ns from e)
    rw [ev,ra,Ai r q];rfl
  | _=>cases e
def acO:MC:=fun ws h Q=>match ws with
 | [w]=>(match dF h w with
  | some us=>(match vd us with
   | some ns=>Q (.int ns.sum) h
   | none=>False)
  | none=>False)
 | _=>False
end
section
variable {P:Ew}{w:Em}{A:Fg}{E:Mk->AP->Prop}{s:AP}
end
section
variable {X:Cx}{K:Dp}
end
section
variable {X:Cx}
def abW (i j k:Nat)(ta:MA):MS:=fun D Z h=>ta Z h fun ws h1=>match ws with
 | [a,b,c]=>D.nx (((Z.set i (FN a)).set j (FN b)).set k (FN c)) h1
 | _=>False
end
section
variable {X:Cx}{K:Dp}
end
theorem ace {K:Dp}{H:Hp}:aJ K H μ [] []:=by rw [aJ]
theorem Mz {K:Dp}{H:Hp}{i:Int}:DP K H μ (.int i) (.int i):=by rw [DP]
section
variable {prog:Ew}{w:Em}{A:Fg}{E:Mk->AP->Prop}{s:AP}
theorem xJ {it t:Addr}{items:Array Mk}(hne:t≠it):∀ (n i:Nat) (s:AP) (Q:List Mk->AP->Prop),s.heap.IsListIter it t i->s.heap.IsList t items->i+n<=items.size ->
  (∀ h',h'.IsListIter it t (i+n)->W6 it s.heap h'->Q ((items.toList.drop i).take n) { s with heap:=h' })->Dl (Dm prog w) A (draw (.ref it) n) Q E s
 | 0,i,s,Q,hit,_,_,hQ=>by
  show Dl _ _ (pure []) Q E s;exact Ds<|by simpa using hQ s.heap hit (Heap.SameBut.refl ..)
 | n+1,i,s,Q,hit,ht,hle,hQ=>by
  have hlt:i<items.size:=by lia
  show Dl _ _ (Ln (.ref it) >>= _) Q E s;refine CR<|wpAny_pyNext_list_item hit ht (x:=items[i]) (by simp [hlt]) fun h1 hit1 hs1=>?_
  refine CR<|M8<|xJ hne n (i+1) _ _ hit1 (ht.at fun o e=>hs1.extBut _ o hne e) (by lia) fun h2 hit2 hs2=>Ds ?_
  have hd:items.toList.drop i=items[i]::items.toList.drop (i+1):=by simp [Vd,hlt]
  have:=hQ h2 (by rw [show i+(n+1)=i+1+n by lia];exact hit2) (hs1.trans hs2)
  rw [hd,List.take_succ_cons] at this;exact this
theorem nM {t:Addr}{items:Array Mk}{Q:List Mk->AP->Prop}(hh:A.handled=FX)(ht:s.heap.IsList t items)
  (hQ:∀ h',Wg s.heap.objs.size s.heap h'->Q items.toList { s with heap:=h' }):Dl (Dm prog w) A (unpackItems (.ref t) items.size FX) Q E s:=by
 have hlt:t≠s.heap.objs.size:=by obtain ⟨o,ho,_⟩:=ht;exact HX (Fj ho)
 unfold unpackItems;refine CR ?_
 ·unfold notIterableAtAll;refine CR<|wpAny_specialOf ht.typeIs slot_list_iter.lookup ?_
  refine Ds ?_;simp only [SJ,if_false];refine CR<|M8<|VB ht ?_
  refine CR<|M8<|xJ hlt items.size 0 _ _ ⟨_,Hw _ rfl,rfl,rfl⟩ (ht.at fun o e=>G6 _ e) (by lia) fun h1 hit1 hs1=>?_
  have hall:List.take items.size (List.drop 0 items.toList)=items.toList:=by
   rw [Wy];exact Vz (by simp)
  rw [hall];rw [if_neg (by simp)];have ht1:h1.IsList t items:=ht.at fun o e=>hs1.extBut _ o hlt (G6 _ e)
  refine CR<|M8<|wpAny_pyNext_list_end hh hit1 ht1 (by simp) fun h2 he2=>?_
  simp only [Option.isSome_none,SJ,if_false];refine Ds<|hQ h2 fun b o hb e=>he2 b o hb<|hs1.extBut b o hb<|G6 _ e
theorem mq {x1}{pos:Pos}{t:Addr}{items:Array Mk}{Q:Unit->AP->Prop}(hh:A.handled=FX)(ht:s.heap.IsList t items)
  (hn:(M6 elts env).length=items.size) (hstar:(M6 elts env).findIdx? (·.1)=FX)
  (h:∀ h',Wg s.heap.objs.size s.heap h'->Dl (Dm prog w) A (assignInOrder ((M6 elts env).map (·.2)) items.toList) Q E { s with heap:=h' }) :
  Dl (Dm prog w) A (assign (.Tuple elts x1 pos) env (.ref t)) Q E s:=by
 rw [assign_Tuple];refine CR<|wpAny_standAt ?_
 unfold unpack;rw [hn,hstar];exact CR<|M8<|nM hh ht h
end
section
variable {X:Cx}{pos:Pos}
def aa9 (K:Dp)(n:Nat)(t:Tc):TG:=fun v Z H Q=>∃ a xs,v=.ref a/\(Hj K H a xs\/JF K H a xs)/\xs.length=n/\t xs Z H Q
theorem ahK {es:List Expr}{k:Nat}{t:Tc}{n:Nat}(hc:X.calm=true)(h:Ug X es t)
  (hn:(M6 es X.env).length=n:=by rfl) (hst:(M6 es X.env).findIdx? (·.1)=FX:=by rfl):PG X (.Tuple es k pos) (aa9 X.K n t):=by
 intro ajY s Z H v u Q I r hw;obtain ⟨a,xs,e1,hq,hl,hw⟩:=hw;subst e1;cases r;rcases hq with hq | hq
 ·obtain ⟨its,rv,ht,hz⟩:=I.tuple hq;refine assign_Tuple_tuple (I.ok.hd hc) ht (by simp [hn,<-hl,rv.length]) hst fun h' hx=>?_;have I1:DX X ajY Z H { s with heap:=h' }:=I.kept (t':=s.toks) fun b o e=>hx b o (HX (Fj e)) e
  exact h ajY _ Z H xs _ Q I1 (by simpa using rv) hw
 ·obtain ⟨its,rv,ht,hz⟩:=I.list hq;refine mq (I.ok.hd hc) ht.isList (by simp [hn,<-hl,rv.length]) hst fun h' hx=>?_;have I1:DX X ajY Z H { s with heap:=h' }:=I.kept (t':=s.toks) fun b o e=>hx b o (HX (Fj e)) e
  exact h ajY _ Z H xs _ Q I1 (by simpa using rv) hw
def g8 (n:Nat)(g:RX):MG:=fun w Z h N=>match w with
 | .tup ws=>Jw (Ly ws.length n) (g ws Z h N) False
 | .lst ws=>Jw (Ly ws.length n) (g ws Z h N) False
 | .loc j=>(match h.c j with
  | some (.lst ws)=>Jw (Ly ws.length n) (g ws Z h N) False
  | _=>False)
 | _=>False
theorem dJ {es:List Expr}{k:Nat}{g:RX}{n:Nat}(hc:X.calm=true)(h:aap X es g)(hn:(M6 es X.env).length=n:=by rfl)(hst:(M6 es X.env).findIdx? (·.1)=FX:=by rfl):DG X (.Tuple es k pos) (g8 n g):=
 (ahK (n:=n) hc h hn hst).of fun v Z H N ⟨μ,h,Zw,w,Nw,R,S,r,m,k⟩=>by
  cases w with
  | tup ws=>
   rw [DP] at r;obtain ⟨p,xs,e1,hs,hr⟩:=r;have m:Jw (Ly ws.length n) (g ws Zw h Nw) False:=m;cases en:Ly ws.length n with
   | true=>rw [en] at m;exact ⟨p,xs,e1,.inl hs,by rw [<-hr.len];exact Xj en,μ,h,Zw,ws,Nw,R,S,hr,m,k⟩
   | false=>rw [en] at m;exact (show False from m).elim
  | lst ws=>
   rw [DP] at r;obtain ⟨p,xs,e1,hs,hr⟩:=r;have m:Jw (Ly ws.length n) (g ws Zw h Nw) False:=m;cases en:Ly ws.length n with
   | true=>rw [en] at m;exact ⟨p,xs,e1,.inr hs.sq,by rw [<-hr.len];exact Xj en,μ,h,Zw,ws,Nw,R,S,hr,m,k⟩
   | false=>rw [en] at m;exact (show False from m).elim
  | loc j=>
   have m:(match h.c j with
    | some (.lst ws)=>Jw (Ly ws.length n) (g ws Zw h Nw) False
    | _=>False):=m
   split at m
   ·rename_i ws ec;obtain ⟨p,xs,e1,hs,hr⟩:=cC R r (show dF h (.loc j)=FN ws by simp only [dF,ec]);cases en:Ly ws.length n with
    | true=>rw [en] at m;exact ⟨p,xs,e1,.inr hs,by rw [<-hr.len];exact Xj en,μ,h,Zw,ws,Nw,R,S,hr,m,k⟩
    | false=>rw [en] at m;exact (show False from m).elim
   ·exact m.elim
  | _=>exact m.elim
end
section
variable {K:Dp}{H:Hp}{h:Gh}{p:Addr}{xs:List V}
theorem Ex0.own (R:Er K μ H h)(hp:μ.hid p):Ex0 K H μ H ((μ.unhide p).put h.nx p) where
 t:=fun _ _ z=>z
 l:=fun q ys z=>by
  refine ⟨z.1,fun m e=>?_,fun y=>z.2.2 y.2⟩;by_cases hm:m=h.nx
  ·rw [hm,Mu.put_same] at e;have e':p=q:=Gw e;subst e';exact z.2.2 hp
  ·rw [Mu.put_ne hm] at e;exact z.2.1 m e
 k:=fun _ _ z=>z
 m:=fun m q e=>by
  have hm:m≠h.nx:=fun y=>by rw [y,R.dead (Ea _)] at e;cases e
  rw [Mu.put_ne hm];exact e
 x:=fun _ _ _ e=>e
 y:=fun _ _ e=>e
theorem KR.own (R:Er K μ H h)(hp:μ.hid p):KR p K H μ H ((μ.unhide p).put h.nx p):=⟨fun _ _ z=>DP.ex (Ex0.own R hp) z,fun q u ne z e=>⟨⟨ne,z⟩,e⟩⟩
theorem Er.own (R:Er K μ H h)(hp:μ.hid p)(e:H p=FN (.lst xs))(r:aJ K H μ ws xs):Er K ((μ.unhide p).put h.nx p) H (h.new (.lst ws)) where
 inj:=fun m n q em en=>by
  have key:∀ n,n≠h.nx->((μ.unhide p).put h.nx p).f n=FN q->p=q->False:=fun n hn en e=>by
   rw [Mu.put_ne hn] at en;subst e;exact (R.hd p hp).2 n en
  by_cases hm:m=h.nx
  ·by_cases hn:n=h.nx
   ·rw [hm,hn]
   ·rw [hm,Mu.put_same] at em;exact (key n hn en<|Gw em).elim
  ·by_cases hn:n=h.nx
   ·rw [hn,Mu.put_same] at en;exact (key m hm em<|Gw en).elim
   ·rw [Mu.put_ne hm] at em;rw [Mu.put_ne hn] at en;exact R.inj m n q em en
 dom:=fun n q en=>by
  by_cases hn:n=h.nx
  ·rw [hn];exact Xn _
  ·rw [Mu.put_ne hn] at en;exact Nat.lt_succ_of_lt<|R.dom n q en
 trk:=fun n q en=>by
  by_cases hn:n=h.nx
  ·rw [hn,Mu.put_same] at en;cases en;rw [e];trivial
  ·rw [Mu.put_ne hn] at en;exact R.trk n q en
 cel:=fun n c en=>by
  by_cases hn:n=h.nx
  ·subst hn;have ec:(h.new (.lst ws)).c h.nx=FN (.lst ws):=by show (if h.nx=h.nx then FN _ else _)=_;rw [if_pos rfl]
   rw [ec] at en;cases en;exact ⟨p,Mu.put_same,xs,e,aJ.ex (Ex0.own R hp) r⟩
  ·have ec:(h.new (.lst ws)).c n=h.c n:=by show (if n=h.nx then FN _ else _)=_;rw [if_neg hn]
   rw [ec] at en;obtain ⟨q,e1,x⟩:=R.cel n c en;refine ⟨q,by rw [Mu.put_ne hn];exact e1,?_⟩;have ex:=Ex0.own R hp;cases c with
   | lst ws=>obtain ⟨xs,a,b⟩:=x;exact ⟨xs,a,aJ.ex ex b⟩
   | obj C fs=>obtain ⟨dx,fvs,a,b⟩:=x;exact ⟨dx,fvs,a,Paired.mapP b fun _ _ z=>⟨z.1,DP.ex ex z.2⟩⟩
   | dct kvs=>obtain ⟨kvv,a,b⟩:=x;exact ⟨kvv,a,Paired.mapP b fun _ _ z=>⟨z.1,DP.ex ex z.2⟩⟩
   | dtt kvs=>obtain ⟨xs,vs,a,b,c,d,f⟩:=x;exact ⟨xs,vs,a,b,c,aJ.ex ex d,aJ.ex ex f⟩
 hd:=fun q z=>by
  refine ⟨(R.hd q z.2).1,fun n en=>?_⟩;by_cases hn:n=h.nx
  ·rw [hn,Mu.put_same] at en;exact z.1 (Gw en).symm
  ·rw [Mu.put_ne hn] at en;exact (R.hd q z.2).2 n en
end
def aah (Q:WK):WK:=fun w h=>match w with
 | .lst ws=>Q (.loc h.nx) (h.new (.lst ws))
 | _=>False
def ZL (own:W->Option (List W))(ix:List Nat)(mi:MI)(tt:MT)(te:ME):ME:=fun Z h Q=>Jy own ix mi tt te Z h (aah Q)
section
variable {X:Cx}{tg iter:Expr}{pos:Pos}{scope:Scope}{xs:List Str}
theorem Zy {K:Dp}{Z : St}{H:Hp}{Q:VK}{n:Nat}{own:V->Hp->List V->Prop}(oo:zW K n own ow)(q:tD K (ZL ow ix mi tt te) Z H Q):tLC n own ix (tDI K mi) (tDT K tt) (tD K te) Z H Q:=by
 obtain ⟨μ,h,Zw,Qw0,R,S,m,k⟩:=q;generalize hQw:aah Qw0=Qw at *;have m:Jy ow ix mi tt te Zw h Qw:=by rw [<-hQw];exact m
 refine ⟨μ,h,Zw,_,R,S,m,fun J H1 ⟨μ1,src,h1,e1,R1,ok,hz0⟩=>?_⟩;obtain ⟨hz,m1⟩:=hz0.ok;intro D hD;have nD:=R1.nohid hD;have hD1:Ij K H1 μ1 (Fb H1 D (.lst [])) (μ1.hide D):=Ij.hide hD;refine ⟨fun i n ys H'=>n=src.ws.length - i/\i<=src.ws.length/\ys.length<=i/\H' D=FN (.lst ys)/\∃ μ' acc h',Ij K H1 μ1 H' μ'/\Er K μ' H' h'/\μ'.hid D/\aJ K H' μ' acc ys/\oX src ow ix tt te Zw Qw (src.ws.drop i) acc h',
  ⟨src.ws.length,by simp,Jk _,Ea _,aY,μ1.hide D,[],h1,hD1,R1.hide hD,.inl rfl,.nil,by rw [Wy];exact m1⟩,?_⟩
 rintro i n' ys H2 ⟨hn,hle,hys,hH2,μ2,acc,h2,e2,R2,hid2,ra,m2⟩ _;by_cases hlt:i<src.ws.length
 ·rw [Vd hlt] at m2;obtain ⟨ck,m2⟩:=Src.go_ok m2;obtain ⟨hgo,hy⟩:=(ok e2 R2 ck).1 src.ws[i] (GK hlt);refine .inr ⟨hgo,by lia,fun x H3 y=>?_⟩;obtain ⟨μ3,e3,R3,rx⟩:=hy x H3 y;have e13:=e2.trans e3;cases eo:ow src.ws[i] with
  | none=>rw [eo] at m2;exact m2.elim
  | some us=>
   rw [eo] at m2;obtain ⟨vs,hov,hvl,rvs⟩:=oo rx eo;have S3:=(S.ext (e1.trans e13)).blk (ix:=ix) rvs;refine ⟨vs,hov,hvl,μ3,h2,_,_,R3,S3,m2,fun b H4 ⟨μ4,h4,e4,R4,m4⟩=>?_⟩;have e24:=e3.trans e4;obtain ⟨hid4,hH4⟩:=e24.o D _ hid2 hH2;cases b with
   | false=>
    dsimp only;rw [if_neg Lw];exact ⟨hH4,src.ws.length - (i+1),by lia,rfl,hlt,by lia,hH4,μ4,acc,h4,e2.trans e24,R4,hid4,e24.s ra,m4⟩
   | true=>
    dsimp only;rw [if_pos rfl];refine ⟨μ4,h4,_,_,R4,S3.ext e4,m4,fun v H5 ⟨μ5,w5,h5,e5,R5,r5,m5⟩=>?_⟩;have e25:=e24.trans e5;obtain ⟨hid5,hH5⟩:=e25.o D _ hid2 hH2;have g:=KR.grow (ys:=ys++[v]) R5 hid5;have rs:aJ K (Fb H5 D (.lst (ys++[v]))) μ5 (acc++[w5]) (ys++[v]):=aJ.ex (Ex0.grow R5 hid5) (aJ.append (e25.s ra) (aJ.one r5));exact ⟨hH5,src.ws.length - (i+1),by lia,rfl,hlt,by rw [JC];simp;lia,aY,μ5,acc++[w5],h5,(e2.trans e25).x nD g,R5.grow hid5,hid5,rs,m5⟩
 ·have ei:i=src.ws.length:=by lia
  subst ei;rw [List.drop_length] at m2;obtain ⟨ck,m2⟩:=Src.go_ok m2;have m2:Qw0 (.loc h2.nx) (h2.new (.lst acc)):=by rw [<-hQw] at m2;exact m2
  exact .inl ⟨(ok e2 R2 ck).2 (Ea _),k _ _ ⟨(μ2.unhide D).put h2.nx D,.loc h2.nx,h2.new<|.lst acc,e1.trans<|e2.x nD<|KR.own R2 hid2,R2.own hid2 hH2 ra,by rw [DP];exact ⟨D,rfl,Mu.put_same⟩,m2⟩⟩
theorem Qo {own:V->Hp->List V->Prop}(ix:List Nat){i:Nat}{py spos:Pos}(hN:X.N.Nodup)(hi':X.N[i]?=FN y)(hy:Loc X.env.scope y)(hc:X.calm=true)(B:gZ X scope xs ix)(oo:zW X.K xs.length own ow)
  (hg:∀ C s H fp,PG (blk X scope (fW X xs ix) C s H fp) tg (O6 xs.length own)) (hi:Rp X tg iter mi)
  (ht:∀ C s H fp,VF (blk X scope (fW X xs ix) C s H fp) ifs tt) (he:∀ C s H fp,DE (blk X scope (fW X xs ix) C s H fp) elt te)
  (hsw:Vh (.ListComp elt [⟨tg,iter,ifs,0⟩] scope pos) (FN (.Name y py)) spos.line X.env=pure true:=by rfl)
  (hf:X.fn y=true\/X.env.scope.names.lookup y=FN .local:=by first | exact .inl rfl | exact .inr rfl | assumption)
  (hs:∀ v,V9 iter X.env v=pure v:=by intro _;rfl):DS X (.Assign [.Name y py] (.ListComp elt [⟨tg,iter,ifs,0⟩] scope pos) spos) (bZ (ZL ow ix mi tt te) (kI i)):=
 (Xz ix hN hi' hy hc B hg hi ht he hsw hf hs).of fun _ _ _ q=>JL (fun _ _ _ z=>Zy oo z) q
end
def G9:Expr->Bool
 | .Starred _ _=>true
 | _=>false
theorem aP {e:Expr}{es:List Expr}(h:G9 e=false):Eu (e::es) env=(false,eval e env)::Eu es env:=by
 cases e <;> first | rfl | cases h
theorem Qt {e:Expr}(h:G9 e=false):Eu [e] env=[(false,eval e env)]:=(aP h).trans rfl
def noStar:List Expr->Bool
 | []=>true
 | e::r=>!G9 e&&noStar r
theorem bI {pos:Pos}{env:Env}:∀ {es:List Expr},noStar es=true->(JK pos (Eu es env)).any (·.1)=false
 | [],_=>rfl
 | e::r,h=>by
  rw [noStar,V8,Bool.not_eq_true'] at h;rw [aP h.1];show (false||(JK pos (Eu r env)).any (·.1))=false;rw [bI h.2];rfl
theorem gq {akb:Pos}{e:Expr}(h:G9 e=false):((JK akb (Eu [e] env)).all (fun x=>!x.1)&&(backToKw akb (Vl [] env)).all (fun x=>x.1.isSome)
   && decide (([e]:List Expr).length+([]:List Nq).length+(if ([]:List Nq).isEmpty then 0 else 1)<30))=true:=by
 rw [Qt h];rfl
section
variable {prog:Ew}{w:Em}{A:Fg}{E:Mk->AP->Prop}{s:AP}
open HT in
theorem jG {t sl:Addr}{items:Array Mk}{vl vu:Mk}{lo hi:Option Int}{Q:Mk->AP->Prop}(ht:NZ s.heap t items)(hs:s.heap.IsSliceOf sl vl vu .none)(pl:IsPart vl lo)(pu:IsPart vu hi)
  (h0:sIx items.size 0 lo=0) (h1:sIx items.size items.size hi=items.size) (h:Q (.ref t) s):Dl (Dm prog w) A (getItem (.ref t) (.ref sl)) Q E s:=by
 obtain ⟨os,hos,hcs,hds⟩:=id hs;have hTs:s.TypeIs (.ref sl) "slice":=⟨os,hos,hcs⟩
 unfold getItem;try with_reducible refine M8 ?_
 first | refine CR (Ds ?_) | skip
 refine CR<|wpAny_sequenceKey ht.typeIs (by decide) ?_
 refine CR (Ue (name:=Tq "__getitem__") ht.typeIs Xv
  (Rz Xv ht.typeIs entry_tuple_getitem ?_ (args_tuple_getitem _ _)))
 show Dl _ _ (Builtin.Tuple.tupleItemsOf (.ref t) >>= _) _ _ s;refine CR<|tupleItemsOf_ ht ?_
 refine CR<|Rf hTs ?_
 rw [if_pos (by decide)];refine CR<|gR hs pl pu ?_
 have hyes:((((sIx items.size 0 lo:Nat):Int)==0&&(1:Int)==1&&(sIx items.size items.size hi - sIx items.size 0 lo)==items.size)=true):=by
  rw [h0,h1];simp
 show Dl _ _ (if (((sIx items.size 0 lo:Nat):Int)==0&&(1:Int)==1&&(sIx items.size items.size hi - sIx items.size 0 lo)==items.size)=true then _ else _) _ _ s;rw [if_pos hyes];unfold Builtin.Tuple.tupleIsExact;refine CR<|CR<|Rf ht.typeIs<|Ds ?_
 rw [if_pos (by decide)];refine CR<|Ml ?_
 first
  | exact Ds ⟨_,rfl,Ds h⟩
  | exact CR (Ds (Ds ⟨_,rfl,Ds h⟩))
end
section
variable {X:Cx}
def adE (K:Dp):V->Option Int->Option Int->Hp->VK->Prop:=fun x lo hi H Q=>∃ a xs,x=.ref a/\Hj K H a xs /\
 HT.sIx xs.length 0 lo=0/\HT.sIx xs.length xs.length hi=xs.length/\Q x H
theorem afH:Td X (adE X.K):=by
 intro ajY s Z H x v vl vu lo hi sl Q I rx hs pl pu h;obtain ⟨a,xs,rfl,hx,h0,h1,q⟩:=h;cases rx;obtain ⟨its,r,ht,hz⟩:=I.tuple hx;have ajZ:its.toArray.size=xs.length:=by rw [J9];exact r.length.symm
 refine ⟨"tuple",_,Xv.lookup,ht.typeIs,?_⟩;refine jG ht hs pl pu (by rw [ajZ];exact h0) (by rw [ajZ];exact h1) ?_;exact ⟨.ref a,H,I,rfl,q⟩
def KH (x:W)(lo hi:Option Int)(h:Gh)(Q:WK):Prop:=match x with
 | .tup ws=>Q (.tup (xT ws lo hi)) h
 | x=>(match dF h x with
  | some ws=>Q (.lst (xT ws lo hi)) h
  | none=>False)
theorem Nb {e:Expr}{lo hi:Option Expr}{ml mh:MO}{p2 pos:Pos}(he:DE X e ma)(hl:DO X lo ml)(hu:DO X hi mh):DE X (.Subscript e (.Slice lo hi FX p2) pos) (Ut KH ma ml mh):=
 (afX (Td.or (Td.or agF ahQ) afH) he hl hu).of fun Z H Q ⟨μ,h,Zw,Qw,R,S,m,k⟩=>by
  refine ⟨μ,h,Zw,_,R,S,m,fun x H1 ⟨μ1,wx,h1,e1,R1,r1,m1⟩=>?_⟩;refine ⟨μ1,h1,Zw,_,R1,S.ext e1,m1,fun lo H2 ⟨μ2,h2,e2,R2,m2⟩=>?_⟩;refine ⟨μ2,h2,Zw,_,R2,(S.ext e1).ext e2,m2,fun hi H3 ⟨μ3,h3,e3,R3,m3⟩=>?_⟩;have e13:=(e1.trans e2).trans e3;have r3:=e3.r _ _ (e2.r _ _ r1);have oth:∀ wy,DP X.K H3 μ3 wy x->(match dF h3 wy with
    | some ws=>Qw (.lst (xT ws lo hi)) h3
    | none=>False)->∃ p xs,x=.ref p/\JF X.K H3 p xs/\∀ l,H3 l=FX->Q (.ref l) (Fb H3 l (.lst (Ld xs lo hi))):=by
   intro wy ry my;split at my
   ·rename_i ws ev;obtain ⟨p,xs,ex,hs,rs⟩:=cC R3 ry ev;exact ⟨p,xs,ex,hs,fun l hl=>k _ _ ⟨μ3,_,h3,e13.trans (Ex.laid hl).ext,R3.laid hl,.lstNew R3 hl<|rs.cutv lo hi,my⟩⟩
   ·exact my.elim
  cases wx with
  | tup ws=>
   have m3:Qw (.tup (xT ws lo hi)) h3:=m3;have r30:=r3;rw [DP] at r3;obtain ⟨p,xs,ex,hx,rs⟩:=r3;have hl:=rs.len;by_cases hw:HT.sIx xs.length 0 lo=0/\HT.sIx xs.length xs.length hi=xs.length
   ·have ec:xT ws lo hi=ws:=by
     unfold xT;rw [hl,hw.1,hw.2,Wy,Nat.sub_zero,<-hl,LK]
    rw [ec] at m3;exact .inr ⟨p,xs,ex,hx,hw.1,hw.2,k _ _ ⟨μ3,.tup ws,h3,e13,R3,r30,m3⟩⟩
   ·exact .inl<|.inr ⟨p,xs,ex,hx,hw,fun q hq=>k _ _ ⟨μ3,.tup<|xT ws lo hi,h3,e13.trans (Ex.laid hq).ext,R3.laid hq,.tupNew hq<|rs.cutv lo hi,m3⟩⟩
  | _=>exact .inl (.inl (oth _ r3 m3))
def aat:MC:=fun ws h Q=>match ws with
 | [.int i]=>Q (.int i) h
 | [.bl b]=>Q (.int (if b then 1 else 0)) h
 | _=>False
theorem aco:eY X (.type "int") aat:=⟨_,ahU,by
 intro H μ h vs ws Qw Q R r m k;unfold aat at m;split at m
 ·obtain ⟨v,e,rv⟩:=gC r;rw [DP] at rv;subst e rv;exact .inl ⟨_,rfl,k _ _<|.int R m⟩
 ·obtain ⟨v,e,rv⟩:=gC r;rw [DP] at rv;subst e rv;exact .inr ⟨_,rfl,k _ _<|.int R m⟩
 ·exact m.elim⟩
theorem rm:fillsNumberSlot (.type "tuple") "mul" = pure false:=
 PySem.fillsNumberSlot_seq (id := "tuple.__mul__") (r:=FN (.builtin "tuple.__rmul__")) F.slot_tuple_mul.lookup (by decide +kernel) F.slot_tuple_rmul.lookup (by decide +kernel)
theorem ael:seqRepeat? (.type "tuple")=pure (FN (.builtin "tuple.__mul__")):=by
 unfold seqRepeat?;rw [PySem.seqSlot_of (T := "tuple") (name := "__mul__") (id := "tuple.__mul__") F.slot_tuple_mul.lookup (by decide +kernel),PySem.seqSlot_of (T := "tuple") (name := "__rmul__") (id := "tuple.__rmul__") F.slot_tuple_rmul.lookup (by decide +kernel)];rfl
theorem xY (a:Int)(t:Tok)(l:Addr)(items:Array Mk):
  Meets (Q6.«int.__rmul__» ⟨[.int a t,.ref l],[]⟩) (fun _ R s=>NZ s.heap l items/\R (.ok (.ret Value.notImplemented)) s):=
 .of_wp fun prog w A R s h=>by
  obtain ⟨hp,g,d,tk,os⟩:=s;obtain ⟨⟨o,ho,hc,n,hd⟩,h⟩:=h;obtain ⟨cl,dd,da,sl⟩:=o;simp only at hc hd;subst hc hd
  wp_walk
  exact ⟨_,rfl,h⟩
theorem zbJ (l:Addr)(items:Array Mk)(k:Int)(t:Tok)(h0:0<=k)(h1:k<2^63)(hz:items.size*k.toNat<=G7):
  Meets (Q6.«tuple.__mul__» ⟨[.ref l,.int k t],[]⟩) (fun _ R s=>NZ s.heap l items/\(if items.size=0\/k=1 then R (.ok (.ret (.ref l))) s else
   R (.ok (.ret (.ref s.heap.objs.size))) { s with heap:=s.heap.push { cls:=.type "tuple",data:=.seq (Gv k.toNat items.toList).flatten.toArray } })):=
 .of_wp fun prog w A R s h=>by
  obtain ⟨hp,g,d,tk,os⟩:=s;obtain ⟨⟨o,ho,hc,n,hd⟩,h⟩:=h;obtain ⟨cl,dd,da,sl⟩:=o;simp only at hc hd;subst hc hd;have ht:NZ hp l items:=⟨_,ho,rfl,n,rfl⟩
  wp_walk
  rw [if_neg (by simp;lia)];refine CR<|tupleItemsOf_ (s:=⟨hp,g,d,tk,os⟩) ht ?_
  dsimp only;have hemp:items.isEmpty=decide (items.size=0):=rfl;by_cases e:items.size=0\/k=1
  ·rw [if_pos e] at h;rw [if_pos (by rcases e with e | e <;> simp [hemp,e])];unfold Builtin.Tuple.tupleIsExact;refine CR<|CR<|Rf ⟨_,ho,rfl⟩<|Ds ?_
   rw [if_pos (by decide)];refine CR<|Ml ?_
   exact Ds ⟨_,rfl,h⟩
  ·rw [if_neg e] at h;rw [not_or] at e;rw [if_neg (by simp [hemp,e.1,e.2])];by_cases k0:k=0
   ·rw [if_pos (by simp [k0])];subst k0;have ee:(Gv (0:Int).toNat items.toList).flatten.toArray = #[]:=rfl;rw [ee] at h;exact CR (m:=WQ _)<|Ni (Ds ⟨_,rfl,h⟩) (by show 0<=G7;exact Jk _)
   ·rw [if_neg (by simp [hemp,e.1];lia)];have hp8:((2:Int)^63 - 1) / 8=1152921504606846975:=by decide
    have hsz:(G7:Nat)<=1152921504606846975:=by decide
    have hk:((items.size*k.toNat:Nat):Int)=(items.size:Int)*k:=by rw [Int.natCast_mul,Int.toNat_of_nonneg h0]
    rw [if_neg (by rw [hp8,<-hk];lia)];rw [if_neg (by unfold Builtin.Tuple.tupleTooMany;rw [<-hk,decide_eq_true_iff];lia)];have hnew:List.foldl (fun x1 x2=>x1++x2) #[] (Gv k.toNat items)=(Gv k.toNat items.toList).flatten.toArray:=by
     have:=foldl_rep items.toList k.toNat []
     rw [Xl] at this
     simpa using this
    rw [hnew];refine CR (m:=WQ _)<|Ni (Ds ⟨_,rfl,h⟩) ?_
    show (Gv k.toNat items.toList).flatten.toArray.size<=G7;rw [J9,len_rep,Nat.mul_comm]
    simpa using hz
def ab0 (K:Dp):R2:=fun x y H Q=>∃ a xs k,x=.ref a/\y=.int k/\Hj K H a xs/\0<=k/\k<2^63/\xs.length*k.toNat<=G7 /\
 ((xs.length=0\/k=1)->Q (.ref a) H)/\(¬ (xs.length=0\/k=1)->∀ p,H p=FX->Q (.ref p) (Fb H p (.tup (Gv k.toNat xs).flatten)))
theorem aji:Jo X (Mi .Mult) (ab0 X.K):=by
 intro ajY s Z H x y v u Q I rx ry h;obtain ⟨a,xs,k,rfl,rfl,hx,h0,h1,hz,q1,q2⟩:=h;cases rx;obtain ⟨t,rfl⟩:=ry;obtain ⟨its,r,ht,hsz⟩:=I.tuple hx;have ajZ:its.toArray.size=xs.length:=by rw [J9];exact r.length.symm
 refine wpAny_binaryOp_repeat_ref (T := "tuple") (U := "int") (by decide) ht.typeIs (fun s'=>typeIs_int s' k t) rm F.fills_int_mul F.slot_int_rmul ael F.slot_int_index.lookup
  (call_meets F.slot_int_rmul (typeIs_int s k t) F.entry_int_rmul (F.args_int_rmul_2 _ _) (xY k t a its.toArray)
   ⟨ht,rfl,ht.typeIs,call_meets F.slot_tuple_mul ht.typeIs F.entry_tuple_mul (F.args_tuple_mul_2 _ _) (zbJ a its.toArray k t h0 h1 (by rw [ajZ];exact hz)) ⟨ht,?_⟩⟩)
 rw [ajZ];by_cases e:xs.length=0\/k=1
 ·rw [if_pos e];exact ⟨.ref a,H,I,rfl,q1 e⟩
 ·rw [if_neg e];refine ⟨.ref s.heap.objs.size,_,I.laid (t':=s.toks) (o:=.tup (Gv k.toNat xs).flatten) (fun b ob q=>G6 _ q) (Ea _) ?_,rfl,q2 e _<|I.hok.fresh<|Ea _⟩;exact ⟨by rw [len_rep,Nat.mul_comm];exact hz,_,r.rep k.toNat,Ib.new _ _⟩
def RJ:M2:=fun x y h Q=>match x,y with
 | .int i,.int j=>qX i j/\Q (.int (i*j)) h
 | .tup ws,.int k=>(0<=k/\k<=1000/\ws.length*k.toNat<=1000)/\Q (.tup (Gv k.toNat ws).flatten) h
 | _,_=>False
theorem Cw {K:Dp}{H:Hp}{μ : Mu}{ws:List W}{xs:List V}(r:aJ K H μ ws xs):∀ k:Nat,aJ K H μ (Gv k ws).flatten (Gv k xs).flatten
 | 0=>ace
 | k+1=>by
  rw [RB,RB,W3,W3];exact aJ.append r<|Cw r k
theorem agc:M5 X (Mi .Mult) RJ:=⟨_,GD.or aji,by
  intro H μ h x y wx wy Qw Q R rx ry m k;cases wx with
  | int i=>cases wy with
    | int j=>
      rw [DP] at rx ry;have m:qX i j/\Qw (.int (i*j)) h:=m;exact .inl ⟨_,_,rx,ry,m.1,k _ _<|.int R m.2⟩
    | _=>exact (show False from m).elim
  | tup ws=>cases wy with
    | int n=>
      have m:(0<=n/\n<=1000/\ws.length*n.toNat<=1000)/\Qw (.tup (Gv n.toNat ws).flatten) h:=m;obtain ⟨⟨h0,h1,h2⟩,m⟩:=m;have rx0:=rx;rw [DP] at rx;rw [DP] at ry;obtain ⟨p,xs,ex,hx,rs⟩:=rx;have hl:=rs.len;have sz:(1000:Nat)<=G7:=by decide
      have p63:(2:Int)^63=9223372036854775808:=by decide
      refine .inr ⟨p,xs,n,ex,ry,hx,h0,by lia,by rw [<-hl];lia,fun e=>?_,fun e q hq=>?_⟩
      . have ee:(Gv n.toNat ws).flatten=ws:=by
          rcases e with e | e
          . have:ws=[]:=RT (by lia)
            subst this;have:∀ k:Nat,(Gv k ([]:List W)).flatten=[]:=fun k=>by induction k with
              | zero=>rfl
              | succ k ih=>rw [RB,W3,ih];rfl
            exact this _
          . subst e
            show (Gv 1 ws).flatten=ws;simp
        rw [ee] at m;rw [<-ex];exact k _ _ ⟨μ,.tup ws,h,.refl,R,rx0,m⟩
      . exact k _ _ ⟨μ,.tup (Gv n.toNat ws).flatten,h,(Ex.laid hq).ext,R.laid hq,.tupNew hq (Cw rs _),m⟩
    | _=>exact (show False from m).elim
  | _=>exact (show False from by cases wy <;> exact m).elim⟩
theorem mR {K:Dp}{H:Hp}{μ : Mu}:∀ {ns:List Int} {xs:List V},aJ K H μ (ns.map W.int) xs->xs=ns.map V.int
 | [],xs,r=>by rw [Mw,aJ] at r;exact r
 | n::ns,xs,r=>by
  rw [Ed,aJ] at r;obtain ⟨v,vs,e,rv,r⟩:=r;rw [DP] at rv;rw [e,rv,mR r];rfl
def abA:V->List V->Hp->VK->Prop:=fun x vs H Q=>∃ i:Int,x=.int i/\vs=[]/\Q (.int (X7 i:Nat)) H
theorem agr:MtR X "int.bit_length" abA:=by
 intro ajY s Z H x vs v us Q I rx rv h;obtain ⟨i,rfl,rfl,q⟩:=h;obtain ⟨t,rfl⟩:=rx;have hus:=rv.zero;subst hus;exact call_int_bit_length ⟨.int (X7 i:Nat),H,I.tok _,⟨_,rfl⟩,q⟩
def XH (mo:ME):ME:=fun Z h Q=>mo Z h fun x h1=>match x with
 | .int i=>Q (.int (X7 i:Nat)) h1
 | _=>False
theorem aad {o:Expr}{mo:ME}{apos akb:Pos}(ho:DE X o mo)(hbase:Vp o "bit_length" X.env (eval o X.env)=eval o X.env:=by rfl)(hline:(apos.endLine==akb.line)=true:=by rfl):
  DE X (.Call (.Attribute o "bit_length" apos) [] [] akb) (XH mo):=(aiB PySem.F.plainAttrs_int slot_int_bit_length type_int_bit_length agr ho hbase hline).of fun Z H Q ⟨μ,h,Zw,Qw,R,S,m,k⟩=>by
 refine ⟨μ,h,Zw,_,R,S,m,fun v H1 ⟨μ1,w,h1,e1,R1,r1,m1⟩=>?_⟩;cases w with
 | int i=>
  rw [DP] at r1;subst r1;have z:DQ X.K H1 μ1 Qw (.int (X7 i:Nat)) H1:=.int R1 m1;exact ⟨rfl,i,rfl,rfl,k _ _<|z.trans e1⟩
 | _=>exact (show False from m1).elim
theorem zas (hc:X.calm=true):d8 X (.builtin "max") (fun xs H Q=>∃ (p:Addr) (ns:List Int),xs=[.ref p]/\JF X.K H p (ns.map V.int)/\0<ns.length/\∀ M,M∈ns->(∀ a,a∈ns->a<=M)->Q (.int M) H):=by
 intro ajY s Z H xs us Q I r ⟨p,ns,e,hS,hne,q⟩;subst e;obtain ⟨u,rfl,ru⟩:=vals1 r;cases ru;obtain ⟨its,rv,pl,hz⟩:=I.list hS;have ajZ:its.length=ns.length:=by rw [<-rv.length,Ec]
 have all:AllInts its.toArray:=fun v hv=>by
  obtain ⟨i,hi,e⟩:=Array.mem_iff_getElem.mp hv;obtain ⟨t,e2⟩:=tL (i:=i) (v:=v) rv (by rw [<-e];simp at hi |-);exact ⟨_,t,e2⟩
 obtain ⟨ys,ey⟩:=all.items;have hl:=pl.isList;rw [ey] at hl;have hys:ys.size=ns.length:=by
  have:=congrArg Array.size ey
  simp [intItems] at this;lia
 have num:∀ i,i<ns.length->numAt ys i=ns.getD i 0:=fun i hi=>by
  obtain ⟨t,e2⟩:=tL (i:=i) (v:=its[i]'(by lia)) rv (GK (by lia));have e3:(intItems ys)[i]?=FN (its[i]'(by lia)):=by rw [<-ey];simp
  obtain ⟨t',e4⟩:=intItems_at e3;rw [e2] at e4;injection e4 with e5 _
  exact e5.symm
 refine max_intList (I.ok.hd hc) hl (by lia) fun v h' tk hv hk=>?_;obtain ⟨t,rfl⟩:=intItems_at hv;obtain ⟨h1,h2⟩:=argBest_gt (numAt ys) (ys.size - 1);refine ⟨.int _,H,I.kept (h':=h') (t':=tk) hk,⟨t,rfl⟩,q _ ?_ fun a ha=>?_⟩
 ·rw [num _ (by lia),Hy,GK (by lia)];exact TQ _
 ·obtain ⟨j,hj,e⟩:=RD.mp ha;have:=h2 j (by lia)
  rw [num j hj,Hy,GK hj] at this;rw [<-e];exact this
def RV:MC:=fun ws h Q=>match ws with
 | [.int i,.int j]=>Q (.int (if j>i then j else i)) h
 | [w]=>(match dF h w with
  | some us=>∃ ns:List Int,us=ns.map W.int/\0<ns.length/\∀ M,M∈ns->(∀ a,a∈ns->a<=M)->Q (.int M) h
  | none=>False)
 | _=>False
theorem ajb (hc:X.calm=true):eY X (.builtin "max") RV:=⟨_,d8.or (wL hc) (zas hc),by
 intro H μ h vs ws Qw Q R r m k;unfold RV at m;split at m
 ·rename_i i j;rw [aJ] at r;obtain ⟨v,vs',e,rv,r⟩:=r;rw [aJ] at r;obtain ⟨v2,vs2,e2,rv2,r⟩:=r;rw [aJ] at r;rw [DP] at rv rv2;subst e e2 rv rv2 r;exact .inl ⟨i,j,rfl,k _ _<|.int R m⟩
 ·split at m
  ·rename_i w us ev;obtain ⟨v,e,rv⟩:=gC r;obtain ⟨p,ys,ex,hs,rs⟩:=cC R rv ev;obtain ⟨ns,eu,hne,m⟩:=m;subst e ex;rw [eu] at rs;have:=mR rs
   subst this;exact .inr ⟨p,ns,rfl,hs,hne,fun M hM ha=>k _ _<|.int R<|m M hM ha⟩
  ·exact m.elim
 ·exact m.elim⟩
end
def aiX (h:Heap)(P:Addr->Prop)(e C:Addr)(od:Option Addr):Prop:=P e/\∃ (oe:Obj) (vs:Array Mk),h.get? e=FN oe/\oe.cls=.ref C/\oe.dict=od/\oe.data=.fields vs/\vs.size<=1000/\vs[2]?=FN .none /\
 (vs[1]?=FN .none\/∃ (T:Addr) (oT:Obj) (ts:Array Mk),vs[1]?=FN (.ref T)/\T≠e/\P T/\h.get? T=FN oT/\oT.data=.fields ts/\3<ts.size)
def ain (h:Heap)(P:Addr->Prop)(e C:Addr)(od:Option Addr):Prop:=P e/\∃ (oe:Obj) (vs:Array Mk),h.get? e=FN oe/\oe.cls=.ref C/\oe.dict=od/\oe.data=.fields vs/\vs.size<=1000/\vs[2]?=FN .none /\
 ∃ (T:Addr) (oT:Obj) (ts:Array Mk),vs[1]?=FN (.ref T)/\T≠e/\P T/\h.get? T=FN oT/\oT.data=.fields ts/\3<ts.size
structure Stp (P:Addr->Prop) (fs:List Addr) (h h':Heap):Prop where
 keep:∀ b o,¬ P b->b∉fs->h.get? b=FN o->h'.get? b=FN o
 slot:∀ b o,¬ P b->h.get? b=FN o->∃ sl,h'.get? b=FN { o with slots:=sl }
 there:∀ b o,h.get? b=FN o->∃ o',h'.get? b=FN o'
section
variable {M:Model}{A:Fg}{E:Mk->AP->Prop}{s:AP}{P:Addr->Prop}{e C:Addr}{od:Option Addr}
end
section
variable {X:Cx}{ajY:List (Addr×Obj)}{Z : St}{H H':Hp}{s s':AP}{b e C:Addr}{od:Option Addr}
structure New (X:Cx) (ajY:List (Addr×Obj)) (H:Hp) (b:Addr):Prop where
 h:H b=FX
 s:b∈X.ex\/X.s₀.heap.get? b=FX
 l:b≠X.env.locals
 c:∀ x c,X.env.cells.lookup x=FN c->c≠b
 p:∀ p∈X.pn++ajY,p.1≠b
 f:b∉X.fs
structure zab (X:Cx) (ajY:List (Addr×Obj)) (Z : St) (H:Hp) (s:AP) (e C:Addr) (od:Option Addr):Prop where
 inv:DX X ajY Z H s
 xo:aiX s.heap (New X ajY H) e C od
structure zaa (X:Cx) (ajY:List (Addr×Obj)) (Z : St) (H:Hp) (s:AP) (e C:Addr) (od:Option Addr):Prop where
 inv:DX X ajY Z H s
 xn:ain s.heap (New X ajY H) e C od
end
section
variable {X:Cx}{ajY:List (Addr×Obj)}{Z : St}{H:Hp}{s:AP}{C:Addr}{x:Str}{np akb pos:Pos}{e:Expr}{es:List Expr}{t:TA}
end
section
variable {X:Cx}{Γ : St->Prop}{e c:Expr}{es:List Expr}{pos:Pos}{st:Stmt}{rest:List Stmt}
end
variable {Γ : St->Prop}
section
variable {X:Cx}{ajY pins':List (Addr×Obj)}{Z : St}{H:Hp}{s:AP}{xe:Mk->AP->Prop}{a C:Addr}{o:Obj}{u:HO}
end
section
variable {prog:Ew}{w:Em}{A:Fg}{E:Mk->AP->Prop}{s:AP}{K:Dp}{x D:Addr}{ox:Obj}
end
def Sy (n d:Str):Bool:=n==d||d == "EaselError"
section
variable {K:Dp}{C D:Addr}{n d:Str}
def ad2 (K:Dp)(v:V)(f:Str->Bool):Prop:=∀ (u:Mk),RelV v u->∀ (C:Addr) (n:Str),aaT K C n=true->PySem.W.kitOne K (.ref C) u=FN (f n)
end
def bK.lost (D:bK):bK:={ D with nx:=fun Z h=>D.nx (Z.map fun _=>FX) h,bk:=fun Z h=>D.bk (Z.map fun _=>FX) h,ct:=fun Z h=>D.ct (Z.map fun _=>FX) h }
def aaq (x:Xw):W:=match x.fs with
 | []=>.exc x.cls
 | f::fs=>.exa x.cls ((f::fs).map (·.2))
def adD (i:Nat)(d:Str)(mb:FQ->MS)(mh:MS):MS:=fun D Z h=>mb (fun x h'=>Jw (Sy x.cls d) (mh D.lost (Z.set i (FN (aaq x))) h') False) D Z h
section
variable {X:Cx}{body:List Stmt}{b₀ : Stmt}{suite:List Stmt}{d:Str}{np hpos pos:Pos}{i:Nat}{D:Addr}{mb:FQ->MS}{mh:MS}
end
section
variable {X:Cx}{a:Expr}{pos p:Pos}
def adl (f:Str->Bool)(m:ME):ME:=fun Z h Q=>m Z h fun w h1=>match w with
 | .exc n=>Q (.bl (f n)) h1
 | .exa n _=>Q (.bl (f n)) h1
 | _=>False
inductive PCs (X:Cx):List Expr->List V->(Str->Bool)->Prop
 | nil:PCs X [] [] (fun _=>false)
 | cons {e:Expr} {es:List Expr} {v:V} {vs:List V} {f g:Str->Bool}:PE X e (tC v)->ad2 X.K v f->PCs X es vs g->Eu (e::es) X.env=(false,eval e X.env)::Eu es X.env->PCs X (e::es) (v::vs) (fun n=>f n||g n)
end
section
variable {X:Cx}{tg:Expr}{scope:Scope}{xs:List Str}{pos p ppos:Pos}
end
section
variable {prog:Ew}{w:Em}{A:Fg}{E:Mk->AP->Prop}{s:AP}
end
section
variable {X:Cx}
end
section
variable {X:Cx}{K:Dp}{o e:Expr}{mo:ME}{ma:MA}{apos akb:Pos}
variable {H:Hp}{ajY:List (Addr×Obj)}{s:AP}{Z : St}
mutual
theorem agu (I:DX X ajY Z H s):∀ {w u:W} {v:V},Dt X.K H w v->Dt X.K H u v->w=u
 | .non,u,v,h,g=>by rw [Dt] at h;subst h;cases u <;> rw [Dt] at g <;> first | rfl | exact g.elim | (obtain ⟨_,_,g,_⟩:=g;cases g;done) | (cases g;done)
 | .bl b,u,v,h,g=>by rw [Dt] at h;subst h;cases u <;> rw [Dt] at g <;> first | (injection g with g;rw [g];done) | exact g.elim | (obtain ⟨_,_,g,_⟩:=g;cases g;done) | (cases g;done)
 | .int b,u,v,h,g=>by rw [Dt] at h;subst h;cases u <;> rw [Dt] at g <;> first | (injection g with g;rw [g];done) | exact g.elim | (obtain ⟨_,_,g,_⟩:=g;cases g;done) | (cases g;done)
 | .str b,u,v,h,g=>by rw [Dt] at h;subst h;cases u <;> rw [Dt] at g <;> first | (injection g with g;rw [g];done) | exact g.elim | (obtain ⟨_,_,g,_⟩:=g;cases g;done) | (cases g;done)
 | .tup ws,u,v,h,g=>by
  rw [Dt] at h;obtain ⟨p,xs,e,hs,ds⟩:=h;subst e;cases u with
  | tup us=>
   rw [Dt] at g;obtain ⟨p',xs',e',hs',ds'⟩:=g;cases e'
   have:=I.tuple_inj hs hs'
   subst this;rw [uM I ds ds']
  | lst us=>
   rw [Dt] at g;obtain ⟨p',xs',e',hs',ds'⟩:=g;cases e'
   obtain ⟨_,_,t,_⟩:=I.tuple hs;obtain ⟨_,_,l,_⟩:=I.list hs';exact absurd rfl<|Ym l.isList<|show s.heap.IsTuple _ _ from t
  | ty _=>rw [Dt] at g;exact g.elim
  | loc _=>rw [Dt] at g;exact g.elim
  | kls _=>rw [Dt] at g;exact g.elim
  | exc _=>rw [Dt] at g;exact g.elim
  | exa _ _=>rw [Dt] at g;exact g.elim
  | _=>rw [Dt] at g;cases g
 | .lst ws,u,v,h,g=>by
  rw [Dt] at h;obtain ⟨p,xs,e,hs,ds⟩:=h;subst e;cases u with
  | lst us=>
   rw [Dt] at g;obtain ⟨p',xs',e',hs',ds'⟩:=g;cases e'
   have:=I.list_inj hs hs'
   subst this;rw [uM I ds ds']
  | tup us=>
   rw [Dt] at g;obtain ⟨p',xs',e',hs',ds'⟩:=g;cases e'
   obtain ⟨_,_,t,_⟩:=I.tuple hs';obtain ⟨_,_,l,_⟩:=I.list hs;exact absurd rfl<|Ym l.isList<|show s.heap.IsTuple _ _ from t
  | ty _=>rw [Dt] at g;exact g.elim
  | loc _=>rw [Dt] at g;exact g.elim
  | kls _=>rw [Dt] at g;exact g.elim
  | exc _=>rw [Dt] at g;exact g.elim
  | exa _ _=>rw [Dt] at g;exact g.elim
  | _=>rw [Dt] at g;cases g
 | .ty _,_,_,h,_=>by rw [Dt] at h;exact h.elim
 | .kls _,_,_,h,_=>by rw [Dt] at h;exact h.elim
 | .loc _,_,_,h,_=>by rw [Dt] at h;exact h.elim
 | .exc _,_,_,h,_=>by rw [Dt] at h;exact h.elim
 | .exa _ _,_,_,h,_=>by rw [Dt] at h;exact h.elim
theorem uM (I:DX X ajY Z H s):∀ {ws us:List W} {vs:List V},Jq X.K H ws vs->Jq X.K H us vs->ws=us
 | [],us,vs,h,g=>by
  have e:vs=[]:=by rw [Jq] at h;exact h
  subst e;cases us with
  | nil=>rfl
  | cons u us=>rw [Jq] at g;obtain ⟨_,_,e,_⟩:=g;cases e
 | w::ws,us,vs,h,g=>by
  rw [Jq] at h;obtain ⟨v,vs',e,d,ds⟩:=h;subst e;cases us with
  | nil=>
   have e:v::vs'=[]:=by rw [Jq] at g;exact g
   cases e
  | cons u us=>
   rw [Jq] at g;obtain ⟨v2,vs2,e2,d2,ds2⟩:=g;cases e2;rw [agu I d d2,uM I ds ds2]
end
end
section
variable {X:Cx}{iter tg:Expr}{scope:Scope}{pos:Pos}{xs:List Str}
end
section
variable {X:Cx}{e:Expr}{es:List Expr}{pos:Pos}
variable {mr:FQ->MA}
end
section
variable {X:Cx}{K:Dp}{H:Hp}{ajY:List (Addr×Obj)}{s:AP}{Z : St}
end
section
variable {X:Cx}{K:Dp}{H:Hp}{h:Gh}
end
section
variable {X:Cx}{K:Dp}{o e e':Expr}{mo:ME}{ma:MA}{apos akb:Pos}
theorem Mq {akb:Pos}{e e':Expr}(h:G9 e=false)(h':G9 e'=false):((JK akb (Eu [e,e'] env)).all (fun x=>!x.1)&&(backToKw akb (Vl [] env)).all (fun x=>x.1.isSome)
   && decide (([e,e']:List Expr).length+([]:List Nq).length+(if ([]:List Nq).isEmpty then 0 else 1)<30))=true:=by
 rw [aP h,aP h'];rfl
end
def Us (m:Nat):List Nat:=(LC 8).filter fun j=>m.testBit j
def rk (m j:Nat):Nat:=((LC j).filter fun i=>m.testBit i).length
def pq (h:Int):Nat->Nat×Nat
 | 0=>(Wv h % 8,Wv h)
 | n+1=>SetTable.leap 7 (pq h n).1 (pq h n).2
def pb (h:Int)(n:Nat):SetTable.Probe:=⟨(pq h n).1,0,(pq h n).1,(pq h n).2,FX⟩
theorem Jv (h:Int):∀ n,(pq h n).2=Wv h / 32^n
 | 0=>by simp [pq]
 | n+1=>by
  show (pq h n).2 / 32=_;rw [Jv h n,Nat.div_div_eq_div_mul,XO]
theorem sY (h:Int)(n:Nat)(hn:13<=n):(pq h n).2=0:=by
 rw [Jv];apply Nat.div_eq_of_lt;have h1:Wv h<2^64:=by
  unfold Wv;have a:=Int.emod_lt_of_pos h (show (0:Int)<2^64 by decide);have b:=Int.emod_nonneg h (show (2^64:Int)≠0 by decide);lia
 have h2:32^13<=32^n:=Ub (by decide) hn;have h3:(2:Nat)^64<32^13:=by decide
 lia
def lcg:Nat->Nat->Nat
 | i,0=>i
 | i,k+1=>(lcg i k*5+1) % 8
theorem Oq (h:Int):∀ k,(pq h (13+k)).1=lcg (pq h 13).1 k
 | 0=>rfl
 | k+1=>by
  show ((pq h (13+k)).1*5+1+(pq h (13+k)).2 / 32) % (7+1)=_;rw [sY h _ (by lia),Oq h k];rfl
theorem least {P:Nat->Bool}:∀ (B:Nat),(∃ n,n<B/\P n=true)->∃ N,N<B/\P N=true/\∀ n,n<N->P n=false
 | 0,⟨n,h,_⟩=>absurd h (Nat.not_lt_zero _)
 | B+1,⟨n,h,e⟩=>by
  by_cases q:∃ n,n<B/\P n=true
  ·obtain ⟨N,a,b,c⟩:=least B q;exact ⟨N,by lia,b,c⟩
  ·refine ⟨n,h,e,fun i hi=>?_⟩;cases r:P i with
   | false=>rfl
   | true=>exact absurd ⟨i,by lia,r⟩ q
section
variable {prog:Ew}{w:Em}{A:Fg}{E:Mk->AP->Prop}{s:AP}{ka:Nat->List Int}{ad:Nat->Addr}{t:ZD}{a b:Addr}{k:List Int}
abbrev ago (prog:Ew)(w:Em)(h:Heap)(k:List Int)(a:Addr):Prop:=IsTupleKey (intKind prog w) h k a
def hT (prog:Ew)(w:Em)(k:List Int):Int:=tupleKeyHash (intKind prog w) k
def elL (prog:Ew)(w:Em)(m:Nat)(ka:Nat->List Int)(ad:Nat->Addr):List (Int×Mk):=(Us m).map fun j=>(hT prog w (ka j),Value.ref (ad j))
structure adv (prog:Ew) (w:Em) (h:Heap) (m:Nat) (ka:Nat->List Int) (ad:Nat->Addr) (t:ZD):Prop where
 mask:t.mask=7
 place:t.place=(Us m).toArray
 dum:t.dummies = #[]
 m8:m<256
 few:(Us m).length<=4
 key:∀ j,j∈Us m->ago prog w h (ka j) (ad j)
 way:∀ j,j∈Us m->∃ n,(pq (hT prog w (ka j)) n).1=j/\∀ i,i<n->m.testBit (pq (hT prog w (ka j)) i).1=true
def adx (es:Array (Int×Mk))(ep:Nat)(t:ZD):Obj:={ cls:=.type "set",dict:=FX,data:=.set es ep t }
def aif (prog:Ew)(w:Em)(h:Heap)(a:Addr)(m:Nat)(ka:Nat->List Int)(ad:Nat->Addr):Prop:=∃ ep t,h.get? a=FN (adx (elL prog w m ka ad).toArray ep t)/\adv prog w h m ka ad t
end
variable {ad : Nat->Addr}{ka : Nat->List Int}
section
variable {prog:Ew}{w:Em}{A:Fg}{E:Mk->AP->Prop}
structure ade (prog:Ew) (w:Em) (z:Nat) (h:Heap) (S:Addr) (seen:List (List Int)) (m:Nat) (ka:Nat->List Int) (ad:Nat->Addr):Prop where
 set:aif prog w h S m ka ad
 low:∀ j,j∈Us m->ad j<z
 mem:∀ k,k∈seen↔∃ j,j∈Us m/\ka j=k
 len:(Us m).length=seen.length
end
section
variable {prog:Ew}{w:Em}{A:Fg}{E:Mk->AP->Prop}{s:AP}
end
section
variable {X:Cx}{K:Dp}
theorem Af {prog:Ew}{w:Em}:∀ {k:List Int} {us:List Mk},DY (k.map V.int) us->ItemsAre (intKind prog w) k us
 | [],_,.nil=>.nil
 | i::k,_,.cons r t=>by
  obtain ⟨tk,rfl⟩:=r;exact .cons (intKind_is _ _ _ _)<|Af t
theorem wG {α β : Type}{F:α->β->Prop}:∀ {l:List α} {k:List β} {j:Nat} {x:α},La F l k->l[j]?=FN x->∃ y,k[j]?=FN y/\F x y
 | _,_,_,_,.nil,e=>by simp at e
 | _,_,0,_,.cons r _,e=>by simp at e;subst e;exact ⟨_,rfl,r⟩
 | _,_,j+1,x,.cons _ t,e=>by
  obtain ⟨y,a,b⟩:=wG (j:=j) (x:=x) t (by simpa using e);exact ⟨y,by simpa using a,b⟩
theorem zaH {xs:List V}{us:List Mk}(r:DY xs us){j:Nat}{u:Mk}(e:us[j]?=FN u):∃ x,xs[j]?=FN x/\RelV x u:=by
 have hl:=r.length;have hj:=(Le.mp e).1;have hj':j<xs.length:=by lia
 obtain ⟨y,a,b⟩:=DY.get r (GK hj');rw [e] at a;cases a;exact ⟨_,GK hj',b⟩
end
section
variable {κ : Type}[DecidableEq κ]
def Ez (kvs:List (κ×V))(k:κ):Option V:=(kvs.find? fun kv=>decide (kv.1=k)).map (·.2)
def Ko (kvs:List (κ×V))(k:κ)(v:V):List (κ×V):=
 if (kvs.any fun kv=>decide (kv.1=k))=true then kvs.map (fun kv=>if kv.1=k then (kv.1,v) else kv) else kvs++[(k,v)]
def zm (kvs:List (κ×V))(k:κ):List (κ×V):=kvs.filter fun kv=>decide (kv.1≠k)
theorem Bp {p:κ×V}{r:List (κ×V)}{k:κ}(e:p.1=k):Ez (p::r) k=FN p.2:=by simp [Ez,RM,e]
theorem Dj {p:κ×V}{r:List (κ×V)}{k:κ}(e:¬ p.1=k):Ez (p::r) k=Ez r k:=by simp [Ez,RM,e]
theorem n8 (kvs:List (κ×V))(k:κ)(v:V):(Ko kvs k v).length<=kvs.length+1:=by
 unfold Ko;split
 ·rw [Ec];lia
 ·rw [JC,K9,Wk];lia
theorem KQ.getD {o:Option V}{u:Option Mk}{d:V}{d':Mk}(r:KQ o u)(rd:RelV d d'):RelV (o.getD d) (u.getD d'):=by
 cases o with
 | none=>cases u with
  | none=>exact rd
  | some _=>exact (show False from r).elim
 | some _=>cases u with
  | none=>exact (show False from r).elim
  | some _=>exact r
theorem KV.val {kvs:List (κ×V)}{vs:List (κ×Mk)}(r:KV kvs vs)(k:κ):KQ (Ez kvs k) (valueAt vs k):=by
 unfold KV at r;induction r with
 | nil=>exact True.intro
 | @cons p q ps qs h t ih=>
  obtain ⟨h1,h2⟩:=h;by_cases e:p.1=k
  ·have e':q.1=k:=h1.symm.trans e;have b:valueAt (q::qs) k=FN q.2:=by simp [valueAt,RM,e']
   rw [Bp e,b];exact h2
  ·have e':¬ q.1=k:=fun z=>e (h1.trans z)
   have b:valueAt (q::qs) k=valueAt qs k:=by simp [valueAt,RM,e']
   rw [Dj e,b];exact ih
theorem KV.any {kvs:List (κ×V)}{vs:List (κ×Mk)}(r:KV kvs vs)(k:κ):(kvs.any fun kv=>decide (kv.1=k))=vs.any fun kv=>decide (kv.1=k):=by
 unfold KV at r;induction r with
 | nil=>rfl
 | cons h t ih=>rw [List.any_cons,List.any_cons,ih,h.1]
theorem KV.repl {kvs:List (κ×V)}{vs:List (κ×Mk)}(r:KV kvs vs)(k:κ){y:V}{u:Mk}(ry:RelV y u):
  KV (kvs.map fun kv=>if kv.1=k then (kv.1,y) else kv) (vs.map fun kv=>if kv.1=k then (kv.1,u) else kv):=by
 unfold KV at r |-
 induction r with
 | nil=>exact .nil
 | @cons p q ps qs h t ih=>
  rw [Ed,Ed];refine .cons ?_ ih;obtain ⟨h1,h2⟩:=h;by_cases e:p.1=k
  ·rw [if_pos e,if_pos (h1.symm.trans e)];exact ⟨h1,ry⟩
  ·rw [if_neg e,if_neg (fun z=>e (h1.trans z))];exact ⟨h1,h2⟩
theorem KV.put {kvs:List (κ×V)}{vs:List (κ×Mk)}(r:KV kvs vs)(k:κ){y:V}{u:Mk}(ry:RelV y u):KV (Ko kvs k y) (stored vs k u):=by
 unfold Ko stored;rw [r.any k];by_cases e:(vs.any fun kv=>decide (kv.1=k))=true
 ·rw [if_pos e,if_pos e];exact r.repl k ry
 ·rw [if_neg e,if_neg e];exact Paired.snoc r ⟨rfl,ry⟩
theorem KV.drop {kvs:List (κ×V)}{vs:List (κ×Mk)}(r:KV kvs vs)(k:κ):KV (zm kvs k) (without vs k):=by
 unfold KV at r |-
 unfold zm without;induction r with
 | nil=>exact .nil
 | @cons p q ps qs h t ih=>
  obtain ⟨h1,h2⟩:=h;rw [TK,TK];by_cases e:p.1=k
  ·have a:¬ decide (p.1≠k)=true:=by simp [e]
   have b:¬ decide (q.1≠k)=true:=by simp [h1.symm.trans e]
   rw [if_neg a,if_neg b];exact ih
  ·have e':¬ q.1=k:=fun z=>e (h1.trans z)
   have a:decide (p.1≠k)=true:=by simp [e]
   have b:decide (q.1≠k)=true:=by simp [e']
   rw [if_pos a,if_pos b];exact .cons ⟨h1,h2⟩ ih
theorem KV.length {kvs:List (κ×V)}{vs:List (κ×Mk)}(r:KV kvs vs):kvs.length=vs.length:=Vo r
theorem zaY (kvs:List (κ×V))(k:κ):(zm kvs k).length<=kvs.length:=List.length_filter_le _ _
end
theorem Ey {P:Ew}{w:Em}{k:Key}{u:Mk}(r:RelV (kV k) u):(bR P w).is k u=true:=by
 cases k with
 | inl i=>obtain ⟨t,e⟩:=(show ∃ t,u=Value.int i t from r);subst e;exact yH P w i t
 | inr x=>obtain ⟨t,e⟩:=(show ∃ t,u=Value.str x t from r);subst e;exact yX P w x t
section
variable {P:Ew}{w:Em}{H:Hp}{h:Heap}{a:Addr}
theorem aaH {u:HO}(ok:KY P w H h)(e:Rd H a u):eH P w H h a u:=e.ok ok
theorem U9 {kvs:List (Key×V)}(ok:KY P w H h)(e:Rd H a (.dK kvs)):kvs.length<=G7/\(a==Mx)=false/\∃ vs,KV kvs vs/\h.DictOf (bR P w) a vs:=
 show eH P w H h a (.dK kvs) from aaH ok e
theorem zT {kvs:List (Key×V)}(ok:KY P w H h)(e:H a=FN (.dK kvs)):kvs.length<=G7/\(a==Mx)=false/\∃ vs,KV kvs vs/\h.DictOf (bR P w) a vs:=U9 ok (.inl e)
end
section
variable {X:Cx}{ajY:List (Addr×Obj)}{Z : St}{H:Hp}{s:AP}{a:Addr}{y v:V}{u r:Mk}{o:Option V}{A:Fg}{E:Mk->AP->Prop}
theorem DX.big (I:DX X ajY Z H s):Mx<s.heap.objs.size:=by
 have h:Jh<s.heap.objs.size:=(I.mod.glob.keeps I.bk).lt;exact Nat.lt_trans (by decide) h
theorem yQ {h':Heap}{t':Nat}{ob:HO}(I:DX X ajY Z H s)(mu:Mut (H a))(hs:W6 a s.heap h')(he:∃ q,h'.get? a=FN q)(new:eH X.prog X.w (Fb H a ob) h' a ob):
  DX X ajY Z (Fb H a ob) { s with heap:=h',toks:=t' }:=
 I.write (x:=a) (e:=a) mu (.inl rfl) (fun b q hb z=>(hs.2 b hb).trans z) he new
theorem Fy {P:Ew}{w:Em}{H':Hp}{h':Heap}{kvs:List (Key×V)}{vs:List (Key×Mk)}(z:kvs.length<=G7)(hd:(a==Mx)=false)(rel:KV kvs vs)(dd:h'.DictOf (bR P w) a vs):
  eH P w H' h' a (.dK kvs):=⟨z,hd,vs,rel,dd⟩
end
section
variable {X:Cx}{ajY:List (Addr×Obj)}{Z : St}{H:Hp}{s:AP}{a:Addr}{kvs:List (Key×V)}{k:Key}{u:Mk}{A:Fg}{E:Mk->AP->Prop}
theorem ahg {v:V}{more:List Mk}{Q:Mk->AP->Prop}(I:DX X ajY Z H s)(e:H a=FN (.dK kvs))(ry:RelV (kV k) u)(l:Ez kvs k=FN v)(hm:more=[]\/∃ x,more=[x])
  (h:∀ w' s',DX X ajY Z (Fb H a (.dK (zm kvs k))) s'->RelV v w'->Q w' s'):Dl (Dm X.prog X.w) A (call (.builtin "dict.pop") (.ref a::u::more)) Q E s:=by
 obtain ⟨z,hd,vs,rel,dd⟩:=zT I.hok e;obtain ⟨w',hw,rw'⟩:=KQ.some_of (v:=v) (o:=valueAt vs k) (by rw [<-l];exact rel.val k);have hp:(keyPart u).isSome=true:=by
  cases k with
  | inl i=>obtain ⟨t,q⟩:=(show ∃ t,u=Value.int i t from ry);subst q;rfl
  | inr x=>obtain ⟨t,q⟩:=(show ∃ t,u=Value.str x t from ry);subst q;rfl
 have ha:argsOk "dict.pop" ⟨.ref a::u::more,[]⟩:=by
  rcases hm with q | ⟨x,q⟩
  ·subst q;exact PySem.F.args_dict_pop_2 _ _
  ·subst q;exact PySem.F.args_dict_pop_3 _ _ _
 refine call_meetsIn PySem.F.slot_dict_pop dd.typeIs PySem.F.entry_dict_pop ha (meets_dict_pop_there (bR X.prog X.w) a (Ey ry) more hm hp)
  ⟨vs,w',dd,by rw [<-rel.length];exact z,hw,fun h' dd' hs=>h w' _ ?_ rw'⟩
 have he:∃ q,h'.get? a=FN q:=let ⟨q,_,_,hq,_⟩:=dd';⟨q,hq⟩
 exact yQ I (by rw [e];exact True.intro) hs he<|Fy (Eb (zaY kvs k) z) hd (rel.drop k) dd'
end
def Zo (i:Expr):Prop:=∀ ov iv,subscripted i false ov iv=operate [ov,iv] (getItem ov iv)
theorem GR {prog:Ew}{w:Em}{A:Fg}{E:Mk->AP->Prop}{s:AP}{value slice:Expr}{pos:Pos}{T id:String}{Q:Mk->AP->Prop}
  (hl:typeLookup (.type T) "__getitem__" = pure (FN (.builtin id))) (hs:Zo slice)
  (h:Dl (Dm prog w) A (eval value env) (fun o s₁=>Dl (Dm prog w) A (eval slice env) (fun i s₂=>s₂.TypeIs o T/\Dl (Dm prog w) A (getItem o i) Q E s₂) E s₁) E s) :
  Dl (Dm prog w) A (eval (.Subscript value slice pos) env) Q E s:=by
 refine Subscript_<|Mj h (fun o s₁ h₁=>Mj h₁ (fun i s₂ h₂=>?_) fun _ _ x=>x) fun _ _ x=>x
 obtain ⟨hT,h₂⟩:=h₂;unfold subscriptTail;refine CR ?_;rw [getitemInPython_of_ne hT.not_modules];refine CR<|wpAny_specialOf hT hl ?_
 have fin:Dl (Dm prog w) A (subscripted slice false o i) (fun r s₃=>Dl (Dm prog w) A (letTemporaryGo value o r >>= fun _=>pure r) Q E s₃) E s₂:=by
  rw [hs o i];exact wpAny_operating<|Mj h₂ (fun r s₃ h₃=>CR<|wpAny_letTemporaryGo<|Ds h₃) fun _ _ x=>x
 first
  | exact Ds (CR fin)
  | exact CR (Ds (CR fin))
  | exact CR fin
section
variable {X:Cx}{o i e value:Expr}{pos pos' tpos:Pos}{td ty tv:TE}
end
theorem aeE {P:Ew}{w:Em}{H:Hp}(h:Heap)(hb:Mx<h.objs.size):eH P w H (h.push { cls:=.type "dict",data:=.dict #[] }) h.objs.size (.dK []):=
 ⟨Jk _,beq_eq_false_iff_ne.mpr (JD (HX hb)),[],.nil,Heap.DictOf.new h⟩
theorem tZ {P:Ew}{w:Em}{H:Hp}(h:Heap)(hb:Mx<h.objs.size):eH P w H (h.push { cls:=.type "dict",data:=.dict #[] }) h.objs.size (.dT []):=
 ⟨Jk _,beq_eq_false_iff_ne.mpr (JD (HX hb)),[],.nil,_,#[],0,Hw _ rfl,⟨rfl,rfl,rfl⟩,rfl,rfl,Wz⟩
def ahk:TE:=fun _ H Q=>∀ p,H p=FX->Q (.ref p) (Fb H p (.dK []))
section
variable {X:Cx}{pos:Pos}
theorem zaR:PE X (.Dict [] [] pos) ahk:=fun ajY s Z H Q I h=>
 wpAny_Dict_empty ⟨.ref s.heap.objs.size,_,I.laid (a:=s.heap.objs.size) (o:=.dK []) (t':=s.toks) (fun _ _ q=>G6 _ q) (Ea _) (aeE s.heap I.big),rfl,h _ (I.hok.fresh (Ea _))⟩
end
def jP (kvs more:List (Key×V)):List (Key×V):=more.foldl (fun acc kv=>Ko acc kv.1 kv.2) kvs
theorem KV.merge:∀ {more:List (Key×V)} {rs:List (Key×Mk)} {kvs:List (Key×V)} {vs:List (Key×Mk)},KV more rs->KV kvs vs->KV (jP kvs more) (Q9 vs rs):=by
 intro more rs kvs vs r;unfold KV at r;induction r generalizing kvs vs with
 | nil=>intro q;exact q
 | @cons p q ps qs h t ih=>
  intro r0;have e:KV (Ko kvs p.1 p.2) (stored vs q.1 q.2):=by
   have:=r0.put p.1 h.2
   rw [<-h.1];exact this
  exact ih e
theorem j6:∀ (more kvs:List (Key×V)),(jP kvs more).length<=kvs.length+more.length
 | [],kvs=>by show kvs.length<=kvs.length+0;lia
 | p::r,kvs=>by
  have h1:=j6 r (Ko kvs p.1 p.2);have h2:=n8 kvs p.1 p.2;show (jP (Ko kvs p.1 p.2) r).length<=_;rw [K9];lia
def Va:W->Option Key
 | .int i=>FN (.inl i)
 | .str x=>FN (.inr x)
 | _=>FX
def nO (kvs:List (Key×W))(k:Key):Option W:=(kvs.find? fun kv=>decide (kv.1=k)).map (·.2)
def KD (kvs:List (Key×W))(k:Key)(w:W):List (Key×W):=
 if (kvs.any fun kv=>decide (kv.1=k))=true then kvs.map (fun kv=>if kv.1=k then (kv.1,w) else kv) else kvs++[(k,w)]
section
variable {K:Dp}{H:Hp}{kvs:List (Key×W)}{kvv:List (Key×V)}{k:Key}{w:W}{v:V}
theorem jh (r:DP K H μ w v)(e:Va w=FN k):v=kV k:=by
 cases w with
 | int i=>rw [DP] at r;cases e;exact r
 | str x=>rw [DP] at r;cases e;exact r
 | _=>cases e
theorem jq.val (r:jq K H μ kvs kvv)(e:nO kvs k=FN w):∃ v,Ez kvv k=FN v/\DP K H μ w v:=by
 unfold jq at r;induction r with
 | nil=>cases e
 | @cons p q ps qs h t ih=>
  by_cases z:p.1=k
  ·have e1:nO (p::ps) k=FN p.2:=by simp [nO,RM,z]
   rw [e1] at e;cases e;exact ⟨q.2,Bp<|h.1.symm.trans z,h.2⟩
  ·have e1:nO (p::ps) k=nO ps k:=by simp [nO,RM,z]
   rw [e1] at e;obtain ⟨v,a,b⟩:=ih e;exact ⟨v,by rw [Dj<|fun y=>z<|h.1.trans y];exact a,b⟩
theorem jq.any (r:jq K H μ kvs kvv)(k:Key):(kvs.any fun kv=>decide (kv.1=k))=(kvv.any fun kv=>decide (kv.1=k)):=by
 unfold jq at r;induction r with
 | nil=>rfl
 | @cons p q ps qs h t ih=>rw [List.any_cons,List.any_cons,ih,h.1]
theorem jq.repl (r:jq K H μ kvs kvv)(rv:DP K H μ w v)(k:Key):jq K H μ (kvs.map fun kv=>if kv.1=k then (kv.1,w) else kv) (kvv.map fun kv=>if kv.1=k then (kv.1,v) else kv):=by
 unfold jq at r |-
 induction r with
 | nil=>exact .nil
 | @cons p q ps qs h t ih=>
  rw [Ed,Ed];refine .cons ?_ ih;by_cases z:p.1=k
  ·rw [if_pos z,if_pos (h.1.symm.trans z)];exact ⟨h.1,rv⟩
  ·rw [if_neg z,if_neg (fun y=>z (h.1.trans y))];exact h
theorem jq.put (r:jq K H μ kvs kvv)(rv:DP K H μ w v)(k:Key):jq K H μ (KD kvs k w) (Ko kvv k v):=by
 unfold KD Ko;rw [<-r.any k];by_cases e:(kvs.any fun kv=>decide (kv.1=k))=true
 ·rw [if_pos e,if_pos e];exact r.repl rv k
 ·rw [if_neg e,if_neg e];exact Paired.snoc r ⟨rfl,rv⟩
theorem Er.dctAt {h:Gh}{n:Nat}(R:Er K μ H h)(e:h.c n=FN (.dct kvs)):∃ p kvv,μ.f n=FN p/\H p=FN (.dK kvv)/\jq K H μ kvs kvv:=by
 obtain ⟨p,e1,xs,e2,r⟩:=R.cel n _ e;exact ⟨p,xs,e1,e2,r⟩
end
variable {kvv : List (Key×V)}
section
variable {X:Cx}{a b:Expr}{pos:Pos}
def Ro:M2:=fun x y h Q=>match x,Va y with
 | .loc n,FN k=>(match h.c n with
  | some (.dct kvs)=>(match nO kvs k with
   | some w=>Q w h
   | none=>False)
  | _=>False)
 | _,_=>False
theorem ahD {o i:Expr}{td ty:TE}(ho:PE X o td)(hi:PE X i ty)(hs:Zo i):PE X (.Subscript o i pos) (fun Z H Q=>td Z H fun x H1=>ty Z H1 fun y H2=>∃ a kvs k v,x=.ref a/\Rd H2 a (.dK kvs)/\y=kV k/\Ez kvs k=FN v/\Q v H2):=by
 intro ajY s Z H Q I h;refine GR PySem.F.slot_dict_getitem.lookup hs<|Fl (ho ajY s Z H _ I h) fun u s1 ⟨x,H1,I1,rx,q1⟩=>Fl (hi ajY s1 Z H1 _ I1 q1) fun iv s2 ⟨y,H2,I2,ry,a,kvs,k,v,ex,e,ey,l,q2⟩=>?_
 subst ex ey;obtain rfl:u=Value.ref a:=rx;obtain ⟨z,hd,vs,rel,dd⟩:=U9 I2.hok e;obtain ⟨w',hw,rw'⟩:=KQ.some_of (v:=v) (o:=valueAt vs k) (by rw [<-l];exact rel.val k);exact ⟨dd.typeIs,wpAny_getItem_of (Ey ry) dd.mapOf hw ⟨v,H2,I2.tok _,rw',q2⟩⟩
theorem aaI (ha:DE X a ma)(hb:DE X b mb)(hs:Zo b):DE X (.Subscript a b pos) (DR Ro ma mb):=(ahD ha hb hs).of fun Z H Q h=>two h fun {H2 μ2 h2 x y wx wy Qw} R r1 r2 m k=>by
 unfold Ro at m;split at m
 ·rename_i n kk e;split at m
  ·rename_i kvs ec;split at m
   ·rename_i w ev;obtain ⟨p,kvv,hp,hx,rf⟩:=R.dctAt ec;rw [DP] at r1;obtain ⟨p',e1,hp'⟩:=r1;have ep:p'=p:=by rw [hp] at hp';exact (Gw hp').symm
    subst ep;obtain ⟨v,e2,rv⟩:=rf.val ev;exact ⟨p',kvv,kk,v,e1,.inl hx,jh r2 e,e2,k _ _ ⟨μ2,w,h2,.refl,R,rv,m⟩⟩
   ·exact m.elim
  ·exact m.elim
 ·exact m.elim
def Xa:UG:=fun o i v H N=>∃ a kvs k,o=.ref a/\H a=FN (.dK kvs)/\i=kV k/\kvs.length<G7/\N (Fb H a (.dK (Ko kvs k v)))
theorem set_dict:Wb X Xa:=by
 intro ajY s Z H o i v ov iv u Q I ro ri rv ⟨a,kvs,k,eo,e,ei,l,q⟩;subst eo ei;obtain rfl:ov=Value.ref a:=ro;obtain ⟨z,hd,vs,rel,dd⟩:=zT I.hok e;have hz:vs.length<=G7:=by rw [<-rel.length];exact z
 have hl:(Ko kvs k v).length<=G7:=by have:=n8 kvs k v;lia
 refine wpAny_setItem_pairs (hsz:=hz) (Ey ri) dd fun h' dd' hs=>⟨_,?_,q⟩;have he:∃ q,h'.get? a=FN q:=let ⟨q,_,_,hq,_⟩:=dd';⟨q,hq⟩
 exact yQ I (by rw [e];exact True.intro) hs he<|Fy hl hd (rel.put k rv) dd'
def G8:Vy:=fun o i w h N=>match o,Va i with
 | .loc n,FN k=>(match h.c n with
  | some (.dct kvs)=>fV (kvs.length+1) (N (h.set n (.dct (KD kvs k w))))
  | _=>False)
 | _,_=>False
theorem Ad {K:Dp}:Aw K Xa G8:=by
 intro H μ h o i v wo wi w Nw N R ro ri r m k;unfold G8 at m;split at m
 ·rename_i n kk e;split at m
  ·rename_i kvs ec;obtain ⟨p,kvv,hp,hx,rf⟩:=R.dctAt ec;rw [DP] at ro;obtain ⟨p',e1,hp'⟩:=ro;have ep:p'=p:=by rw [hp] at hp';exact (Gw hp').symm
   subst ep;refine ⟨p',kvv,kk,e1,hx,jh ri e,?_,k _ ⟨μ,_,(Ex.write R hp).ext,R.write (c:=.dct (KD kvs kk w)) hp trivial ⟨_,aY,?_⟩,m.ok.2⟩⟩
   ·have:=m.ok.1
    rw [Vo rf] at this;lia
   ·refine jq.put ?_ ((Ex.write R hp).ext.r _ _ r) kk;exact Paired.mapP rf fun _ _ z=>⟨z.1,(Ex.write R hp).ext.r _ _ z.2⟩
  ·exact m.elim
 ·exact m.elim
inductive DDs (X:Cx):List (Option Expr)->List Expr->List (Key×ME)->Prop
 | nil:DDs X [] [] []
 | cons {x:Str} {j pos} {v:Expr} {m:ME} {ks:List (Option Expr)} {vs:List Expr} {r:List (Key×ME)} (h:DE X v m) (t:DDs X ks vs r):DDs X (FN (.Constant (.str x) j pos)::ks) (v::vs) ((.inr x,m)::r)
end
inductive aa2 (w:Em) (K:Dp):List Ru->List (Key×W)->Prop
 | nil:aa2 w K [] []
 | cons {x:Str} {t} {v:V} {u:Mk} {d:W} {es:List Ru} {tbl:List (Key×W)} (r:RelV v u) (q:∀ H μ,DP K H μ d v) (h:aa2 w K es tbl):aa2 w K (⟨PyData.keyHash w.params x,.str x t,u⟩::es) ((.inr x,d)::tbl)
section
variable {X:Cx}{b:Expr}{pos p:Pos}{x:Str}{a:Addr}{tbl:List (Key×W)}
end
variable {tbl : List (Key×W)}
section
variable {X:Cx}{pos p p':Pos}{x:Str}{a:Addr}
end
section
variable {X:Cx}
end
section
variable {X:Cx}{K:Dp}{H:Hp}{h:Gh}
end
section
variable {X:Cx}{a b c:Expr}{mc:ME}{pos:Pos}
def Cj (r r':M2)(ma mb mc:ME):ME:=fun Z h Q=>ma Z h fun x h1=>mb Z h1 fun y h2=>r x y h2 fun z h3=>match z with
 | .bl true=>mc Z h3 fun u h4=>r' y u h4 Q
 | .bl false=>Q (.bl false) h3
 | _=>False
theorem zaZ {K:Dp}{Z : St}{H:Hp}{Q:VK}{r r':R2}{mr mr':M2}(s:aao K r mr)(s':aao K r' mr')(h:tD K (Cj mr mr' ma mb mc) Z H Q):QD r r' (tD K ma) (tD K mb) (tD K mc) Z H Q:=by
 obtain ⟨μ,g,Zw,Qw,R,S,m,q⟩:=h;refine ⟨μ,g,Zw,_,R,S,m,fun x H1 ⟨μ1,wx,h1,e1,R1,r1,m1⟩=>?_⟩;refine ⟨μ1,h1,Zw,_,R1,S.ext e1,m1,fun y H2 ⟨μ2,wy,h2,e2,R2,r2,m2⟩=>?_⟩;refine s R2 (e2.r _ _ r1) r2 m2 fun z H3 ⟨μ3,wz,h3,e3,R3,r3,m3⟩=>?_;cases wz with
 | bl k=>
  rw [DP] at r3;refine ⟨k,r3,?_⟩;cases k with
  | true=>
   rw [if_pos rfl];refine ⟨μ3,h3,Zw,_,R3,((S.ext e1).ext e2).ext e3,m3,fun u H4 ⟨μ4,wu,h4,e4,R4,r4,m4⟩=>?_⟩;exact s' R4 (e4.r _ _<|e3.r _ _ r2) r4 m4 fun v H' z=>q _ _<|(((z.trans e4).trans e3).trans e2).trans e1
  | false=>
   rw [if_neg (by decide)];exact q _ _ ⟨μ3,.bl false,h3,(e1.trans e2).trans e3,R3,by rw [DP],m3⟩
 | _=>exact (show False from m3).elim
theorem zbB {op op':CmpOp}{mr mr':M2}(ho:M5 X (K3 op) mr)(ho':M5 X (K3 op') mr')(ha:DE X a ma)(hb:DE X b mb)(hc:DE X c mc)(hm:lastMarks [op,op'] [b,c]=false):DE X (.Compare a [op,op'] [b,c] pos) (Cj mr mr' ma mb mc):=by
 obtain ⟨r,o,s⟩:=ho;obtain ⟨r',o',s'⟩:=ho';exact (zbe o o' ha hb hc hm).of fun Z H Q h=>zaZ s s' h
end
section
variable {K:Dp}{H:Hp}{fs:List (Str×W)}{fvs:List (Str×V)}{f:Str}{w:W}{v:V}
end
section
variable {X:Cx}{e o value:Expr}{es:List Expr}{mo mv:ME}{f:Str}{C:Addr}{pos pos' apos:Pos}
end
section
variable {prog:Ew}{w:Em}{A:Fg}{E:Mk->AP->Prop}{s:AP}
theorem zbC:typeLookup (.type "list_reverseiterator") "__len__" = pure FX:=by rw [typeLookup_type,Ys];kernel_rfl
theorem ahv:typeLookup (.type "list_reverseiterator") "__length_hint__" = pure (FN (.builtin "list_reverseiterator.__length_hint__")):=by rw [typeLookup_type,Ys];kernel_rfl
theorem zbl {r:Addr}{Q:Bool->AP->Prop}(hT:s.TypeIs (.ref r) "list_reverseiterator")(h:Q false s):Dl (Dm prog w) A (Builtin.List.listLengthHint (.ref r)) Q E s:=by
 unfold Builtin.List.listLengthHint;refine CR<|wpAny_specialOf hT zbC ?_
 dsimp only;refine XN (fun hab=>absurd hab<|by decide)<|fun _=>?_
 refine XN (fun hab=>absurd hab<|by decide)<|fun _=>?_
 refine CR<|wpAny_specialOf hT ahv ?_
 generalize hid:("list_reverseiterator.__length_hint__" : String)=id0
 wp_delta
 rw [show splitId id0=FN ("list_reverseiterator", "__length_hint__") from by subst hid;decide +kernel];subst hid;refine CR<|YJ (T := "list_reverseiterator") (b:=true) hT (by rw [isSubtype_type];kernel_rfl) ?_
 refine XN (fun hab=>absurd hab<|by decide)<|fun _=>?_
 refine XN (fun _=>?_)<|fun hab=>absurd (by decide +kernel) hab
 refine XN (fun hab=>absurd hab<|by decide +kernel)<|fun _=>?_
 exact Ds h
theorem aeC {r l:Addr}{items:Array Mk}(hh:A.handled=FX)(hit:s.heap.IsRevIter r l ((items.size:Int) - 1))(hl:s.heap.IsList l items)(hne:l≠r)(S:Addr)(hSr:S≠r)(hSl:S≠l)(res:Mk)(c₀ : Nat)(hS:s.heap.get? S=FN { cls:=.type "list",data:=.seq #[] c₀ })
  (hR:∀ h' tk acc' c',(∀ b o,b≠S->b≠r->s.heap.get? b=FN o->h'.get? b=FN o)->h'.get? S=FN { cls:=.type "list",dict:=FX,data:=.seq acc' c',slots:=#[] }->ItemsOf (fun i v=>items[items.size - 1 - i]?=FN v) acc' items.size->R (.ok (.ret res)) { s with heap:=h',toks:=tk }) (hn:items.size<=G7) :
  Dl (Dm prog w) A.in1 (Z0 (.ref S) (.ref r) res)
   (fun fin s'=>match fin with | .done f=>R (.ok f) s' | .again c'=>c'.quiet=true/\Mh (Dm prog w) A c' R s') (fun e s'=>R (.error e) s') s:=by
 have hSf:S∉[r,l]:=by simp only [J1,Q5,or_false,not_or];exact ⟨hSr,hSl⟩
 have W:=Walks.listRev (prog:=prog) (w:=w) (A:=A.in1) hh r l hne items;have st:(fun (i:Nat) (h:Heap)=>i<=items.size/\h.IsRevIter r l ((items.size:Int) - 1 - (i:Int))/\h.IsList l items) 0 s.heap:=⟨Jk _,by simpa using hit,hl⟩
 have key:∀ (h:Heap) (c₁ tk:Nat),(fun (i:Nat) (h:Heap)=>i<=items.size/\h.IsRevIter r l ((items.size:Int) - 1 - (i:Int))/\h.IsList l items) 0 h->(∀ b o,b≠S->s.heap.get? b=FN o->h.get? b=FN o) ->
   h.get? S=FN { cls:=.type "list",data:=.seq #[] c₁ }->Mh (Dm prog w) A (.builtin "list.extend.loop" ⟨[.ref S,.ref r,res],[]⟩) R { s with heap:=h,toks:=tk }:=by
  intro h c₁ tk hst hk hS₁;refine codeAny_extend_loopS W.toS hn S hSf res items.size 0 _ #[] c₁ rfl (Jk _) hst hS₁ (ItemsOf.nil _) fun s' acc' c' hm hS' hacc=>?_;rw [Moved.eq_with hm];refine hR s'.heap s'.toks acc' c' (fun b o hb hr e=>hm.heap b o (fun hmem=>?_)<|hk b o hb e) hS' hacc;rcases J1.mp hmem with e' | hmem
  ·exact hb e'
  ·exact hr<|K5.mp hmem
 unfold Z0;refine CR<|Rf (T := "list_reverseiterator") hit.typeIs ?_
 have h1:Builtin.List.listSameRef (.ref S) (.ref r)=false:=by simp [Builtin.List.listSameRef,hSr]
 have n1:(Value.type "list_reverseiterator"==Value.type "list")=false:=by decide +kernel
 have n2:(Value.type "list_reverseiterator"==Value.type "tuple")=false:=by decide +kernel
 simp only [h1,n1,n2,Bool.or_false,SJ,if_false];refine CR<|wpAny_pyIter_revIter hit ?_
 refine CR<|M8<|zbl hit.typeIs ?_
 refine XN (fun _=>?_)<|fun _=>Ds ⟨Oa PySem.F.plain_extend_loop _,key _ c₀ _ st (fun b o _ e=>e) hS⟩
 refine CR<|Ml ?_
 refine CR ?_;show Dl _ _ (updateSeq S (·.push .none) >>= fun _=>updateSeq S (·.pop)) _ _ _;refine CR<|Y7 hS rfl ?_
 have hS₂:=Vv (Uy (·.push Value.none)) hS rfl;refine Y7 (hz:=by seq_fits) hS₂ rfl ?_;have hS₃:=Vv (Uy (·.pop)) hS₂ rfl;refine Ds ⟨Oa PySem.F.plain_extend_loop _,key _ _ _ ?_ (fun b o hb e=>?_) hS₃⟩
 ·refine W.frame 0 _ _ st fun b hb o e=>?_;have hbS:b≠S:=fun h=>hSf (h ▸ hb)
  exact (TY _ _<|JD hbS).trans ((TY _ _<|JD hbS).trans e)
 ·exact (TY _ _<|JD hb).trans ((TY _ _<|JD hb).trans e)
end
theorem afG:∀ {xs:List V} {us:List Mk},DY xs us->DY xs.reverse us.reverse:=by
 intro xs us r;induction r with
 | nil=>exact .nil
 | cons h t ih=>
  rw [YD,YD];exact DY.append ih<|.cons h .nil
theorem BP {K:Dp}{H:Hp}{μ : Mu}:∀ {ws:List W} {vs:List V},aJ K H μ ws vs->aJ K H μ ws.reverse vs.reverse
 | [],vs,r=>by rw [aJ] at r;subst r;exact aJ.nil
 | w::ws,vs,r=>by
  rw [aJ] at r;obtain ⟨v,vs',e,rv,r⟩:=r;subst e;rw [YD,YD];exact aJ.append (BP r)<|aJ.cons rv aJ.nil
section
variable {X:Cx}
end
section
variable {X:Cx}{e:Expr}{me:ME}{x:Str}{a:Addr}{p pos:Pos}
end
section
variable {X:Cx}{C:Addr}{o e:Expr}{es:List Expr}{mo:ME}{pos apos:Pos}
end
def zu (kvs:List (List Int×W))(k:List Int):Option W:=(kvs.find? fun x=>decide (x.1=k)).map (·.2)
def VN (kvs:List (List Int×W))(k:List Int)(w:W):List (List Int×W):=if (zu kvs k).isSome then kvs.map (fun x=>if x.1=k then (x.1,w) else x) else kvs++[(k,w)]
section
variable {X:Cx}{ajY:List (Addr×Obj)}{Z : St}{H:Hp}{s:AP}{K:Dp}
def Kg (K:Dp)(H:Hp)(xs:List (List Int×Addr×Mk)):Prop:=∀ x∈xs,Hj K H x.2.1 (x.1.map V.int)
theorem wD {b:Addr}{k:List Int}(I:DX X ajY Z H s)(hb:Hj X.K H b (k.map V.int)):(tupleKind (intKind X.prog X.w)).is s.heap k b:=by
 obtain ⟨its2,r2,⟨o,ho,hcl,n,hd⟩,_⟩:=I.tuple hb;exact ⟨o,_,_,ho,hcl,hd,Af r2⟩
theorem zL {a:Addr}{xs:List (List Int×Addr×Mk)}(I:DX X ajY Z H s)(e:H a=FN (.ext (zR a xs)))(hk:Kg X.K H xs):xs.length<=G7/\(a==Mx)=false/\s.heap.DictOfH (tupleKind (intKind X.prog X.w)) a xs:=by
 obtain ⟨⟨z,y,nd,o,es,ep,h1,h2,h3,h4⟩,_⟩:=I.hok a _ e;exact ⟨z,y,o,es,ep,h1,h2,h3,h4,fun x hx=>wD I<|hk x hx,nd⟩
theorem yJ {P:Ew}{w:Em}{H':Hp}{a:Addr}{xs:List (List Int×Addr×Mk)}{h:Heap}(z:xs.length<=G7)(y:(a==Mx)=false)(d:h.DictOfH (tupleKind (intKind P w)) a xs):eH P w H' h a (.ext (zR a xs)):=by
 obtain ⟨o,es,ep,h1,h2,h3,h4,_,h5⟩:=d;exact ⟨⟨z,y,h5,o,es,ep,h1,h2,h3,h4⟩,⟨o,h1⟩,fun g1 g2 ⟨z,y,nd,o,es,ep,a1,a2,a3,a4⟩ k=>⟨z,y,nd,o,es,ep,k o a1,a2,a3,a4⟩⟩
theorem afI {x:List Int×Addr×Mk}{xs:List (List Int×Addr×Mk)}{k:List Int}:atKey (x::xs) k=if x.1=k then FN x.2 else atKey xs k:=by
 unfold atKey;rw [RM];by_cases e:x.1=k
 ·rw [if_pos e];simp [e]
 ·rw [if_neg e];simp [e]
theorem Cg {x:List Int×W}{kvs:List (List Int×W)}{k:List Int}:zu (x::kvs) k=if x.1=k then FN x.2 else zu kvs k:=by
 unfold zu;rw [RM];by_cases e:x.1=k
 ·rw [if_pos e];simp [e]
 ·rw [if_neg e];simp [e]
theorem uo:∀ {kvs:List (List Int×W)} {xs:List (List Int×Addr×Mk)} {vs:List V},kvs.map (·.1)=xs.map (·.1)->DY vs (xs.map (·.2.2))->aJ K H μ (kvs.map (·.2)) vs->∀ k:List Int,
  (∀ w,zu kvs k=FN w->∃ p v,atKey xs k=FN p/\RelV v p.2/\DP K H μ w v)/\(zu kvs k).isSome=(atKey xs k).isSome
 | [],[],_,_,_,_,k=>⟨fun w e=>by simp [zu] at e,rfl⟩
 | [],_::_,_,e,_,_,_=>by simp at e
 | _::_,[],_,e,_,_,_=>by simp at e
 | x::kvs,y::xs,vs,e,hv,hr,k=>by
  rw [Ed,Ed] at e;obtain ⟨e1,e2⟩:=Rv e;rw [Ed,aJ] at hr;obtain ⟨v,vs',rfl,r1,r2⟩:=hr;rw [Ed] at hv;cases hv with
  | cons a b=>
   obtain ⟨i1,i2⟩:=uo e2 b r2 k;rw [Cg,afI,e1];by_cases z:y.1=k
   ·rw [if_pos z,if_pos z];exact ⟨fun w ew=>by cases ew;exact ⟨_,v,rfl,a,r1⟩,rfl⟩
   ·rw [if_neg z,if_neg z];exact ⟨i1,i2⟩
theorem Er.dttAt {h:Gh}{n:Nat}{kvs:List (List Int×W)}(R:Er K μ H h)(e:h.c n=FN (.dtt kvs)):∃ p xs vs,μ.f n=FN p/\H p=FN (.ext (zR p xs))/\kvs.map (·.1)=xs.map (·.1)/\DY vs (xs.map (·.2.2))/\aJ K H μ (kvs.map fun x=>W.tup (x.1.map W.int)) (xs.map fun x=>V.ref x.2.1)/\aJ K H μ (kvs.map (·.2)) vs:=by
 obtain ⟨p,e1,xs,vs,a,b,c,d,f⟩:=R.cel n _ e;exact ⟨p,xs,vs,e1,a,b,c,d,f⟩
theorem Ca:∀ {k:List Int} {vs:List V},aJ K H μ (k.map W.int) vs->vs=k.map V.int
 | [],_,h=>by rw [Mw,aJ] at h;exact h
 | i::k,_,h=>by
  rw [Ed,aJ] at h;obtain ⟨v,vs,rfl,r,t⟩:=h;rw [DP] at r;rw [r,Ca t];rfl
theorem agL {k:List Int}{b:Addr}(r:DP K H μ (.tup (k.map .int)) (.ref b)):Hj K H b (k.map V.int):=by
 rw [DP] at r;obtain ⟨p,xs,e,hs,hr⟩:=r;cases e;rw [Ca hr] at hs;exact hs
theorem jl:∀ {kvs:List (List Int×W)} {xs:List (List Int×Addr×Mk)},kvs.map (·.1)=xs.map (·.1)->aJ K H μ (kvs.map fun x=>W.tup (x.1.map W.int)) (xs.map fun x=>V.ref x.2.1)->Kg K H xs
 | [],[],_,_=>fun x hx=>nomatch hx
 | [],_::_,e,_=>by simp at e
 | _::_,[],e,_=>by simp at e
 | x::kvs,y::xs,e,hr=>by
  rw [Ed,Ed] at e;obtain ⟨e1,e2⟩:=Rv e;rw [Ed,Ed,aJ] at hr;obtain ⟨v,vs',ev,r1,r2⟩:=hr;obtain ⟨rfl,rfl⟩:=Rv ev;intro z hz;rcases J1.mp hz with rfl | hz
  ·rw [e1] at r1;exact agL r1
  ·exact jl e2 r2 z hz
end
section
variable {X:Cx}{a b o i:Expr}{td ty:TE}{pos:Pos}
def KC:W->Option (List Int)
 | .tup ws=>vd ws
 | _=>FX
def Yo:M2:=fun x y h Q=>match x,KC y with
 | .loc n,FN k=>(match h.c n with
  | some (.dtt kvs)=>(match zu kvs k with
   | some w=>Q w h
   | none=>False)
  | _=>False)
 | _,_=>False
theorem jo {K:Dp}{H:Hp}{y:W}{v:V}{k:List Int}(r:DP K H μ y v)(e:KC y=FN k):∃ b,v=.ref b/\Hj K H b (k.map V.int):=by
 unfold KC at e;split at e
 ·rw [DP] at r;obtain ⟨p,xs,e1,hs,hr⟩:=r;rw [Ai hr e] at hs;exact ⟨p,e1,hs⟩
 ·cases e
theorem wk {k:List Int}{v:Mk}:∀ {xs:List (List Int×Addr×Mk)},(xs.map (putAt k v)).map (·.1)=xs.map (·.1)
 | []=>rfl
 | x::xs=>by
  rw [Ed,Ed,Ed,wk];congr 1
  unfold putAt;by_cases e:x.1=k
  ·rw [if_pos e]
  ·rw [if_neg e]
theorem wI {k:List Int}{v:Mk}:∀ {xs:List (List Int×Addr×Mk)},(xs.map (putAt k v)).map (fun x=>V.ref x.2.1)=xs.map (fun x=>V.ref x.2.1)
 | []=>rfl
 | x::xs=>by
  rw [Ed,Ed,Ed,wI];congr 1
  unfold putAt;by_cases e:x.1=k
  ·rw [if_pos e]
  ·rw [if_neg e]
def X6 (K:Dp):UG:=fun o i v H N=>∃ a xs k b,o=.ref a/\H a=FN (.ext (zR a xs))/\Kg K H xs/\i=.ref b/\Hj K H b (k.map V.int)/\xs.length<G7/\∀ u,RelV v u->N (Fb H a (.ext (zR a (storedH xs k b u))))
theorem aeJ {xs:List (List Int×Addr×Mk)}{k:List Int}{b:Addr}{u:Mk}:(storedH xs k b u).length<=xs.length+1:=by
 unfold storedH;split
 ·rw [Ec];lia
 ·rw [JC];exact Ea _
theorem v8 (hu:X.A.units+30<Jj):Wb X (X6 X.K):=by
 intro ajY s Z H o i v ov iv u Q I ro ri rv ⟨a,xs,k,b,eo,e,hk,ei,hb,l,q⟩;subst eo ei;obtain rfl:ov=Value.ref a:=ro;obtain rfl:iv=Value.ref b:=ri;obtain ⟨z,hd,dd⟩:=zL I e hk;refine wpAny_setItem_heap (hsz:=z) (tupleKind_room_in1<|by lia) (wD I hb) dd fun h' dd' hs=>⟨_,?_,q u rv⟩;have he:∃ q,h'.get? a=FN q:=let ⟨q,_,_,hq,_⟩:=dd';⟨q,hq⟩
 exact yQ I (by rw [e];exact True.intro) hs he<|yJ (by have:=aeJ (xs:=xs) (k:=k) (b:=b) (u:=u);lia) hd dd'
def U5:ME:=fun _ h Q=>Q (.loc h.nx) (h.new (.dtt []))
theorem agh:PE X (.Dict [] [] pos) (fun _ H Q=>∀ p,H p=FX->Q (.ref p) (Fb H p (.ext (zR p [])))):=fun ajY s Z H Q I h=>
 wpAny_Dict_empty ⟨.ref s.heap.objs.size,_,I.laid (a:=s.heap.objs.size) (o:=.ext (zR s.heap.objs.size [])) (t':=s.toks) (fun _ _ q=>G6 _ q) (Ea _) (by
  obtain ⟨_,y,_⟩:=tZ (P:=X.prog) (w:=X.w) (H:=H) s.heap I.big;exact yJ (P:=X.prog) (w:=X.w) (Jk _) y ⟨_,#[],0,Hw _ rfl,⟨rfl,rfl,rfl⟩,rfl,rfl,(fun x hx=>absurd hx Q5),Wz⟩),rfl,h _ (I.hok.fresh (Ea _))⟩
theorem ahT:DE X (.Dict [] [] pos) U5:=agh.of fun Z H Q ⟨μ,g,Zw,Qw,R,S,m,q⟩ p hp=>by
 have R1:Er X.K (μ.put g.nx p) (Fb H p (.ext (zR p []))) (g.new (.dtt [])):=R.newCell hp trivial ⟨[],[],aY,rfl,.nil,by rw [Mw,Mw,aJ],by rw [Mw,aJ]⟩;exact q _ _ ⟨_,.loc g.nx,_,(Ex.newCell R hp).ext,R1,by rw [DP];exact ⟨p,rfl,Mu.put_same⟩,m⟩
def Fp:Vy:=fun o i w h N=>match o,KC i with
 | .loc n,FN k=>(match h.c n with
  | some (.dtt kvs)=>fV (kvs.length+1) (N (h.set n (.dtt (VN kvs k w))))
  | _=>False)
 | _,_=>False
theorem JQ {K:Dp}{H:Hp}{μ : Mu}{k:List Int}{w:W}{v:V}{u:Mk}(rv:RelV v u)(r:DP K H μ w v):∀ {kvs:List (List Int×W)} {xs:List (List Int×Addr×Mk)} {vs:List V},kvs.map (·.1)=xs.map (·.1)->DY vs (xs.map (·.2.2))->aJ K H μ (kvs.map (·.2)) vs ->
  ∃ vs',DY vs' ((xs.map (putAt k u)).map (·.2.2))/\aJ K H μ ((kvs.map (fun x=>if x.1=k then (x.1,w) else x)).map (·.2)) vs'
 | [],[],_,_,_,_=>⟨[],.nil,by rw [Mw,Mw,aJ]⟩
 | [],_::_,_,e,_,_=>by simp at e
 | _::_,[],_,e,_,_=>by simp at e
 | x::kvs,y::xs,vs,e,hv,hr=>by
  rw [Ed,Ed] at e;obtain ⟨e1,e2⟩:=Rv e;rw [Ed,aJ] at hr;obtain ⟨v1,vs',rfl,r1,r2⟩:=hr;rw [Ed] at hv;cases hv with
  | cons a b=>
   obtain ⟨vs2,i1,i2⟩:=JQ rv r e2 b r2;by_cases z:y.1=k
   ·refine ⟨v::vs2,?_,?_⟩
    ·rw [Ed,Ed];refine .cons ?_ i1;unfold putAt;rw [if_pos z];exact rv
    ·rw [Ed,Ed,aJ];refine ⟨v,vs2,rfl,?_,i2⟩;rw [if_pos (e1.trans z)];exact r
   ·refine ⟨v1::vs2,?_,?_⟩
    ·rw [Ed,Ed];refine .cons ?_ i1;unfold putAt;rw [if_neg z];exact a
    ·rw [Ed,Ed,aJ];refine ⟨v1,vs2,rfl,?_,i2⟩;rw [if_neg (fun q=>z (e1.symm.trans q))];exact r1
theorem FP {k:List Int}{w:W}:∀ {kvs:List (List Int×W)},(kvs.map (fun x=>if x.1=k then (x.1,w) else x)).map (·.1)=kvs.map (·.1)
 | []=>rfl
 | x::kvs=>by
  rw [Ed,Ed,Ed,FP];congr 1
  by_cases e:x.1=k
  ·rw [if_pos e]
  ·rw [if_neg e]
theorem Im {k:List Int}{w:W}:∀ {kvs:List (List Int×W)},(kvs.map (fun x=>if x.1=k then (x.1,w) else x)).map (fun x=>W.tup (x.1.map W.int))=kvs.map (fun x=>W.tup (x.1.map W.int))
 | []=>rfl
 | x::kvs=>by
  rw [Ed,Ed,Ed,Im];congr 1
  by_cases e:x.1=k
  ·rw [if_pos e]
  ·rw [if_neg e]
theorem aJ.snoc {K:Dp}{H:Hp}{μ : Mu}{w:W}{v:V}(r:DP K H μ w v):∀ {ws:List W} {vs:List V},aJ K H μ ws vs->aJ K H μ (ws++[w]) (vs++[v])
 | [],_,h=>by
  rw [aJ] at h;rw [h,Xl,Xl,aJ];exact ⟨v,[],rfl,r,by rw [aJ]⟩
 | a::ws,_,h=>by
  rw [aJ] at h;obtain ⟨b,bs,rfl,h1,h2⟩:=h;rw [W2,W2,aJ];exact ⟨b,bs++[v],rfl,h1,aJ.snoc r h2⟩
theorem nP {K:Dp}{H:Hp}{μ : Mu}:∀ k:List Int,aJ K H μ (k.map W.int) (k.map V.int)
 | []=>by rw [Mw,Mw,aJ]
 | i::k=>by
  rw [Ed,Ed,aJ];exact ⟨_,_,rfl,by rw [DP],nP k⟩
theorem Ag {K:Dp}:Aw K (X6 K) Fp:=by
 intro H μ h o i v wo wi w Nw N R ro ri r m k;unfold Fp at m;split at m
 ·rename_i n kk e;split at m
  ·rename_i kvs ec;obtain ⟨p,xs,vs,hp,hx,e1,e2,r3,r4⟩:=R.dttAt ec;rw [DP] at ro;obtain ⟨p',ex,hp'⟩:=ro;have ep:p'=p:=by rw [hp] at hp';exact (Gw hp').symm
   subst ep;obtain ⟨b,eb,hb⟩:=jo ri e;have ajZ:kvs.length=xs.length:=by have:=congrArg Wj e1;rwa [Ec,Ec] at this
   have we:=fun (o:HO)=>(Ex.write (o:=o) R hp).ext
   have rk:DP K H μ (.tup (kk.map W.int)) (.ref b):=by rw [DP];exact ⟨b,_,rfl,hb,nP kk⟩
   refine ⟨p',xs,kk,b,ex,hx,jl e1 r3,eb,hb,by have:=m.ok.1;lia,fun u ru=>k _ ⟨μ,_,we _,R.write (c:=.dtt (VN kvs kk w)) hp trivial ?_,m.ok.2⟩⟩;have hs:=(uo e1 e2 r4 kk).2;cases ea:atKey xs kk with
   | some q=>
    rw [ea] at hs;obtain ⟨vs',i1,i2⟩:=JQ (k:=kk) ru r e1 e2 r4;rw [storedH_old ea];unfold VN;rw [if_pos (show (zu kvs kk).isSome=true from hs)];exact ⟨_,vs',aY,FP.trans<|e1.trans wk.symm,i1,by rw [Im,wI];exact (we _).s r3,(we _).s i2⟩
   | none=>
    rw [ea] at hs;rw [storedH_new ea];unfold VN;rw [if_neg (show ¬ (zu kvs kk).isSome=true from by rw [hs];decide)];refine ⟨_,vs++[v],aY,?_,?_,?_,?_⟩
    ·rw [Iu,Iu,e1];rfl
    ·rw [Iu];exact DY.append e2 (.cons ru .nil)
    ·rw [Iu,Iu];exact (we _).s (aJ.snoc rk r3)
    ·rw [Iu];exact (we _).s (aJ.snoc r r4)
  ·exact m.elim
 ·exact m.elim
end
section
variable {prog:Ew}{w:Em}{A:Fg}{E:Mk->AP->Prop}{s:AP}
end
section
variable {X:Cx}
end
def ps (h:Int):Nat->Nat×Nat
 | 0=>(Wv h % 32,Wv h)
 | n+1=>SetTable.leap 31 (ps h n).1 (ps h n).2
def liv (o:Array (Option Nat)):List (Nat×Nat):=(LC 32).filterMap fun j=>(o.getD j FX).map (j,·)
structure Lay (o:Array (Option Nat)) (k:Nat):Prop where
 sz:o.size=32
 len:(liv o).length=k
 low:∀ p,p∈liv o->p.2<k
section
variable {prog:Ew}{w:Em}{A:Fg}{E:Mk->AP->Prop}{s:AP}{a:Addr}
end
section
variable {prog:Ew}{w:Em}{A:Fg}{E:Mk->AP->Prop}{s:AP}{t:ZD}{a b:Addr}{k:List Int}
end
section
variable {prog:Ew}{w:Em}{A:Fg}{E:Mk->AP->Prop}
end
section
variable {prog:Ew}{w:Em}{A:Fg}{E:Mk->AP->Prop}{s:AP}
end
section
variable {X:Cx}{K:Dp}
end
section
variable {X:Cx}{K:Dp}{o e:Expr}{mo:ME}{apos akb:Pos}
end
section
variable {prog:Ew}{w:Em}{A:Fg}{s:AP}{K:Dp}{x C:Addr}
end
section
variable {prog:Ew}{w:Em}{A:Fg}{E:Mk->AP->Prop}{s:AP}{K:Dp}{x dx C f:Addr}{mA:Str->Option Mk}{name:Str}{v:Mk}
end
section
variable {prog:Ew}{w:Em}{A:Fg}{E:Mk->AP->Prop}{s:AP}{K:Dp}{x D:Addr}{ox:Obj}
end
section
variable {prog:Ew}{w:Em}{A:Fg}{E:Mk->AP->Prop}{h:Heap}{g:Array GenState}{d:Drawn}{t:Nat}{os:OsState}
variable {nm q:Str}{C N:Addr}{bs bm bmB:List Mk}{hdct:Bool}{sn:List Str}{sub:List Mk}{ab:Bool}{col:Option Bool}{dd:Option Addr}{k0 k1 k2 k3 k5:Option Mk}{B newId initId:String}{K:Dp}{f:Addr}
end
variable {sn : List Str}{sub : List Mk}{dd : Option Addr}{col : Option Bool}
section
variable {prog:Ew}{w:Em}{M:Model}{A:Fg}{E:Mk->AP->Prop}{s:AP}{K:Dp}{f:Addr}
variable {nm q:Str}{C N:Addr}{bs bm bmB:List Mk}{hdct:Bool}{ab:Bool}{k0 k1 k2 k3 k5:Option Mk}{B newId initId:String}
end
section
variable {X:Cx}{o value:Expr}{f:Str}{C:Addr}{pos pos':Pos}{ta tv:TE}
end
section
variable {X:Cx}{ajY:List (Addr×Obj)}{Z : St}{H:Hp}{s:AP}{e:Addr}
end
section
variable {X:Cx}{ajY:List (Addr×Obj)}{Z : St}{H:Hp}{s:AP}{C fi:Addr}{x f:Str}{np akb pos:Pos}{e:Expr}{t:TA}{k:Nat}{fd:N5}{ps:List Str}
end
section
variable {X:Cx}{e:Expr}{pos:Pos}
end
section
variable {X:Cx}{e:Expr}{f:Str}{pos:Pos}
end
section
variable {X:Cx}
end
section
variable {X:Cx}{tg:Expr}
end
section
variable {X:Cx}{K:Dp}
def Ti:Nat->List W->List W
 | _,[]=>[]
 | i,a::as=>.tup [.int (i:Int),a]::Ti (i+1) as
theorem yV:∀ {as:List W} {j i:Nat} {w:W},(Ti j as)[i]?=FN w->∃ a,as[i]?=FN a/\w=.tup [.int ((j+i:Nat):Int),a]
 | [],_,_,_,e=>by simp [Ti] at e
 | a::as,j,0,w,e=>by
  have e:FN (W.tup [.int (j:Int),a])=FN w:=e;exact ⟨a,rfl,(Gw e).symm⟩
 | a::as,j,i+1,w,e=>by
  obtain ⟨x,h1,h2⟩:=yV (as:=as) (j:=j+1) (i:=i) (w:=w) (by simpa [Ti] using e);exact ⟨x,by simpa using h1,by rw [h2,show j+1+i=j+(i+1) by lia]⟩
theorem uP:∀ {as:List W} {j:Nat},(Ti j as).length=as.length
 | [],_=>rfl
 | a::as,j=>by rw [Ti,K9,uP,K9]
end
section
variable {X:Cx}{pos p:Pos}{e:Expr}{es:List Expr}{k:Nat}{fs:List (Addr×Dr)}
inductive VFs (X:Cx) (k:Nat):List (Addr×Dr)->Prop
 | nil:VFs X k []
 | cons {f:Addr} {fd:N5} {ps:List Str} {ms:Dr} {fs:List (Addr×Dr)} (F:qO X.prog X.w X.K X.mg X.base Mg k f fd ps (lift X.K ms)) (hk:U7 X.K (.ref f)=true) (hb:Binds X.K fd ps []) (r:VFs X k fs):VFs X k ((f,ms)::fs)
end
variable {fs : List (Addr×Dr)}
def NK (P:Ew)(w:Em)(A:Fg)(s:AP)(kd:Vs)(rk:Mk->Nat)(good:Mk->Prop):Prop:=
 ∀ (E:Mk->AP->Prop) (Q:Bool->AP->Prop) (x y:Mk),good x->good y->Q (decide (rk x<rk y)) s->Dl (Dm P w) A (keyLt' kd x y) Q E s
section
variable {P:Ew}{w:Em}{A:Fg}{E:Mk->AP->Prop}{s:AP}{kd:Vs}{rk:Mk->Nat}{good:Mk->Prop}
def Rk (rk:Mk->Nat)(a:Array Dz)(i:Nat):Nat:=match a[i]? with
 | some p=>rk p.1
 | none=>0
def bF (rk:Mk->Nat)(a:Array Dz)(i j:Nat):Prop:=∀ p q,i<=p->p<q->q<j->Rk rk a p<Rk rk a q
structure Keys (rk:Mk->Nat) (good:Mk->Prop) (a:Array Dz):Prop where
 good:∀ p∈a.toList,good p.1
 nd:(a.toList.map fun p=>rk p.1).Nodup
theorem yF {a b:Array Dz}{i j:Nat}(h:a[i]?=b[j]?):Rk rk a i=Rk rk b j:=by unfold Rk;rw [h]
theorem Keys.perm {a b:Array Dz}(h:Keys rk good a)(p:b.Perm a):Keys rk good b:=by
 have pl:=Array.perm_iff_toList_perm.mp p;exact ⟨fun x hx=>h.good x<|pl.mem_iff.mp hx,(pl.map _).nodup_iff.mpr h.nd⟩
theorem Keys.ne {a:Array Dz}(h:Keys rk good a){i j:Nat}(hi:i<a.size)(hj:j<a.size)(e:Rk rk a i=Rk rk a j):i=j:=by
 have e1:∀ k (hk:k<a.size),Rk rk a k=rk (a.toList[k]'(by simpa using hk)).1:=fun k hk=>by
  unfold Rk;rw [WM hk];rfl
 rw [e1 i hi,e1 j hj] at e;refine (List.getElem_inj h.nd).mp (?_:(a.toList.map fun p=>rk p.1)[i]'(by simpa using hi)=(a.toList.map fun p=>rk p.1)[j]'(by simpa using hj))
 simpa using e
structure Nj (kd:Vs) (rk:Mk->Nat) (good:Mk->Prop) (st:Fd):Prop where
 kind:Ku st=kd
 failed:failedOf st=FX
 keys:Keys rk good (Dy st)
theorem Nj.arr {st:Fd}(h:Nj kd rk good st){b:Array Dz}(p:b.Perm (Dy st)):Nj kd rk good (Li st b):=⟨h.kind,h.failed,h.keys.perm p⟩
theorem cH {a:Array Dz}{i:Nat}{st:Fd}{Q:Dz->Fd->Prop}(hi:i<a.size)(q:Q a[i] st):wpS (Dm P w) A E s (elem' a i) Q st:=by
 rw [elem'_eq,WM hi];exact Ep q
theorem w_lt (C:NK P w A s kd rk good){x y:Dz}{st:Fd}{Q:Option Bool->Fd->Prop}(hk:Ku st=kd)(hx:good x.1)(hy:good y.1)(q:Q (FN (decide (rk x.1<rk y.1))) st):wpS (Dm P w) A E s (lt' x y) Q st:=by
 rw [lt'_eq];refine En<|T9 ?_
 rw [hk];exact En<|wpS_lift<|Wd<|C _ _ _ _ hx hy ⟨rfl,Ep q⟩
theorem fG {a:Array Dz}{i:Nat}(hi:i<a.size):Rk rk a i=rk a[i].1:=by
 unfold Rk;rw [WM hi]
theorem sG (C:NK P w A s kd rk good){i j:Nat}{st:Fd}{Q:Option Bool->Fd->Prop}(ok:Nj kd rk good st)(hi:i<(Dy st).size)(hj:j<(Dy st).size)(q:Q (FN (decide (Rk rk (Dy st) i<Rk rk (Dy st) j))) st):wpS (Dm P w) A E s (ltAt' i j) Q st:=by
 rw [ltAt'_eq];refine En<|T9<|En<|cH hi<|En<|cH hj<|w_lt C ok.kind ?_ ?_ ?_
 ·exact ok.keys.good _<|by simp
 ·exact ok.keys.good _<|by simp
 ·rw [<-fG (rk:=rk) hi,<-fG (rk:=rk) hj];exact q
structure Within (a b:Array Dz) (lo hi:Nat):Prop where
 perm:b.Perm a
 out:∀ k,k<lo\/hi<=k->b[k]?=a[k]?
theorem Within.size {a b:Array Dz}{lo hi:Nat}(h:Within a b lo hi):b.size=a.size:=h.perm.size_eq
theorem Within.refl (a:Array Dz)(lo hi:Nat):Within a a lo hi:=⟨Array.Perm.refl _,fun _ _=>rfl⟩
theorem Within.trans {a b c:Array Dz}{lo hi:Nat}(h:Within a b lo hi)(g:Within b c lo hi):Within a c lo hi:=⟨g.perm.trans h.perm,fun k hk=>(g.out k hk).trans (h.out k hk)⟩
theorem Within.wide {a b:Array Dz}{lo hi lo' hi':Nat}(h:Within a b lo hi)(h1:lo'<=lo)(h2:hi<=hi'):Within a b lo' hi':=⟨h.perm,fun k hk=>h.out k (by lia)⟩
theorem jN (st:Fd):Li st (Dy st)=st:=by cases st;rfl
theorem pH {a:Array Dz}{lo n:Nat}(h:bF rk a lo (lo+n))(h1:1<=n)(g:Rk rk a (lo+n - 1)<Rk rk a (lo+n)):bF rk a lo (lo+n+1):=fun p q h2 h3 h4=>by
 by_cases c:q<lo+n
 ·exact h p q h2 h3 c
 ·have e:q=lo+n:=by lia
  subst e;by_cases c2:p=lo+n - 1
  ·rw [c2];exact g
  ·exact Nat.lt_trans (h p (lo+n - 1) h2 (by lia)<|by lia) g
theorem w_count (C:NK P w A s kd rk good){lo nrem:Nat}{st:Fd}{Q:Option Nat->Fd->Prop}(ok:Nj kd rk good st)(h1:1<=nrem)(hz:lo+nrem<=(Dy st).size)
  (q:∀ (n:Nat) (b:Array Dz),1<=n->n<=nrem->Within (Dy st) b lo (lo+nrem)->bF rk b lo (lo+n)->(bF rk (Dy st) lo (lo+nrem)->n=nrem/\b=Dy st)->Q (FN n) (Li st b)) :
  wpS (Dm P w) A E s (countRun' lo nrem) Q st:=by
 rw [countRun'_eq];have ne:∀ {i j:Nat},i<(Dy st).size->j<(Dy st).size->i≠j->Rk rk (Dy st) i≠Rk rk (Dy st) j:=fun hi hj c e=>c (ok.keys.ne hi hj e)
 refine En (Nt (Ny
  (I:=fun x c st'=>st'=st/\c=(FX,x)/\bF rk (Dy st) lo (lo+x)/\x<=nrem)
  (Q:=fun c st'=>st'=st/\∃ n,c=(FX,n)/\1<=n/\n<=nrem/\bF rk (Dy st) lo (lo+n)/\(n=nrem\/Rk rk (Dy st) (lo+n)<Rk rk (Dy st) (lo+n - 1))) ?_ ?_ ⟨rfl,rfl,fun p q a b c=>by lia,h1⟩) ?_)
 ·rintro x c st' hx1 hx2 ⟨rfl,rfl,hr,_⟩;dsimp only;refine En<|sG C ok (by lia) (by lia) ?_
  by_cases c:Rk rk (Dy st') (lo+x)<Rk rk (Dy st') (lo+x - 1)
  ·rw [decide_eq_true c];exact Ep ⟨rfl,x,rfl,hx1,by lia,hr,.inr c⟩
  ·rw [decide_eq_false c];have:=ne (i:=lo+x) (j:=lo+x - 1) (by lia) (by lia) (by lia)
   exact Ep ⟨rfl,rfl,pH hr hx1<|by lia,by lia⟩
 ·rintro c st' ⟨rfl,rfl,hr,hx⟩;have e:max 1 nrem=nrem:=by lia
  rw [e] at hr |-
  exact ⟨rfl,nrem,rfl,h1,Ea _,hr,.inl rfl⟩
 ·rintro c st' ⟨rfl,n,rfl,n1,n2,hr,hd⟩;dsimp only;by_cases en:n=nrem
  ·subst en;simp only [beq_self_eq_true,if_true];have:=q n (Dy st') n1 (Ea _) (.refl _ _ _) hr fun _=>⟨rfl,rfl⟩
   rw [jN] at this;exact Ep this
  ·have hd:=hd.resolve_left en;have not:¬ bF rk (Dy st') lo (lo+nrem):=fun r=>by
    have:=r (lo+n - 1) (lo+n) (by lia) (by lia) (by lia)
    lia
   rw [if_neg (by simpa using en)];by_cases c1:n>1
   ·rw [if_pos c1];have hrise:=hr lo (lo+n - 1) (Ea _) (by lia) (by lia);refine En<|sG C ok (by lia) (by lia) ?_
    rw [decide_eq_true hrise];have:=q n (Dy st') n1 n2 (.refl _ _ _) hr fun r=>absurd r not
    rw [jN] at this;exact Ep this
   ·rw [if_neg c1];have e1:n=1:=by lia
    subst e1;refine En<|wpS_lift<|Ml ⟨rfl,?_⟩
    refine En (Nt (Ny
     (I:=fun x c st2=>st2=st'/\c=(FX,x,0)/\(∀ u v,lo<=u->u<v->v<lo+x->Rk rk (Dy st') v<Rk rk (Dy st') u)/\x<=nrem)
     (Q:=fun c st2=>st2=st'/\∃ m,c=(FX,m,0)/\2<=m/\m<=nrem/\∀ u v,lo<=u->u<v->v<lo+m->Rk rk (Dy st') v<Rk rk (Dy st') u) ?_ ?_ ⟨rfl,rfl,fun u v h2 h3 h4=>?_,by lia⟩) ?_)
    ·rintro x c st2 hx1 hx2 ⟨rfl,rfl,hf,_⟩;dsimp only;refine En<|sG C ok (by lia) (by lia) ?_
     by_cases c:Rk rk (Dy st2) (lo+x)<Rk rk (Dy st2) (lo+x - 1)
     ·rw [decide_eq_true c];refine Ep ⟨rfl,rfl,fun u v h2 h3 h4=>?_,by lia⟩;by_cases c2:v<lo+x
      ·exact hf u v h2 h3 c2
      ·have ev:v=lo+x:=by lia
       subst ev;by_cases c3:u=lo+x - 1
       ·rw [c3];exact c
       ·exact Nat.lt_trans c<|hf u (lo+x - 1) h2 (by lia)<|by lia
     ·rw [decide_eq_false c];have:=ne (i:=lo+x) (j:=lo+x - 1) (by lia) (by lia) (by lia)
      refine En<|sG C ok (by lia) (by lia) ?_
      rw [decide_eq_true (show Rk rk (Dy st2) (lo+x - 1)<Rk rk (Dy st2) (lo+x) by lia)];exact Ep ⟨rfl,x,rfl,by lia,by lia,hf⟩
    ·rintro c st2 ⟨rfl,rfl,hf,hx⟩;have e:max (1+1) nrem=nrem:=by lia
     rw [e] at hf |-
     exact ⟨rfl,nrem,rfl,by lia,Ea _,hf⟩
    ·have eu:u=lo+1 - 1:=by lia
     have ev:v=lo+1:=by lia
     rw [eu,ev];exact hd
    ·rintro c st2 ⟨rfl,m,rfl,m1,m2,hf⟩;dsimp only;rw [if_neg (Nv 0)];refine En<|wpS_reverse ?_
     have hb:∀ k,Rk rk (mirror (Dy st2) lo (lo+m) ((lo+m - lo) / 2)) k=if lo<=k/\k<lo+m then Rk rk (Dy st2) (lo+(lo+m) - 1 - k) else Rk rk (Dy st2) k:=fun k=>by
      have e:=getElem?_mirror_all (xs:=Dy st2) (i:=lo) (j:=lo+m) (by lia) k;split
      ·rename_i c;rw [if_pos c] at e;exact yF e
      ·rename_i c;rw [if_neg c] at e;exact yF e
     have hw:Within (Dy st2) (mirror (Dy st2) lo (lo+m) ((lo+m - lo) / 2)) lo (lo+nrem):=⟨mirror_perm _ _ _ _,fun k hk=>by
      rw [getElem?_mirror_all (by lia),if_neg (by lia)]⟩
     have hrb:bF rk (mirror (Dy st2) lo (lo+m) ((lo+m - lo) / 2)) lo (lo+m):=fun u v h2 h3 h4=>by
      rw [hb,hb,if_pos (by lia),if_pos (by lia)];exact hf _ _ (by lia) (by lia)<|by lia
     generalize mirror (Dy st2) lo (lo+m) ((lo+m - lo) / 2)=b at hb hw hrb;have ok2:Nj kd rk good (Li st2 b):=ok.arr hw.perm;have hz2:(Dy (Li st2 b)).size=(Dy st2).size:=hw.size;refine En (Nt (Ny
      (I:=fun x c st3=>st3=Li st2 b/\c=(FX,x)/\bF rk b lo (lo+x)/\x<=nrem)
      (Q:=fun c st3=>st3=Li st2 b/\∃ n,c=(FX,n)/\1<=n/\n<=nrem/\bF rk b lo (lo+n)) ?_ ?_ ⟨rfl,rfl,hrb,m2⟩) ?_)
     ·rintro x c st3 hx1 hx2 ⟨rfl,rfl,hr3,_⟩;dsimp only;refine En<|sG C ok2 (by lia) (by lia) ?_
      by_cases c:Rk rk (Dy (Li st2 b)) (lo+x)<Rk rk (Dy (Li st2 b)) (lo+x - 1)
      ·rw [decide_eq_true c];exact Ep ⟨rfl,x,rfl,by lia,by lia,hr3⟩
      ·rw [decide_eq_false c];have:Rk rk b (lo+x)≠Rk rk b (lo+x - 1):=fun e=>absurd (ok2.keys.ne (i:=lo+x) (j:=lo+x - 1) (by lia) (by lia) e) (by lia)
       have c:¬ Rk rk b (lo+x)<Rk rk b (lo+x - 1):=c;exact Ep ⟨rfl,rfl,pH hr3 (by lia)<|by lia,by lia⟩
     ·rintro c st3 ⟨rfl,rfl,hr3,hx⟩;have e:max m nrem=nrem:=by lia
      rw [e] at hr3 |-
      exact ⟨rfl,nrem,rfl,h1,Ea _,hr3⟩
     ·rintro c st3 ⟨rfl,n,rfl,n1,n2,hr3⟩;exact Ep<|q n b n1 n2 hw hr3 fun r=>absurd r not
end
variable {a b : Array Dz}{hi lo : Nat}{st : Fd}{good : Mk->Prop}{kd : Vs}
section
variable {P:Ew}{w:Em}{A:Fg}{E:Mk->AP->Prop}{s:AP}{rk:Mk->Nat}
theorem Za (C:NK P w A s kd rk good){n ok':Nat}{Q:Bool->Fd->Prop}(ok:Nj kd rk good st)(h1:1<=ok')(hn:ok'<=n)(hz:lo+n<=(Dy st).size)(hr:bF rk (Dy st) lo (lo+ok'))
  (q:∀ b,Within (Dy st) b lo (lo+n)->bF rk b lo (lo+n)->Q true (Li st b)):wpS (Dm P w) A E s (binarySort' lo n ok') Q st:=by
 rw [binarySort'_eq];refine En (Nt (Ny
  (I:=fun x c st'=>c=(FX,())/\∃ b,st'=Li st b/\Within (Dy st) b lo (lo+n)/\bF rk b lo (lo+x)/\x<=n)
  (Q:=fun c st'=>c=(FX,())/\∃ b,st'=Li st b/\Within (Dy st) b lo (lo+n)/\bF rk b lo (lo+n)) ?_ ?_ ⟨rfl,Dy st,(jN st).symm,.refl _ _ _,by rw [Nat.max_eq_left h1];exact hr,by lia⟩) ?_)
 ·rintro x c st' hx1 hx2 ⟨rfl,b,rfl,hw,hb,_⟩;have okb:Nj kd rk good (Li st b):=ok.arr hw.perm;have zb:(Dy (Li st b)).size=(Dy st).size:=hw.size;have zb':b.size=(Dy st).size:=hw.size;have ne:∀ {i j:Nat},i<b.size->j<b.size->i≠j->Rk rk b i≠Rk rk b j:=fun hi hj c e=>c (okb.keys.ne hi hj e)
  refine En (Nt (Ny
   (I:=fun y c st2=>st2=Li st b/\∃ l r,c=(FX,l,r)/\l<=r/\r<=x/\r - l<=x - y/\(∀ p,lo<=p->p<lo+l->Rk rk b p<Rk rk b (lo+x))/\∀ p,lo+r<=p->p<lo+x->Rk rk b (lo+x)<Rk rk b p)
   (Q:=fun c st2=>st2=Li st b/\∃ l,c=(FX,l,l)/\l<=x/\(∀ p,lo<=p->p<lo+l->Rk rk b p<Rk rk b (lo+x))/\∀ p,lo+l<=p->p<lo+x->Rk rk b (lo+x)<Rk rk b p) ?_ ?_ ⟨rfl,0,x,rfl,Jk _,Ea _,by lia,fun p h2 h3=>by lia,fun p h2 h3=>by lia⟩) ?_)
  ·rintro y c st2 hy1 hy2 ⟨rfl,l,r,rfl,a1,a2,a3,a4,a5⟩;dsimp only;by_cases c:l>=r
   ·rw [if_pos c];have e:l=r:=by lia
    subst e;exact Ep ⟨rfl,l,rfl,a2,a4,a5⟩
   ·rw [if_neg c];refine En<|sG C okb (by lia) (by lia) ?_
    by_cases c2:Rk rk (Dy (Li st b)) (lo+x)<Rk rk (Dy (Li st b)) (lo+(l+r) / 2)
    ·rw [decide_eq_true c2];refine Ep ⟨rfl,l,(l+r) / 2,rfl,by lia,by lia,by lia,a4,fun p h2 h3=>?_⟩;have c2:Rk rk b (lo+x)<Rk rk b (lo+(l+r) / 2):=c2;by_cases c3:p=lo+(l+r) / 2
     ·rw [c3];exact c2
     ·exact Nat.lt_trans c2<|hb _ p (by lia) (by lia)<|by lia
    ·rw [decide_eq_false c2];have c2:¬ Rk rk b (lo+x)<Rk rk b (lo+(l+r) / 2):=c2;have:=ne (i:=lo+x) (j:=lo+(l+r) / 2) (by lia) (by lia) (by lia)
     refine Ep ⟨rfl,(l+r) / 2+1,r,rfl,by lia,by lia,by lia,fun p h2 h3=>?_,a5⟩;by_cases c3:p=lo+(l+r) / 2
     ·rw [c3];lia
     ·have:=hb p (lo+(l+r) / 2) (by lia) (by lia) (by lia)
      lia
  ·rintro c st2 ⟨rfl,l,r,rfl,a1,a2,a3,a4,a5⟩;have e:l=r:=by lia
   subst e;exact ⟨rfl,l,rfl,a2,a4,a5⟩
  ·rintro c st2 ⟨rfl,l,rfl,a2,a4,a5⟩;dsimp only;rw [moveDown'_eq];refine En<|Tn ?_
   have hbu:∀ k,(bubble b (lo+x) (lo+x - (lo+l)))[k]?=if k=lo+l then b[lo+x]? else if lo+l<k/\k<=lo+x then b[k - 1]? else b[k]?:=fun k=>by
    have:=getElem?_bubble (xs:=b) (src:=lo+x) (by lia) (lo+x - (lo+l)) (by lia) k
    rw [show lo+x - (lo+x - (lo+l))=lo+l by lia] at this;exact this
   have hR:∀ k,Rk rk (bubble b (lo+x) (lo+x - (lo+l))) k=if k=lo+l then Rk rk b (lo+x) else if lo+l<k/\k<=lo+x then Rk rk b (k - 1) else Rk rk b k:=fun k=>by
    have e:=hbu k;split
    ·rename_i c;rw [if_pos c] at e;exact yF e
    ·rename_i c;rw [if_neg c] at e;split
     ·rename_i c2;rw [if_pos c2] at e;exact yF e
     ·rename_i c2;rw [if_neg c2] at e;exact yF e
   refine Ep ⟨rfl,bubble b (lo+x)<|lo+x - (lo+l),rfl,hw.trans ⟨bubble_perm _ _ _,fun k hk=>?_⟩,fun u v h2 h3 h4=>?_,by lia⟩
   ·rw [hbu,if_neg (by lia),if_neg (by lia)]
   ·rw [hR,hR];by_cases c1:u=lo+l
    ·rw [if_pos c1];by_cases c2:v=lo+l
     ·lia
     ·rw [if_neg c2,if_pos (by lia)];exact a5 _ (by lia)<|by lia
    ·rw [if_neg c1];by_cases c3:lo+l<u/\u<=lo+x
     ·rw [if_pos c3,if_neg (by lia),if_pos (by lia)];exact hb _ _ (by lia) (by lia)<|by lia
     ·rw [if_neg c3];by_cases c2:v=lo+l
      ·rw [if_pos c2];exact a4 _ (by lia)<|by lia
      ·rw [if_neg c2];by_cases c4:lo+l<v/\v<=lo+x
       ·rw [if_pos c4];by_cases c5:u=v - 1
        ·lia
        ·exact hb _ _ (by lia) (by lia)<|by lia
       ·rw [if_neg c4];exact hb _ _ (by lia) (by lia)<|by lia
 ·rintro c st' ⟨rfl,b,rfl,hw,hb,hx⟩;rw [show max (max ok' 1) n=n by lia] at hb;exact ⟨rfl,b,rfl,hw,hb⟩
 ·rintro c st' ⟨rfl,b,rfl,hw,hb⟩;exact Ep<|q b hw hb
end
def Ci (h:Heap)(d:Addr)(es:Array Ru)(ep:Nat):Prop:=∃ o,h.get? d=FN o/\o.ExactDict/\o.data=.dict es ep
variable {d : Addr}{ep : Nat}
theorem Ci.of {h h':Heap}{es:Array Ru}(x:Ci h d es ep)(e:∀ o,h.get? d=FN o->h'.get? d=FN o):Ci h' d es ep:=by
 obtain ⟨o,g,r⟩:=x;exact ⟨o,e o g,r⟩
theorem Ci.ty {s:AP}{es:Array Ru}(x:Ci s.heap d es ep):s.TypeIs (.ref d) "dict":=by
 obtain ⟨o,g,r,_⟩:=x;exact ⟨o,g,r.1⟩
section
variable {P:Ew}{w:Em}{A:Fg}{E:Mk->AP->Prop}{s:AP}{it:Addr}{es:Array Ru}{i:Nat}
theorem Dd {Q:Mk->AP->Prop}(nd:(d==Mx)=false)(x:Ci s.heap d es ep)
  (q:Q (.ref s.heap.objs.size) { s with heap:=s.heap.push { cls:=.type "dict_keyiterator",data:=.fields #[.ref d,.int 0 0,.int es.size 0,.int ep 0] } }):Dl (Dm P w) A (pyIter (.ref d)) Q E s:=by
 have gT:=x.ty;obtain ⟨o,g,gc,gd⟩:=x;refine wpAny_pyIter_slot gT F.slot_dict_iter<|Rz F.slot_dict_iter gT F.entry_dict_iter ?_<|F.args_dict_iter_1 _
 unfold Q6.«dict.__iter__» Builtin.Dict.dictSlotNone;refine CR<|CR<|wpAny_notOrdered_dict gT ?_
 show Dl _ _ (pure (Value.ref d)) _ _ s;refine Ds ?_;show Dl _ _ (Builtin.Dict.showsAll d >>= _) _ _ s;unfold Builtin.Dict.showsAll;rw [nd,if_neg Lw];refine CR<|Ds<|CR<|wpAny_dictEntries g gd<|CR<|wpAny_dictEpoch g gd ?_
 refine CR<|Ni<|Ds ⟨_,rfl, "dict_keyiterator",_,⟨_,Hw _ rfl,rfl⟩,YZ.lookup,?_⟩
 simpa [Nf] using q
theorem agP {Q:Option Mk->AP->Prop}(gi:s.heap.IsKeyIter it d i es.size ep)(x:Ci s.heap d es ep)(hi:i<es.size)
  (q:∀ h',h'.IsKeyIter it d (i+1) es.size ep->W6 it s.heap h'->Q (FN es[i].key) { s with heap:=h' }):Dl (Dm P w) A (Ln (.ref it)) Q E s:=by
 obtain ⟨u,gu,gc,gd⟩:=id gi;obtain ⟨o,g,_,ge⟩:=x;unfold Ln;refine CR<|Wd<|Ue (name:=Tq "__next__") gi.typeIs YZ<|Rz YZ gi.typeIs F.entry_dict_keyiterator_next ?_<|F.args_dict_keyiterator_next_1 _
 refine CR<|Ds<|CR<|CR ?_
 first
  | refine CR (Yx gi.typeIs (Ds ?_))
  | refine CR (Yq gi.typeIs (Ds ?_))
 refine CR<|wpAny_fieldsOf gu gd ?_
 have ow:Builtin.Dict_items.ownsTuple "dict_keyiterator" = false:=by decide
 simp only [ow,SJ,if_false];show Dl _ _ (if (Value.ref d==Value.none)=true then _ else _) _ _ s;rw [if_neg (by exact Lw)];refine CR<|Ds<|CR<|wpAny_dictEntries g ge ?_
 rw [if_neg (by simp)];refine CR<|Ds<|CR<|wpAny_dictEpoch g ge ?_
 rw [if_neg (by simp)];refine Ds ?_;simp only [show ¬ ((i:Int)<0) from by lia,if_false,Wr,WM hi];refine CR ?_;first
  | refine CR (Yx gi.typeIs (Ds ?_))
  | refine CR (Yq gi.typeIs (Ds ?_))
 refine CR<|wpAny_isOneOf_keyiter gi.typeIs ?_
 show Dl _ _ (setField (.ref it) 1 (Nf ((i:Int)+1)) >>= _) _ _ s;refine CR<|wpAny_setField gu gd (by simp) ?_
 have g2:(s.heap.update it (Obj.mapFields (·.setIfInBounds 1 (Nf ((i:Int)+1))))).IsKeyIter it d (i+1) es.size ep:=by
  refine ⟨_,Vv _ gu<|Obj.isFreed_of_fields<|YW gd _,(Obj.cls_mapFields ..).trans gc,?_⟩;rw [YW gd];simp [Nf]
 refine CR<|M8<|CR<|wpAny_isOneOf_keyiter (s:={ s with heap:=s.heap.update it (Obj.mapFields (·.setIfInBounds 1 (Nf<|(i:Int)+1))) }) g2.typeIs ?_
 show Dl _ _ (pure es[i].key) _ _ _;exact Ds<|Ds ⟨_,rfl,Ds<|q _ g2<|Yh ..⟩
theorem zaW {Q:Option Mk->AP->Prop}(hh:A.handled=FX)(gi:s.heap.IsKeyIter it d es.size es.size ep)(x:Ci s.heap d es ep)(q:∀ h',Wg it s.heap h'->Q FX { s with heap:=h' }):Dl (Dm P w) A (Ln (.ref it)) Q E s:=by
 obtain ⟨u,gu,gc,gd⟩:=id gi;obtain ⟨o,g,_,ge⟩:=x;unfold Ln;refine CR<|Wd<|Ue (name:=Tq "__next__") gi.typeIs YZ<|Rz YZ gi.typeIs F.entry_dict_keyiterator_next ?_<|F.args_dict_keyiterator_next_1 _
 refine CR<|Ds<|CR<|CR ?_
 first
  | refine CR (Yx gi.typeIs (Ds ?_))
  | refine CR (Yq gi.typeIs (Ds ?_))
 refine CR<|wpAny_fieldsOf gu gd ?_
 have ow:Builtin.Dict_items.ownsTuple "dict_keyiterator" = false:=by decide
 simp only [ow,SJ,if_false];show Dl _ _ (if (Value.ref d==Value.none)=true then _ else _) _ _ s;rw [if_neg (by exact Lw)];refine CR<|Ds<|CR<|wpAny_dictEntries g ge ?_
 rw [if_neg (by simp)];refine CR<|Ds<|CR<|wpAny_dictEpoch g ge ?_
 rw [if_neg (by simp)];refine Ds ?_;simp only [show ¬ ((es.size:Int)<0) from by lia,if_false,Wr,Array.getElem?_eq_none (Ea es.size)];refine CR ?_;first
  | refine CR (Yx gi.typeIs (Ds ?_))
  | refine CR (Yq gi.typeIs (Ds ?_))
 show Dl _ _ (setField (.ref it) 0 .none >>= _) _ _ s;refine CR<|wpAny_setField gu gd (by simp) ?_
 show Dl _ _ (newExc (.type "StopIteration") [] >>= _) _ _ _;refine CR ?_;simp only [newExc,newTuple];refine CR<|Ni ?_<|by size_fits
 refine CR (m:=XS _ _)<|XF (a:=Value.none) (by first | rfl | (simp only [XS];rfl)) ?_
 refine Ni ?_<|by size_fits
 simp only [raiseNew];refine CR<|wpAny_handled ?_
 rw [show A.in1.handled=FX from hh];refine CR<|Ds<|wpAny_throw ?_
 refine CR<|YJ (b:=true) (T := "StopIteration") ⟨_,Hw _ rfl,rfl⟩ isSubtype_stop ?_
 exact Ds<|q _<|((Yh ..).extBut.push _).push _
theorem wW (hh:A.handled=FX)(I d:Addr)(ne:d≠I)(es:Array Ru)(ep:Nat):
  Walks P w A I [I,d] [I] es.size (fun i v=>∃ h:i<es.size,v=es[i].key) (fun i h=>h.IsKeyIter I d i es.size ep/\Ci h d es ep) where
 sub:=fun b hb=>by simp at hb;simp [hb]
 frame:=fun i h h' st k=>⟨by obtain ⟨⟨o,g,r⟩,_⟩:=st;exact ⟨o,k I (by simp) o g,r⟩,st.2.of fun o e=>k d (by simp) o e⟩
 item:=fun i s Q E hi st q=>agP st.1 st.2 hi fun h' g sb=>q _ h' s.toks ⟨hi,rfl⟩ ⟨g,st.2.of fun o e=>sb.extBut d o ne e⟩ fun b o hb e=>sb.extBut b o (fun z=>hb (by simp [z])) e
 done:=fun s Q E st q=>zaW hh st.1 st.2 fun h' eb=>q h' s.toks fun b o hb e=>eb b o (fun z=>hb (by simp [z])) e
 self:=fun _ _ _ _ st q=>wpAny_pyIter_keyiter st.1 q
theorem agX (nd:(d==Mx)=false):PySem.W.KdlSrc P w "dict" d d es.size (fun i v=>∃ h:i<es.size,v=es[i].key) (fun h=>Ci h d es ep) where
 type:=fun _ x=>x.ty
 there:=fun _ x=>by obtain ⟨o,g,_⟩:=x;exact ⟨Fj g,Fj g⟩
 keep:=fun _ _ x k=>x.of fun o e=>k d (.inl rfl) o e
 notList:=by decide
 notTuple:=by decide
 hint:=fun _ _ _ _ x q=>PySem.W.kdl_hint_dict x.ty q
 iter:=fun _ s hh x=>by
  have lt:d<s.heap.objs.size:=by obtain ⟨o,g,_⟩:=x;exact Fj g
  exact ⟨_,_,fun _ _ q=>Dd nd x q,wW hh _ d (HX lt) es ep,⟨_,Hw _ rfl,rfl,rfl⟩,x.of fun o e=>G6 _ e⟩
theorem oA {Q:List Mk->AP->Prop}(hh:A.handled=FX)(nd:(d==Mx)=false)(x:Ci s.heap d es ep)(hz:es.size<=G7)
  (q:∀ h' tk,(∀ b o,s.heap.get? b=FN o->h'.get? b=FN o)->s.heap.objs.size<h'.objs.size->Q (es.toList.map (·.key)) { s with heap:=h',toks:=tk }):Dl (Dm P w) A (collect (.ref d)) Q E s:=by
 have lt:d<s.heap.objs.size:=by obtain ⟨o,g,_⟩:=x;exact Fj g
 unfold collect;refine CR<|wpAny_runValue<|RG F.entry_proto_collect ?_
 rw [Rg F.plain_proto_collect _];show Dl _ A.in1 (newList [] >>= fun l=>again (.builtin "list.__iadd__" ⟨[l,.ref d],[]⟩)) _ _ s;refine CR<|Ni<|Ds ⟨Oa F.plain_list_iadd _,RG F.entry_list_iadd ?_⟩
 rw [Rg F.plain_list_iadd _];have g0:(s.heap.push { cls:=.type "list",data:=.seq ([]:List Mk).toArray }).get? s.heap.objs.size=FN { cls:=.type "list",data:=.seq ([]:List Mk).toArray }:=Hw _ rfl;show Dl _ A.in1 (Z0 (.ref s.heap.objs.size) (.ref d) (.ref s.heap.objs.size)) _ _ _;have fin:∀ (f:Flow) (s':AP),(f=.ret (.ref s.heap.objs.size)/\∃ h' tk acc c,s' = { s with heap:=h',toks:=tk }/\(∀ b o,b≠s.heap.objs.size->(s.heap.push { cls:=.type "list",data:=.seq ([]:List Mk).toArray }).get? b=FN o->h'.get? b=FN o)/\h'.get? s.heap.objs.size=FN { cls:=.type "list",dict:=FX,data:=.seq acc c,slots:=#[] }/\ItemsOf (fun i v=>∃ h:i<es.size,v=es[i].key) acc es.size) ->
   ∃ v,f=.ret v/\Dl (Dm P w) A (match v with
    | Value.ref a=>do
     let u <-load a
     match u.data with
     | Data.seq xs _=>pure xs.toList
     | _=>unsupported "internal:collect"
    | _=>unsupported "internal:collect") Q E s':=by
  rintro f s' ⟨rfl,h',tk,acc,c,rfl,k,e,it⟩;refine ⟨_,rfl,?_⟩;show Dl _ A (load s.heap.objs.size >>= _) _ _ _;refine CR<|wpAny_load e ?_
  have ea:acc.toList=es.toList.map (·.key):=by
   refine List.ext_getElem? fun j=>?_;rw [Gy,Vx,Vx];by_cases hj:j<es.size
   ·have hj':j<acc.size:=by rw [it.1];exact hj
    obtain ⟨_,ev⟩:=it.2 j acc[j] (WM hj');rw [WM hj',WM hj,ev];rfl
   ·rw [Array.getElem?_eq_none (by rw [it.1];lia),Array.getElem?_eq_none (by lia)];rfl
  refine Ds ?_;rw [ea];exact q h' tk (fun b o g=>k b o (HX<|Fj g)<|G6 _ g)<|Fj e
 refine Mj (PySem.W.kdl_extend (s:={ s with heap:=s.heap.push { cls:=.type "list",data:=.seq ([]:List Mk).toArray } }) (R:=fun r s'=>match r with
  | .ok f=>f=.ret (.ref s.heap.objs.size)/\∃ h' tk acc c,s' = { s with heap:=h',toks:=tk }/\(∀ b o,b≠s.heap.objs.size->(s.heap.push { cls:=.type "list",data:=.seq ([]:List Mk).toArray }).get? b=FN o->h'.get? b=FN o)/\h'.get? s.heap.objs.size=FN { cls:=.type "list",dict:=FX,data:=.seq acc c,slots:=#[] }/\ItemsOf (fun i v=>∃ h:i<es.size,v=es[i].key) acc es.size
  | .error _=>False) (agX (es:=es) (ep:=ep) nd) hh (x.of fun o e=>G6 _ e) s.heap.objs.size (Lp lt) (Lp lt) _ 0 g0 (fun h' tk acc c k e it=>⟨rfl,h',tk,acc,c,rfl,k,e,it⟩) hz) (fun r s' hr=>?_) fun e s' hr=>hr.elim
 cases r with
 | done f=>
  obtain ⟨v,rfl,q'⟩:=fin f s' hr;exact q'
 | again c=>
  refine ⟨hr.1,codeAny_mono hr.2 fun r s' hr=>?_⟩;cases r with
  | error e=>exact hr.elim
  | ok f=>
   obtain ⟨v,rfl,q'⟩:=fin f s' hr;exact q'
end
def gal:Bool->Dz->Array Dz->Nat->Nat->Nat->StateT Fd Sem (Option Nat):=sortPriv% PySem.Builtin.gallop
section
variable {P:Ew}{w:Em}{A:Fg}{E:Mk->AP->Prop}{s:AP}{rk:Mk->Nat}
def J8 (rk:Mk->Nat)(left:Bool)(key:Dz)(a:Array Dz)(i:Nat):Bool:=if left then decide (Rk rk a i<rk key.1) else !decide (rk key.1<Rk rk a i)
def aa1 (left:Bool)(key:Dz)(a:Array Dz)(base i:Nat):StateT Fd Sem (Option Bool):=elem' a (base+i) >>= fun x=>if left=true then lt' x key else lt' key x >>= fun r=>pure (r.map (! ·))
theorem T3 (C:NK P w A s kd rk good){left:Bool}{key:Dz}{base i:Nat}{Q:Option Bool->Fd->Prop}(hk:Ku st=kd)(ka:∀ p∈a.toList,good p.1)(kg:good key.1)(hi:base+i<a.size)(q:Q (FN (J8 rk left key a (base+i))) st):wpS (Dm P w) A E s (aa1 left key a base i) Q st:=by
 refine En<|cH hi ?_
 have gi:good a[base+i].1:=ka _ (by simp);unfold J8 at q;rw [fG hi] at q;cases left with
 | true=>exact w_lt C hk gi kg q
 | false=>exact En (w_lt C hk kg gi (Ep q))
theorem iQ {α : Type}[Decidable c]{m1 m2:StateT Fd Sem α}{Q:α->Fd->Prop}(h1:wpS (Dm P w) A E s m1 Q st)(h2:wpS (Dm P w) A E s m2 Q st):wpS (Dm P w) A E s (if c then m1 else m2) Q st:=by
 split
 ·exact h1
 ·exact h2
theorem T5 {α : Type}[Decidable c]{m1 m2:StateT Fd Sem α}{Q:α->Fd->Prop}(h2:¬ c->wpS (Dm P w) A E s m2 Q st)(h1:c->wpS (Dm P w) A E s m1 Q st):wpS (Dm P w) A E s (if c then m1 else m2) Q st:=by
 split
 ·exact h1 ‹_›
 ·exact h2 ‹_›
theorem NT {α : Type}{x y:Nat}{m1 m2:StateT Fd Sem α}{Q:α->Fd->Prop}(h1:x=y->wpS (Dm P w) A E s m1 Q st)(h2:x≠y->wpS (Dm P w) A E s m2 Q st):wpS (Dm P w) A E s (if (x==y)=true then m1 else m2) Q st:=T5 (fun h=>h2 fun e=>h (beq_iff_eq.mpr e)) fun h=>h1 (beq_iff_eq.mp h)
theorem ifD {α : Type}[Decidable c]{m1 m2:StateT Fd Sem α}{Q:α->Fd->Prop}(h1:c->wpS (Dm P w) A E s m1 Q st)(h2:¬ c->wpS (Dm P w) A E s m2 Q st):wpS (Dm P w) A E s (if decide c=true then m1 else m2) Q st:=T5 (fun h=>h2 fun e=>h (decide_eq_true e)) fun h=>h1 (of_decide_eq_true h)
theorem acJ {γ : Type}{G:γ->Prop}{p:Prop}(f:(∀ z,G z)->p)(h:∀ z,G z):p:=f h
theorem Qa {α : Type}[Decidable c]{m1 m2:StateT Fd Sem α}{Q:α->Fd->Prop}(h2:wpS (Dm P w) A E s m2 Q st)(h1:wpS (Dm P w) A E s m1 Q st):wpS (Dm P w) A E s (if c then m1 else m2) Q st:=iQ h1 h2
theorem T4 {α : Type}[Decidable c]{m1 m2:StateT Fd Sem α}{Q:α->Fd->Prop}(h:c)(x:wpS (Dm P w) A E s m1 Q st):wpS (Dm P w) A E s (if c then m1 else m2) Q st:=by rw [if_pos h];exact x
theorem Og {α : Type}[Decidable c]{m1 m2:StateT Fd Sem α}{Q:α->Fd->Prop}(h:¬ c)(x:wpS (Dm P w) A E s m2 Q st):wpS (Dm P w) A E s (if c then m1 else m2) Q st:=by rw [if_neg h];exact x
structure acr (B:Nat->Bool) (n:Nat) (st:Fd) (x:Nat) (c:Option (Option Nat)×Nat×Nat) (st':Fd):Prop where
 s:st'=st
 e:c.1=FX
 a:c.2.1<=c.2.2
 b:c.2.2<=n
 d:c.2.2 - c.2.1<=n - x
 lo:∀ i,i<c.2.1->B i=true
 hi:∀ i,c.2.2<=i->i<n->B i=false
theorem adM {l r n x:Nat}(h:¬ l>=r)(d:r - l<=n - x):l<=l+(r - l) / 2/\l+(r - l) / 2<r/\r - (l+(r - l) / 2+1)<=n - (x+1)/\l+(r - l) / 2 - l<=n - (x+1):=by
 have h:=Nat.lt_of_not_le h;have k:(r - l) / 2<r - l:=Nat.div_lt_self (Nat.sub_pos_of_lt h) (by decide);generalize (r - l) / 2=z at *;exact ⟨Wo _ _,Nat.add_lt_of_lt_sub' k,by lia,by lia⟩
theorem Xg (C:NK P w A s kd rk good){α : Type}{left:Bool}{key:Dz}{base n:Nat}{Q:α->Fd->Prop}{f:Nat->Option (Option Nat)×Nat×Nat->StateT Fd Sem (ForInStep (Option (Option Nat)×Nat×Nat))}{K:Option (Option Nat)×Nat×Nat->Option Bool->StateT Fd Sem (ForInStep (Option (Option Nat)×Nat×Nat))}{fin:Option (Option Nat)×Nat×Nat->StateT Fd Sem α}(hk:Ku st=kd)(ka:∀ p∈a.toList,good p.1)(kg:good key.1)(hz:base+n<=a.size)
  (hf:∀ x c,f x c=if c.2.1>=c.2.2 then pure (.done (FX,c.2.1,c.2.2)) else aa1 left key a base (c.2.1+(c.2.2 - c.2.1) / 2) >>= K c)
  (h1:∀ c,K c (FN true)=pure (.yield (FX,c.2.1+(c.2.2 - c.2.1) / 2+1,c.2.2))) (h2:∀ c,K c (FN false)=pure (.yield (FX,c.2.1,c.2.1+(c.2.2 - c.2.1) / 2)))
  (mono:∀ i j,i<=j->j<n->J8 rk left key a (base+j)=true->J8 rk left key a (base+i)=true) (anti:∀ i j,i<=j->j<n->J8 rk left key a (base+i)=false->J8 rk left key a (base+j)=false)
  (b1:lo<=hi) (b2:hi<=n) (b3:∀ i,i<lo->J8 rk left key a (base+i)=true) (b4:∀ i,hi<=i->i<n->J8 rk left key a (base+i)=false)
  (q:∀ m,m<=n->(∀ i,i<m->J8 rk left key a (base+i)=true)->(∀ i,m<=i->i<n->J8 rk left key a (base+i)=false)->wpS (Dm P w) A E s (fin (FX,m,m)) Q st):wpS (Dm P w) A E s (forIn [0:n] (FX,lo,hi) f >>= fin) Q st:=by
 refine En<|Nt (Ny (I:=acr (fun i=>J8 rk left key a<|base+i) n st) (Q:=acr (fun i=>J8 rk left key a<|base+i) n st n) (fun x c st' _ _ g=>?_) (fun c st' g=>Nat.max_eq_right (Jk n) ▸ g) ⟨rfl,rfl,b1,b2,Eb (Uw _ _) b2,b3,b4⟩) fun c st' g=>?_
 ·rw [hf];cases g.s
  refine T5 (fun k=>?_) fun k=>Ep ⟨rfl,rfl,g.a,g.b,Nat.sub_eq_zero_of_le k ▸ Jk _,g.lo,g.hi⟩;have ⟨m1,m2,m3,m4⟩:=adM k g.d;have m5:=Hl m2 g.b;refine En<|T3 C hk ka kg (Hl (Nat.add_lt_add_left m5 _) hz) ?_
  cases hm:J8 rk left key a (base+(c.2.1+(c.2.2 - c.2.1) / 2)) with
  | true=>rw [h1];exact Ep ⟨rfl,rfl,m2,g.b,m3,fun i hi=>mono i _ (Nat.le_of_lt_succ hi) m5 hm,g.hi⟩
  | false=>rw [h2];exact Ep ⟨rfl,rfl,m1,Mv m5,m4,g.lo,fun i u v=>anti _ i u v hm⟩
 ·obtain ⟨r,l,m⟩:=c;cases g.e
  cases g.s
  cases Nat.le_antisymm g.a (Nat.le_of_sub_eq_zero (Nat.le_zero.mp (Nat.sub_self n ▸ g.d)))
  exact q _ g.b g.lo g.hi
theorem dbl {x o:Nat}(h:x<o):o<2*o+1/\x+1<2*o+1:=by lia
structure ac4 (B:Nat->Bool) (v:Bool) (mx:Nat) (st:Fd) (x:Nat) (c:Option (Option Nat)×Nat×Nat) (st':Fd):Prop where
 s:st'=st
 e:c.1=FX
 a:c.2.1<c.2.2
 b:x<c.2.2
 d:c.2.1<mx
 h:B c.2.1=v
theorem Zm (C:NK P w A s kd rk good){α : Type}{left v:Bool}{key:Dz}{base n mx:Nat}(g:Nat->Nat){Q:α->Fd->Prop}{f:Nat->Option (Option Nat)×Nat×Nat->StateT Fd Sem (ForInStep (Option (Option Nat)×Nat×Nat))}{K:Option (Option Nat)×Nat×Nat->Option Bool->StateT Fd Sem (ForInStep (Option (Option Nat)×Nat×Nat))}{fin:Option (Option Nat)×Nat×Nat->StateT Fd Sem α}(hk:Ku st=kd)(ka:∀ p∈a.toList,good p.1)(kg:good key.1)(hz:∀ o,o<mx->base+g o<a.size)
  (hf:∀ x c,f x c=if c.2.2>=mx then pure (.done (FX,c.2.1,c.2.2)) else aa1 left key a base (g c.2.2) >>= K c)
  (h1:∀ c,K c (FN v)=pure (.yield (FX,c.2.2,2*c.2.2+1))) (h2:∀ c,K c (FN !v)=pure (.done (FX,c.2.1,c.2.2)))
  (h0:0<mx) (hn:mx<=n) (hB:J8 rk left key a (base+g 0)=v)
  (q:∀ l o,l<o->l<mx->J8 rk left key a (base+g l)=v->(mx<=o\/J8 rk left key a (base+g o) = !v)->wpS (Dm P w) A E s (fin (FX,l,o)) Q st):wpS (Dm P w) A E s (forIn [0:n] (FX,0,1) f >>= fin) Q st:=by
 refine En<|Nt (Ny (I:=ac4 (fun i=>J8 rk left key a<|base+g i) v mx st) (Q:=fun c s=>ac4 (fun i=>J8 rk left key a<|base+g i) v mx st 0 c s/\(mx<=c.2.2\/J8 rk left key a (base+g c.2.2) = !v)) (fun x c st' _ _ G=>?_) (fun c st' g=>?_) ⟨rfl,rfl,Nat.one_pos,Nat.one_pos,h0,hB⟩) ?_
 ·rw [hf];cases G.s
  have p:=Nat.zero_lt_of_lt G.b;refine T5 (fun k=>En<|T3 C hk ka kg (hz _<|Nat.lt_of_not_le k) ?_) fun k=>Ep ⟨⟨rfl,rfl,G.a,p,G.d,G.h⟩,.inl k⟩;by_cases e:J8 rk left key a (base+g c.2.2)=v
  ·rw [e,h1];exact Ep ⟨rfl,rfl,(dbl G.b).1,(dbl G.b).2,Nat.lt_of_not_le k,e⟩
  ·have e:=Bool.eq_not.mpr e;rw [e,h2];exact Ep ⟨⟨rfl,rfl,G.a,p,G.d,G.h⟩,.inr e⟩
 ·exact ⟨⟨g.s,g.e,g.a,Nat.zero_lt_of_lt g.b,g.d,g.h⟩,.inl<|Mv<|Rj (Eb hn<|YM 0 n) g.b⟩
 ·rintro ⟨r,l,o⟩ st' ⟨g,h⟩;cases g.e
  cases g.s
  exact q _ _ g.a g.d g.h h
theorem Ei (C:NK P w A s kd rk good){left:Bool}{key:Dz}{base n hint:Nat}{Q:Option Nat->Fd->Prop}(hk:Ku st=kd)(ka:∀ p∈a.toList,good p.1)(kg:good key.1)(hz:base+n<=a.size)(hh:hint<n)
  (mono:∀ i j,i<=j->j<n->J8 rk left key a (base+j)=true->J8 rk left key a (base+i)=true)
  (q:∀ m,m<=n->(∀ i,i<m->J8 rk left key a (base+i)=true)->(∀ i,m<=i->i<n->J8 rk left key a (base+i)=false)->Q (FN m) st):wpS (Dm P w) A E s (gal left key a base n hint) Q st:=by
 have anti:∀ i j,i<=j->j<n->J8 rk left key a (base+i)=false->J8 rk left key a (base+j)=false:=fun i j h1 h2 h3=>by
  cases e:J8 rk left key a (base+j) with
  | false=>rfl
  | true=>rw [mono i j h1 h2 e] at h3;cases h3
 have hz' {i} (h:i<n):base+i<a.size:=Hl (Nat.add_lt_add_left h _) hz;refine En<|T3 C hk ka kg (hz' hh) ?_
 cases hB:J8 rk left key a (base+hint) with
 | true=>
  refine T4 rfl<|Zm C (v:=true) (mx:=n - hint) (fun o=>hint+o) hk ka kg (fun o h=>hz'<|Nat.add_lt_of_lt_sub' h) (fun _ _=>rfl) (fun _=>rfl) (fun _=>rfl) (Nat.sub_pos_of_lt hh) (Uw _ _) hB fun l o a1 a3 a4 a5=>?_
  refine Xg C hk ka kg hz (fun _ _=>rfl) (fun _=>rfl) (fun _=>rfl) mono anti (lo:=hint+l+1) (hi:=hint+min o (n - hint)) (by lia) (by lia) (fun i hi=>mono i (hint+l) (Nat.le_of_lt_succ hi) (Nat.add_lt_of_lt_sub' a3) a4) (fun i h1 h2=>?_) fun m u1 u2 u3=>Ep<|q m u1 u2 u3
  rcases a5 with c | c
  ·lia
  ·exact anti (hint+o) i (by lia) h2 c
 | false=>
  refine Og Lw<|Zm C (v:=false) (mx:=hint+1) (fun o=>hint - o) hk ka kg (fun o h=>hz'<|Rj (Uw _ _) hh) (fun _ _=>rfl) (fun _=>rfl) (fun _=>rfl) (Nat.succ_pos _) hh hB fun l o a1 a3 a4 a5=>?_
  refine Xg C hk ka kg hz (fun _ _=>rfl) (fun _=>rfl) (fun _=>rfl) mono anti (lo:=hint+1 - min o (hint+1)) (hi:=hint - l) (by lia) (Eb (Uw _ _)<|Mv hh) (fun i hi=>?_) (fun i h1 h2=>anti (hint - l) i h1 h2 a4) fun m u1 u2 u3=>Ep<|q m u1 u2 u3
  rcases a5 with c | c
  ·lia
  ·exact mono i (hint - o) (by lia) (by lia) c
end
variable {key : Dz}
def mLo:Array Dz->Array Dz->StateT Fd Sem (Array Dz):=sortPriv% PySem.Builtin.mergeLo
def mHi:Array Dz->Array Dz->StateT Fd Sem (Array Dz):=sortPriv% PySem.Builtin.mergeHi
def T6:Nat->StateT Fd Sem Unit:=sortPriv% PySem.Builtin.setMinGallop
section
variable {rk:Mk->Nat}
def SL (rk:Mk->Nat)(l:List Dz):Prop:=l.Pairwise fun x y=>rk x.1<rk y.1
def Be (rk:Mk->Nat)(xs ys:List Dz):Prop:=∀ x∈xs,∀ y∈ys,rk x.1<rk y.1
def ML (rk:Mk->Nat)(A B out al bl:List Dz):Prop:=∃ a1 b1,A=a1++al/\B=b1++bl/\out.Perm (a1++b1)/\SL rk out/\Be rk out al/\Be rk out bl
def N8 (rk:Mk->Nat)(A B r:List Dz):Prop:=r.Perm (A++B)/\SL rk r
theorem ML.swap {A B out al bl:List Dz}(h:ML rk A B out al bl):ML rk B A out bl al:=by
 obtain ⟨a1,b1,e1,e2,p,s,q1,q2⟩:=h;exact ⟨b1,a1,e2,e1,p.trans List.perm_append_comm,s,q2,q1⟩
theorem ML.pA {A B out xs al bl:List Dz}(sa:SL rk A)(h:ML rk A B out (xs++al) bl)(hx:Be rk xs bl):ML rk A B (out++xs) al bl:=by
 obtain ⟨a1,b1,e1,e2,p,s,q1,q2⟩:=h;have sx:SL rk (xs++al):=by
  unfold SL at sa;rw [e1,S8] at sa;exact sa.2.1
 unfold SL at sx;rw [S8] at sx;refine ⟨a1++xs,b1,by rw [e1,Ri],e2,?_,?_,?_,?_⟩
 ·refine (p.append_right xs).trans ?_;rw [Ri,Ri];exact List.Perm.append_left _ List.perm_append_comm
 ·unfold SL;rw [S8];exact ⟨s,sx.1,fun x hx y hy=>q1 x hx y<|N7 _ hy⟩
 ·intro x hx y hy;rcases Mr.mp hx with hx | hx
  ·exact q1 x hx y<|S9 _ hy
  ·exact sx.2.2 x hx y hy
 ·intro x hx' y hy;rcases Mr.mp hx' with hx' | hx'
  ·exact q2 x hx' y hy
  ·exact hx x hx' y hy
theorem ML.pB {A B out xs al bl:List Dz}(sb:SL rk B)(h:ML rk A B out al (xs++bl))(hx:Be rk xs al):ML rk A B (out++xs) al bl:=(h.swap.pA sb hx).swap
theorem ML.fin {A B out al:List Dz}(sa:SL rk A)(h:ML rk A B out al []):N8 rk A B (out++al):=by
 have h:ML rk A B out (al++[]) []:=by rw [V4];exact h
 obtain ⟨a1,b1,e1,e2,p,s,_⟩:=h.pA sa fun _ _ _ h=>(nomatch h)
 rw [V4] at e1 e2;rw [e1,e2];exact ⟨p,s⟩
theorem ML.fin2 {A B out al bl:List Dz}(sa:SL rk A)(sb:SL rk B)(h:ML rk A B out al bl)(hx:Be rk bl al):N8 rk A B (out++bl++al):=by
 have h:ML rk A B out al (bl++[]):=by rw [V4];exact h
 exact (h.pB sb hx).fin sa
end
variable {B : List Dz}
section
variable {P:Ew}{w:Em}{A:Fg}{E:Mk->AP->Prop}{s:AP}{rk:Mk->Nat}
def iT (st st':Fd):Prop:=Dy st'=Dy st/\Ku st'=Ku st/\failedOf st'=failedOf st/\Jx st'=Jx st
theorem iT.refl (st:Fd):iT st st:=⟨rfl,rfl,rfl,rfl⟩
theorem iT.trans {a b c:Fd}(h:iT a b)(g:iT b c):iT a c:=⟨g.1.trans h.1,g.2.1.trans h.2.1,g.2.2.1.trans h.2.2.1,g.2.2.2.trans h.2.2.2⟩
theorem vh {g:Nat}{Q:Unit->Fd->Prop}(q:∀ st',iT st st'->Q () st'):wpS (Dm P w) A E s (T6 g) Q st:=Tn (q _ (by cases st;exact ⟨rfl,rfl,rfl,rfl⟩))
structure Two (rk:Mk->Nat) (good:Mk->Prop) (a b:Array Dz):Prop where
 sa:SL rk a.toList
 sb:SL rk b.toList
 ga:∀ p∈a.toList,good p.1
 gb:∀ p∈b.toList,good p.1
 ne:∀ x∈a.toList,∀ y∈b.toList,rk x.1≠rk y.1
theorem RK {i:Nat}(h:i<a.size):a.toList.drop i=a[i]::a.toList.drop (i+1):=by
 rw [Vd (by simpa using h)];simp
theorem abE (a:Array Dz)(i k:Nat)(h:i+k<=a.size):a.toList.drop i=(a.extract i (i+k)).toList++a.toList.drop (i+k):=by
 rw [Yu];have e:i+k - i=k:=by lia
 simp only [ZK,e];rw [<-List.drop_drop,Ye]
theorem tO (a:Array Dz)(i:Nat):(a.extract i a.size).toList=a.toList.drop i:=by
 rw [Yu,ZK,Vz (by simp)]
theorem ext_get {i k:Nat}{x:Dz}(h:i+k<=a.size)(hx:x∈(a.extract i (i+k)).toList):∃ j,j<k/\∃ hj:i+j<a.size,x=a[i+j]:=by
 obtain ⟨j,hj,e⟩:=Array.mem_iff_getElem.mp (Array.mem_def.mpr hx);have hj':j<k:=by simp at hj;lia
 exact ⟨j,hj',by lia,by rw [<-e];simp⟩
theorem gB {i:Nat}{x:Dz}(hx:x∈a.toList.drop i):∃ j,i<=j/\∃ hj:j<a.size,x=a[j]:=by
 obtain ⟨k,hk,e⟩:=RD.mp hx;rw [List.length_drop] at hk;refine ⟨i+k,by lia,by simp at hk;lia,?_⟩;rw [<-e,List.getElem_drop];simp
theorem SL.lt (h:SL rk a.toList){i j:Nat}(hij:i<j)(hj:j<a.size):rk (a[i]'(by omega)).1<rk a[j].1:=by
 have:=YS.mp h i j (by simp;lia) (by simpa using hj) hij
 simpa using this
theorem SL.le (h:SL rk a.toList){i j:Nat}(hij:i<=j)(hj:j<a.size):rk (a[i]'(by omega)).1<=rk a[j].1:=by
 rcases Nat.lt_or_ge i j with c | c
 ·exact Mv<|h.lt c hj
 ·have:i=j:=by lia
  subst this;exact Ea _
structure LI (rk:Mk->Nat) (a b out:Array Dz) (ia ib:Nat):Prop where
 ml:ML rk a.toList b.toList out.toList (a.toList.drop ia) (b.toList.drop ib)
 ia:ia+1<a.size
 ib:ib<b.size
def DK (rk:Mk->Nat)(a b:Array Dz):Prop:=∀ (h:0<a.size),∀ y∈b.toList,rk y.1<rk (a[a.size - 1]).1
theorem j4 (out:Array Dz)(x:Dz):(out.push x).toList=out.toList++[x]:=by simp
theorem ZC {out:Array Dz}{ia ib:Nat}(T:Two rk good a b)(h:ML rk a.toList b.toList out.toList (a.toList.drop ia) (b.toList.drop ib))(hi:ia<a.size)(hx:∀ y∈b.toList.drop ib,rk a[ia].1<rk y.1):ML rk a.toList b.toList (out.push a[ia]).toList (a.toList.drop (ia+1)) (b.toList.drop ib):=by
 rw [j4];refine ML.pA T.sa (xs:=[a[ia]]) ?_ fun x h y hy=>?_
 ·rw [List.singleton_append,<-RK hi];exact h
 ·rw [K5.mp h];exact hx y hy
theorem Ud {out:Array Dz}{ia ib:Nat}(T:Two rk good a b)(h:ML rk a.toList b.toList out.toList (a.toList.drop ia) (b.toList.drop ib))(hi:ib<b.size)(hx:∀ y∈a.toList.drop ia,rk b[ib].1<rk y.1):ML rk a.toList b.toList (out.push b[ib]).toList (a.toList.drop ia) (b.toList.drop (ib+1)):=by
 rw [j4];refine ML.pB T.sb (xs:=[b[ib]]) ?_ fun x h y hy=>?_
 ·rw [List.singleton_append,<-RK hi];exact h
 ·rw [K5.mp h];exact hx y hy
theorem abk {out:Array Dz}{ia ib k:Nat}(T:Two rk good a b)(h:ML rk a.toList b.toList out.toList (a.toList.drop ia) (b.toList.drop ib))(hi:ia+k<=a.size)(hx:Be rk (a.extract ia (ia+k)).toList (b.toList.drop ib)):ML rk a.toList b.toList (out++a.extract ia (ia+k)).toList (a.toList.drop (ia+k)) (b.toList.drop ib):=by
 rw [Tw];refine ML.pA T.sa ?_ hx;rw [<-abE a ia k hi];exact h
theorem aax {out:Array Dz}{ia ib k:Nat}(T:Two rk good a b)(h:ML rk a.toList b.toList out.toList (a.toList.drop ia) (b.toList.drop ib))(hi:ib+k<=b.size)(hx:Be rk (b.extract ib (ib+k)).toList (a.toList.drop ia)):ML rk a.toList b.toList (out++b.extract ib (ib+k)).toList (a.toList.drop ia) (b.toList.drop (ib+k)):=by
 rw [Tw];refine ML.pB T.sb ?_ hx;rw [<-abE b ib k hi];exact h
theorem qp {out:Array Dz}{ia ib:Nat}(T:Two rk good a b)(h:ML rk a.toList b.toList out.toList (a.toList.drop ia) (b.toList.drop ib))(e:ib=b.size):N8 rk a.toList b.toList (out++a.extract ia a.size++b.extract ib b.size).toList:=by
 have eb:b.toList.drop ib=[]:=by rw [e];simp
 rw [Tw,Tw,tO,tO,eb,V4];rw [eb] at h;exact h.fin T.sa
theorem uh {out:Array Dz}{ia ib:Nat}(T:Two rk good a b)(hL:DK rk a b)(h:ML rk a.toList b.toList out.toList (a.toList.drop ia) (b.toList.drop ib))(e:ia+1=a.size):N8 rk a.toList b.toList (out++b.extract ib b.size++a.extract ia a.size).toList:=by
 rw [Tw,Tw,tO,tO];refine h.fin2 T.sa T.sb fun x hx y hy=>?_;rw [RK (by lia)] at hy;have hn:a.toList.drop (ia+1)=[]:=by rw [e];simp
 rw [hn,K5] at hy;rw [hy];have:=hL (by lia) x (List.mem_of_mem_drop hx)
 have ei:a.size - 1=ia:=by lia
 simpa only [ei] using this
theorem yI {i:Nat}(hi:i<a.size):J8 rk true key a i=decide (rk a[i].1<rk key.1):=by unfold J8;rw [if_pos rfl,fG hi]
theorem z6 {i:Nat}(hi:i<a.size):J8 rk false key a i = !decide (rk key.1<rk a[i].1):=by unfold J8;rw [if_neg Lw,fG hi]
theorem cu {i:Nat}(h:i<a.size):a[i]∈a.toList:=by simp
theorem DW {α : Type}{out:Array Dz}{ia ib:Nat}[Decidable c]{E1 E2 E3:Dz->StateT Fd Sem α}{Q:α->Fd->Prop}(T:Two rk good a b)(hL:DK rk a b)(h:ML rk a.toList b.toList out.toList (a.toList.drop ia) (b.toList.drop ib))(h1:ia+1<a.size)(h2:ib<b.size)
  (hx:∀ y∈b.toList.drop ib,rk (a[ia]'(by omega)).1<rk y.1)
  (q1:∀ x,N8 rk a.toList b.toList (out.push x++b.extract ib b.size++a.extract (ia+1) a.size).toList->wpS (Dm P w) A E s (E1 x) Q st)
  (q2:∀ x,LI rk a b (out.push x) (ia+1) ib->wpS (Dm P w) A E s (E2 x) Q st) (q3:∀ x,LI rk a b (out.push x) (ia+1) ib->wpS (Dm P w) A E s (E3 x) Q st) :
  wpS (Dm P w) A E s (elem' a ia >>= fun x=>if (ia+1+1==a.size)=true then E1 x else if c then E2 x else E3 x) Q st:=by
 refine En<|cH (by lia) ?_
 have m:=ZC T h (by lia) hx;by_cases e:ia+1+1=a.size
 ·exact T4 (by simpa using e)<|q1 _<|uh T hL m e
 ·refine Og (by simpa using e) ?_;have li:LI rk a b (out.push (a[ia]'(by lia))) (ia+1) ib:=⟨m,by lia,h2⟩
  exact iQ (q2 _ li)<|q3 _ li
theorem ZF (C:NK P w A s kd rk good){α : Type}{out:Array Dz}{ia ib:Nat}{D1:Dz->StateT Fd Sem α}{K:Dz->Dz->Option Nat->StateT Fd Sem α}{Q:α->Fd->Prop}(T:Two rk good a b)(h:ML rk a.toList b.toList out.toList (a.toList.drop ia) (b.toList.drop ib))(h1:ia+1<a.size)(h2:ib<b.size)(hk:Ku st=kd)
  (hx:∀ y∈a.toList.drop ia,rk b[ib].1<rk y.1)
  (q1:∀ y,N8 rk a.toList b.toList (out.push y++a.extract ia a.size++b.extract (ib+1) b.size).toList->wpS (Dm P w) A E s (D1 y) Q st)
  (q2:∀ x y k,ib+1<b.size->ib+1+k<=b.size->ML rk a.toList b.toList (out.push y++b.extract (ib+1) (ib+1+k)).toList (a.toList.drop ia) (b.toList.drop (ib+1+k))->(∀ z∈b.toList.drop (ib+1+k),rk (a[ia]'(by omega)).1<rk z.1)->wpS (Dm P w) A E s (K y x (FN k)) Q st) :
  wpS (Dm P w) A E s (elem' b ib >>= fun y=>if (ib+1==b.size)=true then D1 y else elem' a ia >>= fun x=>gal true x b (ib+1) (b.size - (ib+1)) 0 >>= K y x) Q st:=by
 refine En<|cH h2 ?_
 have m:=Ud T h h2 hx;by_cases c:ib+1=b.size
 ·exact T4 (by simpa using c)<|q1 _<|qp T m c
 ·refine Og (by simpa using c) ?_;have ha:ia<a.size:=by lia
  refine En<|cH ha ?_
  refine En<|Ei C hk T.gb (T.ga _<|cu ha) (by lia) (by lia) (fun i j h3 h4 h5=>?_) fun k hk1 hk2 hk3=>?_
  ·rw [yI (by lia)] at h5 |-
   have:=T.sb.le (i:=ib+1+i) (j:=ib+1+j) (by lia) (by lia)
   simp at h5 |-
   lia
  ·refine q2 _ _ k (by lia) (by lia) (aax (k:=k) T m (by lia) fun x hx y hy=>?_) fun y hy=>?_
   ·obtain ⟨j,h3,h4,rfl⟩:=ext_get (by lia) hx;obtain ⟨i,h5,h6,rfl⟩:=gB hy;have:=hk2 j h3
    rw [yI (by lia)] at this;have:=T.sa.le h5 h6
    simp at *;lia
   ·obtain ⟨j,h3,h4,rfl⟩:=gB hy;have:=hk3 (j - (ib+1)) (by lia) (by lia)
    rw [yI (by lia)] at this;have ej:ib+1+(j - (ib+1))=j:=by lia
    simp only [ej] at this;have ne:=T.ne _ (cu ha) _ (cu h4);simp at this;lia
theorem aaM (C:NK P w A s kd rk good){α : Type}{out:Array Dz}{ia ib g:Nat}{K:Dz->Option Nat->StateT Fd Sem α}{Q:α->Fd->Prop}(T:Two rk good a b)(hL:DK rk a b)(li:LI rk a b out ia ib)(hk:Ku st=kd)
  (q:∀ y k st',iT st st'->ia+k<a.size->ML rk a.toList b.toList (out++a.extract ia (ia+k)).toList (a.toList.drop (ia+k)) (b.toList.drop ib)->(∀ z∈a.toList.drop (ia+k),rk (b[ib]'li.ib).1<rk z.1)->wpS (Dm P w) A E s (K y (FN k)) Q st') :
  wpS (Dm P w) A E s (T6 g >>= fun _=>elem' b ib >>= fun y=>gal false y a ia (a.size - ia) 0 >>= K y) Q st:=by
 obtain ⟨h,h1,h2⟩:=li;refine En<|vh fun st1 s1=>?_
 refine En<|cH h2 ?_
 refine En<|Ei C (s1.2.1.trans hk) T.ga (T.gb _<|cu h2) (by lia) (by lia) (fun i j h3 h4 h5=>?_) fun k q1 q2 q3=>?_
 ·rw [z6 (by lia)] at h5 |-
  have:=T.sa.le (i:=ia+i) (j:=ia+j) (by lia) (by lia)
  simp at h5 |-
  lia
 ·have lk:ia+k<a.size:=by
   refine MJ fun z=>?_;have:=q2 (a.size - 1 - ia) (by lia)
   rw [z6 (by lia)] at this;have ej:ia+(a.size - 1 - ia)=a.size - 1:=by lia
   simp only [ej] at this;have:=hL (by lia) _ (cu h2)
   simp at *;lia
  refine q _ k st1 s1 lk (abk (k:=k) T h (by lia) fun x hx y hy=>?_) fun y hy=>?_
  ·obtain ⟨j,h3,h4,rfl⟩:=ext_get (by lia) hx;obtain ⟨i,h5,h6,rfl⟩:=gB hy;have:=q2 j h3
   rw [z6 (by lia)] at this;have:=T.sb.le h5 h6
   have:=T.ne _ (cu h4) _ (cu h2)
   simp at *;lia
  ·obtain ⟨j,h3,h4,rfl⟩:=gB hy;have:=q3 (j - ia) (by lia) (by lia)
   rw [z6 (by lia)] at this;have ej:ia+(j - ia)=j:=by lia
   simp only [ej] at this
   simpa using this
theorem ext_nil (out a:Array Dz)(i:Nat):out++a.extract i (i+0)=out:=by simp [Nat.min_le_left]
structure Go (rk:Mk->Nat) (a b:Array Dz) (st:Fd) (n:Nat) {β : Type} (c:Option (Array Dz)×Array Dz×Nat×Nat×β) (st':Fd):Prop where
 sm:iT st st'
 e:c.1=FX
 li:LI rk a b c.2.1 c.2.2.1 c.2.2.2.1
 le:n<=c.2.2.1+c.2.2.2.1
structure Dn (rk:Mk->Nat) (a b:Array Dz) (st:Fd) {β : Type} (c:Option (Array Dz)×β) (st':Fd):Prop where
 sm:iT st st'
 r:∃ l,c.1=FN l/\N8 rk a.toList b.toList l.toList
theorem Go.mk' {out:Array Dz}{st':Fd}{n ia ib:Nat}{β : Type}{c:β}(sm:iT st st')(li:LI rk a b out ia ib)(h:n<=ia+ib):Go rk a b st n (FX,out,ia,ib,c) st':=⟨sm,rfl,li,h⟩
theorem Dn.mk' {l:Array Dz}{st':Fd}{β : Type}{c:β}(sm:iT st st')(h:N8 rk a.toList b.toList l.toList):Dn rk a b st (FN l,c) st':=⟨sm,_,rfl,h⟩
theorem ab9 (C:NK P w A s kd rk good){Q:Array Dz->Fd->Prop}(T:Two rk good a b)(hL:DK rk a b)(ha:0<a.size)(hb:0<b.size)(hf:rk b[0].1<rk a[0].1)(hk:Ku st=kd)
  (q:∀ r st',N8 rk a.toList b.toList r.toList->iT st st'->Q r st'):wpS (Dm P w) A E s (mLo a b) Q st:=by
 have m0:ML rk a.toList b.toList (#[b[0]]:Array Dz).toList (a.toList.drop 0) (b.toList.drop 1):=by
  refine Ud (out:=#[]) T ⟨[],[],rfl,rfl,.nil,.nil,fun _ h=>(nomatch h),fun _ h=>(nomatch h)⟩ hb fun y hy=>?_;obtain ⟨j,_,h4,rfl⟩:=gB hy;exact Hl hf<|T.sa.le (Jk _) h4
 refine En<|wpS_lift<|Ml ⟨rfl,En<|cH hb<|NT (fun c1=>Ep<|q _ _ (qp T m0 c1)<|.refl _) fun c1=>NT (fun c2=>Ep<|q _ _ (uh T hL m0 c2)<|.refl _) fun c2=>En<|T9<|En<|Nt (Ny (I:=fun x=>Go rk a b st<|1+x) (Q:=Dn rk a b st) (fun x c st' _ _ g=>?_) (fun c st' g=>?_)<|.mk' (.refl _) ⟨m0,Rm ha c2,Rm hb c1⟩ (Ea _)) ?_⟩
 ·refine En<|Nt (Ny (I:=fun y=>Go rk a b st<|1+x+y) (Q:=fun c s=>Dn rk a b st c s\/Go rk a b st (2+x) c s) (fun y c st2 _ _ g2=>?_) (fun c st2 g2=>.inr ⟨g2.sm,g2.e,g2.li,Eb ?_ g2.le⟩)<|.mk' g.sm g.li g.le) ?_
  ·have h1:=g2.li.ia;have h2:=g2.li.ib;have hia:=Nat.lt_of_succ_lt h1;have hp (o) (h:o<=c.2.2.1+c.2.2.2.1+1):o<=c.2.2.1+1+c.2.2.2.1:=by lia
   have hq:2+x<=c.2.2.1+c.2.2.2.1+1:=by have:=g2.le;lia
   refine En<|cH h2<|En<|cH hia<|En<|w_lt C (g2.sm.2.1.trans hk) (T.gb _<|cu h2) (T.ga _<|cu hia)<|ifD (fun cb=>En<|cH h2 ?_) fun cb=>En<|cH hia ?_
   ·have m2:=Ud T g2.li.ml h2 fun y hy=>by
     obtain ⟨j,h3,h4,rfl⟩:=gB hy;exact Hl cb<|T.sa.le h3 h4
    refine NT (fun e=>Ep<|.inl<|.mk' g2.sm (qp T m2 e)) fun e=>?_;have li2:LI rk a b _ _ _:=⟨m2,h1,Rm h2 e⟩
    exact iQ (Ep<|.inr<|.mk' g2.sm li2 hq)<|Ep<|.mk' g2.sm li2 (Nat.succ_le_succ g2.le)
   ·have m2:=ZC T g2.li.ml hia fun y hy=>by
     obtain ⟨j,h3,h4,rfl⟩:=gB hy;exact Rm (Eb (Nat.le_of_not_lt cb)<|T.sb.le h3 h4)<|T.ne _ (cu hia) _<|cu h4
    refine NT (fun e=>Ep<|.inl<|.mk' g2.sm (uh T hL m2 e)) fun e=>?_;have li2:LI rk a b _ _ _:=⟨m2,Rm h1 e,h2⟩
    exact iQ (Ep<|.inr<|.mk' g2.sm li2 (hp _ hq))<|Ep<|.mk' g2.sm li2 (hp _<|Nat.succ_le_succ g2.le)
  ·lia
  ·rintro ⟨r,c⟩ st2 (⟨sm2,l,rfl,hr⟩ | g2)
   ·exact Ep<|.mk' sm2 hr
   ·cases g2.e
    refine En<|wpS_lift<|Ml ⟨rfl,?_⟩
    refine En<|Nt (Ny (I:=fun _=>Go rk a b st<|2+x) (Q:=fun c s=>Dn rk a b st c s\/Go rk a b st (2+x) c s) ?_ (fun _ _=>.inr)<|.mk' g2.sm g2.li g2.le) ?_
    ·rintro y ⟨_,out,ia,ib,mg,ac,bc⟩ st3 _ _ g3;have sm3:=g3.sm;have li3:LI rk a b out ia ib:=g3.li;have hp3:2+x<=ia+ib:=g3.le;clear g3;revert mg
     refine acJ (fun g mg=>Qa (g mg)<|g<|mg - 1) ?_;intro g;refine aaM (out:=out) (ia:=ia) (ib:=ib) C T hL li3 (sm3.2.1.trans hk) fun y k st4 s4 lk m4 lo=>?_;have sm4:=sm3.trans s4;have hi (i j) (h:ia<=i):2+x<=i+1+(ib+1+j):=by lia
     refine T5 (fun k0=>?_) fun k0=>NT (fun e1=>Ep<|.inl<|.mk' sm4 (uh T hL m4 e1)) fun e1=>NT (fun e=>absurd e<|HX lk) fun _=>?_
     ·obtain rfl:=Xr k0;rw [ext_nil] at m4;have i1:=li3.ia;have hi:=fun j=>hi ia j (Ea _)
      refine ZF C T m4 i1 li3.ib (sm4.2.1.trans hk) lo (fun y h=>Ep<|.inl<|.mk' sm4 h) fun x' y' j j1 j2 m5 lo2=>T5 (fun j0=>?_) fun j0=>NT (fun e2=>Ep<|.inl<|.mk' sm4 (qp T m5 e2)) fun e2=>DW T hL m5 i1 (Rm j2 e2) lo2 (fun x' h=>Ep<|.inl<|.mk' sm4 h) (fun x' h=>Ep<|.inr<|.mk' sm4 h (hi j)) fun x' h=>Ep<|.mk' sm4 h (hi j)
      obtain rfl:=Xr j0;rw [ext_nil] at m5;exact DW T hL m5 i1 j1 lo2 (fun x' h=>Ep<|.inl<|.mk' sm4 h) (fun x' h=>Ep<|.inr<|.mk' sm4 h (hi 0)) fun x' h=>Ep<|.mk' sm4 h (hi 0)
     ·have i1:=Rm lk e1;have hi:=fun j=>hi (ia+k) j (Wo _ _)
      refine ZF C T m4 i1 li3.ib (sm4.2.1.trans hk) lo (fun y h=>Ep<|.inl<|.mk' sm4 h) fun x' y' j j1 j2 m5 lo2=>T5 (fun j0=>?_) fun j0=>NT (fun e2=>Ep<|.inl<|.mk' sm4 (qp T m5 e2)) fun e2=>DW T hL m5 i1 (Rm j2 e2) lo2 (fun x' h=>Ep<|.inl<|.mk' sm4 h) (fun x' h=>Ep<|.inr<|.mk' sm4 h (hi j)) fun x' h=>Ep<|.mk' sm4 h (hi j)
      obtain rfl:=Xr j0;rw [ext_nil] at m5;exact DW T hL m5 i1 j1 lo2 (fun x' h=>Ep<|.inl<|.mk' sm4 h) (fun x' h=>Ep<|.inr<|.mk' sm4 h (hi 0)) fun x' h=>Ep<|.mk' sm4 h (hi 0)
    ·rintro ⟨r,c⟩ st3 (⟨sm3,l,rfl,hr⟩ | g3)
     ·exact Ep<|.mk' sm3 hr
     ·cases g3.e
      exact En<|vh fun st4 s4=>Ep<|.mk' (g3.sm.trans s4) g3.li (Eb (by lia) g3.le)
 ·have h1:=g.li.ia;have h2:=g.li.ib;have:=g.le
  lia
 ·rintro ⟨_,_⟩ st' ⟨sm,r,rfl,hr⟩;exact Ep<|q r st' hr sm
end
variable {out : Array Dz}
section
variable {rk:Mk->Nat}
def MH (rk:Mk->Nat)(A B o ah bh:List Dz):Prop:=∃ a2 b2,A=ah++a2/\B=bh++b2/\o.Perm (a2++b2)/\SL rk o/\Be rk ah o/\Be rk bh o
theorem MH.swap {A o ah bh:List Dz}(h:MH rk A B o ah bh):MH rk B A o bh ah:=by
 obtain ⟨a1,b1,e1,e2,p,s,q1,q2⟩:=h;exact ⟨b1,a1,e2,e1,p.trans List.perm_append_comm,s,q2,q1⟩
theorem MH.pA {A o xs ah bh:List Dz}(sa:SL rk A)(h:MH rk A B o (ah++xs) bh)(hx:Be rk bh xs):MH rk A B (xs++o) ah bh:=by
 obtain ⟨a2,b2,e1,e2,p,s,q1,q2⟩:=h;have sx:SL rk (ah++xs):=by
  unfold SL at sa;rw [e1,S8] at sa;exact sa.1
 unfold SL at sx;rw [S8] at sx;refine ⟨xs++a2,b2,by rw [e1,Ri],e2,?_,?_,?_,?_⟩
 ·rw [Ri];exact p.append_left xs
 ·unfold SL;rw [S8];exact ⟨sx.2.1,s,fun x hx y hy=>q1 x (S9 _ hx) y hy⟩
 ·intro x hx y hy;rcases Mr.mp hy with hy | hy
  ·exact sx.2.2 x hx y hy
  ·exact q1 x (N7 _ hx) y hy
 ·intro x hx' y hy;rcases Mr.mp hy with hy | hy
  ·exact hx x hx' y hy
  ·exact q2 x hx' y hy
theorem MH.pB {A o xs ah bh:List Dz}(sb:SL rk B)(h:MH rk A B o ah (bh++xs))(hx:Be rk ah xs):MH rk A B (xs++o) ah bh:=(h.swap.pA sb hx).swap
theorem MH.fin {A o bh:List Dz}(sb:SL rk B)(h:MH rk A B o [] bh):N8 rk A B (bh++o):=by
 have h:MH rk A B o [] ([]++bh):=h;obtain ⟨a2,b2,e1,e2,p,s,_⟩:=h.pB sb fun _ h=>(nomatch h)
 rw [Xl] at e1 e2;rw [e1,e2];exact ⟨p,s⟩
theorem MH.fin2 {A o ah bh:List Dz}(sa:SL rk A)(sb:SL rk B)(h:MH rk A B o ah bh)(hx:Be rk bh ah):N8 rk A B (bh++ah++o):=by
 have h:MH rk A B o ([]++ah) bh:=h;rw [Ri];exact (h.pA sa hx).fin sb
end
section
variable {P:Ew}{w:Em}{A:Fg}{E:Mk->AP->Prop}{s:AP}{rk:Mk->Nat}
theorem Xx {i:Nat}(h:i<a.size):a.toList.take (i+1)=a.toList.take i++[a[i]]:=by
 rw [Lz,GK (by simpa using h)];simp
theorem ab8 (a:Array Dz){i n:Nat}(h:i<=n):a.toList.take n=a.toList.take i++(a.extract i n).toList:=by
 rw [Yu,ZK];have e:n=i+(n - i):=by lia
 conv=>lhs;rw [e,List.take_add]
theorem tE (a:Array Dz)(n:Nat):(a.extract 0 n).toList=a.toList.take n:=by
 rw [Yu,ZK];simp
theorem gG {n:Nat}{x:Dz}(hx:x∈a.toList.take n):∃ j,j<n/\∃ hj:j<a.size,x=a[j]:=by
 obtain ⟨k,hk,e⟩:=RD.mp hx;rw [Lr] at hk;simp at hk;refine ⟨k,by lia,by lia,?_⟩;rw [<-e,List.getElem_take];simp
theorem cR {i n:Nat}{x:Dz}(h:n<=a.size)(hx:x∈(a.extract i n).toList):∃ j,i<=j/\j<n/\∃ hj:j<a.size,x=a[j]:=by
 obtain ⟨j,hj,e⟩:=Array.mem_iff_getElem.mp (Array.mem_def.mpr hx);have hj':i+j<n:=by simp at hj;lia
 exact ⟨i+j,by lia,hj',by lia,by rw [<-e];simp⟩
def Cu (rk:Mk->Nat)(a b:Array Dz):Prop:=∀ (h:0<b.size),∀ x∈a.toList,rk b[0].1<rk x.1
structure HI (rk:Mk->Nat) (a b out:Array Dz) (na nb:Nat):Prop where
 mh:MH rk a.toList b.toList out.toList.reverse (a.toList.take na) (b.toList.take nb)
 pa:0<na
 pb:1<nb
 la:na<=a.size
 lb:nb<=b.size
theorem Ra {na nb:Nat}(T:Two rk good a b)(h:MH rk a.toList b.toList out.toList.reverse (a.toList.take na) (b.toList.take nb))(h0:0<na)(hi:na<=a.size)(hx:∀ y∈b.toList.take nb,rk y.1<rk (a[na - 1]'(by omega)).1):MH rk a.toList b.toList (out.push (a[na - 1]'(by omega))).toList.reverse (a.toList.take (na - 1)) (b.toList.take nb):=by
 rw [j4,List.reverse_append];refine MH.pA T.sa (xs:=[a[na - 1]'(by lia)]) ?_ fun x hx' y hy=>?_
 ·have e:=Xx (a:=a) (i:=na - 1) (by lia);have e1:na - 1+1=na:=by lia
  rw [e1] at e;rw [<-e];exact h
 ·rw [K5.mp hy];exact hx x hx'
theorem Xk {na nb:Nat}(T:Two rk good a b)(h:MH rk a.toList b.toList out.toList.reverse (a.toList.take na) (b.toList.take nb))(h0:0<nb)(hi:nb<=b.size)(hx:∀ y∈a.toList.take na,rk y.1<rk (b[nb - 1]'(by omega)).1):MH rk a.toList b.toList (out.push (b[nb - 1]'(by omega))).toList.reverse (a.toList.take na) (b.toList.take (nb - 1)):=by
 rw [j4,List.reverse_append];refine MH.pB T.sb (xs:=[b[nb - 1]'(by lia)]) ?_ fun x hx' y hy=>?_
 ·have e:=Xx (a:=b) (i:=nb - 1) (by lia);have e1:nb - 1+1=nb:=by lia
  rw [e1] at e;rw [<-e];exact h
 ·rw [K5.mp hy];exact hx x hx'
theorem Ky (out xs:Array Dz):(out++xs.reverse).toList.reverse=xs.toList++out.toList.reverse:=by simp
theorem abb {na nb:Nat}(T:Two rk good a b)(h:MH rk a.toList b.toList out.toList.reverse (a.toList.take na) (b.toList.take nb))(hi:m<=na)(hx:Be rk (b.toList.take nb) (a.extract m na).toList):MH rk a.toList b.toList (out++(a.extract m na).reverse).toList.reverse (a.toList.take m) (b.toList.take nb):=by
 rw [Ky];refine MH.pA T.sa ?_ hx;rw [<-ab8 a hi];exact h
theorem abv {na nb:Nat}(T:Two rk good a b)(h:MH rk a.toList b.toList out.toList.reverse (a.toList.take na) (b.toList.take nb))(hi:m<=nb)(hx:Be rk (a.toList.take na) (b.extract m nb).toList):MH rk a.toList b.toList (out++(b.extract m nb).reverse).toList.reverse (a.toList.take na) (b.toList.take m):=by
 rw [Ky];refine MH.pB T.sb ?_ hx;rw [<-ab8 b hi];exact h
theorem uZ {na nb:Nat}(T:Two rk good a b)(h:MH rk a.toList b.toList out.toList.reverse (a.toList.take na) (b.toList.take nb))(e:na=0):N8 rk a.toList b.toList (a.extract 0 na++b.extract 0 nb++out.reverse).toList:=by
 subst e;rw [Tw,Tw,tE,tE,List.take_zero,Xl,Array.toList_reverse];rw [List.take_zero] at h;exact h.fin T.sb
theorem kO {na nb:Nat}(T:Two rk good a b)(hF:Cu rk a b)(hb:0<b.size)(h:MH rk a.toList b.toList out.toList.reverse (a.toList.take na) (b.toList.take nb))(e:nb=1):N8 rk a.toList b.toList (b.extract 0 nb++a.extract 0 na++out.reverse).toList:=by
 rw [Tw,Tw,tE,tE,Array.toList_reverse];refine h.fin2 T.sa T.sb fun x hx y hy=>?_;obtain ⟨j,h1,h2,rfl⟩:=gG hx;have z:j=0:=by lia
 subst z;exact hF hb y<|X4 hy
theorem N6 {α : Type}{na nb:Nat}[Decidable c]{E1 E2 E3:Dz->StateT Fd Sem α}{Q:α->Fd->Prop}(T:Two rk good a b)(h:MH rk a.toList b.toList out.toList.reverse (a.toList.take na) (b.toList.take nb))(h1:0<na)(h2:1<nb)(h3:na<=a.size)(h4:nb<=b.size)
  (hx:∀ y∈b.toList.take nb,rk y.1<rk (a[na - 1]'(by omega)).1)
  (q1:∀ x,N8 rk a.toList b.toList (a.extract 0 (na - 1)++b.extract 0 nb++(out.push x).reverse).toList->wpS (Dm P w) A E s (E1 x) Q st)
  (q2:∀ x,HI rk a b (out.push x) (na - 1) nb->wpS (Dm P w) A E s (E2 x) Q st) (q3:∀ x,HI rk a b (out.push x) (na - 1) nb->wpS (Dm P w) A E s (E3 x) Q st) :
  wpS (Dm P w) A E s (elem' a (na - 1) >>= fun x=>if (na - 1==0)=true then E1 x else if c then E2 x else E3 x) Q st:=by
 refine En<|cH (by lia) ?_
 have m:=Ra T h h1 h3 hx;by_cases e:na - 1=0
 ·exact T4 (by simpa using e)<|q1 _<|uZ T m e
 ·refine Og (by simpa using e) ?_;have li:HI rk a b (out.push (a[na - 1]'(by lia))) (na - 1) nb:=⟨m,by lia,h2,by lia,h4⟩
  exact iQ (q2 _ li)<|q3 _ li
theorem Yn (C:NK P w A s kd rk good){α : Type}{na nb:Nat}{D1:Dz->StateT Fd Sem α}{K:Dz->Dz->Option Nat->StateT Fd Sem α}{Q:α->Fd->Prop}(T:Two rk good a b)(hF:Cu rk a b)(h:MH rk a.toList b.toList out.toList.reverse (a.toList.take na) (b.toList.take nb))(h1:0<na)(h2:1<nb)(h3:na<=a.size)(h4:nb<=b.size)(hk:Ku st=kd)
  (hx:∀ y∈a.toList.take na,rk y.1<rk (b[nb - 1]'(by omega)).1)
  (q1:∀ y,N8 rk a.toList b.toList (b.extract 0 (nb - 1)++a.extract 0 na++(out.push y).reverse).toList->wpS (Dm P w) A E s (D1 y) Q st)
  (q2:∀ x y m,1<nb - 1->0<m->m<=nb - 1->MH rk a.toList b.toList (out.push y++(b.extract m (nb - 1)).reverse).toList.reverse (a.toList.take na) (b.toList.take m)->(∀ z∈b.toList.take m,rk z.1<rk (a[na - 1]'(by omega)).1)->wpS (Dm P w) A E s (K y x (FN m)) Q st) :
  wpS (Dm P w) A E s (elem' b (nb - 1) >>= fun y=>if (nb - 1==1)=true then D1 y else elem' a (na - 1) >>= fun x=>gal true x b 0 (nb - 1) (nb - 1 - 1) >>= K y x) Q st:=by
 refine En<|cH (by lia) ?_
 have m:=Xk T h (by lia) h4 hx;by_cases c:nb - 1=1
 ·exact T4 (by simpa using c)<|q1 _<|kO T hF (by lia) m c
 ·refine Og (by simpa using c) ?_;have ha:na - 1<a.size:=by lia
  refine En<|cH ha ?_
  refine En<|Ei C hk T.gb (T.ga _<|cu ha) (by lia) (by lia) (fun i j h5 h6 h7=>?_) fun k k1 k2 k3=>?_
  ·rw [yI (by lia)] at h7 |-
   have:=T.sb.le (i:=0+i) (j:=0+j) (by lia) (by lia)
   simp at h7 this |-
   lia
  ·have kp:0<k:=by
    refine MJ fun z=>?_;have:=k3 0 (by lia) (by lia)
    rw [yI (by lia)] at this;have:=hF (by lia) _ (cu ha)
    simp at *;lia
   refine q2 _ _ k (by lia) kp k1 (abv T m k1 fun x hx y hy=>?_) fun y hy=>?_
   ·obtain ⟨j,j1,j2,rfl⟩:=gG hx;obtain ⟨i,i1,i2,i3,rfl⟩:=cR (by lia) hy;have:=k3 i i1 (by lia)
    rw [yI (by lia)] at this;have:=T.sa.le (i:=j) (j:=na - 1) (by lia) ha
    have:=T.ne _ (cu ha) _ (cu i3)
    simp at *;lia
   ·obtain ⟨j,j1,j2,rfl⟩:=gG hy;have:=k2 j j1
    rw [yI (by lia)] at this
    simpa using this
theorem aa7 (C:NK P w A s kd rk good){α : Type}{na nb g:Nat}{K:Dz->Option Nat->StateT Fd Sem α}{Q:α->Fd->Prop}(T:Two rk good a b)(li:HI rk a b out na nb)(hk:Ku st=kd)
  (q:∀ y m st',iT st st'->m<=na->MH rk a.toList b.toList (out++(a.extract m na).reverse).toList.reverse (a.toList.take m) (b.toList.take nb)->(∀ z∈a.toList.take m,rk z.1<rk (b[nb - 1]'(by have:=li.lb;have:=li.pb;omega)).1)->wpS (Dm P w) A E s (K y (FN m)) Q st') :
  wpS (Dm P w) A E s (T6 g >>= fun _=>elem' b (nb - 1) >>= fun y=>gal false y a 0 na (na - 1) >>= K y) Q st:=by
 obtain ⟨h,h1,h2,h3,h4⟩:=li;have hb:nb - 1<b.size:=by lia
 refine En<|vh fun st1 s1=>?_
 refine En<|cH hb ?_
 refine En<|Ei C (s1.2.1.trans hk) T.ga (T.gb _<|cu hb) (by lia) (by lia) (fun i j h5 h6 h7=>?_) fun k k1 k2 k3=>?_
 ·rw [z6 (by lia)] at h7 |-
  have:=T.sa.le (i:=0+i) (j:=0+j) (by lia) (by lia)
  simp at h7 this |-
  lia
 ·refine q _ k st1 s1 k1 (abb T h k1 fun x hx y hy=>?_) fun y hy=>?_
  ·obtain ⟨j,j1,j2,rfl⟩:=gG hx;obtain ⟨i,i1,i2,i3,rfl⟩:=cR h3 hy;have:=k3 i i1 i2
   rw [z6 (by lia)] at this;have:=T.sb.le (i:=j) (j:=nb - 1) (by lia) hb
   simp at *;lia
  ·obtain ⟨j,j1,j2,rfl⟩:=gG hy;have:=k2 j j1
   rw [z6 (by lia)] at this;have:=T.ne _ (cu j2) _ (cu hb)
   simp at *;lia
theorem vf (out a:Array Dz)(n:Nat):out++(a.extract n n).reverse=out:=by simp [Nat.min_le_left]
structure GoH (rk:Mk->Nat) (a b:Array Dz) (st:Fd) (n:Nat) {β : Type} (c:Option (Array Dz)×Nat×Nat×Array Dz×β) (st':Fd):Prop where
 sm:iT st st'
 e:c.1=FX
 li:HI rk a b c.2.2.2.1 c.2.1 c.2.2.1
 le:c.2.1+c.2.2.1+n<=a.size+b.size
theorem GoH.mk' {st':Fd}{n na nb:Nat}{β : Type}{c:β}(sm:iT st st')(li:HI rk a b out na nb)(h:na+nb+n<=a.size+b.size):GoH rk a b st n (FX,na,nb,out,c) st':=⟨sm,rfl,li,h⟩
theorem nH1 {u v n y N:Nat}(p:0<u)(h:u+v+(1+n+y)<=N):u - 1+v+(1+n+(y+1))<=N:=by lia
theorem nH2 {u n y N:Nat}(h:u+(1+n+(y+1))<=N):u+(2+n)<=N:=by lia
theorem nH3 {u v N:Nat}(h:v<=N)(p:0<u)(g:u<=v):u - 1<N:=by lia
theorem ab2 (C:NK P w A s kd rk good){Q:Array Dz->Fd->Prop}(T:Two rk good a b)(hL:DK rk a b)(hF:Cu rk a b)(ha:0<a.size)(hb:0<b.size)(hk:Ku st=kd)
  (q:∀ r st',N8 rk a.toList b.toList r.toList->iT st st'->Q r st'):wpS (Dm P w) A E s (mHi a b) Q st:=by
 have hl:a.size - 1<a.size:=Nat.sub_one_lt_of_lt ha;have m0:MH rk a.toList b.toList (#[a[a.size - 1]]:Array Dz).toList.reverse (a.toList.take (a.size - 1)) (b.toList.take b.size):=
  Ra (out:=#[]) T ⟨[],[],by rw [V4,Vz (by simp)],by rw [V4,Vz (by simp)],.nil,.nil,fun _ _ _ h=>(nomatch h),fun _ _ _ h=>(nomatch h)⟩ ha (Ea _) fun y hy=>hL ha y (X4 hy)
 refine En<|wpS_lift<|Ml ⟨rfl,En<|cH hl<|NT (fun c1=>Ep<|q _ _ (uZ T m0 c1)<|.refl _) fun c1=>NT (fun c2=>Ep<|q _ _ (kO T hF hb m0 c2)<|.refl _) fun c2=>En<|T9<|En<|Nt (Ny (I:=fun x=>GoH rk a b st<|1+x) (Q:=Dn rk a b st) (fun x c st' _ _ g=>?_) (fun c st' g=>?_)<|.mk' (.refl _) ⟨m0,Nat.pos_of_ne_zero c1,Rm hb<|JD c2,Uw _ _,Ea _⟩ (by lia)) ?_⟩
 ·refine En<|Nt (Ny (I:=fun y=>GoH rk a b st<|1+x+y) (Q:=fun c s=>Dn rk a b st c s\/GoH rk a b st (2+x) c s) (fun y c st2 _ _ g2=>?_) (fun c st2 g2=>.inr ⟨g2.sm,g2.e,g2.li,Eb (Nat.add_le_add_left ?_ _) g2.le⟩)<|.mk' g.sm g.li g.le) ?_
  ·have h1:=g2.li.pa;have h2:=g2.li.pb;have h3:=g2.li.la;have h4:=g2.li.lb;have h5:=g2.le;have hia:=nH3 h3 h1 (Ea _);have hib:=nH3 h4 (Nat.lt_of_succ_lt h2) (Ea _);refine En<|cH hib<|En<|cH hia<|En<|w_lt C (g2.sm.2.1.trans hk) (T.gb _<|cu hib) (T.ga _<|cu hia)<|ifD (fun cb=>En<|cH hia ?_) fun cb=>En<|cH hib ?_
   ·have m2:=Ra T g2.li.mh h1 h3 fun y hy=>by
     obtain ⟨j,j1,j2,rfl⟩:=gG hy;exact Rj (T.sb.le (Nat.le_sub_one_of_lt j1) hib) cb
    refine NT (fun e=>Ep<|.inl<|.mk' g2.sm (uZ T m2 e)) fun e=>?_;have li2:HI rk a b _ _ _:=⟨m2,Nat.pos_of_ne_zero e,h2,Mv hia,h4⟩
    have le:=nH1 h1 h5;exact iQ (Ep<|.inr<|.mk' g2.sm li2 (nH2 le))<|Ep<|.mk' g2.sm li2 le
   ·have m2:=Xk T g2.li.mh (Nat.lt_of_succ_lt h2) h4 fun y hy=>by
     obtain ⟨j,j1,j2,rfl⟩:=gG hy;exact Rm (Eb (T.sa.le (Nat.le_sub_one_of_lt j1) hia)<|Nat.le_of_not_lt cb)<|T.ne _ (cu j2) _<|cu hib
    refine NT (fun e=>Ep<|.inl<|.mk' g2.sm (kO T hF hb m2 e)) fun e=>?_;have li2:HI rk a b _ _ _:=⟨m2,h1,Rm (Nat.le_sub_one_of_lt h2) (JD e),h3,Mv hib⟩
    have le:=nH1 (Nat.lt_of_succ_lt h2) (WY c.2.1 _ ▸ h5);rw [WY (_ - 1)] at le;exact iQ (Ep<|.inr<|.mk' g2.sm li2 (nH2 le))<|Ep<|.mk' g2.sm li2 le
  ·lia
  ·rintro ⟨r,c⟩ st2 (⟨sm2,l,rfl,hr⟩ | g2)
   ·exact Ep<|.mk' sm2 hr
   ·cases g2.e
    refine En<|wpS_lift<|Ml ⟨rfl,?_⟩
    refine En<|Nt (Ny (I:=fun _=>GoH rk a b st<|2+x) (Q:=fun c s=>Dn rk a b st c s\/GoH rk a b st (2+x) c s) ?_ (fun _ _=>.inr)<|.mk' g2.sm g2.li g2.le) ?_
    ·rintro y ⟨_,na,nb,out,mg,ac,bc⟩ st3 _ _ g3;have sm3:=g3.sm;have li3:HI rk a b out na nb:=g3.li;have hp3:na+nb+(2+x)<=a.size+b.size:=g3.le;clear g3;revert mg
     refine acJ (fun g mg=>Qa (g mg)<|g<|mg - 1) ?_;intro g;refine aa7 (out:=out) (na:=na) (nb:=nb) C T li3 (sm3.2.1.trans hk) fun y m st4 s4 lk m4 lo=>?_;have sm4:=sm3.trans s4;have hi (i j) (h:i<=na) (g:j<=nb - 1):i - 1+j+(2+x)<=a.size+b.size:=Eb (Nat.add_le_add_right (XM (Eb (Uw _ _) h) (Eb g (Uw _ _))) _) hp3;refine T5 (fun k0=>?_) fun k0=>NT (fun e1=>Ep<|.inl<|.mk' sm4 (uZ T m4 e1)) fun e1=>?_
     ·obtain rfl:=Nat.le_antisymm lk (Nat.sub_eq_zero_iff_le.mp (Xr k0));rw [vf] at m4;have i1:=li3.pa;have i2:=Eb lk li3.la;refine Yn C T hF m4 i1 li3.pb i2 li3.lb (sm4.2.1.trans hk) lo (fun y h=>Ep<|.inl<|.mk' sm4 h) fun x' y' j j1 jp j2 m5 lo2=>?_;have j3:=Eb j2 (Eb (Uw _ _) li3.lb);refine T5 (fun j0=>?_) fun j0=>NT (fun e2=>Ep<|.inl<|.mk' sm4 (kO T hF hb m5 e2)) fun e2=>NT (fun e=>absurd e<|Lp jp) fun _=>N6 T m5 i1 (Rm jp<|JD e2) i2 j3 lo2 (fun x' h=>Ep<|.inl<|.mk' sm4 h) (fun x' h=>Ep<|.inr<|.mk' sm4 h (hi _ _ lk j2)) fun x' h=>Ep<|.mk' sm4 h (hi _ _ lk j2)
      obtain rfl:=Nat.le_antisymm j2 (Nat.sub_eq_zero_iff_le.mp (Xr j0));rw [vf] at m5;exact N6 T m5 i1 j1 i2 j3 lo2 (fun x' h=>Ep<|.inl<|.mk' sm4 h) (fun x' h=>Ep<|.inr<|.mk' sm4 h (hi _ _ lk j2)) fun x' h=>Ep<|.mk' sm4 h (hi _ _ lk j2)
     ·have i1:=Nat.pos_of_ne_zero e1;have i2:=Eb lk li3.la;refine Yn C T hF m4 i1 li3.pb i2 li3.lb (sm4.2.1.trans hk) lo (fun y h=>Ep<|.inl<|.mk' sm4 h) fun x' y' j j1 jp j2 m5 lo2=>?_;have j3:=Eb j2 (Eb (Uw _ _) li3.lb);refine T5 (fun j0=>?_) fun j0=>NT (fun e2=>Ep<|.inl<|.mk' sm4 (kO T hF hb m5 e2)) fun e2=>NT (fun e=>absurd e<|Lp jp) fun _=>N6 T m5 i1 (Rm jp<|JD e2) i2 j3 lo2 (fun x' h=>Ep<|.inl<|.mk' sm4 h) (fun x' h=>Ep<|.inr<|.mk' sm4 h (hi _ _ lk j2)) fun x' h=>Ep<|.mk' sm4 h (hi _ _ lk j2)
      obtain rfl:=Nat.le_antisymm j2 (Nat.sub_eq_zero_iff_le.mp (Xr j0));rw [vf] at m5;exact N6 T m5 i1 j1 i2 j3 lo2 (fun x' h=>Ep<|.inl<|.mk' sm4 h) (fun x' h=>Ep<|.inr<|.mk' sm4 h (hi _ _ lk j2)) fun x' h=>Ep<|.mk' sm4 h (hi _ _ lk j2)
    ·rintro ⟨r,c⟩ st3 (⟨sm3,l,rfl,hr⟩ | g3)
     ·exact Ep<|.mk' sm3 hr
     ·cases g3.e
      exact En<|vh fun st4 s4=>Ep<|.mk' (g3.sm.trans s4) g3.li (Eb (Nat.add_le_add_left (by lia) _) g3.le)
 ·have h1:=g.li.pa;have h2:=g.li.pb;have:=g.le
  lia
 ·rintro ⟨_,_⟩ st' ⟨sm,r,rfl,hr⟩;exact Ep<|q r st' hr sm
end
variable {na nb : Nat}
def mAt:Nat->StateT Fd Sem Bool:=sortPriv% PySem.Builtin.mergeAt
section
variable {P:Ew}{w:Em}{A:Fg}{E:Mk->AP->Prop}{s:AP}{rk:Mk->Nat}
theorem aeM {st2:Fd}{Q:PUnit->Fd->Prop}(h:Q ⟨⟩ st2):wpS (Dm P w) A E s (set st2:StateT Fd Sem PUnit) Q st:=Tn (f:=fun _=>st2) h
theorem Cm (s0:Nat):∀ (m:List Dz) (j0:Nat) (arr:Array Dz),s0+j0+m.length<=arr.size->((m.zipIdx j0).foldl (fun a (p:Dz×Nat)=>a.setIfInBounds (s0+p.2) p.1) arr).toList=arr.toList.take (s0+j0)++m++arr.toList.drop (s0+j0+m.length)
 | [],j0,arr,h=>by simp
 | p::m,j0,arr,h=>by
  rw [K9] at h;rw [List.zipIdx_cons,List.foldl_cons,Cm s0 m (j0+1) _ (by rw [Array.size_setIfInBounds];lia)];dsimp only;have e1:(arr.setIfInBounds (s0+j0) p).toList=arr.toList.set (s0+j0) p:=by simp
  have e2:s0+(j0+1)=s0+j0+1:=by lia
  rw [e1,e2,Lz,List.getElem?_set_self (by simp;lia),List.take_set_of_le (Ea _),List.drop_set_of_lt (by lia)];have e3:s0+j0+1+m.length=s0+j0+(p::m).length:=by rw [K9];lia
  rw [e3];simp
theorem jY {i j:Nat}(hj:j<=a.size)(h:bF rk a i j):SL rk (a.extract i j).toList:=by
 unfold SL;rw [YS];intro p q hp hq hpq;have lp:(a.extract i j).toList.length=j - i:=by simp;lia
 have hq':q<j - i:=by rw [<-lp];exact hq
 have:=h (i+p) (i+q) (by lia) (by lia) (by lia)
 rw [fG (by lia),fG (by lia)] at this
 simpa using this
theorem zaT {i j:Nat}{l1 l2 l:List Dz}(e:a.toList=l1++l++l2)(e1:l1.length=i)(e2:l.length=j - i)(h:SL rk l):bF rk a i j:=by
 intro p q h1 h2 h3;have hl:∀ k (hk:k<l.length),Rk rk a (i+k)=rk (l[k]).1:=fun k hk=>by
  unfold Rk;have:a[i+k]?=FN l[k]:=by
   rw [<-Vx,e,Ri,Ob (by lia),RQ (by lia)];have ek:i+k - l1.length=k:=by lia
   rw [ek,GK hk]
  rw [this]
 have hp:=hl (p - i) (by lia);have hq:=hl (q - i) (by lia);have ep:i+(p - i)=p:=by lia
 have eq:i+(q - i)=q:=by lia
 rw [ep] at hp;rw [eq] at hq;rw [hp,hq];exact YS.mp h _ _ (by lia) (by lia)<|by lia
theorem tG (a:Array Dz){i j:Nat}(h:i<=j)(hj:j<=a.size):a.toList.drop i=(a.extract i j).toList++a.toList.drop j:=by
 have:=abE a i (j - i) (by lia)
 have e:i+(j - i)=j:=by lia
 rw [e] at this;exact this
theorem lV (a:Array Dz){i j:Nat}(hj:j<=a.size):(a.extract i j).toList.length=j - i:=by simp;lia
structure Runs (rk:Mk->Nat) (a:Array Dz) (sa k sb n' e:Nat):Prop where
 h1:sa+k<=sb
 h2:sb+n'<=e
 h3:e<=a.size
 r1:bF rk a sa sb
 r2:bF rk a sb e
 lo:∀ p,sa<=p->p<sa+k->Rk rk a p<Rk rk a sb
 hi:∀ p,sb+n'<=p->p<e->Rk rk a (sb - 1)<Rk rk a p
theorem bF.le {i j p q:Nat}(h:bF rk a i j)(h1:i<=p)(h2:p<=q)(h3:q<j):Rk rk a p<=Rk rk a q:=by
 rcases Nat.lt_or_ge p q with c | c
 ·exact Mv<|h p q h1 c h3
 ·have:p=q:=by lia
  subst this;exact Ea _
theorem zbi {α : Type}{t m1 m2 d:List α}(hl:m1.length=m2.length){q:Nat}(hq:q<t.length\/t.length+m1.length<=q):(t++m1++d)[q]?=(t++m2++d)[q]?:=by
 rcases hq with hq | hq
 ·rw [Ri,Ri,RQ hq,RQ hq]
 ·rw [Ob (by rw [JC];exact hq),Ob (by rw [JC,<-hl];exact hq),JC,JC,hl]
theorem zaC {W:Array Dz}{sa k sb n' e:Nat}{m:List Dz}(R:Runs rk a sa k sb n' e)(hx:sa+k<sb)(M:N8 rk (a.extract (sa+k) sb).toList (a.extract sb (sb+n')).toList m)(eW:W.toList=a.toList.take (sa+k)++m++a.toList.drop (sb+n')):Within a W sa e/\bF rk W sa e:=by
 obtain ⟨h1,h2,h3,r1,r2,lo,hi⟩:=R;have ea:a.toList=a.toList.take (sa+k)++((a.extract (sa+k) sb).toList++(a.extract sb (sb+n')).toList)++a.toList.drop (sb+n'):=by
  rw [Ri,Ri,<-tG a (by lia) (by lia),<-tG a h1 (by lia),Ye]
 have lm:m.length=((a.extract (sa+k) sb).toList++(a.extract sb (sb+n')).toList).length:=M.1.length_eq;have lt:(a.toList.take (sa+k)).length=sa+k:=by rw [Lr];simp;lia
 have lx:((a.extract (sa+k) sb).toList++(a.extract sb (sb+n')).toList).length=sb+n' - (sa+k):=by rw [JC,lV a (by lia),lV a (by lia)];lia
 refine ⟨⟨?_,fun q hq=>?_⟩,?_⟩
 ·rw [Array.perm_iff_toList_perm,eW];conv=>rhs;rw [ea]
  exact ((M.1.append_left _).append_right _)
 ·rw [<-Vx,<-Vx,eW];conv=>rhs;rw [ea]
  exact zbi lm (by rw [lt,lm,lx];lia)
 ·have et:a.toList.take (sa+k)=a.toList.take sa++(a.extract sa (sa+k)).toList:=ab8 a (by lia);have ed:a.toList.drop (sb+n')=(a.extract (sb+n') e).toList++a.toList.drop e:=tG a h2 h3;have em:∀ z∈m,(∃ p,sa+k<=p/\p<sb/\rk z.1=Rk rk a p)\/∃ p,sb<=p/\p<sb+n'/\rk z.1=Rk rk a p:=fun z hz=>by
   rcases Mr.mp (M.1.mem_iff.mp hz) with hz | hz
   ·obtain ⟨p,p1,p2,p3,rfl⟩:=cR (by lia) hz;exact .inl ⟨p,p1,p2,(fG p3).symm⟩
   ·obtain ⟨p,p1,p2,p3,rfl⟩:=cR (by lia) hz;exact .inr ⟨p,p1,p2,(fG p3).symm⟩
  have ep:∀ z∈(a.extract sa (sa+k)).toList,∃ p,sa<=p/\p<sa+k/\rk z.1=Rk rk a p:=fun z hz=>by
   obtain ⟨p,p1,p2,p3,rfl⟩:=cR (by lia) hz;exact ⟨p,p1,p2,(fG p3).symm⟩
  have eq:∀ z∈(a.extract (sb+n') e).toList,∃ p,sb+n'<=p/\p<e/\rk z.1=Rk rk a p:=fun z hz=>by
   obtain ⟨p,p1,p2,p3,rfl⟩:=cR h3 hz;exact ⟨p,p1,p2,(fG p3).symm⟩
  have sp:SL rk (a.extract sa (sa+k)).toList:=jY (by lia) fun p q q1 q2 q3=>r1 p q q1 q2 (by lia)
  have sq:SL rk (a.extract (sb+n') e).toList:=jY h3 fun p q q1 q2 q3=>r2 p q (by lia) q2 q3
  refine zaT (l1:=a.toList.take sa) (l:=(a.extract sa<|sa+k).toList++m++(a.extract (sb+n') e).toList) (l2:=a.toList.drop e) (by rw [eW,et,ed];simp only [Ri]) (by rw [Lr];simp;lia) ?_ ?_
  ·rw [JC,JC,lm,lx,lV a (by lia),lV a h3];lia
  ·unfold SL at *;rw [S8,S8];refine ⟨⟨sp,M.2,fun u hu v hv=>?_⟩,sq,fun u hu v hv=>?_⟩
   ·obtain ⟨p,p1,p2,e1⟩:=ep u hu;rw [e1];have l1:=lo p p1 p2;rcases em v hv with ⟨q,q1,q2,e2⟩ | ⟨q,q1,q2,e2⟩ <;> rw [e2]
    ·exact r1 p q p1 (by lia) q2
    ·exact Hl l1<|r2.le (Ea _) q1<|by lia
   ·obtain ⟨q,q1,q2,e2⟩:=eq v hv;rw [e2];rcases Mr.mp hu with hu | hu
    ·obtain ⟨p,p1,p2,e1⟩:=ep u hu;rw [e1];exact Hl (lo p p1 p2)<|r2.le (Ea _) (by lia) q2
    ·rcases em u hu with ⟨p,p1,p2,e1⟩ | ⟨p,p1,p2,e1⟩ <;> rw [e1]
     ·exact Rj (r1.le (by lia) (by lia)<|by lia)<|hi q q1 q2
     ·exact r2 p q p1 (by lia) q2
theorem abn (C:NK P w A s kd rk good){i:Nat}{Q:Bool->Fd->Prop}{sa p sb p2:Nat}(ok:Nj kd rk good st)(e1:(Jx st)[i]?=FN (sa,na,p))(e2:(Jx st)[i+1]?=FN (sb,nb,p2))(hb:sb=sa+na)(h1:0<na)(h2:0<nb)(hz:sb+nb<=(Dy st).size)(r1:bF rk (Dy st) sa sb)(r2:bF rk (Dy st) sb (sb+nb))
  (q:∀ st',Nj kd rk good st'->Within (Dy st) (Dy st') sa (sb+nb)->bF rk (Dy st') sa (sb+nb)->Jx st'=((Jx st).setIfInBounds i (sa,na+nb,p)).eraseIdxIfInBounds (i+1)->Q true st'):wpS (Dm P w) A E s (mAt i) Q st:=by
 refine En<|T9 ?_
 simp only [e1,e2];refine En<|aeM ?_
 have hsb:sb<(Dy st).size:=by lia
 have gd:∀ x∈(Dy st).toList,good x.1:=ok.keys.good
 refine En<|cH (a:=Dy st) hsb ?_
 refine En<|Ei (a:=Dy st) C ok.kind gd (gd _<|cu hsb) (by lia) (by lia) (fun x y h5 h6 h7=>?_) fun k k1 k2 k3=>?_
 ·unfold J8 at h7 |-
  have:=r1.le (p:=sa+x) (q:=sa+y) (by lia) (by lia) (by lia)
  simp at h7 |-
  lia
 have key:rk (Dy st)[sb].1=Rk rk (Dy st) sb:=(fG hsb).symm;have lo:∀ p,sa<=p->p<sa+k->Rk rk (Dy st) p<Rk rk (Dy st) sb:=fun p p1 p3=>by
  have:=k2 (p - sa) (by lia)
  have ep:sa+(p - sa)=p:=by lia
  unfold J8 at this;rw [ep,key] at this;have ne:Rk rk (Dy st) p≠Rk rk (Dy st) sb:=fun z=>by have:=ok.keys.ne (by lia) hsb z;lia
  simp at this;lia
 have up:∀ p,sa+k<=p->p<sb->Rk rk (Dy st) sb<Rk rk (Dy st) p:=fun p p1 p3=>by
  have:=k3 (p - sa) (by lia) (by lia)
  have ep:sa+(p - sa)=p:=by lia
  unfold J8 at this;rw [ep,key] at this
  simpa using this
 by_cases c:na - k=0
 ·refine T4 (by simpa using c)<|Ep<|q _ ⟨ok.kind,ok.failed,ok.keys⟩ (Within.refl _ _ _) (fun p q p1 p3 p4=>?_) rfl
  show Rk rk (Dy st) p<Rk rk (Dy st) q;by_cases c1:q<sb
  ·exact r1 p q p1 p3 c1
  ·by_cases c2:sb<=p
   ·exact r2 p q c2 p3 p4
   ·exact Hl (lo p p1<|by lia)<|r2.le (Ea _) (by lia) p4
 refine Og (by simpa using c) ?_;have hl:sa+k+(na - k) - 1<(Dy st).size:=by lia
 have el:sa+k+(na - k) - 1=sb - 1:=by lia
 refine En<|cH (a:=Dy st) hl ?_
 have key2:rk ((Dy st)[sa+k+(na - k) - 1]'hl).1=Rk rk (Dy st) (sb - 1):=by rw [<-fG (rk:=rk) hl,el]
 refine En<|Ei (a:=Dy st) C ok.kind gd (gd _<|cu hl) (by lia) (by lia) (fun x y h5 h6 h7=>?_) fun n' n1 n2 n3=>?_
 ·unfold J8 at h7 |-
  have:=r2.le (p:=sb+x) (q:=sb+y) (by lia) (by lia) (by lia)
  simp at h7 |-
  lia
 have be:∀ p,sb<=p->p<sb+n'->Rk rk (Dy st) p<Rk rk (Dy st) (sb - 1):=fun p p1 p3=>by
  have:=n2 (p - sb) (by lia)
  have ep:sb+(p - sb)=p:=by lia
  unfold J8 at this;rw [ep,key2] at this
  simpa using this
 have hi:∀ p,sb+n'<=p->p<sb+nb->Rk rk (Dy st) (sb - 1)<Rk rk (Dy st) p:=fun p p1 p3=>by
  have:=n3 (p - sb) (by lia) (by lia)
  have ep:sb+(p - sb)=p:=by lia
  unfold J8 at this;rw [ep,key2] at this;have ne:Rk rk (Dy st) p≠Rk rk (Dy st) (sb - 1):=fun z=>by have:=ok.keys.ne (by lia) (by lia) z;lia
  simp at this;lia
 have np:0<n':=by
  refine MJ fun z=>?_;have:=hi sb (by lia) (by lia)
  have:=up (sb - 1) (by lia) (by lia)
  lia
 refine Og (by simp;lia) ?_;have zx:((Dy st).extract (sa+k) sb).size=sb - (sa+k):=by simp;lia
 have zy:((Dy st).extract sb (sb+n')).size=n':=by simp;lia
 have T:Two rk good ((Dy st).extract (sa+k) sb) ((Dy st).extract sb (sb+n')):=⟨jY (by lia) fun p q p1 p3 p4=>r1 p q (by lia) p3 p4,jY (by lia) fun p q p1 p3 p4=>r2 p q p1 p3 (by lia),fun x hx=>by
   obtain ⟨p,_,_,p3,rfl⟩:=cR (by lia) hx;exact gd _<|cu p3,fun x hx=>by
   obtain ⟨p,_,_,p3,rfl⟩:=cR (by lia) hx;exact gd _<|cu p3,fun x hx y hy e=>by
   obtain ⟨p,p1,p3,p4,rfl⟩:=cR (by lia) hx;obtain ⟨q,q1,q3,q4,rfl⟩:=cR (by lia) hy;rw [<-fG (rk:=rk) p4,<-fG (rk:=rk) q4] at e;have:=ok.keys.ne p4 q4 e
   lia⟩
 have hL:DK rk ((Dy st).extract (sa+k) sb) ((Dy st).extract sb (sb+n')):=fun h z hz=>by
  obtain ⟨p,p1,p3,p4,rfl⟩:=cR (by lia) hz;have:=be p p1 p3
  rw [fG p4,fG (by lia)] at this;have ex:sa+k+(((Dy st).extract (sa+k) sb).size - 1)=sb - 1:=by lia
  simpa only [Array.getElem_extract,ex] using this
 have hF:Cu rk ((Dy st).extract (sa+k) sb) ((Dy st).extract sb (sb+n')):=fun h z hz=>by
  obtain ⟨p,p1,p3,p4,rfl⟩:=cR (by lia) hz;have:=up p p1 p3
  rw [fG p4,fG hsb] at this
  simpa only [Array.getElem_extract,Nat.add_zero] using this
 have fin:∀ (m:Array Dz) (st2:Fd),N8 rk ((Dy st).extract (sa+k) sb).toList ((Dy st).extract sb (sb+n')).toList m.toList->Dy st2=Dy st->Within (Dy st) (m.toList.zipIdx.foldl (fun a (p:Dz×Nat)=>a.setIfInBounds (sa+k+p.2) p.1) (Dy st2)) sa (sb+nb)/\bF rk (m.toList.zipIdx.foldl (fun a (p:Dz×Nat)=>a.setIfInBounds (sa+k+p.2) p.1) (Dy st2)) sa (sb+nb):=fun m st2 M ea=>by
  have lm:m.toList.length=sb+n' - (sa+k):=by rw [M.1.length_eq,JC,lV _ (by lia),lV _ (by lia)];lia
  rw [ea];refine zaC ⟨by lia,by lia,hz,r1,r2,lo,hi⟩ (by lia) M ?_;rw [Cm (sa+k) m.toList 0 (Dy st) (by lia),Nat.add_zero];have e:sa+k+m.toList.length=sb+n':=by lia
  rw [e]
 have hx0:0<((Dy st).extract (sa+k) sb).size:=by lia
 have hy0:0<((Dy st).extract sb (sb+n')).size:=by lia
 refine iQ (En<|ab9 C T hL hx0 hy0 (hF hy0 _<|cu hx0) ok.kind fun m st2 M sm=>?_)<|En<|ab2 C T hL hF hx0 hy0 ok.kind fun m st2 M sm=>?_
 all_goals
  obtain ⟨f1,f2⟩:=fin m st2 M sm.1;have fl:failedOf st2=FX:=sm.2.2.1.trans ok.failed;refine En<|Tn<|En<|T9<|Ep ?_
  show Q (failedOf st2).isNone _;rw [fl];exact q _ ⟨sm.2.1.trans ok.kind,fl,ok.keys.perm f1.perm⟩ f1 f2 sm.2.2.2
def Cont (rk:Mk->Nat)(a:Array Dz):List (Nat×Nat×Nat)->Nat->Nat->Prop
 | [],i,j=>i=j
 | (s,n,_)::r,i,j=>s=i/\0<n/\bF rk a i (i+n)/\Cont rk a r (i+n) j
theorem vJ {a:Array Dz}:∀ {ps:List (Nat×Nat×Nat)} {i j:Nat},Cont rk a ps i j->i+ps.length<=j
 | [],i,j,h=>by have h:i=j:=h;simp;lia
 | (s,n,p)::r,i,j,h=>by
  obtain ⟨_,h1,_,h2⟩:=h;have:=vJ h2
  simp;lia
theorem jX {a:Array Dz}:∀ {ps qs:List (Nat×Nat×Nat)} {i j:Nat},Cont rk a (ps++qs) i j↔∃ k,Cont rk a ps i k/\Cont rk a qs k j
 | [],qs,i,j=>⟨fun h=>⟨i,rfl,h⟩,fun ⟨k,e,h⟩=>by have e:i=k:=e;rw [e];exact h⟩
 | (s,n,p)::r,qs,i,j=>by
  constructor
  ·rintro ⟨h1,h2,h3,h4⟩;obtain ⟨k,a1,a2⟩:=jX.mp h4;exact ⟨k,⟨h1,h2,h3,a1⟩,a2⟩
  ·rintro ⟨k,⟨h1,h2,h3,h4⟩,h5⟩;exact ⟨h1,h2,h3,jX.mpr ⟨k,h4,h5⟩⟩
theorem pF {i j:Nat}(W:Within a b lo hi)(h:bF rk a i j)(o:j<=lo\/hi<=i):bF rk b i j:=fun p q h1 h2 h3=>by
 rw [yF (W.out p (by lia)),yF (W.out q (by lia))];exact h p q h1 h2 h3
theorem dX {a b:Array Dz}{lo hi:Nat}(W:Within a b lo hi):∀ {ps:List (Nat×Nat×Nat)} {i j:Nat},Cont rk a ps i j->(j<=lo\/hi<=i)->Cont rk b ps i j
 | [],i,j,h,_=>h
 | (s,n,p)::r,i,j,⟨h1,h2,h3,h4⟩,o=>⟨h1,h2,pF W h3 (by have:=vJ h4;lia),dX W h4 (by lia)⟩
theorem uX {a:Array Dz}{f:Nat×Nat×Nat->Nat×Nat×Nat}(hf:∀ x,(f x).1=x.1/\(f x).2.1=x.2.1):∀ {ps:List (Nat×Nat×Nat)} {k i j:Nat},Cont rk a ps i j->Cont rk a (ps.modify k f) i j
 | [],k,i,j,h=>by simpa using h
 | (s,n,p)::r,0,i,j,⟨h1,h2,h3,h4⟩=>by
  obtain ⟨e1,e2⟩:=hf (s,n,p);have e:f (s,n,p)=(s,n,(f (s,n,p)).2.2):=by
   rw [Prod.ext_iff,Prod.ext_iff];exact ⟨e1,e2,rfl⟩
  show Cont rk a (f (s,n,p)::r) i j;rw [e];exact ⟨h1,h2,h3,h4⟩
 | (s,n,p)::r,k+1,i,j,⟨h1,h2,h3,h4⟩=>⟨h1,h2,h3,uX hf h4⟩
theorem aiR {α : Type}{l:List α}{i:Nat}(h:i+1<l.length):l=l.take i++l[i]::l[i+1]::l.drop (i+2):=by
 rw [<-Vd h,<-Vd (by lia),Ye]
structure JI (kd:Vs) (rk:Mk->Nat) (good:Mk->Prop) (a0:Array Dz) (lo:Nat) (st:Fd):Prop where
 ok:Nj kd rk good st
 perm:(Dy st).Perm a0
 cont:Cont rk (Dy st) (Jx st).toList 0 lo
theorem Bc (C:NK P w A s kd rk good){i:Nat}{a0:Array Dz}{Q:Bool->Fd->Prop}(J:JI kd rk good a0 lo st)(hl:lo<=a0.size)(hi:i+1<(Jx st).size)
  (q:∀ st',JI kd rk good a0 lo st'->Within (Dy st) (Dy st') 0 lo->(Jx st').size+1=(Jx st).size->Q true st'):wpS (Dm P w) A E s (mAt i) Q st:=by
 obtain ⟨ok,pm,ct⟩:=J;have hi':i+1<(Jx st).toList.length:=by simpa using hi
 have es:=aiR hi';obtain ⟨sa,na,p,hx⟩:∃ sa na p,(Jx st).toList[i]=(sa,na,p):=⟨_,_,_,rfl⟩
 obtain ⟨sb,nb,p2,hy⟩:∃ sb nb p2,(Jx st).toList[i+1]=(sb,nb,p2):=⟨_,_,_,rfl⟩
 rw [hx,hy] at es;have ct2:=ct;rw [es] at ct2;obtain ⟨k,c1,e1,n1,r1,e2,n2,r2,c2⟩:=jX.mp ct2;subst e1 e2;have hz:=vJ c2;have hs:=pm.size_eq;refine abn C ok (sa:=sa) (na:=na) (p:=p) (sb:=sa+na) (nb:=nb) (p2:=p2) ?_ ?_ rfl n1 n2 (by lia) r1 r2 fun st' ok' W R e=>?_
 ·rw [<-Vx,GK (by lia),hx]
 ·rw [<-Vx,GK hi',hy]
 have lt:((Jx st).toList.take i).length=i:=by rw [Lr];lia
 have el:(Jx st').toList=(Jx st).toList.take i++(sa,na+nb,p)::(Jx st).toList.drop (i+2):=by
  rw [e,Array.toList_eraseIdxIfInBounds,Array.toList_setIfInBounds];conv=>lhs;rw [es]
  rw [List.set_append_right _ _ (by lia),lt,Nat.sub_self,List.set_cons_zero,List.eraseIdx_append_of_length_le (by lia),lt];have:i+1 - i=1:=by lia
  rw [this];rfl
 refine q st' ⟨ok',W.perm.trans pm,?_⟩ (W.wide (Jk _)<|by lia) ?_
 ·rw [el];refine jX.mpr ⟨sa,dX W c1<|.inl<|Ea _,rfl,by lia,?_,?_⟩
  ·rw [<-Nat.add_assoc];exact R
  ·rw [<-Nat.add_assoc];exact dX W c2 (.inr (Ea _))
 ·have l1:=congrArg Wj el;have l2:=congrArg Wj es;simp only [JC,K9,Vu] at l1 l2;lia
theorem aeY [Decidable c](i:Nat):(if c then i - 1 else i)<=i:=by split <;> lia
theorem lM {pd:Array (Nat×Nat×Nat)}(ok:Nj kd rk good st):Nj kd rk good (setPending st pd):=⟨ok.kind,ok.failed,ok.keys⟩
theorem ahB (C:NK P w A s kd rk good){Q:Unit->Fd->Prop}(ok:Nj kd rk good st)(hp:Jx st = #[])(h2:2<=(Dy st).size)
  (q:∀ st',(Dy st').Perm (Dy st)->failedOf st'=FX->bF rk (Dy st') 0 (Dy st).size->Q () st'):wpS (Dm P w) A E s sortRuns' Q st:=by
 rw [sortRuns'_eq];refine En<|T9 ?_
 dsimp only;obtain ⟨a0,ea0⟩:∃ a0,Dy st=a0:=⟨_,rfl⟩
 have J0:JI kd rk good a0 0 st:=⟨ok,by rw [ea0],by rw [hp];rfl⟩
 rw [ea0] at h2 q |-
 generalize hn:a0.size=N at *;generalize hmr:minRun' N N 0=mr at *;refine En (Nt (Ny
  (I:=fun x c st'=>∃ lo,c=(FX,lo)/\JI kd rk good a0 lo st'/\lo<=N/\x<=lo)
  (Q:=fun c st'=>c=(FX,N)/\JI kd rk good a0 N st') ?_ ?_ ⟨0,rfl,J0,Jk _,Ea _⟩) ?_)
 ·rintro x c st' _ hx ⟨lo,rfl,J,hlo,hxl⟩;dsimp only;by_cases c0:lo>=N
  ·have e:lo=N:=by lia
   subst e;exact T4 c0<|Ep ⟨rfl,J⟩
  refine Og c0 ?_;have hsz:(Dy st').size=N:=by rw [J.perm.size_eq,hn]
  refine En<|w_count C J.ok (by lia) (by lia) fun n b n1 n2 hw hr _=>?_
  dsimp only;have ok2:Nj kd rk good (Li st' b):=J.ok.arr hw.perm;have fin:∀ (m:Nat) (st2:Fd),Nj kd rk good st2->(Dy st2).Perm a0->Cont rk (Dy st2) (Jx st2).toList 0 lo->bF rk (Dy st2) lo (lo+m)->0<m->lo+m<=N->JI kd rk good a0 (lo+m) (setPending st2 ((Jx st2).push (lo,m,0))):=fun m st2 o2 p2 c2 r2 m0 m1=>by
   refine ⟨lM o2,p2,?_⟩;show Cont rk (Dy st2) ((Jx st2).push (lo,m,0)).toList 0 (lo+m);rw [Array.toList_push];exact jX.mpr ⟨lo,c2,rfl,m0,r2,rfl⟩
  have back:∀ (m pw:Nat) (st2:Fd),JI kd rk good a0 lo st2->bF rk (Dy st2) lo (lo+m)->0<m->lo+m<=N->wpS (Dm P w) A E s (forIn [0:N] ((FX:Option Unit),()) fun _ _=>do
     let p:=Jx (<-get)
     match (if p.size>1 then p[p.size - 2]? else FX) with
     | some (_,_,older)=>if older<=pw then pure (ForInStep.done ((FX:Option Unit),())) else do
       let r <-mAt (p.size - 2)
       if (!r)=true then pure (ForInStep.done (FN (),())) else pure (ForInStep.yield ((FX:Option Unit),()))
     | x=>pure (ForInStep.done ((FX:Option Unit),())))
    (fun c st3=>c=(FX,())/\JI kd rk good a0 lo st3/\bF rk (Dy st3) lo (lo+m)) st2:=fun m pw st2 J2 R2 m0 m1=>by
   refine Ny (I:=fun _ c st3=>c=(FX,())/\JI kd rk good a0 lo st3/\bF rk (Dy st3) lo (lo+m)) ?_ (fun c st3 h=>h) ⟨rfl,J2,R2⟩;rintro y c st3 _ hy ⟨rfl,J3,R3⟩;refine En<|T9 ?_
   dsimp only;by_cases hs:(Jx st3).size>1
   ·rw [if_pos hs];obtain ⟨a1,a2,a3,ex⟩:∃ a1 a2 a3,(Jx st3)[(Jx st3).size - 2]?=FN (a1,a2,a3):=⟨_,_,_,WM (by lia)⟩
    rw [ex];dsimp only;by_cases c3:a3<=pw
    ·exact T4 c3<|Ep ⟨rfl,J3,R3⟩
    ·refine Og c3<|En<|Bc C J3 (by lia) (by lia) fun st4 J4 W4 _=>?_
     exact Og (by simp)<|Ep ⟨rfl,J4,pF W4 R3<|.inr<|Ea _⟩
   ·rw [if_neg hs];exact Ep ⟨rfl,J3,R3⟩
  by_cases c:n<mr
  ·refine T4 c<|En<|wpS_lift<|Ml ⟨rfl,?_⟩
   refine En<|Za C ok2 n1 (show n<=min (N - lo) mr by lia) (by show lo+min (N - lo) mr<=b.size;rw [hw.size];lia) hr fun b2 hw2 hr2=>?_
   refine Og (by simp) ?_;have W:Within (Dy st') b2 lo (lo+(N - lo)):=hw.trans (hw2.wide (Ea _) (by lia));have J2:JI kd rk good a0 lo (Li (Li st' b) b2):=⟨ok2.arr hw2.perm,W.perm.trans J.perm,dX W J.cont (.inl (Ea _))⟩
   refine En<|T9 ?_
   cases hbk:(Jx (Li (Li st' b) b2)).back? with
   | none=>exact En (Tn (Ep ⟨_,rfl,fin (min (N - lo) mr) _ J2.ok J2.perm J2.cont hr2 (by lia) (by lia),by lia,by lia⟩))
   | some t=>
    obtain ⟨s1,l1,p1⟩:=t;dsimp only;refine En<|Nt (back (min (N - lo) mr) _ _ J2 hr2 (by lia)<|by lia) ?_
    rintro c st3 ⟨rfl,J3,R3⟩;dsimp only;refine En<|Tn<|En<|Tn<|Ep ⟨_,rfl,fin (min (N - lo) mr) (setPending st3 _) (lM J3.ok) J3.perm ?_ R3 (by lia)<|by lia,by lia,by lia⟩
    show Cont rk (Dy st3) ((Jx st3).modify _ _).toList 0 lo;rw [Array.toList_modify];refine @uX rk (Dy st3) _ ?_ _ _ _ _ J3.cont;exact fun _=>⟨rfl,rfl⟩
  ·refine Og c ?_;have J2:JI kd rk good a0 lo (Li st' b):=⟨ok2,hw.perm.trans J.perm,dX hw J.cont (.inl (Ea _))⟩
   refine En<|T9 ?_
   cases hbk:(Jx (Li st' b)).back? with
   | none=>exact En (Tn (Ep ⟨_,rfl,fin n _ J2.ok J2.perm J2.cont hr (by lia) (by lia),by lia,by lia⟩))
   | some t=>
    obtain ⟨s1,l1,p1⟩:=t;dsimp only;refine En<|Nt (back n _ _ J2 hr (by lia)<|by lia) ?_
    rintro c st3 ⟨rfl,J3,R3⟩;dsimp only;refine En<|Tn<|En<|Tn<|Ep ⟨_,rfl,fin n (setPending st3 _) (lM J3.ok) J3.perm ?_ R3 (by lia)<|by lia,by lia,by lia⟩
    show Cont rk (Dy st3) ((Jx st3).modify _ _).toList 0 lo;rw [Array.toList_modify];refine @uX rk (Dy st3) _ ?_ _ _ _ _ J3.cont;exact fun _=>⟨rfl,rfl⟩
 ·rintro c st' ⟨lo,rfl,J,hlo,hxl⟩;have e:lo=N:=by lia
  subst e;exact ⟨rfl,J⟩
 ·rintro c st' ⟨rfl,J⟩;dsimp only;refine En (Nt (Ny
   (I:=fun x c st2=>c=(FX,())/\JI kd rk good a0 N st2/\(Jx st2).size+x<=N) (Q:=fun c st2=>c=(FX,())/\JI kd rk good a0 N st2/\(Jx st2).size<=1) ?_ ?_ ⟨rfl,J,?_⟩) ?_)
  ·rintro x c st2 _ hx ⟨rfl,J2,hl⟩;refine En<|T9 ?_
   by_cases c1:(Jx st2).size<=1
   ·exact T4 c1<|Ep ⟨rfl,J2,c1⟩
   ·refine Og c1<|En<|Bc C J2 (by lia) ?_ fun st4 J4 _ e4=>Og (by simp)<|Ep ⟨rfl,J4,by lia⟩
    exact Rj (Nat.add_le_add_right (aeY _) 1)<|by lia
  ·rintro c st2 ⟨rfl,J2,hl⟩;exact ⟨rfl,J2,by lia⟩
  ·have:=vJ J.cont
   simp at this;lia
  ·rintro c st2 ⟨rfl,J2,hl⟩;refine Ep<|q _ J2.perm J2.ok.failed ?_
   have ct:=J2.cont;match hl2:(Jx st2).toList,ct with
   | [],ct=>
    have ct:0=N:=ct;lia
   | [(s1,l1,p1)],⟨_,_,r,e⟩=>
    have e:0+l1=N:=e;rw [e] at r;exact r
   | _::_::_,_=>
    have:=congrArg Wj hl2
    simp at this;lia
end
def Mp:List Int->List Int->Option Bool
 | a::k,b::l=>if a=b then Mp k l else FN (decide (a<b))
 | _,_=>FX
theorem Ip:∀ k l:List Int,(match Mp k l with | some r=>r | none=>decide (k.length<l.length))=decide (k<l)
 | [],[]=>by simp [Mp]
 | [],b::l=>by simp [Mp]
 | a::k,[]=>by simp [Mp]
 | a::k,b::l=>by
  unfold Mp;by_cases e:a=b
  ·subst e;rw [if_pos rfl];have:=Ip k l
   simp only [K9,Nat.add_lt_add_iff_right];rw [this];exact decide_eq_decide.mpr (by rw [Vw];simp [Int.lt_irrefl])
  ·rw [if_neg e];exact decide_eq_decide.mpr (by rw [Vw];simp [e])
section
variable {P:Ew}{w:Em}{A:Fg}{E:Mk->AP->Prop}{s:AP}
def xR (h:Heap)(v:Mk)(k:List Int):Prop:=∃ a o its n,v=.ref a/\h.get? a=FN o/\o.cls=.type "tuple"/\o.data=.seq its n/\DY (k.map V.int) its.toList
theorem afj {a b:Int}{t u:Tok}{Q:Bool->AP->Prop}(h:Q (decide (a<b)) s):Dl (Dm P w) A (oneLt' false (.int a t) (.int b u)) Q E s:=by
 rw [oneLt'_eq];simp only [SJ,if_false];exact CR<|wpAny_richCompare_same (typeIs_int s a t) (typeIs_int s b u) slot_int_lt<|call_int_lt ⟨by simp,VD h⟩
theorem Jp {f:(Mk×Mk)×Nat->Option Bool×Unit->Sem (ForInStep (Option Bool×Unit))}
  (hf:∀ (a b:Int) (t u:Tok) (i:Nat) (R:ForInStep (Option Bool×Unit)->AP->Prop),R (if a=b then .yield (FX,()) else .done (FN (decide (a<b)),())) s->Dl (Dm P w) A (f ((.int a t,.int b u),i) (FX,())) R E s) :
  ∀ {k l:List Int} {ps qs:List Mk} {j:Nat},DY (k.map V.int) ps->DY (l.map V.int) qs->∀ {R:Option Bool×Unit->AP->Prop},R (Mp k l,()) s->Dl (Dm P w) A (forIn ((ps.zip qs).zipIdx j) (FX,()) f) R E s
 | [],l,ps,qs,j,hp,hq,R,q=>by
  cases hp;rw [List.zip_nil_left,List.zipIdx_nil,YF];exact Ds q
 | a::k,[],ps,qs,j,hp,hq,R,q=>by
  cases hq;rw [List.zip_nil_right,List.zipIdx_nil,YF];exact Ds q
 | a::k,b::l,ps,qs,j,hp,hq,R,q=>by
  cases hp with
  | cons r1 hp=>
   cases hq with
   | cons r2 hq=>
    obtain ⟨t,rfl⟩:=r1;obtain ⟨u,rfl⟩:=r2;rw [List.zip_cons_cons,List.zipIdx_cons,YK];refine CR<|hf a b t u j _ ?_
    unfold Mp at q;by_cases e:a=b
    ·rw [if_pos e] at q |-
     exact Jp hf hp hq q
    ·rw [if_neg e] at q |-
     exact Ds q
theorem Zg {fo:Bool}{x y:Mk}{k l:List Int}{Q:Bool->AP->Prop}(hx:xR s.heap x k)(hy:xR s.heap y l)(q:Q (decide (k<l)) s):Dl (Dm P w) A (keyLt' (tuples' fo) x y) Q E s:=by
 obtain ⟨a,o,its,n,rfl,ga,_,da,va⟩:=hx;obtain ⟨b,u,jts,m,rfl,gb,_,db,vb⟩:=hy;refine CR<|listItems_at ga da<|CR<|listItems_at gb db<|CR<|Jp (fun c d t u i R hR=>?_) va vb ?_
 ·dsimp only;refine CR<|wpAny_eqBool_int ?_
  by_cases e:c=d
  ·rw [if_pos e] at hR;rw [show (c==d)=true by simpa using e];exact Ds hR
  ·rw [if_neg e] at hR;rw [show (c==d)=false by simpa using e];refine CR ?_;cases hb:(fo&&i==0) with
   | true=>exact oneLt_int (Ds hR)
   | false=>exact afj (Ds hR)
 ·have e:=Ip k l;have la:its.size=k.length:=by have:=va.length;simpa using this.symm
  have lb:jts.size=l.length:=by have:=vb.length;simpa using this.symm
  rw [<-e] at q;dsimp only;cases c:Mp k l with
  | some r=>rw [c] at q;exact Ds q
  | none=>rw [c] at q;rw [la,lb];exact Ds q
theorem aed {x:Mk}{i:Int}{k:List Int}{Q:Option Mk->AP->Prop}(hx:xR s.heap x (i::k))(q:∀ t,Q (FN (.int i t)) s):Dl (Dm P w) A (firstOfTuple' x) Q E s:=by
 obtain ⟨a,o,its,n,rfl,ga,ca,da,va⟩:=hx;refine CR<|Rf (T := "tuple") ⟨o,ga,ca⟩ ?_
 rw [if_neg (by decide)];refine CR<|listItems_at ga da ?_
 obtain ⟨xs⟩:=its;cases va with
 | cons r _=>
  obtain ⟨t,rfl⟩:=r;exact Ds<|q t
theorem rN:∀ {vs:List Mk} {ks:List (List Int)} {Q:List (Option Mk)->AP->Prop},La (fun k v=>xR s.heap v k) ks vs->(∀ k∈ks,k≠[])->(∀ us:List Mk,us.length=vs.length->(∀ u∈us,∃ i t,u=.int i t)->Q (us.map FN) s)->Dl (Dm P w) A (vs.mapM firstOfTuple') Q E s
 | [],_,Q,h,_,q=>by
  cases h;exact Ds<|q [] rfl fun _ h=>nomatch h
 | v::vs,ks,Q,h,hn,q=>by
  cases h with
  | @cons k _ ks' _ r h=>
   rw [List.mapM_cons];obtain ⟨i,k',rfl⟩:∃ i k',k=i::k':=List.exists_cons_of_ne_nil (hn k LQ)
   refine CR<|aed r fun t=>CR ?_
   refine rN h (fun k hk=>hn k<|Jm _ hk) fun us hl hu=>Ds ?_;refine q (.int i t::us) (by simp [hl]) fun u hm=>?_;rcases J1.mp hm with rfl | hm
   ·exact ⟨i,t,rfl⟩
   ·exact hu u hm
theorem wR:∀ {us:List Mk} {Q:List Mk->AP->Prop},(∀ u∈us,∃ i t,u=Value.int i t)->Q (us.map fun _=>.type "int") s->Dl (Dm P w) A (us.mapM typeOf) Q E s
 | [],Q,_,q=>Ds q
 | u::us,Q,h,q=>by
  rw [List.mapM_cons];obtain ⟨i,t,rfl⟩:=h u LQ;exact CR<|Rf (typeIs_int s i t)<|CR<|wR (fun v hv=>h v<|Jm _ hv)<|Ds q
theorem agf {vs:List Mk}{ks:List (List Int)}{Q:Vs->AP->Prop}(h:La (fun k v=>xR s.heap v k) ks vs)(hn:∀ k∈ks,k≠[])(h1:1<=vs.length)(q:Q (tuples' true) s):Dl (Dm P w) A (keyKind' vs.toArray) Q E s:=by
 rw [keyKind'_eq,List.mapM_toArray];refine CR<|wpAny_map ?_
 refine rN h hn fun us hl hu=>?_;rw [if_pos (by simp)];refine CR<|Ml<|CR ?_
 have ef:(us.map FN).toArray.filterMap id=us.toArray:=by
  rw [List.filterMap_toArray];simp
 rw [ef,oneTypeOnly'_eq,List.mapM_toArray];refine CR<|wpAny_map<|wR hu ?_
 obtain ⟨u,us',rfl⟩:∃ u us',us=u::us':=List.exists_cons_of_ne_nil fun e=>by rw [e] at hl;simp at hl;lia
 show Dl _ _ (pure (if _ then FN (Value.type "int") else FX)) _ _ s;rw [if_pos (by simp)];exact Ds<|Ds q
end
variable {ks : List (List Int)}
section
variable {P:Ew}{w:Em}{A:Fg}{E:Mk->AP->Prop}{s:AP}
def Il (ks:List (List Int))(k:List Int):Nat:=ks.countP fun l=>decide (l<k)
theorem yO {k l:List Int}(h:k<l):∀ ks:List (List Int),Il ks k<=Il ks l/\(k∈ks->Il ks k<Il ks l)
 | []=>⟨Ea _,fun h=>nomatch h⟩
 | a::as=>by
  obtain ⟨i1,i2⟩:=yO h as;unfold Il at *;rw [List.countP_cons,List.countP_cons];by_cases c:a<k
  ·have c2:a<l:=List.lt_trans c h;rw [if_pos (decide_eq_true c),if_pos (decide_eq_true c2)];refine ⟨by lia,fun hm=>?_⟩;rcases J1.mp hm with e | hm
   ·exact absurd c (by rw [e];exact YG a)
   ·have:=i2 hm
    lia
  ·rw [if_neg (by simpa using c)];refine ⟨by split <;> lia,fun hm=>?_⟩;rcases J1.mp hm with e | hm
   ·subst e;rw [if_pos (decide_eq_true h)];lia
   ·have:=i2 hm
    split <;> lia
theorem pG {k l:List Int}(hk:k∈ks):Il ks k<Il ks l↔k<l:=by
 refine ⟨fun h=>?_,fun h=>(yO h ks).2 hk⟩;refine MJ fun c=>?_;have c:l<=k:=List.not_lt.mp c;by_cases e:l=k
 ·subst e;exact absurd h (Nv _)
 ·have c2:l<k:=MJ fun c3=>e (List.le_antisymm c (List.not_lt.mp c3))
  exact absurd h<|Nat.not_lt.mpr (yO c2 ks).1
theorem xR.fn {h:Heap}{v:Mk}{k l:List Int}(x:xR h v k)(y:xR h v l):k=l:=by
 obtain ⟨a,o,its,n,rfl,ga,_,da,va⟩:=x;obtain ⟨b,u,jts,m,e,gb,_,db,vb⟩:=y;cases e;rw [ga] at gb;cases gb;rw [da] at db;cases db;have go:∀ {k l:List Int} {xs:List Mk},DY (k.map V.int) xs->DY (l.map V.int) xs->k=l:=by
  intro k;induction k with
  | nil=>
   intro l xs h1 h2;cases h1;cases l with
   | nil=>rfl
   | cons b l=>cases h2
  | cons a k ih=>
   intro l xs h1 h2;cases h1 with
   | cons r1 h1=>
    cases l with
    | nil=>cases h2
    | cons b l=>
     cases h2 with
     | cons r2 h2=>
      obtain ⟨t,e1⟩:=r1;obtain ⟨u,e2⟩:=r2;rw [e1] at e2;cases e2;rw [ih h1 h2]
 exact go va vb
theorem xR.of {h h':Heap}{v:Mk}{k:List Int}(x:xR h v k)(e:∀ b o,v=.ref b->o.cls=.type "tuple"->h.get? b=FN o->h'.get? b=FN o):xR h' v k:=by
 obtain ⟨a,o,its,n,rfl,ga,ca,r⟩:=x;exact ⟨a,o,its,n,rfl,e a o rfl ca ga,ca,r⟩
structure Vg (T:Heap->Mk->List Int->Prop):Prop where
 fn:∀ {h:Heap} {v:Mk} {k l:List Int},T h v k->T h v l->k=l
 of:∀ {h h':Heap} {v:Mk} {k:List Int},T h v k->(∀ b o,o.cls=.type "tuple"->h.get? b=FN o->h'.get? b=FN o)->T h' v k
abbrev Q7 (T:Heap->Mk->List Int->Prop)(h:Heap):List (List Int)->List Mk->Prop:=La fun k v=>T h v k
theorem fX {α β : Type}{F G:α->β->Prop}:∀ {as:List α} {bs:List β},La F as bs->(∀ a b,b∈bs->F a b->G a b)->La G as bs
 | [],_,h,_=>by cases h;exact .nil
 | a::as,_,h,g=>by
  cases h with
  | cons r h=>exact .cons (g _ _ LQ r) (fX h fun a b hb=>g a b (Jm _ hb))
section
variable {T:Heap->Mk->List Int->Prop}(F:Vg T)
include F
open Classical in
noncomputable def keyV (_:Vg T)(h:Heap)(v:Mk):List Int:=if e:∃ k,T h v k then e.choose else []
theorem mD {h:Heap}{v:Mk}{k:List Int}(x:T h v k):keyV F h v=k:=by
 unfold keyV;have e:∃ k,T h v k:=⟨k,x⟩
 rw [dif_pos e,F.fn e.choose_spec x]
theorem keys_map {h:Heap}:∀ {ks:List (List Int)} {vs:List Mk},Q7 T h ks vs->ks=vs.map (keyV F h)/\∀ v∈vs,∃ k∈ks,T h v k
 | [],_,p=>by cases p;exact ⟨rfl,fun _ h=>nomatch h⟩
 | k::ks,_,p=>by
  cases p with
  | cons r p=>
   obtain ⟨e,g⟩:=keys_map p;refine ⟨by rw [Ed,mD F r,<-e],fun v hv=>?_⟩;rcases J1.mp hv with rfl | hv
   ·exact ⟨k,LQ,r⟩
   ·obtain ⟨l,hl,x⟩:=g v hv;exact ⟨l,Jm _ hl,x⟩
theorem rY {h:Heap}:∀ {vs:List Mk},(∀ v∈vs,∃ k,T h v k)->Q7 T h (vs.map (keyV F h)) vs
 | [],_=>.nil
 | v::vs,g=>by
  obtain ⟨k,x⟩:=g v LQ;exact .cons (by rw [mD F x];exact x)<|rY fun u hu=>g u<|Jm _ hu
noncomputable def Ur (F:Vg T)(h:Heap)(ks:List (List Int))(v:Mk):Nat:=Il ks (keyV F h v)
theorem Zv {h:Heap}{vs:List Mk}(p:Q7 T h ks vs)(hp:b.Perm (R7 vs))(hr:bF (Ur F h ks) b 0 vs.length):
  ∃ ks',Q7 T h ks' (b.map (·.2)).toList/\ks'.Perm ks/\ks'.Pairwise (· < ·)/\(b.map (·.2)).toList.Perm vs:=by
 obtain ⟨ek,g⟩:=keys_map F p;have hl:=Array.perm_iff_toList_perm.mp hp;have ep:(R7 vs).toList=vs.map fun v=>(v,v):=by
  have z:∀ l:List Mk,l.zip l=l.map fun v=>(v,v):=fun l=>by
   induction l with
   | nil=>rfl
   | cons a l ih=>rw [List.zip_cons_cons,ih];rfl
  unfold R7;rw [Array.toList_zip];exact z vs
 rw [ep] at hl;have same:∀ x∈b.toList,x.1=x.2/\x.2∈vs:=fun x hx=>by
  obtain ⟨v,hv,rfl⟩:=Gs.mp (hl.mem_iff.mp hx);exact ⟨rfl,hv⟩
 have po:(b.toList.map (·.2)).Perm vs:=by
  have:=hl.map (·.2)
  rw [Lb] at this
  simpa [Function.comp_def] using this
 rw [Array.toList_map];refine ⟨(b.toList.map (·.2)).map (keyV F h),rY F fun v hv=>?_,?_,?_,po⟩
 ·obtain ⟨k,_,x⟩:=g v (po.mem_iff.mp hv);exact ⟨k,x⟩
 ·rw [ek];exact po.map _
 ·rw [Lb,Tv,YS];intro i j hi hj hij;have hb:b.toList.length=vs.length:=by have:=po.length_eq;simpa using this
  have:=hr i j (Jk _) hij (by rw [<-hb];exact hj)
  rw [fG (by simpa using hi),fG (by simpa using hj)] at this;have e1:=same b[i] (by simp);have e2:=same b[j] (by simp);rw [e1.1,e2.1] at this;exact (pG (by rw [ek];exact Gs.mpr ⟨_,e1.2,rfl⟩)).mp this
theorem aeO {h:Heap}{KS:List (List Int)}{vs:List Mk}(p:Q7 T h ks vs):((R7 vs).toList.map fun x=>Ur F h KS x.1)=ks.map (Il KS):=by
 have ep:(R7 vs).toList.map (·.1)=vs:=by
  unfold R7;rw [Array.toList_zip,List.map_fst_zip (Ea _)]
 rw [(keys_map F p).1,Lb];conv=>rhs;rw [<-ep]
 rw [Lb];rfl
end
theorem aib (nd:ks.Nodup):(ks.map (Il ks)).Nodup:=by
 unfold List.Nodup;rw [Tv];refine List.Pairwise.imp_of_mem (fun {k l} hk hl ne e=>ne ?_) nd;have n1:¬ k<l:=fun c=>by have:=(pG hk).mpr c;lia
 have n2:¬ l<k:=fun c=>by have:=(pG hl).mpr c;lia
 exact List.le_antisymm (List.not_lt.mp n2)<|List.not_lt.mp n1
abbrev Uv (h:Heap)(a:Addr)(vs:List Mk):Heap:=((h.update a (Uy fun _=>#[])).push (QZ "tuple" vs.toArray 0)).push (QZ "list" #[] 0)
structure SkT (P:Ew) (w:Em) (A:Fg) {T:Heap->Mk->List Int->Prop} (F:Vg T) (kd:Vs) (ks:List (List Int)) (vs:List Mk):Prop where
 kind:∀ {E:Mk->AP->Prop} {s:AP} {Q:Vs->AP->Prop},2<=vs.length->Q7 T s.heap ks vs->Q kd s->Dl (Dm P w) A (keyKind' vs.toArray) Q E s
 cmp:∀ {s:AP},Q7 T s.heap ks vs->NK P w A s kd (Ur F s.heap ks) (·∈vs)
theorem afh {T:Heap->Mk->List Int->Prop}{F:Vg T}{a:Addr}{vs:List Mk}{n:Nat}{R:Fin->AP->Prop}(S:SkT P w A F kd ks vs)(ho:s.heap.get? a=FN (QZ "list" vs.toArray n))(p:Q7 T s.heap ks vs)(nd:ks.Nodup)(hz:vs.length<=G7)
  (q:∀ (out:Array Mk) (ks':List (List Int)),Q7 T s.heap ks' out.toList->ks'.Perm ks->ks'.Pairwise (· < ·)->out.toList.Perm vs->R (.done (.ret .none)) { s with heap:=sortedHeap s.heap a vs out }) :
  Dl (Dm P w) A (Q6.«list.sort» ⟨[.ref a],[]⟩) R E s:=by
 have la:a<s.heap.objs.size:=Fj ho;rw [list_sort_plain];refine CR<|listItems_at ho rfl<|CR<|listUpdate_at ho rfl ?_ (by simpa using hz)<|Jk _
 obtain ⟨e1,h1⟩:∃ e1,(s.heap.update a (Uy fun _=>#[])).get? a=FN (QZ "list" #[] e1):=⟨_,get?_update_seq ho (fun _=>#[])⟩
 refine CR<|seqEpoch_at h1 rfl<|CR<|wpAny_newTuple<|CR<|wpAny_newList<|M8 ?_
 have h6:(Uv s.heap a vs).get? a=FN (QZ "list" #[] e1):=G6 _ (G6 _ h1);have keep:∀ b o,o.cls=.type "tuple"->s.heap.get? b=FN o->(Uv s.heap a vs).get? b=FN o:=fun b o hc hb=>by
  have ne:b≠a:=fun e=>by rw [e,ho] at hb;cases hb;simp at hc
  exact G6 _<|G6 _<|(TY _ _<|JD ne).trans hb
 have p6:Q7 T (Uv s.heap a vs) ks vs:=fX p fun k v _ x=>F.of x keep
 show Dl (Dm P w) A _ R E { s with heap:=Uv s.heap a vs };dsimp only;have size:vs.toArray.size=vs.length:=by simp
 have fin:∀ b:Array Dz,b.Perm (R7 vs)->bF (Ur F (Uv s.heap a vs) ks) b 0 vs.length->R (.done (.ret .none)) { s with heap:=sortedHeap s.heap a vs (b.map (·.2)) }:=fun b hp hr=>by
  obtain ⟨ks',g1,g2,g3,g4⟩:=Zv F p6 hp hr;refine q _ ks' (fX g1 fun k v hv x=>?_) g2 g3 g4;obtain ⟨l,_,y⟩:=(keys_map F p).2 v (g4.mem_iff.mp hv);exact F.fn (F.of y keep) x ▸ y
 by_cases h2:vs.toArray.size<2
 ·rw [if_pos h2,if_pos h2];refine CR<|Ds ?_
  rw [StateT.run_pure];refine CR<|Ds ?_
  dsimp only;refine CR<|seqEpoch_at h6 rfl<|CR<|listUpdate_at h6 rfl ?_ (hsz2:=?_)
  ·simp only [bne_self_eq_false,SJ,if_false];refine Ds<|fin (vs.toArray.zip vs.toArray) (Array.Perm.refl _) fun u v _ h3 h4=>?_
   lia
  ·rw [Array.size_map];show (R7 vs).size<=_;rw [pairsOf_size];lia
 ·rw [if_neg h2,if_neg h2];refine CR<|S.kind (by lia) p6<|CR ?_
  have ep:(R7 vs).toList.map (·.1)=vs:=by
   unfold R7;rw [Array.toList_zip,List.map_fst_zip (Ea _)]
  have ok:Nj kd (Ur F (Uv s.heap a vs) ks) (·∈vs) (SortSt.mk' kd (R7 vs) #[] 7 FX):=⟨rfl,rfl,⟨fun x hx=>by show x.1∈vs;rw [<-ep];exact Gs.mpr ⟨x,hx,rfl⟩,by
   rw [aeO F p6];exact aib nd⟩⟩
  have zp:(R7 vs).size=vs.length:=pairsOf_size _;refine Mj (ahB (s:={ s with heap:=Uv s.heap a vs }) (Q:=fun _ st'=>(Dy st').Perm (R7 vs)/\failedOf st'=FX/\bF (Ur F (Uv s.heap a vs) ks) (Dy st') 0 vs.length) (S.cmp p6) ok rfl (by show 2<=(R7 vs).size;lia) fun st' g1 g2 g3=>⟨g1,g2,by rw [<-zp];exact g3⟩) (fun r s' hr=>?_) fun _ _ e=>e
  ·obtain ⟨r1,st'⟩:=r;obtain ⟨rfl,g1,g2,g3⟩:=hr;dsimp only;refine CR<|seqEpoch_at h6 rfl<|CR<|listUpdate_at h6 rfl ?_ (hsz2:=?_)
   ·rw [g2];simp only [bne_self_eq_false,SJ,if_false];exact Ds<|fin _ g1 g3
   ·rw [Array.size_map,g1.size_eq,zp];lia
theorem sH {T:Heap->Mk->List Int->Prop}{F:Vg T}{v:Mk}{vs:List Mk}{Q:Mk->AP->Prop}(S:SkT P w A.in1.in1 F kd ks vs)
  (col:∀ {E:Mk->AP->Prop} {Q:List Mk->AP->Prop},(∀ h' tk,(∀ b o,s.heap.get? b=FN o->h'.get? b=FN o)->s.heap.objs.size<h'.objs.size->Q vs { s with heap:=h',toks:=tk })->Dl (Dm P w) A.in1 (collect v) Q E s)
  (p:Q7 T s.heap ks vs) (nd:ks.Nodup) (hz:vs.length<=G7)
  (q:∀ (h':Heap) (tk:Nat) (l:Addr) (out:Array Mk) (ks':List (List Int)) (c:Nat),(∀ b o,s.heap.get? b=FN o->h'.get? b=FN o)->s.heap.objs.size<=l->h'.get? l=FN (QZ "list" out c)->Q7 T s.heap ks' out.toList->ks'.Perm ks->ks'.Pairwise (· < ·)->out.toList.Perm vs->Q (.ref l) { s with heap:=h',toks:=tk }) :
  Dl (Dm P w) A (call (.builtin "sorted") [v]) Q E s:=by
 refine Calls.call_function_entry kind_sorted plain_sorted entry_sorted (args_sorted1 _) ?_;unfold Q6.«sorted»;refine CR (m:=checkCount "sorted" 1 1 _)<|Ds ?_
 refine CR<|col fun h1 tk k1 lt1=>CR<|wpAny_newList ?_
 have ho:(h1.push (QZ "list" vs.toArray 0)).get? h1.objs.size=FN (QZ "list" vs.toArray 0):=Hw _ rfl;have k2:∀ b o,s.heap.get? b=FN o->(h1.push (QZ "list" vs.toArray 0)).get? b=FN o:=fun b o hb=>G6 _ (k1 b o hb)
 have p2:Q7 T (h1.push (QZ "list" vs.toArray 0)) ks vs:=fX p fun k v _ y=>F.of y fun b o _ hb=>k2 b o hb
 show Dl _ _ _ _ _ { s with heap:=h1.push (QZ "list" vs.toArray 0),toks:=tk };refine CR<|M8<|Rz slot_list_sort ⟨_,ho,rfl⟩ entry_list_sort (afh (s:={ s with heap:=h1.push (QZ "list" vs.toArray 0),toks:=tk }) S ho p2 nd hz fun out ks' g1 g2 g3 g4=>⟨_,rfl,Ds ⟨_,rfl,?_⟩⟩)<|args_list_sort _
 obtain ⟨c,e⟩:=sortedHeap_at (a:=h1.objs.size) (vs:=vs) (out:=out) ho;refine q _ tk _ out ks' c (fun b o hb=>?_) (Mv lt1) e ?_ g2 g3 g4
 ·have lt:=Fj (k1 b o hb);rw [sortedHeap_old (HX lt) (Hl lt (by rw [size_push'];exact Tp _))];exact k2 b o hb
 ·refine fX g1 fun k v hv y=>?_;obtain ⟨l,_,z⟩:=(keys_map F p).2 v (g4.mem_iff.mp hv);exact F.fn (F.of z fun b o _ hb=>k2 b o hb) y ▸ z
theorem oH:Vg xR:=⟨xR.fn,fun x k=>x.of fun b o _ hc hb=>k b o hc hb⟩
theorem Zb {vs:List Mk}(hn:2<=ks.length->∀ k∈ks,k≠[]):SkT P w A oH (tuples' true) ks vs:=by
 refine ⟨fun h2 p q=>agf p (hn (by rw [p.length];exact h2)) (Mv h2) q,fun p E Q x y mx my q=>?_⟩;obtain ⟨k,hk,hx⟩:=(keys_map oH p).2 x mx;obtain ⟨l,_,hy⟩:=(keys_map oH p).2 y my;refine Zg hx hy ?_;unfold Ur at q;rw [mD oH hx,mD oH hy] at q;rw [<-decide_eq_decide.mpr (pG (ks:=ks) (l:=l) hk)];exact q
theorem aeK {es:Array Ru}{Q:Mk->AP->Prop}(hh:A.handled=FX)(nd0:(d==Mx)=false)(x:Ci s.heap d es ep)(hz:es.size<=G7)
  (p:La (fun k v=>xR s.heap v k) ks (es.toList.map (·.key))) (hne:2<=ks.length->∀ k∈ks,k≠[]) (nd:ks.Nodup)
  (q:∀ (h':Heap) (tk:Nat) (l:Addr) (out:Array Mk) (ks':List (List Int)) (c:Nat),(∀ b o,s.heap.get? b=FN o->h'.get? b=FN o)->s.heap.objs.size<=l->h'.get? l=FN (QZ "list" out c)->La (fun k v=>xR s.heap v k) ks' out.toList->ks'.Perm ks->ks'.Pairwise (· < ·)->out.toList.Perm (es.toList.map (·.key))->Q (.ref l) { s with heap:=h',toks:=tk }) :
  Dl (Dm P w) A (call (.builtin "sorted") [.ref d]) Q E s:=sH (Zb hne) (oA (A:=A.in1) hh nd0 x hz) p nd (by simpa using hz) q
end
theorem Bj {α β : Type}{f:α->β}{l l':List β}(h:l'.Perm l):∀ {xs:List α},l=xs.map f->∃ ys:List α,ys.Perm xs/\l'=ys.map f:=by
 induction h with
 | nil=>
  intro xs e;cases xs with
  | nil=>exact ⟨[],.refl _,rfl⟩
  | cons x xs=>simp at e
 | cons a h ih=>
  intro xs e;cases xs with
  | nil=>simp at e
  | cons x xs=>
   rw [Ed] at e;obtain ⟨e1,e2⟩:=Rv e;obtain ⟨ys,p,e3⟩:=ih e2;exact ⟨x::ys,p.cons x,by rw [Ed,<-e1,<-e3]⟩
 | swap a b l=>
  intro xs e;match xs with
  | []=>simp at e
  | [x]=>simp at e
  | x::y::xs=>
   rw [Ed,Ed] at e;obtain ⟨e1,e2⟩:=Rv e;obtain ⟨e2,e3⟩:=Rv e2;exact ⟨y::x::xs,.swap x y xs,by rw [Ed,Ed,<-e1,<-e2,<-e3]⟩
 | trans h1 h2 i1 i2=>
  intro xs e;obtain ⟨ys,p,e1⟩:=i2 e;obtain ⟨zs,p2,e2⟩:=i1 e1;exact ⟨zs,p2.trans p,e2⟩
section
variable {X:Cx}{K:Dp}
theorem agl {ajY:List (Addr×Obj)}{Z : St}{H:Hp}{s:AP}{b:Addr}{k:List Int}(I:DX X ajY Z H s)(h:Hj X.K H b (k.map V.int)):xR s.heap (.ref b) k:=by
 obtain ⟨its,r,⟨o,ho,hc,n,hd⟩,_⟩:=I.tuple h;exact ⟨b,o,its.toArray,n,rfl,ho,hc,hd,by simpa using r⟩
def Eo (ks:List (List Int)):Prop:=2<=ks.length->∀ k∈ks,k≠[]
theorem zai (hc:X.calm=true):d8 X (.builtin "sorted") (fun vs H Q=>∃ a xs,vs=[.ref a]/\H a=FN (.ext (zR a xs))/\Kg X.K H xs/\Eo (xs.map (·.1)) /\
  ∀ ys:List (List Int×Addr×Mk),ys.Perm xs->(ys.map (·.1)).Pairwise (· < ·)->∀ l,H l=FX->Q (.ref l) (Fb H l (.lst (ys.map fun y=>V.ref y.2.1)))):=by
 intro ajY s Z H vs us Q I r ⟨a,xs,ev,hx,hk,c1,q⟩;subst ev;obtain ⟨u,rfl,ru⟩:=vals1 r;cases ru;obtain ⟨⟨z,y,nd,o,es,ep,g1,g2,g3,g4⟩,_⟩:=I.hok a _ hx;have ek:es.toList.map (·.key)=xs.map fun x=>Value.ref x.2.1:=by
  rw [g4,Lb];rfl
 have p:∀ zs:List (List Int×Addr×Mk),(∀ x∈zs,x∈xs)->La (fun k v=>xR s.heap v k) (zs.map (·.1)) (zs.map fun x=>Value.ref x.2.1):=fun zs hz=>by
  induction zs with
  | nil=>exact .nil
  | cons x zs ih=>exact .cons (agl I (hk x (hz x LQ))) (ih fun y hy=>hz y (Jm _ hy))
 have le:es.size=xs.length:=by rw [<-Vu,g4,Ec]
 refine aeK (I.ok.hd hc) y ⟨o,g1,g2,g3⟩ (by rw [le];exact z) (ks:=xs.map (·.1)) (by rw [ek];exact p xs fun _ h=>h) (show 2<=(xs.map (·.1)).length->∀ k∈xs.map (·.1),k≠[] from c1) nd fun h' tk l out ks' c keep hl e pr pm pw po=>?_;rw [ek] at po;obtain ⟨ys,py,eo⟩:=Bj po rfl;have hy:=p ys fun x hx=>py.mem_iff.mp hx
 have eks:ks'=ys.map (·.1):=by
  rw [eo] at pr;exact (keys_map oH pr).1.trans (keys_map oH hy).1.symm
 rw [eks] at pw;refine ⟨.ref l,_,I.laid (t':=tk) keep hl<|show eH X.prog X.w _ h' _ (.lst<|ys.map fun y=>V.ref y.2.1) from ⟨by rw [Ec,py.length_eq];exact z,out.toList,c,?_,by simpa using e⟩,rfl,q ys py pw l<|I.hok.fresh hl⟩;rw [eo];clear eo pr eks pw hy py po;induction ys with
 | nil=>exact .nil
 | cons y ys ih=>exact .cons rfl ih
def Ho:MC:=fun ws h Q=>match ws with
 | [.loc n]=>(match h.c n with
  | some (.dtt kvs)=>Eo (kvs.map (·.1))/\∀ ks:List (List Int),ks.Perm (kvs.map (·.1))->ks.Pairwise (· < ·)->Q (.lst (ks.map fun k=>.tup (k.map .int))) h
  | _=>False)
 | _=>False
theorem afw (hc:X.calm=true):eY X (.builtin "sorted") Ho:=⟨_,zai hc,by
 intro H μ h vs ws Qw Q R r m k;unfold Ho at m;split at m
 ·rename_i n;split at m
  ·rename_i kvs ec;obtain ⟨p,xs,vs',hp,hx,e1,e2,r3,r4⟩:=R.dttAt ec;obtain ⟨v,rfl,r1⟩:=gC r;rw [DP] at r1;obtain ⟨p',rfl,hp'⟩:=r1;have ep:p'=p:=by rw [hp] at hp';exact (Gw hp').symm
   subst ep;obtain ⟨m1,m2⟩:=m;rw [e1] at m1 m2;refine ⟨p',xs,rfl,hx,jl e1 r3,m1,fun ys py pw l hl=>?_⟩;refine k _ _ ⟨μ,_,h,(Ex.laid hl).ext,R.laid hl,?_,m2 (ys.map (·.1)) (py.map _) pw⟩;refine .lstNew R hl ?_;have kk:=jl e1 r3;have go:∀ zs:List (List Int×Addr×Mk),(∀ z∈zs,z∈xs)->aJ X.K H μ ((zs.map (·.1)).map fun k=>W.tup (k.map .int)) (zs.map fun y=>V.ref y.2.1):=fun zs hz=>by
    induction zs with
    | nil=>exact .nil
    | cons z zs ih=>
     refine aJ.cons ?_<|ih fun y hy=>hz y<|Jm _ hy
     rw [DP];exact ⟨z.2.1,z.1.map V.int,rfl,kk z<|hz z LQ,p8 _⟩
   exact go ys fun z hz=>py.mem_iff.mp hz
  ·exact m.elim
 ·exact m.elim⟩
end
section
variable {X:Cx}{o:Expr}{mo:ME}{ma:MA}{apos akb:Pos}
def Fe:MM:=fun x ws h Q=>match x,ws with
 | .loc n,[y,z]=>(match h.c n,KC y with
  | some (.dtt kvs),FN k=>Q ((zu kvs k).getD z) h
  | _,_=>False)
 | _,_=>False
def Gj (h:Gh)(x:W)(P:Prop):Prop:=match x with
 | .loc n=>(match h.c n with
  | some (.dtt _)=>P
  | _=>False)
 | _=>False
def aas (r:MM)(mo:ME)(ma:MA):ME:=fun Z h Q=>mo Z h fun x h1=>Gj h1 x (ma Z h1 fun xs h2=>r x xs h2 Q)
theorem Pq (hu:X.A.units+30<Jj)(ho:DE X o mo)(ha:KZ X [e1,e2] ma)
  (hbase:Vp o "get" X.env (eval o X.env)=eval o X.env:=by rfl)
  (hfew:((JK akb (Eu [e1,e2] X.env)).all (fun x=>!x.1)&&(backToKw akb (Vl [] X.env)).all (fun x=>x.1.isSome)
   && decide (([e1,e2]:List Expr).length+([]:List Nq).length+(if ([]:List Nq).isEmpty then 0 else 1)<30))=true:=by rfl)
  (hline:(apos.endLine==akb.line)=true:=by rfl) (hst:Eu [e1,e2] X.env=(false,eval e1 X.env)::Eu [e2] X.env:=by rfl) (hplain:(JK akb (Eu [e2] X.env)).any (·.1)=false:=by rfl) :
  DE X (.Call (.Attribute o "get" apos) [e1,e2] [] akb) (aas Fe mo ma):=by
 intro ajY s Z H Q I ⟨μ,h,Zw,Qw,R,S,m,k⟩;refine Yw hbase hfew hline rfl<|Fl (ho ajY s Z H _ I ⟨μ,h,Zw,_,R,S,m,fun _ _ z=>z⟩) fun u s1 ⟨x,H1,I1,rx,μ1,wx,h1,e1',R1,r1,il⟩=>?_
 unfold Gj at il;split at il
 ·rename_i n;split at il
  ·rename_i kv0 ec0;have r0:=r1;rw [DP] at r1;obtain ⟨a,rfl,ha'⟩:=r1;obtain rfl:u=Value.ref a:=rx;obtain ⟨p,xs,vs,hp,hx,_⟩:=R1.dttAt ec0;have ep:p=a:=by rw [ha'] at hp;exact (Gw hp).symm
   subst ep;obtain ⟨⟨z,y,nd,ob,es,epo,g1,g2,g3,g4⟩,_⟩:=I1.hok p _ hx;refine ⟨"dict", "dict.get",PySem.F.plainAttrs_dict,Yj,PySem.F.type_dict_get,⟨ob,g1,g2.1⟩,fun b e=>by cases e;exact ⟨ob,g1,g2.2.1⟩,?_⟩;have hA:=ha akb ajY s1 Z H1 _ I1 ⟨μ1,h1,Zw,_,R1,S.ext e1',il,fun _ _ z=>z⟩;rw [hst] at hA |-
   refine YQ (by show (false||(JK akb<|Eu [e2] X.env).any (·.1))=false;rw [hplain] <;> rfl)<|Yv ?_
   refine Fl hA fun us s2 ⟨ys,H2,I2,r2,μ2,ws,h2,e2',R2,rs,m2⟩=>?_;unfold Fe at m2;split at m2
   ·rename_i n' y' z' e3;cases e3;split at m2
    ·rename_i kvs kk ec ek;obtain ⟨v1,v2,rfl,ry,rz⟩:=zA rs;obtain ⟨b,rfl,hb⟩:=jo ry ek;obtain ⟨u1,u2,rfl,ru1,ru2⟩:=vals2 r2;cases ru1;obtain ⟨p2,xs2,vs2,hp2,hx2,q1,q2,q3,q4⟩:=R2.dttAt ec;have r0':=e2'.r _ _ r0;rw [DP] at r0';obtain ⟨a2,ea,ha2⟩:=r0';cases ea;have ep2:p2=p:=by rw [ha2] at hp2;exact (Gw hp2).symm
     subst ep2;obtain ⟨_,hd2,dd⟩:=zL I2 hx2 (jl q1 q3);obtain ⟨t1,t2⟩:=uo q1 q2 q4 kk;refine call_meetsIn Yj dd.typeIs PySem.F.entry_dict_get (PySem.F.args_dict_get_3 _ _ _) (meetsH_dict_get_default (tupleKind<|intKind X.prog X.w) p2 b hd2 u2) ⟨tupleKind_room_in1<|by lia,kk,xs2,wD I2 hb,dd,?_⟩;cases ev:zu kvs kk with
     | some wv=>
      rw [ev] at m2;obtain ⟨pp,v,a1,a2,a3⟩:=t1 wv ev;rw [a1];exact ⟨v,H2,I2.tok _,a2,k _ _ ⟨μ2,wv,h2,e1'.trans e2',R2,a3,m2⟩⟩
     | none=>
      rw [ev] at m2 t2;have a1:atKey xs2 kk=FX:=by
       cases e:atKey xs2 kk with
       | none=>rfl
       | some _=>rw [e] at t2;cases t2
      rw [a1];exact ⟨v2,H2,I2.tok _,ru2,k _ _ ⟨μ2,z',h2,e1'.trans e2',R2,rz,m2⟩⟩
    ·exact m2.elim
   ·exact m2.elim
  ·exact il.elim
 ·exact il.elim
end
section
variable {X:Cx}{K:Dp}
variable {o e:Expr}{mo:ME}{ma:MA}{apos akb:Pos}
end
section
variable {prog:Ew}{w:Em}{A:Fg}{E:Mk->AP->Prop}{L I:Addr}{ns:List Int}{its:List Mk}
theorem aev (a d:Mk):argsOk "max" ⟨[a],[("default",d)]⟩:=by unfold argsOk;kernel_rfl
def Gr (ns:List Int)(j:Nat)(b:Int):Prop:=b∈ns/\∀ k,k<j->ns.getD k 0<=b
theorem agO {d:Mk}(hh:A.handled=FX)(hne:L≠I)(rv:DY (ns.map V.int) its)(S:Addr)(hS1:S≠I)(hS2:S≠L):
  ∀ (k j:Nat) (s:AP) (c:Nat) (old:Array Mk),ns.length - j=k->j<=ns.length->s.heap.IsListIter I L j->s.heap.IsList L its.toArray ->
  (j=0/\old = #[]\/∃ b t,Gr ns j b/\old = #[.int b t,.int b t]) ->
  s.heap.get? S=FN { cls:=.type "list",dict:=FX,data:=.seq old c,slots:=#[] } ->
  (∀ v h' tk,(ns=[]/\v=d\/∃ b t,Gr ns ns.length b/\v=.int b t)->(∀ b o,b≠I->b≠S->s.heap.get? b=FN o->h'.get? b=FN o)->R (.ok (.ret v)) { s with heap:=h',toks:=tk }) ->
  Mh (Dm prog w) A (.builtin "max.loop" ⟨[.ref I,.none,.ref S],[("default",d)]⟩) R s:=by
 have ajZ:its.length=ns.length:=by rw [<-rv.length,Ec]
 have hname:(toString "max"++toString ".loop" : String) = "max.loop":=by decide
 have W:=Walks.list (prog:=prog) (w:=w) (A:=A.in1) hh I L hne its.toArray;intro k;induction k with
 | zero=>
  intro j s c old hk hj i1 i2 ho hS hR;have ej:j=ns.length:=by lia
  refine RG F.entry_max_loop ?_;rw [Rg Xm _];show Dl _ A.in1 (seqItems? (.ref S) >>= _) _ _ s;refine CR<|Rx hS rfl ?_
  show Dl _ A.in1 (tryCatch (Ln (.ref I)) _ >>= _) _ _ s;refine CR<|Y0<|W.done s _ _ ⟨by rw [J9,ajZ,<-ej];exact i1,i2⟩ fun h' tk hk'=>?_
  rcases ho with ⟨z,rfl⟩ | ⟨b,t,hb,rfl⟩
  ·have en:ns=[]:=List.length_eq_zero_iff.mp (by lia);show Dl _ A.in1 (rule _ >>= _) _ _ _;refine CR<|Ml<|Ds ?_
   exact hR d h' tk (.inl ⟨en,rfl⟩) fun b o h1 h2 e=>hk' b o (by simpa using h1) e
  ·have hS':=hk' S _ (by simpa using hS1) hS;show Dl _ A.in1 (updateSeq S (fun _=>#[]) >>= _) _ _ _;refine CR ?_;refine Y7 hS' rfl<|CR<|Vn<|Ds ?_
   exact hR _ _ tk (.inr ⟨b,t,ej ▸ hb,rfl⟩) fun b o h1 h2 e=>(TY _ _<|JD h2).trans (hk' b o (by simpa using h1) e)
 | succ k ih=>
  intro j s c old hk hj i1 i2 ho hS hR;have hlt:j<ns.length:=by lia
  refine RG F.entry_max_loop ?_;rw [Rg Xm _];show Dl _ A.in1 (seqItems? (.ref S) >>= _) _ _ s;refine CR<|Rx hS rfl ?_
  show Dl _ A.in1 (tryCatch (Ln (.ref I)) _ >>= _) _ _ s;refine CR<|Y0<|W.item j s _ _ (by rw [J9,ajZ];exact hlt) ⟨i1,i2⟩ fun v h' tk hP hst' hk'=>?_
  obtain ⟨u,ev⟩:=tL (i:=j) (v:=v) rv (by simpa using hP);have hS':=hk' S _ (by simpa using hS1) hS;have hm:ns.getD j 0∈ns:=by rw [Hy,GK hlt];exact TQ _
  have go:∀ (h1:Heap) (c':Nat) (b:Int) (t:Tok),Gr ns (j+1) b->h1.get? S=FN { cls:=.type "list",dict:=FX,data:=.seq #[.int b t,.int b t] c',slots:=#[] } ->
    (∀ b o,b≠S->h'.get? b=FN o->h1.get? b=FN o) ->
    Mh (Dm prog w) A (.builtin "max.loop" ⟨[.ref I,.none,.ref S],[("default",d)]⟩) R { s with heap:=h1,toks:=tk }:=fun h1 c' b t hb h3 h4=>by
   have st:=W.frame _ _ h1 hst' fun b hb o e=>h4 b o (fun z=>by
    subst z;rcases J1.mp hb with q | q
    ·exact hS1 q
    ·exact hS2 (by simpa using q)) e
   exact ih (j+1) _ c' _ (by lia) hlt st.1 st.2 (.inr ⟨b,t,hb,rfl⟩) h3 fun v h2 tk2 hv hk2=>hR v h2 tk2 hv fun b o n1 n2 e=>hk2 b o n1 n2<|h4 b o n2<|hk' b o (by simpa using n1) e
  rcases ho with ⟨z,rfl⟩ | ⟨b,t,hb,rfl⟩
  ·show Dl _ A.in1 (updateSeq S (fun _=>#[v,v]) >>= _) _ _ _;refine CR ?_;refine Y7 hS' rfl ?_;rw [hname];subst ev;refine Ds ⟨Oa Xm _,go _ _ _ _ ⟨hm,fun k hk=>?_⟩ (Vv _ hS' rfl) fun b o n e=>(TY _ _<|JD n).trans e⟩;have:k=j:=by lia
   rw [this];exact Wf _
  ·subst ev;show Dl _ A.in1 (tryCatch (Rr [_,_] (richCompare .Gt _ _ >>= _)) _ >>= _) _ _ _;refine CR<|Y0<|M8<|CR<|CmpOf.ints_gt (P:=fun i v=>∃ t,v=.int (if i=0 then ns.getD j 0 else b) t) (fun i=>if i=0 then ns.getD j 0 else b) (fun _ _ h=>h) 0 1 _ _ _ _ _ ⟨u,rfl⟩ ⟨t,rfl⟩ ?_
   refine CR<|M8<|VD ?_
   refine CR<|Vn<|Ds ?_
   by_cases q:ns.getD j 0>b
   ·rw [if_pos (by simpa using q)];refine CR ?_;refine Y7 hS' rfl<|CR<|Vn ?_
    rw [hname];refine Ds ⟨Oa Xm _,go _ _ _ _ ⟨hm,fun k hk=>?_⟩ (Vv _ hS' rfl) fun b o n e=>(TY _ _<|JD n).trans e⟩;by_cases h:k<j
    ·have:=hb.2 k h;lia
    ·have:k=j:=by lia
     rw [this];exact Wf _
   ·rw [if_neg (by simpa using q)];refine CR<|Vn ?_
    rw [hname];refine Ds ⟨Oa Xm _,go h' c b t ⟨hb.1,fun k hk=>?_⟩ hS' fun b o n e=>e⟩;by_cases h:k<j
    ·exact hb.2 k h
    ·have:k=j:=by lia
     rw [this];lia
theorem zaM {s:AP}{d:Mk}{Q:Mk->AP->Prop}(hh:A.handled=FX)(rv:DY (ns.map V.int) its)(hl:s.heap.IsList L its.toArray)
  (hQ:∀ v h' tk,(ns=[]/\v=d\/∃ b t,Gr ns ns.length b/\v=.int b t)->(∀ b o,s.heap.get? b=FN o->h'.get? b=FN o)->Q v { s with heap:=h',toks:=tk }) :
  Dl (Dm prog w) A (call (.builtin "max") [.ref L] [("default",d)]) Q E s:=by
 have hname:(toString "max"++toString ".loop" : String) = "max.loop":=by decide
 have hlt:L<s.heap.objs.size:=by obtain ⟨_,e,_⟩:=hl;exact Fj e
 refine wpAny_call<|codeAny_call_builtin F.plain_max F.entry_max ?_
 simp only [checkBuiltinCall,F.kind_max];have hc:Dl (Dm prog w) A.in1 (Q6.«max» ⟨[.ref L],[("default",d)]⟩) (fun fin s'=>match fin with
   | .done f=>(match (Except.ok f:Xy) with | .ok (.ret v)=>Q v s' | .ok _=>False | .error e=>E e s')
   | .again c'=>c'.quiet=true/\Mh (Dm prog w) A c' (fun r s'=>match r with | .ok (.ret v)=>Q v s' | .ok _=>False | .error e=>E e s') s') E s:=by
  show Dl _ A.in1 (Builtin.Builtins.bindParams "max" ["key", "default"] 0 ⟨[],[("default",d)]⟩ >>= _) _ _ s;refine CR<|XF (show Builtin.Builtins.bindParams "max" ["key", "default"] 0 ⟨[],[("default",d)]⟩=pure [FX,FN d] from rfl) ?_
  refine CR<|Ds ?_
  refine CR<|VB hl ?_
  refine CR<|Ni ?_
  rw [hname];have n1:(s.heap.push { cls:=.type "list_iterator",data:=.fields #[.ref L,.int 0 0] }).objs.size=s.heap.objs.size+1:=Oh ..;refine Ds ⟨Oa Xm _,agO hh (HX hlt) rv _ (JD<|HX (by rw [n1];exact Xn _)) (JD<|HX (by rw [n1];exact Nat.lt_succ_of_lt hlt)) _ 0 _ 0 #[] rfl (Jk _) ?_ ?_ (.inl ⟨rfl,rfl⟩) (Hw _ rfl) fun v h' tk hv hk=>?_⟩
  ·exact ⟨_,G6 _<|Hw _ rfl,rfl,rfl⟩
  ·exact (hl.push _).push _
  ·exact hQ v h' tk hv fun b o e=>hk b o (HX<|Fj e) (HX (by rw [n1];exact Nat.lt_succ_of_lt (Fj e)))<|G6 _<|G6 _ e
 cases hsig:Manifest.signature? "max" with
 | none=>exact Ds hc
 | some sig=>
  have h2:Bind.checkArgs "max" sig ⟨[.ref L],[("default",d)]⟩=pure ():=by have:=aev (.ref L) d;simpa only [argsOk,hsig] using this
  simp only [h2];exact Ds hc
end
variable {I : Addr}
section
variable {X:Cx}
def X5 (X:Cx):List V->Hp->VK->Prop:=fun xs H Q=>∃ (p:Addr) (ns:List Int),xs=[.ref p]/\JF X.K H p (ns.map V.int)/\∀ M,(ns=[]/\M=0\/M∈ns/\∀ a,a∈ns->a<=M)->Q (.int M) H
theorem agI {x:Str}{p pos cp kp:Pos}{e:Expr}{j:Nat}{t:TA}(hc:X.calm=true)(hg:Gl X x)(hm:X.mg x=FX)(hv:S6 x=FN (.builtin "max"))(ha:PA X [e] t)
  (hn:x ≠ "__name__":=by decide) (hdb:(x==("__debug__" : Str))=false:=by decide)
  (he:Eu [e] X.env=(false,eval e X.env)::Eu [] X.env:=by rfl):PE X (.Call (.Name x p) [e] [⟨FN "default",.Constant (.int 0) j cp,kp⟩] pos) (tCB (X5 X) t):=by
 intro ajY s Z H Q I h;refine W5<|ju I hg hm hv ?_ hn hdb
 refine callWith_kw (Fl (ha pos ajY s Z H _ I h) fun us s1 ⟨vs,H1,I1,r1,q1⟩=>?_) (by rw [he];rfl) (by rw [he];rfl);refine kws_cons<|wpAny_Constant_int<|kws_nil ?_
 obtain ⟨q,ns,e1,hS,hq⟩:=q1;subst e1;obtain ⟨u,rfl,ru⟩:=vals1 r1;cases ru;have I2:=I1.tok (s1.toks+1);obtain ⟨its,rv,pl,hz⟩:=I2.list hS;refine zaM (I2.ok.hd hc) rv pl.isList fun v h' tk hv hk=>?_;rcases hv with ⟨en,rfl⟩ | ⟨b,t,hb,rfl⟩
 ·exact ⟨.int 0,H1,I2.kept (h':=h') (t':=tk) hk,⟨_,rfl⟩,hq _<|.inl ⟨en,rfl⟩⟩
 ·refine ⟨.int b,H1,I2.kept (h':=h') (t':=tk) hk,⟨_,rfl⟩,hq _<|.inr ⟨hb.1,fun a ha=>?_⟩⟩;obtain ⟨k,hk,e⟩:=RD.mp ha;have:=hb.2 k hk
  rw [Hy,GK hk] at this;rw [<-e];exact this
def Nr:MC:=fun ws h Q=>match ws with
 | [w]=>(match dF h w with
  | some us=>∃ ns:List Int,us=ns.map W.int/\∀ M,(ns=[]/\M=0\/M∈ns/\∀ a,a∈ns->a<=M)->Q (.int M) h
  | none=>False)
 | _=>False
theorem ahY:aa5 X.K (X5 X) Nr:=by
 intro H μ h vs ws Qw Q R r m k;unfold Nr at m;split at m
 ·split at m
  ·rename_i w us ev;obtain ⟨v,e,rv⟩:=gC r;obtain ⟨p,ys,ex,hs,rs⟩:=cC R rv ev;obtain ⟨ns,eu,m⟩:=m;subst e ex;rw [eu] at rs;have:=mR rs
   subst this;exact ⟨p,ns,rfl,hs,fun M hM=>k _ _<|.int R<|m M hM⟩
  ·exact m.elim
 ·exact m.elim
theorem Zi {x:Str}{p pos cp kp:Pos}{e:Expr}{j:Nat}{ma:MA}(hc:X.calm=true)(hg:Gl X x)(hm:X.mg x=FX)(hv:S6 x=FN (.builtin "max"))(ha:KZ X [e] ma)
  (hn:x ≠ "__name__":=by decide) (hdb:(x==("__debug__" : Str))=false:=by decide)
  (he:Eu [e] X.env=(false,eval e X.env)::Eu [] X.env:=by rfl):DE X (.Call (.Name x p) [e] [⟨FN "default",.Constant (.int 0) j cp,kp⟩] pos) (Hu Nr ma):=
 (agI hc hg hm hv ha hn hdb he).of fun _ _ _ h=>Vk ahY h
end
section
open AutoSeq1 (wpAny_loadPart')
theorem zG (l:Addr)(items:Array Mk)(n:Nat)(dct:Option Addr)(sl:Array (Option Mk)):
  Meets (Q6.«enumerate.__new__» ⟨[.type "enumerate",.ref l],[]⟩) (fun _ R s=>s.heap.get? l=FN { cls:=.type "tuple",dict:=dct,data:=.seq items n,slots:=sl } /\
   R (.ok (.ret (.ref (s.heap.push { cls:=.type "tuple_iterator",data:=.fields #[.ref l,.int 0 0] }).objs.size)))
    { s with heap:=(s.heap.push { cls:=.type "tuple_iterator",data:=.fields #[.ref l,.int 0 0] }).push { cls:=.type "enumerate",data:=.fields #[.none,.bool false,.ref s.heap.objs.size,Nf 0,.none,.none] } }):=
 .of_wp fun prog w A R s h=>by
  obtain ⟨hp,g,d,tk,os⟩:=s;obtain ⟨hl,h⟩:=h;have hsub:=sub_enumerate;have hL:Heap.IsTuple (Shared.heap ⟨hp,g,d,tk,os⟩) l items:=⟨_,hl,rfl,n,rfl⟩
  wp_walk using Xe hl
  refine wpAny_stack_any fun st=>Ds ?_;split
  ·rename_i c _ _ _ _ _;cases (c==Value.type "enumerate")
   ·wp_walk using Xe hl,Xb hL
    exact ⟨_,rfl,h⟩
   ·wp_walk using Xe hl,Xb hL
    exact ⟨_,rfl,h⟩
  ·wp_walk using Xe hl,Xb hL
   exact ⟨_,rfl,h⟩
end
section
variable {prog:Ew}{w:Em}{A:Fg}{E:Mk->AP->Prop}{s:AP}
theorem aeD {l:Addr}{items:Array Mk}{Q:Mk->AP->Prop}(hL:s.heap.IsTuple l items)
  (h:∀ h',IsEnum h' (s.heap.objs.size+1) s.heap.objs.size 0 .none->h'.IsTupleIter s.heap.objs.size l 0->h'.objs.size=s.heap.objs.size+2 ->
   (∀ b o,s.heap.get? b=FN o->h'.get? b=FN o)->Q (.ref (s.heap.objs.size+1)) { s with heap:=h' }) :
  Dl (Dm prog w) A (call (.type "enumerate") [.ref l]) Q E s:=by
 obtain ⟨⟨c,dct,dt,sl⟩,hl,hc,n,hd⟩:=hL;replace hc:c=.type "tuple":=hc;replace hd:dt=.seq items n:=hd;subst hc hd;refine callType_new F.called_enumerate (by decide) (F.typeCall_enumerate_1 _) (F.newCall_enumerate_1 _) (fun obj=>F.args_object_init_2 obj _) F.entry_enumerate_new
  (zG l items n dct sl) ⟨hl,?_⟩
 have hz:(s.heap.push { cls:=.type "tuple_iterator",data:=.fields #[.ref l,.int 0 0] }).objs.size=s.heap.objs.size+1:=Oh ..;show _/\_;rw [hz];have he:IsEnum ((s.heap.push { cls:=.type "tuple_iterator",data:=.fields #[.ref l,.int 0 0] }).push
   { cls:=.type "enumerate",data:=.fields #[.none,.bool false,.ref s.heap.objs.size,Nf 0,.none,.none] }) (s.heap.objs.size+1) s.heap.objs.size 0 .none:=by
  have:=Hw (s.heap.push { cls:=.type "tuple_iterator",data:=.fields #[.ref l,.int 0 0] })
   (o:={ cls:=.type "enumerate",data:=.fields #[.none,.bool false,.ref s.heap.objs.size,Nf 0,.none,.none] }) rfl
  rw [hz] at this;exact this
 exact ⟨⟨_,he,rfl⟩,h _ he ⟨_,G6 _<|Hw _ rfl,rfl,rfl⟩ (by rw [Oh,hz]) fun b o y=>G6 _<|G6 _ y⟩
theorem zay {e it l:Addr}{i:Nat}{k:Int}{items:Array Mk}{old:Mk}{Q:Option Mk->AP->Prop}(hh:A.handled=FX)
  (he:IsEnum s.heap e it k old) (hit:s.heap.IsTupleIter it l i) (hl:s.heap.IsTuple l items) (hx:items[i]?=FX)
  (hQ:∀ h',Wg it s.heap h'->Q FX { s with heap:=h' }):Dl (Dm prog w) A (Ln (.ref e)) Q E s:=by
 have hT:s.TypeIs (.ref e) "enumerate":=⟨_,he,rfl⟩
 unfold Ln;refine CR (Wd (Ue (name:=Tq "__next__") hT F.slot_enumerate_next
  (Rz F.slot_enumerate_next hT F.entry_enumerate_next ?_ (F.args_enumerate_next_1 _))))
 show Dl _ _ (field (.ref e) 2 >>= _) _ _ _;refine CR<|Mt he rfl (x:=.ref it) rfl ?_
 refine CR<|iZ hh hit hl hx fun h' x he' hx'=>?_
 obtain ⟨o,ho,hc⟩:=hx';refine CR<|YJ (T := "StopIteration") (b:=true) ⟨o,ho,hc⟩ isSubtype_stop ?_
 exact Ds<|hQ _ he'
theorem agS (hh:A.handled=FX)(it l:Addr)(hne:l≠it)(items:Array Mk):
  Draws prog w A it [it,l] items.size (fun i x=>items[i]?=FN x) (fun i h=>h.IsTupleIter it l i/\h.IsTuple l items) where
 live:=fun _ _ st=>by obtain ⟨⟨o,e,_⟩,_⟩:=st;exact ⟨o,e⟩
 frame:=fun _ _ _ st hk=>by
  obtain ⟨⟨o,e,r⟩,⟨o2,e2,r2⟩⟩:=st;exact ⟨⟨o,hk it (by simp) o e,r⟩,⟨o2,hk l (by simp) o2 e2,r2⟩⟩
 item:=fun i s Q E hi st hQ=>CJ st.1 st.2 (x:=items[i]) (by simp [hi]) fun h' hit' sb=>by
  refine hQ _ h' s.toks (by simp [hi]) ⟨hit',?_⟩ sb;obtain ⟨o,e,r⟩:=st.2;exact ⟨o,sb.extBut _ o hne e,r⟩
 done:=fun s Q E st hE=>iZ hh st.1 st.2 (by simp) hE
end
def acB (K:Dp)(l:Addr):It:=
  ⟨fun i H=>∃ xs x,Hj K H l xs/\xs[i]?=FN x,
   fun i H v H'=>∃ p x,H p=FX/\v=.ref p/\H'=Fb H p (.tup [.int (i:Int),x])/\∀ xs,Hj K H l xs->xs[i]?=FN x,
   fun i H=>∃ xs,Hj K H l xs/\xs.length<=i,true⟩
def aa0 (e it l:Addr)(n:Nat)(h:Heap):Prop:=(∃ old,IsEnum h e it (n:Int) old)/\h.IsTupleIter it l n
theorem zaf {P:Ew}{w:Em}{K:Dp}{pos:Pos}{e it l:Addr}(ne:e≠it):Turn P w K (.Tuple elts kt pos) (acB K l) [e,it] e (aa0 e it l) where
 mem:=by simp
 obj:=fun i h st b hb=>by
  obtain ⟨⟨old,ge⟩,o,gi,_,d⟩:=st;simp only [J1,Q5,or_false] at hb;rcases hb with rfl | rfl
  ·exact ⟨_,ge,fun v y=>by cases y⟩
  ·exact ⟨o,gi,fun v y=>by rw [d] at y;cases y⟩
 keep:=fun i h h' st k=>⟨⟨_,k e (by simp) _ st.1.choose_spec⟩,st.2.at fun o q=>k it (by simp) o q⟩
 item:=by
  intro X hP hw hK hc i ajY s Z H E I hf st hg;subst hP hw hK;obtain ⟨⟨old,ge⟩,gi⟩:=st;obtain ⟨xs,x,hx,ex⟩:=hg;obtain ⟨its,r,pl,hz⟩:=I.tuple hx;obtain ⟨u,hu,ru⟩:=r.get ex;have li:l≠it:=fun q=>by
   obtain ⟨o1,g1,c1,_⟩:=pl;obtain ⟨o2,g2,c2,_⟩:=gi;rw [q,g2] at g1;cases g1;rw [c2] at c1;injection c1 with z
   exact absurd z<|by decide
  have le:e≠l:=fun q=>by
   obtain ⟨o1,g1,c1,_⟩:=pl;have g2:s.heap.get? e=FN _:=ge;rw [q,g1] at g2;cases g2;injection c1 with z
   exact absurd z<|by decide
  refine wpAny_pyNext_enum_itemD (agS (A:=X.A.in1) (I.ok.hd<|hc rfl) it l li its.toArray) ge ⟨gi,pl⟩ (by have:=(Le.mp hu).1;simpa using this) ne (by simp [ne,le]) fun y h1 tk hy go gi1 T1 size1 all1=>⟨_,rfl,?_⟩;have:y=u:=by
   have hy:its[i]?=FN y:=by simpa using hy
   rw [hu] at hy;exact (Gw hy).symm
  subst this;have pe:s.heap.objs.size≠e:=Lp (Fj ge);have pi:s.heap.objs.size≠it:=by obtain ⟨o,q,_⟩:=gi;exact Lp (Fj q)
  refine wpAny_letOwnedTupleGo_enum (s:={ s with heap:=h1,toks:=tk+1 }) go fun h2 ge2 sb=>?_;have fr:H s.heap.objs.size=FX:=I.hok.fresh (Ea _);have I1:DX X ajY Z (Fb H s.heap.objs.size (.tup [.int (i:Int),x])) { s with heap:=s.heap.push { cls:=.type "tuple",data:=.seq #[.int (i:Int) tk,y] },toks:=tk+1 }:=
   I.laid (t':=tk+1) (fun b o q=>G6 _ q) (Ea _) ⟨(by show 2<=G7;decide),[.int (i:Int) tk,y],.cons ⟨_,rfl⟩ (.cons ru .nil),⟨_,Hw _ rfl,rfl,⟨_,rfl⟩,rfl⟩⟩
  have lt:∀ b∈[e,it],s.heap.objs.size≠b:=fun b hb=>by
   simp only [J1,Q5,or_false] at hb;rcases hb with rfl | rfl
   ·exact pe
   ·exact pi
  have hf1:∀ b∈[e,it],Ej X ajY (Fb H s.heap.objs.size (.tup [.int (i:Int),x])) b:=fun b hb=>⟨by rw [aO (JD (lt b hb))];exact (hf b hb).1,(hf b hb).2⟩
  have I2:DX X ajY Z (Fb H s.heap.objs.size (.tup [.int (i:Int),x])) { s with heap:=h2,toks:=tk+1 }:=by
   refine DX.turnedL (s:={ s with heap:=s.heap.push { cls:=.type "tuple",data:=.seq #[.int (i:Int) tk,y] },toks:=tk+1 }) (h':=h2) (t':=tk+1) (ch:=[e,it]) I1 (fun b o hb q=>?_) hf1;have be:b≠e:=fun q=>hb (by simp [q])
   rcases Heap.get?_push_cases q with ⟨rfl,rfl⟩ | q'
   ·exact sb.extBut _ _ be T1
   ·exact sb.extBut _ _ be<|all1 b o be (fun q=>hb<|by simp [q]) q'
  refine ⟨.ref s.heap.objs.size,_,I2,rfl,⟨s.heap.objs.size,x,fr,rfl,rfl,fun xs' q=>by rw [I.tuple_inj q hx];exact ex⟩,?_,fun b hb=>(hf1 b hb).1⟩;exact ⟨⟨_,by rw [Int.natCast_add];exact ge2⟩,gi1.1.at fun o q=>sb.extBut _ o (JD ne) q⟩
 done:=by
  intro X hP hw hK hc i ajY s Z H E I hf st hg;subst hP hw hK;obtain ⟨⟨old,ge⟩,gi⟩:=st;obtain ⟨xs,hx,hl⟩:=hg;obtain ⟨its,r,pl,hz⟩:=I.tuple hx;have hn:=r.length;refine zay (I.ok.hd<|hc rfl) ge gi pl (by simp;lia) fun h1 eb=>⟨rfl,I.turnedL (t':=s.toks) (ch:=[e,it]) (fun b o hb q=>eb b o (fun z=>hb<|by simp [z]) q) hf⟩
 self:=fun _ _ _ _ _ st h=>wpAny_pyIter_enum st.1.choose_spec h
section
variable {X:Cx}{K:Dp}
def aix (K:Dp)(ta:TA):TI:=fun Z H R=>ta Z H fun vs H1=>∃ a xs,vs=[.ref a]/\Hj K H1 a xs/\R (acB K a) H1
theorem agd {ta:TA}{p pos tpos:Pos}(hg:Gl X "enumerate")(hm:X.mg "enumerate" = FX)(ha:PA X [e1] ta)
  (hs:Eu [e1] X.env=(false,eval e1 X.env)::Eu [] X.env:=by rfl) (hpl:(JK pos (Eu [] X.env)).any (·.1)=false:=by rfl) :
  PI X (.Tuple elts kt tpos) (.Call (.Name "enumerate" p) [e1] [] pos) (aix X.K ta):=by
 intro ajY s Z H R I h;refine W5<|ju I hg hm boot_enumerate ?_ (by decide)<|by decide
 refine X8 (Fl (ha pos ajY s Z H _ I h) fun us s1 ⟨vs,H1,I1,r1,q1⟩=>?_) hs hpl;obtain ⟨a,xs,ev,hx,q⟩:=q1;subst ev;obtain ⟨u1,eu,ru1⟩:=vals1 r1;subst eu;cases ru1;obtain ⟨its,r,pl,hz⟩:=I1.tuple hx;refine aeD pl fun h' ge gi size all=>?_;refine wpAny_pyIter_enum (s:={ s1 with heap:=h' }) ge ?_;have I2:DX X ajY Z H1 { s1 with heap:=h' }:=I1.kept (t':=s1.toks) all;generalize hn:s1.heap.objs.size=n at ge gi size |-
 refine ⟨n+1,[n+1,n],_,_,H1,rfl,I2,zaf<|jC<|show n+1≠n by lia,⟨⟨_,ge⟩,gi⟩,fun c hc=>?_,q⟩;have hc':n<=c:=by
  have h:c∈([n+1,n]:List Nat):=hc;simp only [J1,Q5,or_false] at h;rcases h with h | h
  ·exact h ▸ Tp n
  ·exact h ▸ Ea n
 exact I1.fpOk (by rw [hn];exact hc')<|I1.hok.fresh (by rw [hn];exact hc')
def Kq (ma:MA):MI:=fun Z h R=>ma Z h fun ws h1=>match ws with
 | [.tup as]=>R ⟨Ti 0 as,FX⟩ h1
 | _=>False
theorem afN {p pos tpos:Pos}(hg:Gl X "enumerate")(hm:X.mg "enumerate" = FX)(ha:KZ X [e1] mr)
  (hs:Eu [e1] X.env=(false,eval e1 X.env)::Eu [] X.env:=by rfl) (hpl:(JK pos (Eu [] X.env)).any (·.1)=false:=by rfl) :
  Rp X (.Tuple elts kt tpos) (.Call (.Name "enumerate" p) [e1] [] pos) (Kq mr):=PI.of (agd hg hm ha hs hpl) fun Z H Q ⟨μ,h,Zw,Rw,R,S,m,k⟩=>by
 refine ⟨μ,h,Zw,_,R,S,m,fun vs H1 ⟨μ1,ws,h1,e1,R1,r1,m1⟩=>?_⟩;split at m1
 ·rename_i as;obtain ⟨v,ev,rv⟩:=gC r1;have rv0:=rv;rw [DP] at rv;obtain ⟨a,xs,ea,hxs,rs⟩:=rv;subst ea;refine ⟨a,xs,ev,hxs,k _ _ ⟨μ1,⟨Ti 0 as,FX⟩,h1,e1,R1,?_,m1⟩⟩;intro H2 μ2 h2 i e2 R2 ck;have r2:=e2.r _ _ rv0;rw [DP] at r2;obtain ⟨a2,xs2,ea2,hxs2,rxs⟩:=r2;cases ea2;refine ⟨fun w ew=>?_,fun hl=>⟨xs2,hxs2,?_⟩⟩
  ·obtain ⟨p1,ep1,rfl⟩:=yV ew;obtain ⟨q1,eq1,rq1⟩:=rxs.get ep1;refine ⟨⟨xs2,q1,hxs2,eq1⟩,fun x' H3 ⟨pa,x1,hp,ex',eH3,f1⟩=>?_⟩;have g1:=f1 xs2 hxs2;rw [eq1] at g1;cases g1;subst ex' eH3;rw [Nat.zero_add];exact ⟨μ2,(Ex.laid hp).ext,R2.laid hp,.tupNew hp<|.cons (by rw [DP])<|.one rq1⟩
  ·have l1:=rxs.len;have:as.length<=i:=by rw [<-uP (as:=as) (j:=0)];exact hl
   lia
 ·exact m1.elim
end
section
variable {prog:Ew}{w:Em}{A:Fg}{L:Addr}{its:List Mk}
theorem aew (hh:A.handled=FX)(hne:L≠I)(h0:Heap)(tr:Nat->Bool)
  (ht:∀ i v,its[i]?=FN v->∀ (s:AP) (Q:Bool->AP->Prop) (E:Mk->AP->Prop),(∀ b o,b≠I->h0.get? b=FN o->s.heap.get? b=FN o)->(∀ tk,Q (tr i) { s with toks:=tk })->Dl (Dm prog w) A.in1 (truthy v) Q E s) :
  ∀ (k i:Nat) (s:AP),its.length - i=k->i<=its.length->s.heap.IsListIter I L i->s.heap.IsList L its.toArray->(∀ b o,b≠I->h0.get? b=FN o->s.heap.get? b=FN o) ->
  (∀ h' tk,(∀ b o,b≠I->s.heap.get? b=FN o->h'.get? b=FN o)->R (.ok (.ret (.bool (((LC its.length).drop i).all tr)))) { s with heap:=h',toks:=tk }) ->
  Mh (Dm prog w) A (.builtin "all.loop" ⟨[.ref I],[]⟩) R s:=by
 have W:=Walks.list (prog:=prog) (w:=w) (A:=A.in1) hh I L hne its.toArray;have hz:its.toArray.size=its.length:=J9 ..;intro k;induction k with
 | zero=>
  intro i s hk hi i1 i2 h00 hR;have hin:i=its.length:=by lia
  refine RG F.entry_all_loop ?_;rw [Rg F.plain_all_loop _];show Dl _ A.in1 (Ln (.ref I) >>= _) _ _ s;refine CR<|W.done s _ _ ⟨by rw [hz,<-hin];exact i1,i2⟩ fun h' tk hk'=>?_
  refine CR<|Ml<|Ds ?_
  have:=hR h' tk fun b o h1 e=>hk' b o (by simpa using h1) e
  rw [List.drop_of_length_le (by simp;lia)] at this;exact this
 | succ k ih=>
  intro i s hk hi i1 i2 h00 hR;have hlt:i<its.length:=by lia
  have hd:(LC its.length).drop i=i::(LC its.length).drop (i+1):=by
   rw [Vd (by simpa using hlt)];simp
  refine RG F.entry_all_loop ?_;rw [Rg F.plain_all_loop _];show Dl _ A.in1 (Ln (.ref I) >>= _) _ _ s;refine CR<|W.item i s _ _ (by rw [hz];exact hlt) ⟨i1,i2⟩ fun v h' tk hP hst' hk'=>?_
  have hk':∀ b o,b≠I->s.heap.get? b=FN o->h'.get? b=FN o:=fun b o h1 e=>hk' b o (by simpa using h1) e
  refine CR<|M8<|ht i v (by simpa using hP) _ _ _ (fun b o h1 e=>hk' b o h1<|h00 b o h1 e) fun tk2=>?_
  refine CR<|Vn ?_
  cases hb:tr i with
  | true=>
   simp only [if_true];refine Ds ⟨Oa F.plain_all_loop _,ih (i+1) _ (by lia) hlt hst'.1 hst'.2 (fun b o h1 e=>hk' b o h1<|h00 b o h1 e) fun h'' tk'' hk''=>?_⟩;have:=hR h'' tk'' fun b o hbw e=>hk'' b o hbw (hk' b o hbw e)
   rw [hd,XQ,hb,Bool.true_and] at this;exact this
  | false=>
   simp only [SJ,if_false];refine CR<|Ml<|Ds ?_
   have:=hR h' tk2 hk'
   rw [hd,XQ,hb,Bool.false_and] at this;exact this
end
section
variable {X:Cx}{K:Dp}
theorem zaF (hc:X.calm=true):d8 X (.builtin "all") (fun xs H Q=>∃ (p:Addr) (ys:List V) (kss:List (List V)),xs=[.ref p]/\JF X.K H p ys/\La (fun (v:V) (k:List V)=>∃ b,v=V.ref b/\Hj X.K H b k) ys kss/\Q (.bl (kss.all fun k=>!k.isEmpty)) H):=by
 intro ajY s Z H xs us Q I r h;obtain ⟨p,ys,kss,rfl,hS,ht,q⟩:=h;obtain ⟨u,rfl,ru⟩:=vals1 r;cases ru;obtain ⟨its,rv,pl,hz⟩:=I.list hS;have e1:ys.length=its.length:=rv.length;have e2:ys.length=kss.length:=Vo ht;have hl:=pl.isList;have hlt:p<s.heap.objs.size:=by obtain ⟨_,e,_⟩:=hl;exact Fj e
 have tru:∀ (i:Nat) (v:Mk),its[i]?=FN v->∃ (b:Addr) (k:List V) (js:List Mk),v=Value.ref b/\kss[i]?=FN k/\NZ s.heap b js.toArray/\((js.toArray.size:Nat):Int)<2^63/\(!js.toArray.isEmpty) = !k.isEmpty:=fun i v hv=>by
  obtain ⟨x,ex,rx⟩:=zaH rv hv;obtain ⟨k,ek,b,rfl,hb⟩:=wG ht ex;cases rx;obtain ⟨js,r2,pl2,hz2⟩:=I.tuple hb;have ajZ:=r2.length;have hs:G7=16777216:=sizeLine_eq;exact ⟨b,k,js,rfl,ek,pl2,by simp only [J9];lia,lX r2⟩
 refine call_function_tree F.kind_all F.plain_all F.entry_all (F.args_all1 _) ?_;unfold Q6.«all»;refine CR (m:=oneArg "all" _)<|Ds ?_
 refine CR<|VB hl ?_
 refine Ds ⟨Oa F.plain_all_loop _,?_⟩;have hI:∀ b o,s.heap.get? b=FN o->b≠s.heap.objs.size:=fun b o e=>HX (Fj e)
 refine aew (I.ok.hd hc) (HX hlt) (h0:=s.heap) (fun i=>(kss[i]?.map fun k=>!k.isEmpty).getD true) (fun i v hv s' Q' E' hk hQ=>?_) its.length 0 _ (by lia) (Jk _) ⟨_,Hw _ rfl,rfl,rfl⟩ (hl.push _) (fun b o _ e=>G6 _ e) fun h' tk hk=>?_
 ·obtain ⟨b,k,js,rfl,ek,ht,hf,em⟩:=tru i v hv;obtain ⟨o,ho,hc1,n,hd⟩:=ht;refine truthy_tuple ⟨o,hk b o (hI b o ho) ho,hc1,n,hd⟩ hf ?_;rw [em];have:=hQ (s'.toks+1+1)
  simp only [ek,Option.map_some,Xp] at this;exact this
 ·rw [Wy];have e:((LC its.length).all fun i=>(kss[i]?.map fun k=>!k.isEmpty).getD true)=kss.all fun k=>!k.isEmpty:=by
   have:=sO (kss.map fun k=>!k.isEmpty)
   rw [Ec] at this;rw [<-e1,e2];simp only [Gy] at this;rw [this,List.all_map];rfl
  rw [e];exact ⟨.bl _,H,I.kept (h':=h') (t':=tk) fun b x ex=>hk b x (hI b x ex)<|G6 _ ex,rfl,q⟩
def GQ:List W->Option (List (List W))
 | []=>FN []
 | .tup k::r=>(GQ r).map (k::·)
 | _=>FX
theorem CV {H:Hp}{μ : Mu}:∀ {ws:List W} {xs:List V} {ks:List (List W)},aJ K H μ ws xs->GQ ws=FN ks->∃ kss:List (List V),La (fun (v:V) (k:List V)=>∃ b,v=V.ref b/\Hj K H b k) xs kss/\kss.all (fun k=>!k.isEmpty)=ks.all fun k=>!k.isEmpty
 | [],xs,ks,r,e=>by
  rw [aJ] at r;cases e;subst r;exact ⟨[],.nil,rfl⟩
 | w::ws,xs,ks,r,e=>by
  rw [aJ] at r;obtain ⟨v,vr,ev,ra,r⟩:=r;cases w with
  | tup k=>
   rw [DP] at ra;obtain ⟨b,ys,e1,hb,rk⟩:=ra;rw [GQ] at e;cases q:GQ ws with
   | none=>rw [q] at e;cases e
   | some cs=>
    rw [q] at e;cases (show FN (k::cs)=FN ks from e)
    obtain ⟨kss,p,a⟩:=CV r q;subst ev;refine ⟨ys::kss,.cons ⟨b,e1,hb⟩ p,?_⟩;have hl:=rk.len;rw [XQ,XQ,a];congr 1
    cases k <;> cases ys <;> simp at hl |-
  | _=>cases e
def Lj:MC:=fun ws h Q=>match ws with
 | [w]=>(match dF h w with
  | some us=>(match GQ us with
   | some ks=>Q (.bl (ks.all fun k=>!k.isEmpty)) h
   | none=>False)
  | none=>False)
 | _=>False
theorem agY (hc:X.calm=true):eY X (.builtin "all") Lj:=⟨_,zaF hc,by
 intro H μ h vs ws Qw Q R r m k;unfold Lj at m;split at m
 ·split at m
  ·split at m
   ·rename_i w _ us ev _ ks ek;obtain ⟨v,e,rv⟩:=gC r;obtain ⟨p,ys,ex,hs,rs⟩:=cC R rv ev;obtain ⟨kss,pk,ea⟩:=CV rs ek;subst e ex;exact ⟨p,ys,kss,rfl,hs,pk,k _ _<|.bl R (by rw [ea];exact m)⟩
   ·exact m.elim
  ·exact m.elim
 ·exact m.elim⟩
def abO (h:Gh)(x y:W):Option Src:=match oJ x,y with
 | some as,.loc n=>(match h.c n with
  | some (.lst bs)=>FN ⟨nJ as bs,FN (n,bs)⟩
  | _=>FX)
 | _,_=>FX
end
theorem lex_lt:∀ k l:List Int,HT.lexLt k l=decide (k<l)
 | [],[]=>by simp [HT.lexLt]
 | [],b::l=>by simp [HT.lexLt]
 | a::k,[]=>by simp [HT.lexLt]
 | a::k,b::l=>by
  unfold HT.lexLt;by_cases e:a=b
  ·subst e;rw [if_pos (by first | rfl | simp),lex_lt k l];exact decide_eq_decide.mpr (by rw [Vw];simp [Int.lt_irrefl])
  ·rw [if_neg (by simpa using e)];exact decide_eq_decide.mpr (by rw [Vw];simp [e])
section
variable {X:Cx}
def WD:M2:=fun x y h Q=>match KC x,KC y with
 | some k,FN l=>Q (.bl (decide (k<l))) h
 | _,_=>False
theorem aaK (hu:X.A.units+30<Jj):M5 X (K3 .Lt) WD:=⟨_,Zj (by lia),by
 intro H μ h x y wx wy Qw Q R rx ry m k;unfold WD at m;split at m
 ·rename_i kk ll e1 e2;obtain ⟨a,ea,ha⟩:=jo rx e1;obtain ⟨b,eb,hb⟩:=jo ry e2;rw [<-lex_lt] at m;exact ⟨a,b,kk,ll,ea,eb,ha,hb,k _ _<|.bl R m⟩
 ·exact m.elim⟩
end
section
variable {prog:Ew}{w:Em}{A:Fg}{E:Mk->AP->Prop}{s:AP}
theorem pQ:typeLookup (.type "tuple") "keys" = pure FX:=by rw [typeLookup_type,Ys];kernel_rfl
theorem qY:typeLookup (.type "list") "keys" = pure FX:=by rw [typeLookup_type,Ys];kernel_rfl
theorem zan {a:Addr}{o:Obj}{xs:Array Mk}{k:Nat}{Q:Option Mk->AP->Prop}(hx:s.heap.get? a=FN o)(hc:o.cls=.type "tuple")(hdat:o.data=.seq xs k)(hd:o.dict=FX)(hA:A.handled=FX)
  (h:∀ h' tk,(∀ b ob,s.heap.get? b=FN ob->h'.get? b=FN ob)->Q FX { s with heap:=h',toks:=tk }):Dl (Dm prog w) A (getAttr? (.ref a) "keys") Q E s:=by
 obtain ⟨c,dct,dat,sl⟩:=o;simp only at hc hdat hd;subst hc hdat hd;obtain ⟨hp,g,d,tk,os⟩:=s;have hT:∀ tk',(⟨hp,g,d,tk',os⟩:AP).TypeIs (.ref a) "tuple":=fun _=>⟨_,hx,rfl⟩
 have f1:=sub_AttributeError;have f3:=F.slot_tuple_getattribute.lookup;have f4:=F.slot_tuple_getattribute.bind (.ref a);have f5:=am_tuple_getattr_none;unfold getAttr? getAttrBy? getAttrBy;repeat (any_goals (first | assumption | exact hT _ | ((with_reducible show Dl _ _ (call (Value.builtin "tuple.__getattribute__") _ _) _ _ _);refine call_meets F.slot_tuple_getattribute (hT _) am_entry_tuple_getattribute (F.args_tuple_getattribute_2 _ _) (meets_getattribute_miss_tuple a xs k sl "keys" _ pQ (by decide) (by size_fits)) ⟨hx,hA,fun h' tk' e hx'=>?_⟩) | wp_step))
 obtain ⟨t',u',he⟩:=hx'.there;show Dl _ _ (getattributeRaised _ _ _ _ _ _ _) _ _ _;unfold getattributeRaised;repeat (any_goals (first | assumption | wp_step))
 exact h _ _ hx'.keeps
theorem rG {a:Addr}{o:Obj}{xs:Array Mk}{k:Nat}{Q:Option Mk->AP->Prop}(hx:s.heap.get? a=FN o)(hc:o.cls=.type "list")(hdat:o.data=.seq xs k)(hd:o.dict=FX)(hA:A.handled=FX)
  (h:∀ h' tk,(∀ b ob,s.heap.get? b=FN ob->h'.get? b=FN ob)->Q FX { s with heap:=h',toks:=tk }):Dl (Dm prog w) A (getAttr? (.ref a) "keys") Q E s:=by
 obtain ⟨c,dct,dat,sl⟩:=o;simp only at hc hdat hd;subst hc hdat hd;obtain ⟨hp,g,d,tk,os⟩:=s;have hT:∀ tk',(⟨hp,g,d,tk',os⟩:AP).TypeIs (.ref a) "list":=fun _=>⟨_,hx,rfl⟩
 have f1:=sub_AttributeError;have f3:=F.slot_list_getattribute.lookup;have f4:=F.slot_list_getattribute.bind (.ref a);have f5:=am_list_getattr_none;unfold getAttr? getAttrBy? getAttrBy;repeat (any_goals (first | assumption | exact hT _ | ((with_reducible show Dl _ _ (call (Value.builtin "list.__getattribute__") _ _) _ _ _);refine call_meets F.slot_list_getattribute (hT _) am_entry_list_getattribute (F.args_list_getattribute_2 _ _) (meets_getattribute_miss_list a xs k sl "keys" _ qY (by decide) (by size_fits)) ⟨hx,hA,fun h' tk' e hx'=>?_⟩) | wp_step))
 obtain ⟨t',u',he⟩:=hx'.there;show Dl _ _ (getattributeRaised _ _ _ _ _ _ _) _ _ _;unfold getattributeRaised;repeat (any_goals (first | assumption | wp_step))
 exact h _ _ hx'.keeps
theorem lg:entryFor table "dict.update.loop" = FN Q6.«dict.update.loop»:=entryFor_of_tree (by kernel_rfl)
theorem cX:plainId "dict.update.loop" = true:=by decide +kernel
abbrev Od (prog:Ew)(w:Em):=tupleKind (intKind prog w)
theorem JZ {h h':Heap}{k:List Int}{a:Addr}(x:(Od prog w).is h k a)(m:∀ b o,h.get? b=FN o->h'.get? b=FN o):(Od prog w).is h' k a:=by
 obtain ⟨o,its,n,ho,r⟩:=x;exact ⟨o,its,n,m _ _ ho,r⟩
theorem rK {h0 h h':Heap}{xs:List (List Int×Addr×Mk)}(x:Wa (Od prog w) h d xs)(hd:∀ o,h.get? d=FN o->h'.get? d=FN o)(hk:∀ y∈xs,(Od prog w).is h' y.1 y.2.1):Wa (Od prog w) h' d xs:=by
 obtain ⟨o,es,ep,e1,e2,e3,e4,_,e6⟩:=x;exact ⟨o,es,ep,hd o e1,e2,e3,e4,hk,e6⟩
theorem zaz {items:Array Mk}{fp:List Addr}{St:Nat->Heap->Prop}(W:Walks prog w A.in1 I fp [I] items.size (fun i v=>items[i]?=FN v) St)(hdf:d∉fp)(hu:A.in1.units<Jj)(h0:Heap)(hd0:h0.get? d=FX)(hI0:h0.get? I=FX)
  {ps:List (List Int×Addr×Mk)} (hp:items.size=ps.length) (hk:∀ (j:Nat) (p:List Int×Addr×Mk),ps[j]?=FN p->∃ q,items[j]?=FN (.ref q)/\NZ h0 q #[.ref p.2.1,p.2.2]/\(Od prog w).is h0 p.1 p.2.1) (nd:(ps.map (·.1)).Nodup) (hz:ps.length<=G7) :
  ∀ (k j:Nat) (s:AP) (t:Tok),ps.length - j=k->j<=ps.length->St j s.heap->Wa (Od prog w) s.heap d (ps.take j)->(∀ b o,h0.get? b=FN o->s.heap.get? b=FN o) ->
  (∀ h' tk,Wa (Od prog w) h' d ps->(∀ b o,h0.get? b=FN o->h'.get? b=FN o)->R (.ok (.ret .none)) { s with heap:=h',toks:=tk }) ->
  Mh (Dm prog w) A (.builtin "dict.update.loop" ⟨[.ref d,.ref I,.int (j:Int) t,.none],[]⟩) R s:=by
 have dI:d≠I:=fun e=>hdf (W.sub d (by rw [e];simp))
 have keys:∀ (j:Nat) (h':Heap),(∀ b o,h0.get? b=FN o->h'.get? b=FN o)->∀ y∈ps.take j,(Od prog w).is h' y.1 y.2.1:=fun j h' m y hy=>by
  obtain ⟨i,hi,e⟩:=RD.mp (X4 hy);obtain ⟨q,_,_,hq⟩:=hk i y (by rw [<-e];exact GK hi);exact JZ hq m
 intro k;induction k with
 | zero=>
  intro j s t hkj hj st hm h00 hR;have ej:j=ps.length:=by lia
  refine RG lg ?_;rw [Rg cX _];show Dl _ A.in1 (Ln (.ref I) >>= _) _ _ s;refine CR<|W.done s _ _ (by rw [hp,<-ej];exact st) fun h' tk hk'=>?_
  have m:∀ b o,h0.get? b=FN o->h'.get? b=FN o:=fun b o e=>hk' b o (by intro z;rw [K5.mp z,hI0] at e;cases e) (h00 b o e)
  have hm':Wa (Od prog w) h' d ps:=by
   rw [ej,LK] at hm;refine rK (h0:=h0) hm (fun o e=>hk' d o (by simpa using dI) e) fun y hy=>keys ps.length h' m y (by rw [LK];exact hy)
  exact CR<|Ds<|Ds<|hR h' tk hm' m
 | succ k ih=>
  intro j s t hkj hj st hm h00 hR;have hlt:j<ps.length:=by lia
  have ep:ps[j]?=FN ps[j]:=GK hlt;generalize ps[j]=p at ep;obtain ⟨q,eq,hq,hkey⟩:=hk j p ep;refine RG lg ?_;rw [Rg cX _];show Dl _ A.in1 (Ln (.ref I) >>= _) _ _ s;refine CR<|W.item j s _ _ (by rw [hp];exact hlt) st fun v h' tk hP st' hk'=>?_
  have ev:v=.ref q:=by rw [eq] at hP;exact (Gw hP).symm
  subst ev;have m:∀ b o,h0.get? b=FN o->h'.get? b=FN o:=fun b o e=>hk' b o (by intro z;rw [K5.mp z,hI0] at e;cases e) (h00 b o e)
  have hm':Wa (Od prog w) h' d (ps.take j):=rK (h0:=h0) hm (fun o e=>hk' d o (by simpa using dI) e) (keys j h' m);obtain ⟨oq,goq,cq,nq,dq⟩:=hq;have goq':=m _ _ goq;refine CR<|M8<|CR<|Y0 ?_
  unfold Builtin.Dict.pairItems;refine CR<|Rf (T := "tuple") ⟨oq,goq',cq⟩ ?_
  rw [if_pos (by decide)];refine CR<|Rx goq' dq<|Ds ?_
  show Dl _ _ (Rr [_,_] (dictSet d _ _)) _ _ _;have hno:atKey (ps.take j) p.1=FX:=by
   unfold atKey;rw [Option.map_eq_none_iff,YX];intro y hy;have hn:p.1∉(ps.take j).map (·.1):=by
    have e1:ps=ps.take j++p::ps.drop (j+1):=by
     conv=>lhs;rw [<-Ye j ps]
     congr 1
     rw [Vd hlt];congr 1
     rw [GK hlt] at ep;exact Gw ep
    rw [e1,Iu,List.nodup_append] at nd;intro z;exact nd.2.2 _ z p.1 (by simp) rfl
   intro z;exact hn<|Gs.mpr ⟨y,hy,by simpa using z⟩
  refine M8<|wpAny_dictSet_heap (hsz:=by rw [Lr];lia) hu (JZ hkey m) hm' fun h2 hd2 hs2=>?_
  rw [storedH_new hno] at hd2;have et:ps.take j++[(p.1,p.2.1,p.2.2)]=ps.take (j+1):=by rw [Lz,ep];rfl
  rw [et] at hd2;have keep2:∀ b o,b≠d->h'.get? b=FN o->h2.get? b=FN o:=fun b o hb e=>hs2.extBut b o hb e
  refine Ds ⟨Oa cX _,?_⟩;have ej:((j:Int)+1)=((j+1:Nat):Int):=by lia
  show Mh _ _ (.builtin "dict.update.loop" ⟨[.ref d,.ref I,.int ((j:Int)+1) 0,.none],[]⟩) _ _;rw [ej];refine ih (j+1) _ 0 (by lia) hlt (W.frame _ _ _ st' fun b hb o e=>keep2 b o (fun z=>hdf<|z ▸ hb) e) hd2 (fun b o e=>keep2 b o (fun z=>by rw [z,hd0] at e;cases e)<|m b o e) fun h3 tk3 d3 m3=>hR h3 tk3 d3 m3
theorem uU {T:Addr}{items:Array Mk}{Q:Mk->AP->Prop}(hh:A.handled=FX)(hu:A.units+30<Jj)
  (src:(∃ o n,s.heap.get? T=FN o/\o.cls=.type "tuple"/\o.data=.seq items n/\o.dict=FX)\/(∃ o n,s.heap.get? T=FN o/\o.cls=.type "list"/\o.data=.seq items n/\o.dict=FX))
  {ps:List (List Int×Addr×Mk)} (hp:items.size=ps.length) (hk:∀ (j:Nat) (p:List Int×Addr×Mk),ps[j]?=FN p->∃ q,items[j]?=FN (.ref q)/\NZ s.heap q #[.ref p.2.1,p.2.2]/\(Od prog w).is s.heap p.1 p.2.1) (nd:(ps.map (·.1)).Nodup) (hz:ps.length<=G7)
  (h:∀ h' tk,Wa (Od prog w) h' s.heap.objs.size ps->(∀ b o,s.heap.get? b=FN o->h'.get? b=FN o)->Q (.ref s.heap.objs.size) { s with heap:=h',toks:=tk }) :
  Dl (Dm prog w) A (call (.type "dict") [.ref T]) Q E s:=by
 have hhA:A.in1.in1.handled=FX:=hh;have hu2:A.in1.in1.units<Jj:=by
  have:A.in1.in1.units=A.units+1+1:=rfl
  lia
 have hT0:T<s.heap.objs.size:=by
  rcases src with ⟨o,_,e,_⟩ | ⟨o,_,e,_⟩ <;> exact Fj e
 refine callType_codes (Q₁:=fun obj s₁=>obj=.ref s.heap.objs.size/\s₁ = { s with heap:=s.heap.push { cls:=.type "dict",data:=.dict #[] } }) F.kt_called_dict (F.kt_typeCall_dict_1 _) F.entry_dict_init (kt_code_dict_new _ ⟨rfl,rfl⟩) ?_;rintro obj s₁ ⟨rfl,rfl⟩;have hTd:({ s with heap:=s.heap.push { cls:=.type "dict",data:=.dict #[] } }:AP).TypeIs (.ref s.heap.objs.size) "dict":=⟨_,Hw _ rfl,rfl⟩
 refine ⟨hTd,F.args_dict_init_2 _ _,?_⟩;unfold Q6.«dict.__init__»;refine CR ?_;unfold Builtin.Dict.selfAndRest;refine CR<|wpAny_notOrdered_dict hTd ?_
 show Dl _ _ (pure (s.heap.objs.size,[Value.ref T])) _ _ _;refine Ds ?_;show Dl _ _ (ZP "dict.__init__" s.heap.objs.size (.ref T) [] .none) _ _ _;unfold ZP;have loop:∀ (h1:Heap) (tk1:Nat),(∀ b ob,(s.heap.push { cls:=.type "dict",data:=.dict #[] }).get? b=FN ob->h1.get? b=FN ob)->∀ (h2:Heap) (fp:List Addr) (St:Nat->Heap->Prop),h1.objs.size∉([s.heap.objs.size]:List Addr)->(∀ b ob,h1.get? b=FN ob->h2.get? b=FN ob)->s.heap.objs.size∉fp->Walks prog w A.in1.in1 h1.objs.size fp [h1.objs.size] items.size (fun i v=>items[i]?=FN v) St->St 0 h2 ->
   Mh (Dm prog w) A.in1 (.builtin "dict.update.loop" ⟨[.ref s.heap.objs.size,.ref h1.objs.size,Nf 0,.none],[]⟩) (wants (fun r s₂=>r=.none/\Q (.ref s.heap.objs.size) s₂) E) { s with heap:=h2,toks:=tk1 }:=by
  intro h1 tk1 m1 h2 fp St hne m2 hfp W st;have hd1:=m1 _ _ (Hw s.heap (o:={ cls:=.type "dict",data:=.dict #[] }) rfl);refine zaz (A:=A.in1) W hfp hu2 s.heap (Xi<|Ea _) (Xi<|Mv<|Fj hd1) hp hk nd hz ps.length 0 _ _ rfl (Jk _) st ?_ (fun b o e=>m2 b o<|m1 b o<|G6 _ e) fun h' tk d m=>⟨rfl,h h' tk d m⟩;exact ⟨_,#[],0,m2 _ _ hd1,⟨rfl,rfl,rfl⟩,rfl,rfl,(fun x hx=>absurd hx Q5),Wz⟩
 rcases src with ⟨o,n,g1,g2,g3,g4⟩ | ⟨o,n,g1,g2,g3,g4⟩
 ·have g1':(s.heap.push { cls:=.type "dict",data:=.dict #[] }).get? T=FN o:=G6 _ g1;refine CR<|Rf (T := "tuple") ⟨o,g1',g2⟩ ?_
  rw [if_pos (by decide)];refine CR<|zan g1' g2 g3 g4 hhA fun h1 tk1 m1=>?_
  rw [if_pos (show (FX:Option Mk).isNone=true from rfl)];refine CR<|Ml ?_
  have hT:h1.IsTuple T items:=⟨o,m1 _ _ g1',g2,n,g3⟩
  refine CR<|Xb hT ?_
  have hlt:T<h1.objs.size:=Fj (m1 _ _ g1');have hd1:=Fj (m1 _ _ (Hw s.heap (o:={ cls:=.type "dict",data:=.dict #[] }) rfl));refine Ds ⟨Oa cX _,?_⟩;exact loop h1 tk1 m1 _ _ _ (by simpa using Lp hd1) (fun b ob e=>G6 _ e) (by simp only [J1,Q5,or_false,not_or];exact ⟨HX hd1,Lp hT0⟩) (Walks.tuple hhA _ T (HX hlt) items) ⟨⟨_,Hw _ rfl,rfl,rfl⟩,hT.push _⟩
 ·have g1':(s.heap.push { cls:=.type "dict",data:=.dict #[] }).get? T=FN o:=G6 _ g1;refine CR<|Rf (T := "list") ⟨o,g1',g2⟩ ?_
  rw [if_pos (by decide)];refine CR<|rG g1' g2 g3 g4 hhA fun h1 tk1 m1=>?_
  rw [if_pos (show (FX:Option Mk).isNone=true from rfl)];refine CR<|Ml ?_
  have hT:h1.IsList T items:=⟨o,m1 _ _ g1',g2,n,g3⟩
  refine CR<|VB hT ?_
  have hlt:T<h1.objs.size:=Fj (m1 _ _ g1');have hd1:=Fj (m1 _ _ (Hw s.heap (o:={ cls:=.type "dict",data:=.dict #[] }) rfl));refine Ds ⟨Oa cX _,?_⟩;exact loop h1 tk1 m1 _ _ _ (by simpa using Lp hd1) (fun b ob e=>G6 _ e) (by simp only [J1,Q5,or_false,not_or];exact ⟨HX hd1,Lp hT0⟩) (Walks.list hhA _ T (HX hlt) items) ⟨⟨_,Hw _ rfl,rfl,rfl⟩,hT.push _⟩
end
section
variable {X:Cx}{K:Dp}
abbrev SQ (K:Dp)(H:Hp)(y:V)(p:List Int×Addr×V):Prop:=∃ q,y=V.ref q/\Hj K H q [.ref p.2.1,p.2.2]/\Hj K H p.2.1 (p.1.map V.int)
theorem wJ {ajY:List (Addr×Obj)}{Z : St}{H:Hp}{s:AP}(I:DX X ajY Z H s):∀ {ys:List V} {ps:List (List Int×Addr×V)} {its:List Mk},DY ys its->La (SQ X.K H) ys ps ->
  ∃ xs:List (List Int×Addr×Mk),xs.map (·.1)=ps.map (·.1)/\xs.map (·.2.1)=ps.map (·.2.1)/\DY (ps.map (·.2.2)) (xs.map (·.2.2))/\∀ (j:Nat) (p:List Int×Addr×Mk),xs[j]?=FN p->∃ q,its[j]?=FN (.ref q)/\NZ s.heap q #[.ref p.2.1,p.2.2]/\(Od X.prog X.w).is s.heap p.1 p.2.1
 | _,_,_,.nil,.nil=>⟨[],rfl,rfl,.nil,fun j p e=>by simp at e⟩
 | _,_,_,.cons r rv,.cons (b:=p) hp pp=>by
  obtain ⟨xs,a1,a2,a3,a4⟩:=wJ I rv pp;obtain ⟨q,rfl,h1,h2⟩:=hp;cases r;obtain ⟨js,r2,ht,_⟩:=I.tuple h1;cases r2 with
  | cons r3 r4=>
   cases r4 with
   | cons r5 r6=>
    cases r6;cases r3;rename_i v;refine ⟨(p.1,p.2.1,v)::xs,by simp [a1],by simp [a2],.cons r5 a3,fun j z e=>?_⟩;cases j with
    | zero=>
     simp at e;subst e;exact ⟨q,rfl,ht,wD I h2⟩
    | succ j=>
     obtain ⟨q',b1,b2⟩:=a4 j z (by simpa using e);exact ⟨q',by simpa using b1,b2⟩
theorem zae (hc:X.calm=true)(hu:X.A.units+30<Jj):d8 X (.type "dict") (fun vs H Q=>∃ (T:Addr) (ys:List V) (ps:List (List Int×Addr×V)),vs=[.ref T]/\(JF X.K H T ys\/Hj X.K H T ys)/\La (SQ X.K H) ys ps/\(ps.map (·.1)).Nodup /\
  ∀ d,H d=FX->∀ xs:List (List Int×Addr×Mk),xs.map (·.1)=ps.map (·.1)->xs.map (·.2.1)=ps.map (·.2.1)->DY (ps.map (·.2.2)) (xs.map (·.2.2))->Q (.ref d) (Fb H d (.ext (zR d xs)))):=by
 intro ajY s Z H vs us Q I r ⟨T,ys,ps,ev,hS,pp,nd,q⟩;subst ev;obtain ⟨u,rfl,ru⟩:=vals1 r;cases ru;have key:∀ its:List Mk,DY ys its->ys.length<=G7->((∃ o n,s.heap.get? T=FN o/\o.cls=.type "tuple"/\o.data=.seq its.toArray n/\o.dict=FX)\/(∃ o n,s.heap.get? T=FN o/\o.cls=.type "list"/\o.data=.seq its.toArray n/\o.dict=FX))->Dl (Dm X.prog X.w) X.A (call (.type "dict") [.ref T]) (EP X ajY Z Q) X.xe s:=fun its rv hz src=>by
  obtain ⟨xs,a1,a2,a3,a4⟩:=wJ I rv pp;have e1:ys.length=its.length:=rv.length;have e2:ys.length=ps.length:=Vo pp;have e3:xs.length=ps.length:=by have:=congrArg Wj a1;simpa using this
  refine uU (I.ok.hd hc) hu src (ps:=xs) (by rw [J9];lia) (fun j p e=>by
   obtain ⟨q,b1,b2⟩:=a4 j p e;exact ⟨q,by rw [List.getElem?_toArray];exact b1,b2⟩) (by rw [a1];exact nd) (by lia) fun h' tk d m=>?_
  have y:(s.heap.objs.size==Mx)=false:=(tZ (P:=X.prog) (w:=X.w) (H:=H) s.heap I.big).2.1;exact ⟨.ref s.heap.objs.size,_,I.laid (a:=s.heap.objs.size) (o:=.ext (zR s.heap.objs.size xs)) (t':=tk) m (Ea _)<|yJ (P:=X.prog) (w:=X.w) (by lia) y d,rfl,q _ (I.hok.fresh<|Ea _) xs a1 a2 a3⟩
 rcases hS with hS | hS
 ·obtain ⟨its,rv,⟨o,n,g1,g2,g3,g4⟩,hz⟩:=I.list hS;exact key its rv hz<|.inr ⟨o,n,g1,g2,g4,g3⟩
 ·obtain ⟨its,rv,⟨o,g1,g2,⟨n,g3⟩,g4⟩,hz⟩:=I.tupO hS;exact key its rv hz<|.inl ⟨o,n,g1,g2,g3,g4⟩
def nA:List W->Option (List (List Int×W))
 | []=>FN []
 | .tup [k,v]::r=>(match KC k with
  | some ks=>(nA r).map ((ks,v)::·)
  | none=>FX)
 | _=>FX
theorem vU {H:Hp}{μ : Mu}:∀ {us:List W} {ys:List V} {ps:List (List Int×W)},aJ K H μ us ys->nA us=FN ps->∃ qs:List (List Int×Addr×V),La (SQ K H) ys qs/\qs.map (·.1)=ps.map (·.1)/\aJ K H μ (ps.map fun x=>W.tup (x.1.map W.int)) (qs.map fun x=>V.ref x.2.1)/\aJ K H μ (ps.map (·.2)) (qs.map (·.2.2))
 | [],ys,ps,r,e=>by
  rw [aJ] at r;cases e;subst r;exact ⟨[],.nil,rfl,by rw [Mw,Mw,aJ],by rw [Mw,Mw,aJ]⟩
 | w::us,ys,ps,r,e=>by
  rw [aJ] at r;obtain ⟨y,yr,rfl,ra,r⟩:=r;unfold nA at e;split at e
  ·rename_i h;cases h
  ·rename_i k v us' h;cases h;split at e
   ·rename_i ks ek;cases q:nA us with
    | none=>rw [q] at e;cases e
    | some cs=>
     rw [q] at e;cases (show FN ((ks,v)::cs)=FN ps from e)
     obtain ⟨qs,p1,p2,p3,p4⟩:=vU r q;rw [DP] at ra;obtain ⟨b,zs,rfl,hb,rz⟩:=ra;obtain ⟨z1,z2,rfl,rk,rw'⟩:=zA rz;obtain ⟨kb,rfl,hkb⟩:=jo rk ek;refine ⟨(ks,kb,z2)::qs,.cons ⟨b,rfl,hb,hkb⟩ p1,by simp [p2],?_,?_⟩
     ·rw [Ed,Ed,aJ];exact ⟨_,_,rfl,by rw [DP];exact ⟨kb,_,rfl,hkb,nP ks⟩,p3⟩
     ·rw [Ed,Ed,aJ];exact ⟨_,_,rfl,rw',p4⟩
   ·cases e
  ·cases e
def Bl:MC:=fun ws h Q=>match ws with
 | [w]=>(match view h w with
  | some us=>(match nA us with
   | some ps=>(ps.map (·.1)).Nodup/\Q (.loc h.nx) (h.new (.dtt ps))
   | none=>False)
  | none=>False)
 | _=>False
theorem aft (hc:X.calm=true)(hu:X.A.units+30<Jj):eY X (.type "dict") Bl:=⟨_,zae hc hu,by
 intro H μ h vs ws Qw Q R r m k;unfold Bl at m;split at m
 ·split at m
  ·split at m
   ·rename_i w _ us ev _ ps ek;obtain ⟨v,e,rv⟩:=gC r;obtain ⟨p,ys,ex,hs,rs⟩:=zO R rv ev;obtain ⟨qs,p1,p2,p3,p4⟩:=vU rs ek;subst e ex;refine ⟨p,ys,qs,rfl,hs,p1,by rw [p2];exact m.1,fun d hd xs a1 a2 a3=>?_⟩;have xt:=(Ex.newCell (o:=.ext (zR d xs)) R hd).ext;have e3:(xs.map fun x=>V.ref x.2.1)=qs.map fun x=>V.ref x.2.1:=by
     have:(xs.map (·.2.1)).map V.ref=(qs.map (·.2.1)).map V.ref:=by rw [a2]
     rw [Lb,Lb] at this;exact this
    have R1:Er X.K (μ.put h.nx d) (Fb H d (.ext (zR d xs))) (h.new (.dtt ps)):=R.newCell hd trivial ⟨xs,qs.map (·.2.2),aY,(by rw [a1,p2]),a3,by rw [e3];exact xt.s p3,xt.s p4⟩;exact k _ _ ⟨_,.loc h.nx,_,xt,R1,by rw [DP];exact ⟨d,rfl,Mu.put_same⟩,m.2⟩
   ·exact m.elim
  ·exact m.elim
 ·exact m.elim⟩
end
section
variable {prog:Ew}{w:Em}{A:Fg}{E:Mk->AP->Prop}{s:AP}{r l:Addr}{items:Array Mk}
theorem zU {Q:List Mk->AP->Prop}(hh:A.handled=FX)(hit:s.heap.IsRevIter r l ((items.size:Int) - 1))(hl:s.heap.IsList l items)(hne:l≠r)(hn:items.size<=G7)
  (hQ:∀ (h':Heap) (tk:Nat) (acc':Array Mk),s.heap.objs.size<h'.objs.size->(∀ b o,b≠r->s.heap.get? b=FN o->h'.get? b=FN o)->ItemsOf (fun i v=>items[items.size - 1 - i]?=FN v) acc' items.size->Q acc'.toList { s with heap:=h',toks:=tk }):Dl (Dm prog w) A (collect (.ref r)) Q E s:=by
 have lr:r<s.heap.objs.size:=by obtain ⟨_,e,_⟩:=hit;exact Fj e
 have ll:l<s.heap.objs.size:=by obtain ⟨_,e,_⟩:=hl;exact Fj e
 unfold collect;refine CR<|wpAny_runValue<|RG F.entry_proto_collect ?_
 rw [Rg F.plain_proto_collect _];show Dl _ A.in1 (newList [] >>= fun l=>again (.builtin "list.__iadd__" ⟨[l,.ref r],[]⟩)) _ _ s;refine CR<|Ni ?_
 refine Ds ⟨Oa F.plain_list_iadd _,RG F.entry_list_iadd ?_⟩;rw [Rg F.plain_list_iadd _];show Dl _ A.in1 (Z0 (.ref s.heap.objs.size) (.ref r) (.ref s.heap.objs.size)) _ _ _;have hS₁ : (s.heap.push { cls:=.type "list",data:=.seq ([]:List Mk).toArray }).get? s.heap.objs.size=FN { cls:=.type "list",data:=.seq #[] 0 }:=Hw _ rfl;refine aeC (A:=A) (R:=fun (r:Xy) s'=>match r with
  | .ok (.ret v)=>Dl (Dm prog w) A (match v with
   | .ref a=>do
    match (<-load a).data with
    | .seq xs _=>pure xs.toList
    | _=>unsupported "internal:collect"
   | _=>unsupported "internal:collect") Q E s'
  | .ok _=>False
  | .error e=>E e s') (s:={ s with heap:=s.heap.push { cls:=.type "list",data:=.seq ([]:List Mk).toArray } }) hh (hit.at fun o e=>G6 _ e) (hl.at fun o e=>G6 _ e) hne _ (Lp lr) (Lp ll) _ _ hS₁ (fun h' tk acc' c' hk hS' hacc=>?_) hn
 show Dl _ A (load s.heap.objs.size >>= _) _ _ _;refine CR<|wpAny_load hS' ?_
 exact Ds<|hQ h' tk acc' (Fj hS') (fun b o hb e=>hk b o (HX<|Fj e) hb<|G6 _ e) hacc
theorem yN {Q₁ : Mk->AP->Prop}(hh:A.handled=FX)(hit:s.heap.IsRevIter r l ((items.size:Int) - 1))(hl:s.heap.IsList l items)(hne:l≠r)(hn:items.size<=G7)
  (h:∀ (h':Heap) (tk:Nat) (acc':Array Mk),s.heap.objs.size<h'.objs.size->(∀ b o,b≠r->s.heap.get? b=FN o->h'.get? b=FN o)->ItemsOf (fun i v=>items[items.size - 1 - i]?=FN v) acc' items.size->Q₁ (.ref h'.objs.size) { s with heap:=h'.push { cls:=.type "tuple",data:=.seq acc' },toks:=tk }) :
  Mh (Dm prog w) A (.call (.builtin "tuple.__new__") ⟨[.type "tuple",.ref r],[]⟩) (wants Q₁ E) s:=by
 refine codeAny_of_tree ?_;show Dl _ A.in1 (do checkBuiltinCall "tuple.__new__" ⟨[.type "tuple",.ref r],[]⟩;again (.builtin "tuple.__new__" ⟨[.type "tuple",.ref r],[]⟩)) _ _ s;refine CR<|XF (F.newCall_tuple_1 _)<|Ds ⟨Oa F.plain_tuple_new _,RG F.entry_tuple_new ?_⟩
 rw [Rg F.plain_tuple_new _];have hsub:=sub_tuple_self;have hinit:=init_tuple_lookup;have hmh:=madeHere_tuple;have hTI:=hit.typeIs;have hhA:A.in1.handled=FX:=hh
 wp_walk using Rf hTI,zU hhA hit hl hne hn
 intro h' tk acc hs hm hacc;show Dl _ _ (WQ acc.toList.toArray >>= fun v=>ret v) _ _ _;unfold WQ;refine CR<|Ni ?_ (by show acc.toList.toArray.size<=G7;simp only [Array.toArray_toList];rw [hacc.1];exact hn)
 refine Ds ?_;have e:acc.toList.toArray=acc:=by simp
 rw [e];exact h h' tk acc hs hm hacc
theorem zP {Q:Mk->AP->Prop}(hh:A.handled=FX)(hit:s.heap.IsRevIter r l ((items.size:Int) - 1))(hl:s.heap.IsList l items)(hne:l≠r)(hn:items.size<=G7)
  (h:∀ (h':Heap) (tk:Nat) (acc':Array Mk),s.heap.objs.size<h'.objs.size->(∀ b o,b≠r->s.heap.get? b=FN o->h'.get? b=FN o)->ItemsOf (fun i v=>items[items.size - 1 - i]?=FN v) acc' items.size->Q (.ref h'.objs.size) { s with heap:=h'.push { cls:=.type "tuple",data:=.seq acc' },toks:=tk }) :
  Dl (Dm prog w) A (call (.type "tuple") [.ref r]) Q E s:=by
 refine callType_codes (Q₁:=fun obj s₁=>s₁.TypeIs obj "tuple"/\Q obj s₁) F.called_tuple (F.typeCall_tuple_1 _) F.entry_object_init
  (yN (A:=A.in1) hh hit hl hne hn fun h' tk acc hs hm hacc=>⟨⟨_,Hw _ rfl,rfl⟩,h h' tk acc hs hm hacc⟩) fun obj s₁ h₁=>?_
 exact ⟨h₁.1,F.args_object_init_2 obj _,object_init_meets F.called_tuple.init.lookup F.called_tuple.made (by decide) prog w A.in1 _ s₁ ⟨h₁.1,rfl,h₁.2⟩⟩
end
section
variable {X:Cx}
def tY (me:ME):ME:=fun Z h Q=>me Z h fun x h1=>match dF h1 x with
 | some us=>Q (.tup us.reverse) h1
 | none=>False
theorem CK {me:ME}{p p' pos pos':Pos}(hc:X.calm=true)(hl:Gl X "tuple")(hlm:X.mg "tuple" = FX)(hr:Gl X "reversed")(hrm:X.mg "reversed" = FX)(he:DE X e1 me)
  (h1:Eu [.Call (.Name "reversed" p') [e1] [] pos'] X.env=(false,eval (.Call (.Name "reversed" p') [e1] [] pos') X.env)::Eu [] X.env:=by rfl) (hp1:(JK pos (Eu [] X.env)).any (·.1)=false:=by rfl)
  (h2:Eu [e1] X.env=(false,eval e1 X.env)::Eu [] X.env:=by rfl) (hp2:(JK pos' (Eu [] X.env)).any (·.1)=false:=by rfl) :
  DE X (.Call (.Name "tuple" p) [.Call (.Name "reversed" p') [e1] [] pos'] [] pos) (tY me):=by
 intro ajY s Z H Q I ⟨μ,g,Zw,Qw,R,S,m,q⟩;refine W5<|ju I hl hlm Uz ?_ (by decide)<|by decide
 refine X8 ?_ h1 hp1;rw [h1];show Dl _ _ (spliced ((false,eval _ X.env)::JK pos (Eu [] X.env))) _ _ s;refine Calls.spliced_cons ?_;refine W5<|ju I hr hrm boot_reversed ?_ (by decide)<|by decide
 refine X8 ?_ h2 hp2;rw [h2];show Dl _ _ (spliced ((false,eval e1 X.env)::JK pos' (Eu [] X.env))) _ _ s;refine Calls.spliced_cons<|Fl (he ajY s Z H _ I ⟨μ,g,Zw,_,R,S,m,fun v H1 z=>z⟩) fun u s1 ⟨x,H1,I1,rx,μ1,wx,g1,x1,R1,r1,m1⟩=>?_
 refine Calls.spliced_nil ?_;split at m1
 ·rename_i us ev;obtain ⟨a,xs,ex,hs,rs⟩:=cC R1 r1 ev;subst ex;obtain rfl:u=Value.ref a:=rx;obtain ⟨its,r,pl,hz⟩:=I1.list hs;have ajZ:=r.length;refine call_reversed_list pl.isList ?_;refine Calls.spliced_nil ?_;have la:a<s1.heap.objs.size:=by obtain ⟨_,e,_⟩:=pl.isList;exact Fj e
  have gi:(s1.heap.push (revObj a ((its.toArray.size:Int) - 1))).IsRevIter s1.heap.objs.size a ((its.toArray.size:Int) - 1):=⟨_,Hw _ rfl,rfl,rfl⟩
  refine zP (I1.ok.hd hc) gi (pl.isList.at fun o e=>G6 _ e) (HX la) (by rw [J9,<-ajZ];exact hz) fun h' tk acc' hsz kp it=>?_;have ea:acc'.toList=its.reverse:=by
   refine List.ext_getElem? fun j=>?_;by_cases hj:j<its.length
   ·have hj':j<acc'.toList.length:=by rw [Vu,it.1,J9];exact hj
    have h3:=it.2 j (acc'.toList[j]) (by rw [<-Vx];exact GK hj');rw [GK hj',List.getElem?_reverse hj,<-h3,J9];simp
   ·rw [Yd (by rw [Vu,it.1,J9];lia),Yd (by rw [List.length_reverse];lia)]
  have kp':∀ b o,s1.heap.get? b=FN o->h'.get? b=FN o:=fun b o eb=>kp b o (HX (Fj eb)) (G6 _ eb)
  have hge:s1.heap.objs.size<=h'.objs.size:=by
   have:(s1.heap.push (revObj a ((its.toArray.size:Int) - 1))).objs.size=s1.heap.objs.size+1:=Oh _ _
   rw [this] at hsz;lia
  have hf:H1 h'.objs.size=FX:=I1.hok.fresh hge;refine ⟨.ref h'.objs.size,_,I1.laid (a:=h'.objs.size) (o:=.tup xs.reverse) (t':=tk) (fun b o eb=>G6 _<|kp' b o eb) hge<|show eH X.prog X.w _ _ _ (.tup xs.reverse) from ⟨by rw [List.length_reverse];exact hz,acc'.toList,by rw [ea];exact afG r,by simpa using Ib.new h' acc'⟩,rfl,?_⟩;exact q _ _ ⟨μ1,.tup us.reverse,g1,x1.trans (Ex.laid hf).ext,R1.laid hf,.tupNew hf<|BP rs,m1⟩
 ·exact m1.elim
end
section
variable {P:Ew}{w:Em}{A:Fg}{E:Mk->AP->Prop}{s:AP}
def acG (_:Heap)(v:Mk)(k:List Int):Prop:=∃ i t,v=.int i t/\k=[i]
theorem wK:Vg acG:=⟨fun ⟨_,_,e,k⟩ ⟨_,_,e',k'⟩=>by subst e k k';cases e';rfl,fun x _=>x⟩
theorem vq {h:Heap}:∀ {ks:List Int} {vs:List Mk},DY (ks.map V.int) vs↔Q7 acG h (ks.map ([·])) vs
 | [],_=>⟨fun h=>by cases h;exact .nil,fun h=>by cases h;exact .nil⟩
 | k::ks,_=>⟨fun h=>by
   cases h with
   | cons r h=>
    obtain ⟨t,e⟩:=r;exact .cons ⟨k,t,e,rfl⟩<|vq.mp h,fun h=>by
   cases h with
   | cons r h=>
    obtain ⟨_,t,e,k'⟩:=r;cases k'
    exact .cons ⟨t,e⟩ (vq.mpr h)⟩
theorem Pb {i j:Int}:[i] < [j]↔i<j:=by rw [Vw];simp
theorem agT {ks:List Int}{vs:List Mk}(v:DY (ks.map V.int) vs):SkT P w A wK oneType' (ks.map ([·])) vs:=by
 refine ⟨fun h2 _ q=>?_,fun p E Q x y mx my q=>?_⟩
 ·have kd:keyKind' vs.toArray=pure oneType':=by
   match vs,v,h2 with
   | v1::v2::vs,v,_=>exact keyKind_ints (intsAre_of v)
  exact XF kd q
 ·obtain ⟨k,hk,hx⟩:=(keys_map wK p).2 x mx;obtain ⟨l,_,hy⟩:=(keys_map wK p).2 y my;unfold Ur at q;rw [mD wK hx,mD wK hy] at q;obtain ⟨i,t,rfl,rfl⟩:=hx;obtain ⟨j,u,rfl,rfl⟩:=hy;rw [keyLt'_oneType];refine oneLt_int ?_;have e:decide ([i] < [j])=decide (i<j):=decide_eq_decide.mpr Pb;rw [<-e,<-decide_eq_decide.mpr (pG (l:=[j]) hk)];exact q
theorem zK {es:Array Ru}{ks:List Int}{Q:Mk->AP->Prop}(hh:A.handled=FX)(nd0:(d==Mx)=false)(x:Ci s.heap d es ep)(hz:es.size<=G7)
  (p:DY (ks.map V.int) (es.toList.map (·.key))) (nd:ks.Nodup)
  (q:∀ (h':Heap) (tk:Nat) (l:Addr) (out:Array Mk) (ks':List Int) (c:Nat),(∀ b o,s.heap.get? b=FN o->h'.get? b=FN o)->s.heap.objs.size<=l->h'.get? l=FN (QZ "list" out c)->DY (ks'.map V.int) out.toList->ks'.Perm ks->ks'.Pairwise (· < ·)->Q (.ref l) { s with heap:=h',toks:=tk }) :
  Dl (Dm P w) A (call (.builtin "sorted") [.ref d]) Q E s:=by
 refine sH (agT p) (oA (A:=A.in1) hh nd0 x hz) (vq.mp p) (Tv.mpr<|nd.imp fun h e=>h (Rv e).1) (by simpa using hz) fun h' tk l out ks' c k1 k2 k3 g1 g2 g3 _=>?_;obtain ⟨js,pj,rfl⟩:=Bj g2 rfl;exact q h' tk l out js c k1 k2 k3 (vq.mpr g1) pj<|(Tv.mp g3).imp Pb.mp
end
section
variable {X:Cx}{K:Dp}
def xr {β : Type}(kvs:List (Key×β))(ks:List Int):Prop:=kvs.map (·.1)=ks.map Sum.inl
theorem vM {ks:List Int}:∀ {kvs:List (Key×V)} {vs:List (Key×Mk)} {ks:List Int},KV kvs vs->xr kvs ks->vs.map (·.1)=ks.map Sum.inl
 | [],_,ks,.nil,e=>by
  have:ks=[]:=by cases ks with
   | nil=>rfl
   | cons a l=>simp [xr] at e
  subst this;rfl
 | x::kvs,_,ks,.cons r t,e=>by
  cases ks with
  | nil=>simp [xr] at e
  | cons k ks=>
   unfold xr at e;rw [Ed,Ed] at e;obtain ⟨e1,e2⟩:=Rv e;rw [Ed,Ed,vM (ks:=ks) t e2,<-r.1,e1]
theorem qL:∀ {es:List Ru} {vs:List (Key×Mk)} {ks:List Int},PySem.Pairs (bR X.prog X.w) es vs->vs.map (·.1)=ks.map Sum.inl->DY (ks.map V.int) (es.map (·.key))/\es.length=vs.length
 | _,_,ks,.nil,e=>by
  have:ks=[]:=by cases ks with
   | nil=>rfl
   | cons a l=>simp at e
  subst this;exact ⟨.nil,rfl⟩
 | _,_,ks,.cons h1 h2 t,e=>by
  cases ks with
  | nil=>simp at e
  | cons k ks=>
   rw [Ed,Ed] at e;obtain ⟨e1,e2⟩:=Rv e;obtain ⟨i1,i2⟩:=qL (ks:=ks) t e2;refine ⟨.cons ?_ i1,by rw [K9,K9,i2]⟩;rcases bY h1 with ⟨i,u,q1,q2⟩ | ⟨x,u,q1,q2⟩
   ·rw [e1] at q1;injection q1 with q1
    exact ⟨u,by rw [q1];exact q2⟩
   ·rw [e1] at q1;exact nomatch q1
theorem aef (hc:X.calm=true):d8 X (.builtin "sorted") (fun vs H Q=>∃ a kvs ks,vs=[.ref a]/\H a=FN (.dK kvs)/\xr kvs ks /\
  ∀ js:List Int,js.Perm ks->js.Pairwise (· < ·)->∀ l,H l=FX->Q (.ref l) (Fb H l (.lst (js.map V.int)))):=by
 intro ajY s Z H vs us Q I r ⟨a,kvs,ks,ev,hx,hi,q⟩;subst ev;obtain ⟨u,rfl,ru⟩:=vals1 r;cases ru;obtain ⟨z,y,vs,rel,dd⟩:=zT I.hok hx;have hl:kvs.length=vs.length:=Vo rel;have kk:=vM (ks:=ks) rel hi;obtain ⟨o,es,ep,g1,g2,g3,_,g4,g5⟩:=dd;obtain ⟨p1,p2⟩:=qL (X:=X) g4 kk;have pk:DY (ks.map V.int) (es.toList.map (·.key))/\ks.Nodup/\es.size=vs.length:=by
  refine ⟨p1,?_,by rw [<-p2,Vu]⟩;rw [kk] at g5;exact (Tv.mp g5).imp fun h e=>h<|by rw [e]
 refine zK (I.ok.hd hc) y ⟨o,g1,g2,g3⟩ (by rw [pk.2.2];lia) pk.1 pk.2.1 fun h' tk l out ks' c keep hl' e pr pm pw=>?_;have l1:ks'.length=out.toList.length:=by have:=pr.length;simpa using this
 have l2:=pm.length_eq;have l3:ks.length=vs.length:=by have:=congrArg Wj kk;simpa using this.symm
 exact ⟨.ref l,_,I.laid (t':=tk) keep hl'<|show eH X.prog X.w _ h' _ (.lst<|ks'.map V.int) from ⟨by rw [Ec];lia,out.toList,c,pr,by simpa using e⟩,rfl,q ks' pm pw l<|I.hok.fresh hl'⟩
def FZ:MC:=fun ws h Q=>match ws with
 | [.loc n]=>(match h.c n with
  | some (.dct kvs)=>∃ ks:List Int,xr kvs ks/\∀ js:List Int,js.Perm ks->js.Pairwise (· < ·)->Q (.lst (js.map .int)) h
  | _=>False)
 | _=>False
theorem vm {H:Hp}{μ : Mu}:∀ {kvs:List (Key×W)} {kvv:List (Key×V)} {ks:List Int},jq K H μ kvs kvv->xr kvs ks->xr kvv ks
 | [],_,ks,.nil,e=>e
 | x::kvs,_,ks,.cons r t,e=>by
  cases ks with
  | nil=>simp [xr] at e
  | cons k ks=>
   unfold xr at e |-
   rw [Ed,Ed] at e;obtain ⟨e1,e2⟩:=Rv e;have:=vm (ks:=ks) t e2
   unfold xr at this;rw [Ed,Ed,this,<-r.1,e1]
theorem agt (hc:X.calm=true):eY X (.builtin "sorted") FZ:=⟨_,aef hc,by
 intro H μ h vs ws Qw Q R r m k;unfold FZ at m;split at m
 ·rename_i n;split at m
  ·rename_i kvs ec;obtain ⟨p,kvv,hp,hx,rf⟩:=R.dctAt ec;obtain ⟨v,rfl,r1⟩:=gC r;rw [DP] at r1;obtain ⟨p',rfl,hp'⟩:=r1;have ep:p'=p:=by rw [hp] at hp';exact (Gw hp').symm
   subst ep;obtain ⟨ks,m1,m2⟩:=m;refine ⟨p',kvv,ks,rfl,hx,vm rf m1,fun js pj sj l hl=>?_⟩;exact k _ _ ⟨μ,_,h,(Ex.laid hl).ext,R.laid hl,.lstNew R hl<|nP js,m2 js pj sj⟩
  ·exact m.elim
 ·exact m.elim⟩
def UJ:ME:=fun _ h Q=>Q (.loc h.nx) (h.new (.dct []))
theorem ahl {pos:Pos}:DE X (.Dict [] [] pos) UJ:=zaR.of fun Z H Q ⟨μ,g,Zw,Qw,R,S,m,q⟩ p hp=>by
 have R1:Er X.K (μ.put g.nx p) (Fb H p (.dK [])) (g.new (.dct [])):=R.newCell hp trivial ⟨[],aY,.nil⟩;exact q _ _ ⟨_,.loc g.nx,_,(Ex.newCell R hp).ext,R1,by rw [DP];exact ⟨p,rfl,Mu.put_same⟩,m⟩
end
section
variable {X:Cx}{o:Expr}{mo:ME}{ma:MA}{apos akb:Pos}
def Fx:MM:=fun x ws h Q=>match x,ws with
 | .loc n,[y,z]=>(match h.c n,Va y with
  | some (.dct kvs),FN k=>Q ((nO kvs k).getD z) h
  | _,_=>False)
 | _,_=>False
def Es (h:Gh)(x:W)(P:Prop):Prop:=match x with
 | .loc n=>(match h.c n with
  | some (.dct _)=>P
  | _=>False)
 | _=>False
def V0 (r:MM)(mo:ME)(ma:MA):ME:=fun Z h Q=>mo Z h fun x h1=>Es h1 x (ma Z h1 fun xs h2=>r x xs h2 Q)
theorem u0 {K:Dp}{H:Hp}{μ : Mu}{k:Key}:∀ {kvs:List (Key×W)} {kvv:List (Key×V)},jq K H μ kvs kvv->(∀ w,nO kvs k=FN w->∃ v,Ez kvv k=FN v/\DP K H μ w v)/\(nO kvs k=FX->Ez kvv k=FX)
 | [],_,.nil=>⟨fun w e=>by simp [nO] at e,fun _=>rfl⟩
 | x::kvs,y::_,.cons r t=>by
  obtain ⟨i1,i2⟩:=u0 (k:=k) t;unfold nO Ez at *;rw [RM,RM];by_cases c:x.1=k
  ·have c2:y.1=k:=r.1.symm.trans c;rw [decide_eq_true c];simp only [c2,decide_true];exact ⟨fun w e=>by cases e;exact ⟨_,rfl,r.2⟩,fun e=>by cases e⟩
  ·have c2:¬ y.1=k:=fun e=>c (r.1.trans e)
   rw [decide_eq_false c];simp only [c2,decide_false];exact ⟨i1,i2⟩
theorem Ph (hu:X.A.units+30<Jj)(ho:DE X o mo)(ha:KZ X [e1,e2] ma)
  (hbase:Vp o "get" X.env (eval o X.env)=eval o X.env:=by rfl)
  (hfew:((JK akb (Eu [e1,e2] X.env)).all (fun x=>!x.1)&&(backToKw akb (Vl [] X.env)).all (fun x=>x.1.isSome)
   && decide (([e1,e2]:List Expr).length+([]:List Nq).length+(if ([]:List Nq).isEmpty then 0 else 1)<30))=true:=by rfl)
  (hline:(apos.endLine==akb.line)=true:=by rfl) (hst:Eu [e1,e2] X.env=(false,eval e1 X.env)::Eu [e2] X.env:=by rfl) (hplain:(JK akb (Eu [e2] X.env)).any (·.1)=false:=by rfl) :
  DE X (.Call (.Attribute o "get" apos) [e1,e2] [] akb) (V0 Fx mo ma):=by
 intro ajY s Z H Q I ⟨μ,h,Zw,Qw,R,S,m,k⟩;refine Yw hbase hfew hline rfl<|Fl (ho ajY s Z H _ I ⟨μ,h,Zw,_,R,S,m,fun _ _ z=>z⟩) fun u s1 ⟨x,H1,I1,rx,μ1,wx,h1,e1',R1,r1,il⟩=>?_
 unfold Es at il;split at il
 ·rename_i n;split at il
  ·rename_i kv0 ec0;have r0:=r1;rw [DP] at r1;obtain ⟨a,rfl,ha'⟩:=r1;obtain rfl:u=Value.ref a:=rx;obtain ⟨p,kvv,hp,hx,_⟩:=R1.dctAt ec0;have ep:p=a:=by rw [ha'] at hp;exact (Gw hp).symm
   subst ep;obtain ⟨z,y,vs0,acg,dd0⟩:=zT I1.hok hx;obtain ⟨ob,es,epo,g1,g2,_⟩:=id dd0;refine ⟨"dict", "dict.get",PySem.F.plainAttrs_dict,Yj,PySem.F.type_dict_get,⟨ob,g1,g2.1⟩,fun b e=>by cases e;exact ⟨ob,g1,g2.2.1⟩,?_⟩;have hA:=ha akb ajY s1 Z H1 _ I1 ⟨μ1,h1,Zw,_,R1,S.ext e1',il,fun _ _ z=>z⟩;rw [hst] at hA |-
   refine YQ (by show (false||(JK akb<|Eu [e2] X.env).any (·.1))=false;rw [hplain] <;> rfl)<|Yv ?_
   refine Fl hA fun us s2 ⟨ys,H2,I2,r2,μ2,ws,h2,e2',R2,rs,m2⟩=>?_;unfold Fx at m2;split at m2
   ·rename_i n' y' z' e3;cases e3;split at m2
    ·rename_i kvs kk ec ek;obtain ⟨v1,v2,rfl,ry,rz⟩:=zA rs;have ev1:=jh ry ek;subst ev1;obtain ⟨u1,u2,rfl,ru1,ru2⟩:=vals2 r2;obtain ⟨p2,kvv2,hp2,hx2,rf2⟩:=R2.dctAt ec;have r0':=e2'.r _ _ r0;rw [DP] at r0';obtain ⟨a2,ea,ha2⟩:=r0';cases ea;have ep2:p2=p:=by rw [ha2] at hp2;exact (Gw hp2).symm
     subst ep2;obtain ⟨z2,hd2,vs2,rel2,dd⟩:=zT I2.hok hx2;obtain ⟨t1,t2⟩:=u0 (k:=kk) rf2;refine call_meetsIn Yj dd.typeIs PySem.F.entry_dict_get (PySem.F.args_dict_get_3 _ _ _) (meets_dict_get_default (bR X.prog X.w) p2 (Ey ru1) hd2 u2) ⟨_,dd.mapOf,?_⟩;have hv:=(rel2.val kk).getD ru2;cases ev:nO kvs kk with
     | some wv=>
      rw [ev] at m2;obtain ⟨v,a1,a3⟩:=t1 wv ev;rw [a1] at hv;exact ⟨v,H2,I2.tok _,hv,k _ _ ⟨μ2,wv,h2,e1'.trans e2',R2,a3,m2⟩⟩
     | none=>
      rw [ev] at m2;rw [t2 ev] at hv;exact ⟨v2,H2,I2.tok _,hv,k _ _ ⟨μ2,z',h2,e1'.trans e2',R2,rz,m2⟩⟩
    ·exact m2.elim
   ·exact m2.elim
  ·exact il.elim
 ·exact il.elim
end
section
variable {prog:Ew}{w:Em}{A:Fg}{E:Mk->AP->Prop}{L:Addr}{ns:List Int}{its:List Mk}
end
section
variable {X:Cx}
end
section
variable {X:Cx}{a b o i:Expr}{td ty:TE}{pos:Pos}
theorem eY.or {f:Mk}{m1 m2:MC}(h1:eY X f m1)(h2:eY X f m2):eY X f (fun ws h Q=>m1 ws h Q\/m2 ws h Q):=by
 obtain ⟨r1,c1,s1⟩:=h1;obtain ⟨r2,c2,s2⟩:=h2;refine ⟨_,d8.or c1 c2,?_⟩;intro H μ h vs ws Qw Q R r m k;rcases m with m | m
 ·exact .inl<|s1 R r m k
 ·exact .inr<|s2 R r m k
def Al:MC:=fun ws h Q=>Ho ws h Q\/FZ ws h Q
theorem zbH (hc:X.calm=true):eY X (.builtin "sorted") Al:=(afw hc).or (agt hc)
def RP:M2:=fun x y h Q=>Yo x y h Q\/Ro x y h Q
theorem aex (hu:X.A.units+30<Jj)(ho:PE X o td)(hi:PE X i ty)(hs:Zo i):PE X (.Subscript o i pos) (fun Z H Q=>td Z H fun x H1=>ty Z H1 fun y H2=>(∃ a xs k b p v,x=.ref a/\H2 a=FN (.ext (zR a xs))/\Kg X.K H2 xs/\y=.ref b/\Hj X.K H2 b (k.map V.int)/\atKey xs k=FN p/\RelV v p.2/\Q v H2)\/∃ a kvs k v,x=.ref a/\Rd H2 a (.dK kvs)/\y=kV k/\Ez kvs k=FN v/\Q v H2):=by
 intro ajY s Z H Q I h;refine GR PySem.F.slot_dict_getitem.lookup hs<|Fl (ho ajY s Z H _ I h) fun u s1 ⟨x,H1,I1,rx,q1⟩=>Fl (hi ajY s1 Z H1 _ I1 q1) fun iv s2 ⟨y,H2,I2,ry,q2⟩=>?_
 rcases q2 with ⟨a,xs,k,b,p,v,ex,e,hk,ey,hb,l,rv,q2⟩ | ⟨a,kvs,k,v,ex,e,ey,l,q2⟩
 ·subst ex ey;obtain rfl:u=Value.ref a:=rx;obtain rfl:iv=Value.ref b:=ry;obtain ⟨z,hd,dd⟩:=zL I2 e hk;exact ⟨dd.typeIs,wpAny_getItem_heap (tupleKind_room_in1<|by lia) (wD I2 hb) dd l ⟨v,H2,I2.tok _,rv,q2⟩⟩
 ·subst ex ey;obtain rfl:u=Value.ref a:=rx;obtain ⟨z,hd,vs,rel,dd⟩:=U9 I2.hok e;obtain ⟨w',hw,rw'⟩:=KQ.some_of (v:=v) (o:=valueAt vs k) (by rw [<-l];exact rel.val k);exact ⟨dd.typeIs,wpAny_getItem_of (Ey ry) dd.mapOf hw ⟨v,H2,I2.tok _,rw',q2⟩⟩
theorem ZG (hu:X.A.units+30<Jj)(ha:DE X a ma)(hb:DE X b mb)(hs:Zo b):DE X (.Subscript a b pos) (DR RP ma mb):=(aex hu ha hb hs).of fun Z H Q h=>two h fun {H2 μ2 h2 x y wx wy Qw} R r1 r2 m k=>by
 rcases m with m | m
 ·unfold Yo at m;split at m
  ·rename_i n kk e;split at m
   ·rename_i kvs ec;split at m
    ·rename_i w ev;obtain ⟨p,xs,vs,hp,hx,e1,e2,r3,r4⟩:=R.dttAt ec;rw [DP] at r1;obtain ⟨p',ex,hp'⟩:=r1;have ep:p'=p:=by rw [hp] at hp';exact (Gw hp').symm
     subst ep;obtain ⟨b',eb,hb'⟩:=jo r2 e;obtain ⟨q,v,h3,h4,h5⟩:=(uo e1 e2 r4 kk).1 w ev;exact .inl ⟨p',xs,kk,b',q,v,ex,hx,jl e1 r3,eb,hb',h3,h4,k _ _ ⟨μ2,w,h2,.refl,R,h5,m⟩⟩
    ·exact m.elim
   ·exact m.elim
  ·exact m.elim
 ·unfold Ro at m;split at m
  ·rename_i n kk e;split at m
   ·rename_i kvs ec;split at m
    ·rename_i w ev;obtain ⟨p,kvv,hp,hx,rf⟩:=R.dctAt ec;rw [DP] at r1;obtain ⟨p',e1,hp'⟩:=r1;have ep:p'=p:=by rw [hp] at hp';exact (Gw hp').symm
     subst ep;obtain ⟨v,e2,rv⟩:=rf.val ev;exact .inr ⟨p',kvv,kk,v,e1,.inl hx,jh r2 e,e2,k _ _ ⟨μ2,w,h2,.refl,R,rv,m⟩⟩
    ·exact m.elim
   ·exact m.elim
  ·exact m.elim
end
section
variable {P:Ew}{w:Em}{A:Fg}{E:Mk->AP->Prop}{s:AP}
end
section
variable {X:Cx}
end
def Fk (P:Ew)(w:Em)(K:Dp)(mg:Str->Option Mk)(base:Heap)(k:Nat)(x:Str)(ms:Dr):Prop:=∃ f fd ps,qO P w K mg base Mg k f fd ps (lift K ms)/\mg x=FN (.ref f)/\U7 K (.ref f)=true/\Binds K fd ps []
def At (K:Dp)(mg:Str->Option Mk)(x:Str)(st:Stmt)(ps:List Str):Prop:=∃ f fd,Uo K x x st f fd/\mg x=FN (.ref f)/\Binds K fd ps []
section
variable {X:Cx}{e e3 e4:Expr}{es:List Expr}{mc md:ME}{pos:Pos}{k:Nat}{zl:List Str}{x:Str}{p:Pos}
theorem vV (i:Nat)(hN:X.N[i]?=FN x:=by with_unfolding_all rfl)(hv:Vis X.env.scope x:=by with_unfolding_all first | exact Or.inl rfl | exact Or.inr (Or.inl rfl) | exact Or.inr (Or.inr rfl))(hd:(x==("__debug__" : Str))=false:=by decide)(hcd:(x==("__classdict__" : Str))=false:=by decide):DE X (.Name x pos) (aB i):=dv i (pv i hN hv hd hcd)
theorem aC (h1:DE X e ma)(h2:KZ X es mr)(s:G9 e=false:=by with_unfolding_all rfl):KZ X (e::es) (ao ma mr):=agE h1 h2 (aP s)
theorem a1 (h1:DE X e ma)(s:G9 e=false:=by with_unfolding_all rfl):KZ X [e] (ao ma aN):=aC h1 d7 s
theorem a2 (h1:DE X e ma)(h2:DE X e2 mb)(s1:G9 e=false:=by with_unfolding_all rfl)(s2:G9 e2=false:=by with_unfolding_all rfl):KZ X [e,e2] (ao ma (ao mb aN)):=aC h1 (a1 h2 s2) s1
theorem a3 (h1:DE X e ma)(h2:DE X e2 mb)(h3:DE X e3 mc)(s1:G9 e=false:=by with_unfolding_all rfl)(s2:G9 e2=false:=by with_unfolding_all rfl)(s3:G9 e3=false:=by with_unfolding_all rfl):KZ X [e,e2,e3] (ao ma (ao mb (ao mc aN))):=aC h1 (a2 h2 h3 s2 s3) s1
theorem Gx {j:Nat}(F:Fk X.prog X.w X.K X.mg X.base j x ms)(ha:KZ X (e::es) mr)(hr:mJ k X.A:=by with_unfolding_all assumption)(hk:j<=k:=by decide)(hg:Gl X x:=by with_unfolding_all rfl)(hdb:(x==("__debug__" : Str))=false:=by decide)(h1:G9 e=false:=by with_unfolding_all rfl)(h2:noStar es=true:=by with_unfolding_all rfl):
  DE X (.Call (.Name x p) (e::es) [] pos) (bf ms EF mr):=by
 obtain ⟨f,fd,ps,a,b,c,d⟩:=F;exact agJ (a.mono hk) hr hg b c d ha hdb (aP h1)<|bI h2
theorem K7 {id:String}{mc:MC}(hc:eY X (.builtin id) mc)(hv:S6 x=FN (.builtin id))(ha:KZ X (e::es) mr)(z:∀ n∈zl,X.mg n=FX:=by with_unfolding_all assumption)(hz:x∈zl:=by decide)(hg:Gl X x:=by with_unfolding_all rfl)(hn:x ≠ "__name__":=by decide)(hdb:(x==("__debug__" : Str))=false:=by decide)
  (h1:G9 e=false:=by with_unfolding_all rfl) (h2:noStar es=true:=by with_unfolding_all rfl):DE X (.Call (.Name x p) (e::es) [] pos) (Hu mc mr):=zbQ hc hg (z _ hz) hv ha hn hdb (aP h1) (bI h2)
theorem dct {T:String}{mc:MC}(hc:eY X (.type T) mc)(hv:S6 x=FN (.type T))(ha:KZ X (e::es) mr)(z:∀ n∈zl,X.mg n=FX:=by with_unfolding_all assumption)(hz:x∈zl:=by decide)(hg:Gl X x:=by with_unfolding_all rfl)(hn:x ≠ "__name__":=by decide)(hdb:(x==("__debug__" : Str))=false:=by decide)
  (h1:G9 e=false:=by with_unfolding_all rfl) (h2:noStar es=true:=by with_unfolding_all rfl):DE X (.Call (.Name x p) (e::es) [] pos) (Hu mc mr):=ahe hc hg (z _ hz) hv ha hn hdb (aP h1) (bI h2)
theorem GX (i:Nat){pos':Pos}(he:DE X e ma)(hN:X.N.Nodup:=by with_unfolding_all assumption)(hi:X.N[i]?=FN x:=by with_unfolding_all rfl)(hx:Loc X.env.scope x:=by with_unfolding_all first | exact Or.inl rfl | exact Or.inr rfl)(hs:Vh e (FN (.Name x pos')) pos.line X.env=pure false:=by with_unfolding_all rfl)
  (hf:X.fn x=true\/X.env.scope.names.lookup x=FN .local:=by with_unfolding_all first | exact .inl rfl | exact .inr rfl):DS X (.Assign [.Name x pos'] e pos) (bZ ma (kI i)):=ahJ hN hi hx he hs hf
theorem JG (i:Nat)(hN:X.N.Nodup:=by with_unfolding_all assumption)(hi:X.N[i]?=FN x:=by with_unfolding_all rfl)(hx:Loc X.env.scope x:=by with_unfolding_all first | exact Or.inl rfl | exact Or.inr rfl)(hf:X.fn x=true\/X.env.scope.names.lookup x=FN .local:=by with_unfolding_all first | exact .inl rfl | exact .inr rfl):DG X (.Name x pos) (kI i):=agn (ux hN hi hx hf)
theorem GZ {a b:Expr}(ha:DE X a ma)(hb:DE X b mb)(hs:zq b:=by with_unfolding_all (intro _ _;rfl)):DE X (.Subscript a b pos) (DR Fi ma mb):=adJ ha hb hs
theorem J6 {a b:Expr}{op:CmpOp}{m2:M2}(ho:M5 X (K3 op) m2)(ha:DE X a ma)(hb:DE X b mb)(hm:Vq op b=false:=by with_unfolding_all first | exact PN _ | rfl):DT X (.Compare a [op] [b] pos) (bO (DR m2 ma mb)):=ahI ho ha hb hm
theorem Rq {a b:Expr}{op:CmpOp}{m2:M2}(ho:M5 X (K3 op) m2)(ha:DE X a ma)(hb:DE X b mb)(hm:Vq op b=false:=by with_unfolding_all first | exact PN _ | rfl):DE X (.Compare a [op] [b] pos) (DR m2 ma mb):=abd ho ha hb hm
theorem dl1 {scope:Scope}{iter:Expr}(ix:List Nat)(hi:Rp X (.Name x p) iter mi)(ht:∀ C s H fp,VF (blk X scope (fW X [x] ix) C s H fp) ifs tt)(he:∀ C s H fp,DE (blk X scope (fW X [x] ix) C s H fp) elt te)(B:gZ X scope [x] ix:=by with_unfolding_all exact cZ rfl)(hc:X.calm=true:=by with_unfolding_all assumption)
  (hs:∀ v,V9 iter X.env v=pure v:=by with_unfolding_all (intro _;rfl)):DE X (.ListComp elt [⟨.Name x p,iter,ifs,0⟩] scope pos) (Jy Np ix mi tt te):=VJ ix hc B abN (aaZ B) hi ht he hs
theorem T8 {scope:Scope}{iter:Expr}(ix:List Nat)(hi:Rp X (.Name x p) iter mi)(he:∀ C s H fp,DE (blk X scope (fW X [x] ix) C s H fp) elt te)(B:gZ X scope [x] ix:=by with_unfolding_all exact cZ rfl)(hc:X.calm=true:=by with_unfolding_all assumption)
  (hs:∀ v,V9 iter X.env v=pure v:=by with_unfolding_all (intro _;rfl)):DE X (.ListComp elt [⟨.Name x p,iter,[],0⟩] scope pos) (Jy Np ix mi ou te):=dl1 ix hi (fun _ _ _ _=>gw) he B hc hs
theorem qq (hr:mJ k X.A:=by with_unfolding_all assumption):X.A.units+30<Jj:=adN hr
theorem hh (hc:X.calm=true:=by with_unfolding_all assumption):X.calm=true:=hc
theorem T7 {a:Expr}{tg:Expr}(ha:KZ X [a] mr)(z:∀ n∈zl,X.mg n=FX:=by with_unfolding_all assumption)(hz:("range" : Str)∈zl:=by decide)(hg:Gl X "range":=by with_unfolding_all rfl)(hs:G9 a=false:=by with_unfolding_all rfl):Rp X tg (.Call (.Name "range" p) [a] [] pos) (iY mr):=aeB hg (z _ hz) ha (Qt hs)
end
theorem fk {P:Ew}{w:Em}{K:Dp}{mg:Str->Option Mk}{base:Heap}{x:Str}{st:Stmt}{ps zl:List Str}(N:List Str){k:Nat}{pure:Bool}{body:FQ->MS}(T:At K mg x st ps)(z:∀ n∈zl,mg n=FX)
  (hb:∀ (f:Addr) (cdv:Mk) (A:Fg) (outer:List Env) (s:AP) (H:Hp) (E:XK),mJ k (A.deeper (Rb x (bw st) s.heap.objs.size f cdv))->N.Nodup->(Ft Mg P w K mg base N x (bw st) f cdv A outer s H E).nox.calm=true->(∀ n∈zl,mg n=FX)->Rn (Ft Mg P w K mg base N x (bw st) f cdv A outer s H E).nox (eE st) (body EF))
  (S:iI N ps (bw st):=by exact ⟨rfl,rfl,rfl,by decide +kernel,rfl,by decide +kernel,by decide +kernel⟩) (hk:9<=k:=by decide):Fk P w K mg base (k+1) x (J5 ps.length N.length pure body):=by
 obtain ⟨f,fd,F,m,b⟩:=T;exact ⟨f,fd,ps,acC F S fun cdv A outer s H E hr=>hb f cdv A outer s H E hr S.nd (hr.calm hk) z,m,F.kp,b⟩
section
variable {X:Cx}{e:Expr}
def U8 (m:ME):MT:=fun Z h Q=>m Z h fun w h1=>match w with
 | .loc n=>(match h1.c n with
  | some (.dct kvs)=>Q (!kvs.isEmpty) h1
  | _=>False)
 | _=>False
theorem aeQ {K:Dp}{H:Hp}{kvs:List (Key×W)}(r:jq K H μ kvs kvv):kvs.isEmpty=kvv.isEmpty:=by
 cases r <;> rfl
theorem aip (he:DE X e ma)(h:∀ whole,isTrue e X.env whole=(do let v <-whole;standAt e.pos;Rr [v] (truthy v)):=by intro _;rfl):DT X e (U8 ma):=(Ba he h).of fun Z H Q ⟨μ,g,Zw,Qw,R,S,m,q⟩=>by
 refine ⟨μ,g,Zw,_,R,S,m,fun v H1 ⟨μ1,w,h1,e1,R1,r1,m1⟩=>?_⟩;split at m1
 ·rename_i n;split at m1
  ·rename_i kvs ec;rw [DP] at r1;obtain ⟨p,ev,hm⟩:=r1;subst ev;obtain ⟨p',kvv,hm',hx,rf⟩:=R1.dctAt ec;have ep:p'=p:=by rw [hm] at hm';exact (Gw hm').symm
   subst ep;exact ⟨_,.inr<|.inr ⟨kvv,hx,by rw [aeQ rf]⟩,q _ _ ⟨μ1,h1,e1,R1,m1⟩⟩
  ·exact m1.elim
 ·exact m1.elim
end
def Om (kvs:List (Key×W))(k:Key):List (Key×W):=kvs.filter fun kv=>decide (kv.1≠k)
theorem Bb {K:Dp}{H:Hp}{μ : Mu}{k:Key}:∀ {kvs:List (Key×W)} {kvv:List (Key×V)},jq K H μ kvs kvv->jq K H μ (Om kvs k) (zm kvv k)
 | [],_,.nil=>.nil
 | x::kvs,y::_,.cons r t=>by
  have i:=Bb (k:=k) t;unfold Om zm at *;rw [TK,TK,r.1];split
  ·exact .cons r i
  ·exact i
section
variable {X:Cx}{o:Expr}{mo:ME}{ma:MA}{apos akb:Pos}
def K6:MM:=fun x ws h Q=>match x,ws with
 | .loc n,[y]=>(match h.c n,Va y with
  | some (.dct kvs),FN k=>(match nO kvs k with
   | some v=>Q v (h.set n (.dct (Om kvs k)))
   | none=>False)
  | _,_=>False)
 | _,_=>False
theorem aik (ho:DE X o mo)(ha:KZ X [e1] ma)
  (hbase:Vp o "pop" X.env (eval o X.env)=eval o X.env:=by rfl)
  (hfew:((JK akb (Eu [e1] X.env)).all (fun x=>!x.1)&&(backToKw akb (Vl [] X.env)).all (fun x=>x.1.isSome)
   && decide (([e1]:List Expr).length+([]:List Nq).length+(if ([]:List Nq).isEmpty then 0 else 1)<30))=true:=by rfl)
  (hline:(apos.endLine==akb.line)=true:=by rfl) (hst:Eu [e1] X.env=(false,eval e1 X.env)::Eu [] X.env:=by rfl) (hplain:(JK akb (Eu [] X.env)).any (·.1)=false:=by rfl) :
  DE X (.Call (.Attribute o "pop" apos) [e1] [] akb) (V0 K6 mo ma):=by
 intro ajY s Z H Q I ⟨μ,h,Zw,Qw,R,S,m,k⟩;refine Yw hbase hfew hline rfl<|Fl (ho ajY s Z H _ I ⟨μ,h,Zw,_,R,S,m,fun _ _ z=>z⟩) fun u s1 ⟨x,H1,I1,rx,μ1,wx,h1,e1',R1,r1,il⟩=>?_
 unfold Es at il;split at il
 ·rename_i n;split at il
  ·rename_i kv0 ec0;have r0:=r1;rw [DP] at r1;obtain ⟨a,rfl,ha'⟩:=r1;obtain rfl:u=Value.ref a:=rx;obtain ⟨p,kvv,hp,hx,_⟩:=R1.dctAt ec0;have ep:p=a:=by rw [ha'] at hp;exact (Gw hp).symm
   subst ep;obtain ⟨z,y,vs0,acg,dd0⟩:=zT I1.hok hx;obtain ⟨ob,es,epo,g1,g2,_⟩:=id dd0;refine ⟨"dict", "dict.pop",PySem.F.plainAttrs_dict,PySem.F.slot_dict_pop,PySem.F.type_dict_pop,⟨ob,g1,g2.1⟩,fun b e=>by cases e;exact ⟨ob,g1,g2.2.1⟩,?_⟩;have hA:=ha akb ajY s1 Z H1 _ I1 ⟨μ1,h1,Zw,_,R1,S.ext e1',il,fun _ _ z=>z⟩;rw [hst] at hA |-
   refine YQ (by show (false||(JK akb<|Eu [] X.env).any (·.1))=false;rw [hplain] <;> rfl)<|Yv ?_
   refine Fl hA fun us s2 ⟨ys,H2,I2,r2,μ2,ws,h2,e2',R2,rs,m2⟩=>?_;unfold K6 at m2;split at m2
   ·rename_i n' y' e3;cases e3;split at m2
    ·rename_i kvs kk ec ek;split at m2
     ·rename_i wv ev;obtain ⟨v1,rfl,ry⟩:=gC rs;have ev1:=jh ry ek;subst ev1;obtain ⟨u1,rfl,ru1⟩:=vals1 r2;obtain ⟨p2,kvv2,hp2,hx2,rf2⟩:=R2.dctAt ec;have r0':=e2'.r _ _ r0;rw [DP] at r0';obtain ⟨a2,ea,ha2⟩:=r0';cases ea;have ep2:p2=p:=by rw [ha2] at hp2;exact (Gw hp2).symm
      subst ep2;obtain ⟨v,a1,a3⟩:=(u0 (k:=kk) rf2).1 wv ev;have xt:=(Ex.write (o:=.dK (zm kvv2 kk)) R2 hp2).ext;refine ahg (more:=[]) I2 hx2 ru1 a1 (.inl rfl) fun w' s' I3 rw'=>⟨v,_,I3,rw',k _ _ ⟨μ2,wv,_,(e1'.trans e2').trans xt,R2.write (c:=.dct (Om kvs kk)) hp2 trivial ⟨_,aY,?_⟩,xt.r _ _ a3,m2⟩⟩;exact Bb<|Paired.mapP rf2 fun _ _ z=>⟨z.1,xt.r _ _ z.2⟩
     ·exact m2.elim
    ·exact m2.elim
   ·exact m2.elim
  ·exact il.elim
 ·exact il.elim
end
section
variable {X:Cx}
theorem aer (hc:X.calm=true):d8 X (.builtin "max") (fun vs H Q=>∃ a kvs ks,vs=[.ref a]/\H a=FN (.dK kvs)/\xr kvs ks/\0<ks.length/\∀ M,M∈ks->(∀ a,a∈ks->a<=M)->Q (.int M) H):=by
 intro ajY s Z H vs us Q I r ⟨a,kvs,ks,ev,hx,hi,hne,q⟩;subst ev;obtain ⟨u,rfl,ru⟩:=vals1 r;cases ru;obtain ⟨z,y,vs,rel,dd⟩:=zT I.hok hx;have kk:=vM (ks:=ks) rel hi;obtain ⟨o,es,ep,g1,g2,g3,_,g4,g5⟩:=dd;obtain ⟨p1,p2⟩:=qL (X:=X) g4 kk;have x:Ci s.heap a es ep:=⟨o,g1,g2,g3⟩
 have lt:a<s.heap.objs.size:=Fj g1;have le:ks.length=es.size:=by have:=p1.length;simpa using this
 have num:∀ i v,(∃ h:i<es.size,v=es[i].key)->∃ t,v=.int (ks.getD i 0) t:=fun i v ⟨h,e⟩=>by
  obtain ⟨u,eu,t,et⟩:=p1.get (i:=i) (x:=.int (ks.getD i 0)) (by rw [Gy,GK (by lia),Hy,GK (by lia)];rfl);rw [Gy,GK (by simpa using h)] at eu;refine ⟨t,?_⟩;rw [e,<-et]
  simpa using eu
 refine call_max_walk<|Dd y x ?_
 refine ⟨_,_,_,_,_,_,_,rfl,wW (A:=X.A.in1) (I.ok.hd hc) _ a (HX lt) es ep,⟨⟨_,Hw _ rfl,rfl,rfl⟩,x.of fun o e=>G6 _ e⟩,fun b hb=>?_,by lia,CmpOf.ints_gt (fun i=>ks.getD i 0) num,fun v h' tk hP hk=>?_⟩
 ·rw [Oh];rcases J1.mp hb with rfl | hb
  ·exact Xn _
  ·rw [K5.mp hb];exact Nat.lt_succ_of_lt lt
 ·obtain ⟨h1,h2⟩:=argBest_gt (fun i=>ks.getD i 0) (es.size - 1);obtain ⟨t,rfl⟩:=num _ _ hP;obtain ⟨hb,_⟩:=hP;refine ⟨.int _,H,I.kept (h':=h') (t':=tk)<|fun b ob e=>hk b ob (by rw [K5];exact HX (Fj e))<|G6 _ e,⟨t,rfl⟩,q _ ?_ fun b hb'=>?_⟩
  ·rw [Hy,GK (by lia)];exact TQ _
  ·obtain ⟨j,hj,e⟩:=RD.mp hb';have:=h2 j (by lia)
   rw [Hy (l:=ks) (i:=j),GK hj] at this;rw [<-e];exact this
def M9:MC:=fun ws h Q=>match ws with
 | [.loc n]=>(match h.c n with
  | some (.dct kvs)=>∃ ks:List Int,xr kvs ks/\0<ks.length/\∀ M,M∈ks->(∀ a,a∈ks->a<=M)->Q (.int M) h
  | _=>False)
 | _=>False
theorem ahC (hc:X.calm=true):eY X (.builtin "max") M9:=⟨_,aer hc,by
 intro H μ h vs ws Qw Q R r m k;unfold M9 at m;split at m
 ·rename_i n;split at m
  ·rename_i kvs ec;obtain ⟨p,kvv,hp,hx,rf⟩:=R.dctAt ec;obtain ⟨v,rfl,r1⟩:=gC r;rw [DP] at r1;obtain ⟨p',rfl,hp'⟩:=r1;have ep:p'=p:=by rw [hp] at hp';exact (Gw hp').symm
   subst ep;obtain ⟨ks,m1,m2,m3⟩:=m;exact ⟨p',kvv,ks,rfl,hx,vm rf m1,m2,fun M h1 h2=>k _ _<|.int R<|m3 M h1 h2⟩
  ·exact m.elim
 ·exact m.elim⟩
end
section
variable {prog:Ew}{w:Em}{A:Fg}{E:Mk->AP->Prop}{s:AP}
theorem sI {h h':Heap}{xs:List (Key×Mk)}(x:h.DictOf (bR prog w) d xs)(hd:∀ o,h.get? d=FN o->h'.get? d=FN o):h'.DictOf (bR prog w) d xs:=by
 obtain ⟨o,es,ep,e1,r⟩:=x;exact ⟨o,es,ep,hd o e1,r⟩
theorem yE (vs rs:List (Key×Mk))(p:Key×Mk):Q9 vs (rs++[p])=stored (Q9 vs rs) p.1 p.2:=by
 unfold Q9;rw [Vb];rfl
theorem aeu (vs:List (Key×Mk))(k:Key)(v:Mk):(stored vs k v).length<=vs.length+1:=by
 unfold stored;split
 ·rw [Ec];lia
 ·simp
theorem rZ:∀ (rs vs:List (Key×Mk)),(Q9 vs rs).length<=vs.length+rs.length
 | [],vs=>by simp [Q9]
 | r::rs,vs=>by
  have:=rZ rs (stored vs r.1 r.2)
  have:=aeu vs r.1 r.2
  show (Q9 (stored vs r.1 r.2) rs).length<=_;rw [K9];lia
theorem aek {items:Array Mk}{fp:List Addr}{St:Nat->Heap->Prop}(W:Walks prog w A.in1 I fp [I] items.size (fun i v=>items[i]?=FN v) St)(hdf:d∉fp)(h0:Heap)(hd0:h0.get? d=FX)(hI0:h0.get? I=FX)
  {ps:List (Key×Mk)} (hp:items.size=ps.length) (hk:∀ (j:Nat) (p:Key×Mk),ps[j]?=FN p->∃ q kv,items[j]?=FN (.ref q)/\NZ h0 q #[kv,p.2]/\(bR prog w).is p.1 kv=true) (hz:ps.length<=G7) :
  ∀ (k j:Nat) (s:AP) (t:Tok),ps.length - j=k->j<=ps.length->St j s.heap->s.heap.DictOf (bR prog w) d (Q9 [] (ps.take j))->(∀ b o,h0.get? b=FN o->s.heap.get? b=FN o) ->
  (∀ h' tk,h'.DictOf (bR prog w) d (Q9 [] ps)->(∀ b o,h0.get? b=FN o->h'.get? b=FN o)->R (.ok (.ret .none)) { s with heap:=h',toks:=tk }) ->
  Mh (Dm prog w) A (.builtin "dict.update.loop" ⟨[.ref d,.ref I,.int (j:Int) t,.none],[]⟩) R s:=by
 have dI:d≠I:=fun e=>hdf (W.sub d (by rw [e];simp))
 intro k;induction k with
 | zero=>
  intro j s t hkj hj st hm h00 hR;have ej:j=ps.length:=by lia
  refine RG lg ?_;rw [Rg cX _];show Dl _ A.in1 (Ln (.ref I) >>= _) _ _ s;refine CR<|W.done s _ _ (by rw [hp,<-ej];exact st) fun h' tk hk'=>?_
  have m:∀ b o,h0.get? b=FN o->h'.get? b=FN o:=fun b o e=>hk' b o (by intro z;rw [K5.mp z,hI0] at e;cases e) (h00 b o e)
  have hm':h'.DictOf (bR prog w) d (Q9 [] ps):=by
   rw [ej,LK] at hm;exact sI hm fun o e=>hk' d o (by simpa using dI) e
  exact CR<|Ds<|Ds<|hR h' tk hm' m
 | succ k ih=>
  intro j s t hkj hj st hm h00 hR;have hlt:j<ps.length:=by lia
  have ep:ps[j]?=FN ps[j]:=GK hlt;generalize ps[j]=p at ep;obtain ⟨q,kv,eq,hq,hkey⟩:=hk j p ep;refine RG lg ?_;rw [Rg cX _];show Dl _ A.in1 (Ln (.ref I) >>= _) _ _ s;refine CR<|W.item j s _ _ (by rw [hp];exact hlt) st fun v h' tk hP st' hk'=>?_
  have ev:v=.ref q:=by rw [eq] at hP;exact (Gw hP).symm
  subst ev;have m:∀ b o,h0.get? b=FN o->h'.get? b=FN o:=fun b o e=>hk' b o (by intro z;rw [K5.mp z,hI0] at e;cases e) (h00 b o e)
  have hm':h'.DictOf (bR prog w) d (Q9 [] (ps.take j)):=sI hm fun o e=>hk' d o (by simpa using dI) e
  obtain ⟨oq,goq,cq,nq,dq⟩:=hq;have goq':=m _ _ goq;refine CR<|M8<|CR<|Y0 ?_
  unfold Builtin.Dict.pairItems;refine CR<|Rf (T := "tuple") ⟨oq,goq',cq⟩ ?_
  rw [if_pos (by decide)];refine CR<|Rx goq' dq<|Ds ?_
  show Dl _ _ (Rr [_,_] (dictSet d _ _)) _ _ _;refine M8<|wpAny_dictSet_pairs (hsz:=Eb (rZ _ _) (by rw [Lr,Wk];lia)) hkey hm' fun h2 hd2 hs2=>?_
  have et:stored (Q9 [] (ps.take j)) p.1 p.2=Q9 [] (ps.take (j+1)):=by
   have e1:ps.take (j+1)=ps.take j++[p]:=by rw [Lz,ep];rfl
   rw [e1];exact (yE _ _ _).symm
  rw [et] at hd2;have keep2:∀ b o,b≠d->h'.get? b=FN o->h2.get? b=FN o:=fun b o hb e=>hs2.extBut b o hb e
  refine Ds ⟨Oa cX _,?_⟩;have ej:((j:Int)+1)=((j+1:Nat):Int):=by lia
  show Mh _ _ (.builtin "dict.update.loop" ⟨[.ref d,.ref I,.int ((j:Int)+1) 0,.none],[]⟩) _ _;rw [ej];refine ih (j+1) _ 0 (by lia) hlt (W.frame _ _ _ st' fun b hb o e=>keep2 b o (fun z=>hdf<|z ▸ hb) e) hd2 (fun b o e=>keep2 b o (fun z=>by rw [z,hd0] at e;cases e)<|m b o e) fun h3 tk3 d3 m3=>hR h3 tk3 d3 m3
theorem qW {T:Addr}{items:Array Mk}{Q:Mk->AP->Prop}(hh:A.handled=FX)(hu:A.units+30<Jj)
  (src:∃ o n,s.heap.get? T=FN o/\o.cls=.type "list"/\o.data=.seq items n/\o.dict=FX)
  {ps:List (Key×Mk)} (hp:items.size=ps.length) (hk:∀ (j:Nat) (p:Key×Mk),ps[j]?=FN p->∃ q kv,items[j]?=FN (.ref q)/\NZ s.heap q #[kv,p.2]/\(bR prog w).is p.1 kv=true) (hz:ps.length<=G7)
  (h:∀ h' tk,h'.DictOf (bR prog w) s.heap.objs.size (Q9 [] ps)->(∀ b o,s.heap.get? b=FN o->h'.get? b=FN o)->Q (.ref s.heap.objs.size) { s with heap:=h',toks:=tk }) :
  Dl (Dm prog w) A (call (.type "dict") [.ref T]) Q E s:=by
 have hhA:A.in1.in1.handled=FX:=hh;have hu2:A.in1.in1.units<Jj:=by
  have:A.in1.in1.units=A.units+1+1:=rfl
  lia
 have hT0:T<s.heap.objs.size:=by
  obtain ⟨o,_,e,_⟩:=src;exact Fj e
 refine callType_codes (Q₁:=fun obj s₁=>obj=.ref s.heap.objs.size/\s₁ = { s with heap:=s.heap.push { cls:=.type "dict",data:=.dict #[] } }) F.kt_called_dict (F.kt_typeCall_dict_1 _) F.entry_dict_init (kt_code_dict_new _ ⟨rfl,rfl⟩) ?_;rintro obj s₁ ⟨rfl,rfl⟩;have hTd:({ s with heap:=s.heap.push { cls:=.type "dict",data:=.dict #[] } }:AP).TypeIs (.ref s.heap.objs.size) "dict":=⟨_,Hw _ rfl,rfl⟩
 refine ⟨hTd,F.args_dict_init_2 _ _,?_⟩;unfold Q6.«dict.__init__»;refine CR ?_;unfold Builtin.Dict.selfAndRest;refine CR<|wpAny_notOrdered_dict hTd ?_
 show Dl _ _ (pure (s.heap.objs.size,[Value.ref T])) _ _ _;refine Ds ?_;show Dl _ _ (ZP "dict.__init__" s.heap.objs.size (.ref T) [] .none) _ _ _;unfold ZP;have loop:∀ (h1:Heap) (tk1:Nat),(∀ b ob,(s.heap.push { cls:=.type "dict",data:=.dict #[] }).get? b=FN ob->h1.get? b=FN ob)->∀ (h2:Heap) (fp:List Addr) (St:Nat->Heap->Prop),h1.objs.size∉([s.heap.objs.size]:List Addr)->(∀ b ob,h1.get? b=FN ob->h2.get? b=FN ob)->s.heap.objs.size∉fp->Walks prog w A.in1.in1 h1.objs.size fp [h1.objs.size] items.size (fun i v=>items[i]?=FN v) St->St 0 h2 ->
   Mh (Dm prog w) A.in1 (.builtin "dict.update.loop" ⟨[.ref s.heap.objs.size,.ref h1.objs.size,Nf 0,.none],[]⟩) (wants (fun r s₂=>r=.none/\Q (.ref s.heap.objs.size) s₂) E) { s with heap:=h2,toks:=tk1 }:=by
  intro h1 tk1 m1 h2 fp St hne m2 hfp W st;have hd1:=m1 _ _ (Hw s.heap (o:={ cls:=.type "dict",data:=.dict #[] }) rfl);refine aek (A:=A.in1) W hfp s.heap (Xi<|Ea _) (Xi<|Mv<|Fj hd1) hp hk hz ps.length 0 _ _ rfl (Jk _) st ?_ (fun b o e=>m2 b o<|m1 b o<|G6 _ e) fun h' tk d m=>⟨rfl,h h' tk d m⟩;exact ⟨_,#[],0,m2 _ _ hd1,⟨rfl,rfl,rfl⟩,rfl,fun _ he=>by simp at he,.nil,Wz⟩
 obtain ⟨o,n,g1,g2,g3,g4⟩:=src;have g1':(s.heap.push { cls:=.type "dict",data:=.dict #[] }).get? T=FN o:=G6 _ g1;refine CR<|Rf (T := "list") ⟨o,g1',g2⟩ ?_
 rw [if_pos (by decide)];refine CR<|rG g1' g2 g3 g4 hhA fun h1 tk1 m1=>?_
 rw [if_pos (show (FX:Option Mk).isNone=true from rfl)];refine CR<|Ml ?_
 have hT:h1.IsList T items:=⟨o,m1 _ _ g1',g2,n,g3⟩
 refine CR<|VB hT ?_
 have hlt:T<h1.objs.size:=Fj (m1 _ _ g1');have hd1:=Fj (m1 _ _ (Hw s.heap (o:={ cls:=.type "dict",data:=.dict #[] }) rfl));refine Ds ⟨Oa cX _,?_⟩;exact loop h1 tk1 m1 _ _ _ (by simpa using Lp hd1) (fun b ob e=>G6 _ e) (by simp only [J1,Q5,or_false,not_or];exact ⟨HX hd1,Lp hT0⟩) (Walks.list hhA _ T (HX hlt) items) ⟨⟨_,Hw _ rfl,rfl,rfl⟩,hT.push _⟩
end
section
variable {X:Cx}{K:Dp}
def S7 (K:Dp)(H:Hp)(y:V)(p:Key×V):Prop:=∃ q,y=V.ref q/\Hj K H q [kV p.1,p.2]
theorem wN {ajY:List (Addr×Obj)}{Z : St}{H:Hp}{s:AP}(I:DX X ajY Z H s):∀ {ys:List V} {ps:List (Key×V)} {its:List Mk},DY ys its->La (S7 X.K H) ys ps ->
  ∃ xs:List (Key×Mk),KV ps xs/\∀ (j:Nat) (p:Key×Mk),xs[j]?=FN p->∃ q kv,its[j]?=FN (.ref q)/\NZ s.heap q #[kv,p.2]/\(bR X.prog X.w).is p.1 kv=true
 | _,_,_,.nil,.nil=>⟨[],.nil,fun j p e=>by simp at e⟩
 | _,_,_,.cons r rv,.cons (b:=p) hp pp=>by
  obtain ⟨xs,a1,a4⟩:=wN I rv pp;obtain ⟨q,rfl,h1⟩:=hp;cases r;obtain ⟨js,r2,ht,_⟩:=I.tuple h1;cases r2 with
  | cons r3 r4=>
   cases r4 with
   | cons r5 r6=>
    cases r6;rename_i kv v;refine ⟨(p.1,v)::xs,.cons ⟨rfl,r5⟩ a1,fun j z e=>?_⟩;cases j with
    | zero=>
     simp at e;subst e;exact ⟨q,kv,rfl,ht,Ey r3⟩
    | succ j=>
     obtain ⟨q',kv',b1,b2⟩:=a4 j z (by simpa using e);exact ⟨q',kv',by simpa using b1,b2⟩
theorem afe (hc:X.calm=true)(hu:X.A.units+30<Jj):d8 X (.type "dict") (fun vs H Q=>∃ (T:Addr) (ys:List V) (ps:List (Key×V)),vs=[.ref T]/\JF X.K H T ys/\La (S7 X.K H) ys ps /\
  ∀ d,H d=FX->Q (.ref d) (Fb H d (.dK (jP [] ps)))):=by
 intro ajY s Z H vs us Q I r ⟨T,ys,ps,ev,hS,pp,q⟩;subst ev;obtain ⟨u,rfl,ru⟩:=vals1 r;cases ru;obtain ⟨its,rv,⟨o,n,g1,g2,g3,g4⟩,hz⟩:=I.list hS;obtain ⟨xs,a1,a4⟩:=wN I rv pp;have e1:ys.length=its.length:=rv.length;have e2:ys.length=ps.length:=Vo pp;have e3:ps.length=xs.length:=a1.length;refine qW (I.ok.hd hc) hu ⟨o,n,g1,g2,g4,g3⟩ (ps:=xs) (by rw [J9];lia) (fun j p e=>by
  obtain ⟨q,kv,b1,b2⟩:=a4 j p e;exact ⟨q,kv,by rw [List.getElem?_toArray];exact b1,b2⟩) (by lia) fun h' tk d m=>?_
 have y:(s.heap.objs.size==Mx)=false:=(tZ (P:=X.prog) (w:=X.w) (H:=H) s.heap I.big).2.1;have ml:=j6 ps [];rw [Wk] at ml;exact ⟨.ref s.heap.objs.size,_,I.laid (a:=s.heap.objs.size) (o:=.dK (jP [] ps)) (t':=tk) m (Ea _)<|Fy (by lia) y (KV.merge a1 .nil) d,rfl,q _<|I.hok.fresh<|Ea _⟩
def nj:List W->Option (List (Key×W))
 | []=>FN []
 | .tup [k,v]::r=>(match Va k with
  | some ks=>(nj r).map ((ks,v)::·)
  | none=>FX)
 | _=>FX
def iB (kvs more:List (Key×W)):List (Key×W):=more.foldl (fun acc kv=>KD acc kv.1 kv.2) kvs
theorem jq.merge {H:Hp}{μ : Mu}:∀ {more:List (Key×W)} {mv:List (Key×V)} {kvs:List (Key×W)} {kvv:List (Key×V)},jq K H μ more mv->jq K H μ kvs kvv->jq K H μ (iB kvs more) (jP kvv mv)
 | [],_,_,_,.nil,r=>r
 | x::more,y::mv,kvs,kvv,.cons a t,r=>by
  have:=jq.merge t (r.put a.2 x.1)
  show jq K H μ (iB (KD kvs x.1 x.2) more) (jP (Ko kvv y.1 y.2) mv);rw [<-a.1];exact this
theorem wX {H:Hp}{μ : Mu}:∀ {us:List W} {ys:List V} {ps:List (Key×W)},aJ K H μ us ys->nj us=FN ps->∃ qs:List (Key×V),La (S7 K H) ys qs/\jq K H μ ps qs
 | [],ys,ps,r,e=>by
  rw [aJ] at r;cases e;subst r;exact ⟨[],.nil,.nil⟩
 | w::us,ys,ps,r,e=>by
  rw [aJ] at r;obtain ⟨y,yr,rfl,ra,r⟩:=r;unfold nj at e;split at e
  ·rename_i h;cases h
  ·rename_i k v us' h;cases h;split at e
   ·rename_i ks ek;cases q:nj us with
    | none=>rw [q] at e;cases e
    | some cs=>
     rw [q] at e;cases (show FN ((ks,v)::cs)=FN ps from e)
     obtain ⟨qs,p1,p2⟩:=wX r q;rw [DP] at ra;obtain ⟨b,zs,rfl,hb,rz⟩:=ra;obtain ⟨z1,z2,rfl,rk,rw'⟩:=zA rz;have e1:=jh rk ek;subst e1;exact ⟨(ks,z2)::qs,.cons ⟨b,rfl,hb⟩ p1,.cons ⟨rfl,rw'⟩ p2⟩
   ·cases e
  ·cases e
def Av:MC:=fun ws h Q=>match ws with
 | [w]=>(match dF h w with
  | some us=>(match nj us with
   | some ps=>Q (.loc h.nx) (h.new (.dct (iB [] ps)))
   | none=>False)
  | none=>False)
 | _=>False
theorem zbp (hc:X.calm=true)(hu:X.A.units+30<Jj):eY X (.type "dict") Av:=⟨_,afe hc hu,by
 intro H μ h vs ws Qw Q R r m k;unfold Av at m;split at m
 ·split at m
  ·split at m
   ·rename_i w _ us ev _ ps ek;obtain ⟨v,e,rv⟩:=gC r;obtain ⟨p,ys,ex,hs,rs⟩:=cC R rv ev;obtain ⟨qs,p1,p2⟩:=wX rs ek;subst e ex;refine ⟨p,ys,qs,rfl,hs,p1,fun d hd=>?_⟩;have xt:=(Ex.newCell (o:=.dK (jP [] qs)) R hd).ext;have R1:Er X.K (μ.put h.nx d) (Fb H d (.dK (jP [] qs))) (h.new (.dct (iB [] ps))):=R.newCell hd trivial ⟨_,aY,jq.merge (Paired.mapP p2 fun _ _ z=>⟨z.1,xt.r _ _ z.2⟩) .nil⟩;exact k _ _ ⟨_,.loc h.nx,_,xt,R1,by rw [DP];exact ⟨d,rfl,Mu.put_same⟩,m⟩
   ·exact m.elim
  ·exact m.elim
 ·exact m.elim⟩
end
section
variable {X:Cx}{c:Expr}{t:MT}
end
def Fz (k:Nat)(h':Gh)(w w':W):Prop:=(Lo k w/\w'=w)\/∃ n ws,w=.loc n/\k<=n/\h'.c n=FN (.lst ws)/\Jc k ws/\w'=.lst ws
def zB (h:Gh)(w:W)(h':Gh)(Q:WK):Prop:=(∀ n c,n<h.nx->h.c n=FN c->h'.c n=FN c)/\∃ ws ws',w=.tup ws/\La (Fz h.nx h') ws ws'/\Q (.tup ws') h
def OD (n N:Nat)(body:FQ->MS):Dr:=fun ws h Q E=>Jw (Ly ws.length n)
 (body E { nx:=fun _ _=>False,rt:=fun w h'=>zB h w h' Q } (ws.map FN++Gv (N - ws.length) FX) h) False
theorem Kf {n N:Nat}{body:FQ->MS}{h:Gh}{Q:WK}{E:FQ}(x:OD n N body ws h Q E):ws.length=n /\
  body E { nx:=fun _ _=>False,rt:=fun w h'=>zB h w h' Q } (ws.map FN++Gv (N - ws.length) FX) h:=by
 unfold OD at x;cases e:Ly ws.length n with
 | true=>rw [e] at x;exact ⟨Xj e,x⟩
 | false=>rw [e] at x;exact (show False from x).elim
theorem abr {K:Dp}{H':Hp}{k:Nat}{h':Gh}{w w':W}{v:V}(R':Er K μ' H' h')(f:Fz k h' w w')(r:DP K H' μ' w v):DP K H' (μ'.cut k) w' v:=by
 rcases f with ⟨lo,e⟩ | ⟨n,ws,ew,hn,ec,lo,e⟩
 ·rw [e];exact DP.cut r lo
 ·subst ew;rw [e];rw [DP] at r;rw [DP];obtain ⟨p,ev,hm⟩:=r;obtain ⟨p',xs,hm',hx,rs⟩:=R'.lstAt ec;have ep:p'=p:=by rw [hm] at hm';exact (Gw hm').symm
  subst ep;refine ⟨p',xs,ev,⟨hx,fun m a=>?_,fun z=>(R'.hd p' z).2 n hm⟩,aJ.cut rs lo⟩;obtain ⟨a1,a2⟩:=Mu.cut_some a;have:=R'.inj m n p' a2 hm
  lia
theorem Py {K:Dp}{H':Hp}{μ':Mu}{k:Nat}{h':Gh}(R':Er K μ' H' h'):∀ {ws ws':List W} {xs:List V},La (Fz k h') ws ws'->aJ K H' μ' ws xs->aJ K H' (μ'.cut k) ws' xs
 | [],_,_,.nil,r=>by rw [aJ] at r |-;exact r
 | _::_,_,_,.cons a b,r=>by
  rw [aJ] at r |-
  obtain ⟨v,vs,e,r1,r2⟩:=r;exact ⟨v,vs,e,abr R' a r1,Py R' b r2⟩
theorem zaU {K:Dp}{H H':Hp}{h h':Gh}{w:W}{v:V}{Q:WK}(R:Er K μ H h)(e:Ij K H μ H' μ')(R':Er K μ' H' h')(r:DP K H' μ' w v)(x:zB h w h' Q):DQ K H μ Q v H':=by
 obtain ⟨hc0,ws,ws',ew,f,q⟩:=x;have hc:∀ n c,h.c n=FN c->h'.c n=FN c:=fun n c a=>hc0 n c (let ⟨p,m,_⟩:=R.cel n c a;R.dom n p m) a
 subst ew;refine ⟨μ'.cut h.nx,.tup ws',h,e.cut R,R.cut R' e hc,?_,q⟩;rw [DP] at r |-
 obtain ⟨p,xs,ev,hx,rs⟩:=r;exact ⟨p,xs,ev,hx,Py R' f rs⟩
theorem aaO {P:Ew}{w:Em}{K:Dp}{mg:Str->Option Mk}{base:Heap}{x qual:Str}{st:Stmt}{f:Addr}{fd:N5}{N ps:List Str}{k:Nat}{body:FQ->MS}(F:Uo K x qual st f fd)(S:iI N ps (bw st))
  (hb:∀ (cdv:Mk) (A:Fg) (outer:List Env) (s:AP) (H:Hp) (E:XK),mJ k (A.deeper (Rb qual (bw st) s.heap.objs.size f cdv)) ->
   Rn (Ft Mg P w K mg base N qual (bw st) f cdv A outer s H E).nox (eE st) (body EF)):qO P w K mg base Mg (k+1) f fd ps (lift K (OD ps.length N.length body)):=by
 refine F.ok S (fun vs H Q E ⟨μ,h,ws,Qw,R,r,m,k⟩=>by rw [<-r.len];exact (Kf m).1)<|fun cdv A outer s H vs Q E hr ⟨μ,h,ws,Qw,R,r,m0,k⟩=>?_
 obtain ⟨hl,m⟩:=Kf m0;refine ⟨_,hb cdv A outer s H E hr,μ,h,_,_,R,qK r,m,?_,?_,?_,?_⟩
 ·rintro Z' H' ⟨μ1,Zw1,h1,e1,R1,S1,m1⟩;exact m1.elim
 ·rintro v H' ⟨μ1,w1,h1,e1,R1,r1,m1⟩;exact k _ _<|zaU R e1 R1 r1 m1
 ·rintro Z' H' ⟨μ1,Zw1,h1,e1,R1,S1,m1⟩;exact m1.elim
 ·rintro Z' H' ⟨μ1,Zw1,h1,e1,R1,S1,m1⟩;exact m1.elim
theorem fkU {P:Ew}{w:Em}{K:Dp}{mg:Str->Option Mk}{base:Heap}{x:Str}{st:Stmt}{ps zl:List Str}(N:List Str){k:Nat}{body:FQ->MS}(T:At K mg x st ps)(z:∀ n∈zl,mg n=FX)
  (hb:∀ (f:Addr) (cdv:Mk) (A:Fg) (outer:List Env) (s:AP) (H:Hp) (E:XK),mJ k (A.deeper (Rb x (bw st) s.heap.objs.size f cdv))->N.Nodup->(Ft Mg P w K mg base N x (bw st) f cdv A outer s H E).nox.calm=true->(∀ n∈zl,mg n=FX)->Rn (Ft Mg P w K mg base N x (bw st) f cdv A outer s H E).nox (eE st) (body EF))
  (S:iI N ps (bw st):=by exact ⟨rfl,rfl,rfl,by decide +kernel,rfl,by decide +kernel,by decide +kernel⟩) (hk:9<=k:=by decide):Fk P w K mg base (k+1) x (OD ps.length N.length body):=by
 obtain ⟨f,fd,F,m,b⟩:=T;exact ⟨f,fd,ps,aaO F S fun cdv A outer s H E hr=>hb f cdv A outer s H E hr S.nd (hr.calm hk) z,m,F.kp,b⟩
section
variable {X:Cx}
variable {o e:Expr}{es:List Expr}{mo:ME}{ma:MA}{name:Str}{apos akb:Pos}{id:String}{r:V->List V->Hp->VK->Prop}{mr:MM}
end
section
variable {X:Cx}{e:Expr}{es:List Expr}{pos p:Pos}{k j:Nat}{x:Str}{f:Addr}
end
end L2
namespace My
open PySem L2 PyProof.Rows
def top (i:Nat):Stmt:=PySem.Challenge.pw_easelroom_k59_whole_alike_where_worths_a.main.body.getD i (.Pass ⟨0,0,0,0⟩)
abbrev QX:Stmt:=top 44
def lK:Dr:=J5 1 1 false fun E=>
  (dU (yZ (Hu Lk (ao (aB 0) (ao (mC (.ty "int")) aN))) (Uc (Hu Lk (ao (aB 0) (ao (mC (.ty "bool")) aN))))))
def lG:Dr:=lK
def j9 (ajM:Dr)(E:FQ):MS:=
  (dU (Hu Qn (ao (Jy Np [] (K1 (aB 0)) ou (yZ (bf ajM E (ao (aB 0) aN)) (Cj Tg Tg (mC (.int 0)) (aB 0) (mC (.int 60))))) aN)))
def jD (ajM:Dr):Dr:=J5 2 2 false fun E=>
  (bD (gk (Tf (Kz (yu (Hu Lk (ao (aB 0) (ao (mC (.ty "tuple")) aN))))) (bO (DR Lh (Hu Ji (ao (aB 0) aN)) (aB 1)))) (dU (mC (.bl false))) cY)
  (j9 ajM E))
def qC:Dr:=jD lG
def qD (ajM ajT:Dr)(E:FQ):MS:=
  (dU (yZ (bf ajT E (ao (DR Fi (aB 0) (mC (.int 0))) (ao (aB 1) aN))) (yZ (bf ajM E (ao (DR Fi (aB 0) (mC (.int 1))) aN)) (DR Lh (DR Fi (aB 0) (mC (.int 1))) (mC (.int 0))))))
def pW (ajM ajT:Dr):Dr:=J5 2 2 false fun E=>
  (bD (gk (Tf (Kz (yu (Hu Lk (ao (aB 0) (ao (mC (.ty "tuple")) aN))))) (bO (DR Lh (Hu Ji (ao (aB 0) aN)) (mC (.int 2))))) (dU (mC (.bl false))) cY)
  (qD ajM ajT E))
def vX:Dr:=pW lG qC
def rP (ajR:Dr)(E:FQ):MS:=
  (dU (Hu Qn (ao (Jy Np [0] (Vm (ao (mC (.int 1)) (ao (Hu Ji (ao (aB 0) aN)) aN))) ou (DR WD (DR Fi (DR Fi (aB 1) (DR Hx (aB 0) (mC (.int 1)))) (mC (.int 0))) (DR Fi (DR Fi (aB 1) (aB 0)) (mC (.int 0))))) aN)))
def rB (ajR:Dr)(E:FQ):MS:=
  (bD (gk (Kz (yu (Hu Qn (ao (Jy Np [1] (K1 (aB 0)) ou (bf ajR E (ao (aB 0) (ao (aB 1) aN)))) aN)))) (dU (mC (.bl false))) cY)
  (rP ajR E))
def vC (ajR:Dr):Dr:=J5 2 2 false fun E=>
  (bD (gk (Tf (Kz (yu (Hu Lk (ao (aB 0) (ao (mC (.ty "tuple")) aN))))) (bO (DR Sh (Hu Ji (ao (aB 0) aN)) (mC (.int 600))))) (dU (mC (.bl false))) cY)
  (rB ajR E))
def Bq:Dr:=vC vX
def iD:Dr:=J5 2 2 false fun E=>
  (dU (mIf (bO (DR Lh (aB 0) (mC (.int 0)))) (lO (ao (lO (ao (DR RJ (lO (ao (mC (.int 0)) aN)) (aB 1)) (ao (aB 0) aN))) aN)) (lO aN)))
def m9:Dr:=iD
def jd:Dr:=J5 2 2 false fun E=>
  (dU (lO (ao (lO (ao (Hu ni (ao (Jy Np [0] (iY (ao (aB 1) aN)) ou (mIf (bO (DR Jg (aB 0) (aB 1))) (mC (.int 1)) (mC (.int 0)))) aN)) (ao (mC (.int 1)) aN))) aN)))
def nC:Dr:=jd
def c7 (E:FQ):MS:=
  (dU (aB 1))
def cG:Dr:=J5 1 2 false fun E=>
  (bD (bZ (Hu ni (ao (Jy Np [0] (K1 (Hu Al (ao (aB 0) aN))) (bO (DR Lh (DR RP (aB 1) (aB 0)) (mC (.int 0)))) (lO (ao (aB 0) (ao (DR RP (aB 1) (aB 0)) aN)))) aN)) (kI 1))
  (bD (gk (bO (DR Sh (Hu Ji (ao (aB 1) aN)) (mC (.int 600)))) (mV "TooMuch" E) cY)
  (c7 E)))
def cF:Dr:=cG
def jt (ajz:Dr)(E:FQ):MS:=
  (dU (bf ajz E (ao (aB 3) aN)))
def iJ (ajz:Dr):Dr:=J5 3 6 true fun E=>
  (bD (bZ (Hu Bl (ao (aB 0) aN)) (kI 3))
  (bD (lA (K1 (aB 1)) (g8 2 (cT (kI 4) (cT (kI 5) zE))) (bZ (DR cA (aas Fe (aB 3) (ao (aB 4) (ao (mC (.int 0)) aN))) (DR sS (aB 2) (aB 5))) (Ql (aB 3) (aB 4) Fp)))
  (jt ajz E)))
def fj:Dr:=iJ cF
def Iw (ajV:Dr):Dr:=J5 2 2 false fun E=>
  (dU (bf ajV E (ao (aB 0) (ao (aB 1) (ao (mC (.int 1)) aN)))))
def Bu:Dr:=Iw fj
def yU (ajV:Dr):Dr:=J5 2 2 false fun E=>
  (dU (bf ajV E (ao (aB 0) (ao (aB 1) (ao (Oe CZ (mC (.int 1))) aN)))))
def tU:Dr:=yU fj
def sJ (E:FQ):MS:=
  (dU (aB 1))
def vB:Dr:=J5 1 3 false fun E=>
  (bD (bZ (mC (.int 0)) (kI 1))
  (bD (lA (K1 (aB 0)) (kI 2) (bZ (DR cA (DR sS (aB 1) (mC (.int 65536))) (aB 2)) (kI 1)))
  (sJ E)))
def vo:Dr:=vB
def mU (E:FQ):MS:=
  (dU (tY (aB 2)))
def mj:Dr:=J5 2 4 true fun E=>
  (bD (bZ (mF aN) (kI 2))
  (bD (lA (iY (ao (aB 1) aN)) (kI 3) (bD (dO (pP bB (aB 2) (ao (DR rR (aB 0) (mC (.int 65536))) aN)))
  (bZ (DR KN (aB 0) (mC (.int 65536))) (kI 0))))
  (mU E)))
def lF:Dr:=mj
def fJ (ajs:Dr):Dr:=J5 1 1 false fun E=>
  (dU (Jy (RZ 2) [] (K1 (aB 0)) ou (lO (ao (bf ajs E (ao (aB 0) aN)) (ao (aB 1) aN)))))
def dD:Dr:=fJ vo
def fH:Dr:=J5 1 3 false fun E=>
  (lA (K1 (aB 0)) (g8 2 (cT (kI 1) (cT (kI 2) zE))) (gk (yu (Hu QS (ao (Jy Np [] (K1 (aB 1)) ou (DR Sh (aB 0) (mC (.int 60)))) aN))) (mV "TooMuch" E) cY))
def jw:Dr:=fH
def vR (ajz ajF ajy ajO:Dr)(E:FQ):MS:=
  (bD (bZ (mIf (yu (aB 0)) (Hu Ji (ao (DR Fi (DR Fi (aB 0) (mC (.int 0))) (mC (.int 0))) aN)) (mC (.int 0))) (kI 9))
  (bD (bZ (bf ajz E (ao (aB 2) aN)) (kI 10))
  (bD (bZ (Hu ni (ao (Jy (RZ 2) [9] (K1 (aB 10)) ou (lO (ao (bf ajF E (ao (aB 0) (ao (aB 2) aN))) (ao (aB 1) aN)))) aN)) (kI 11))
  (bD (dO (bf ajO E (ao (aB 11) aN)))
  (dU (aB 11))))))
def xM (ajz ajF ajy ajO:Dr)(E:FQ):MS:=
  (bD (bZ UJ (kI 2))
  (bD (bZ (bf ajy E (ao (aB 1) aN)) (kI 3))
  (bD (lA (K1 (bf ajy E (ao (aB 0) aN))) (g8 2 (cT (kI 4) (cT (kI 5) zE))) (lA (K1 (aB 3)) (g8 2 (cT (kI 6) (cT (kI 7) zE))) (bD (bZ (DR cA (aB 4) (aB 6)) (kI 8))
  (bZ (DR cA (V0 Fx (aB 2) (ao (aB 8) (ao (mC (.int 0)) aN))) (DR sS (aB 5) (aB 7))) (Ql (aB 2) (aB 8) G8)))))
  (vR ajz ajF ajy ajO E))))
def yx (ajz ajF ajy ajO:Dr):Dr:=J5 2 12 true fun E=>
  (bD (gk (bO (DR Sh (DR sS (Hu Ji (ao (aB 0) aN)) (Hu Ji (ao (aB 1) aN))) (mC (.int 20000)))) (mV "TooMuch" E) cY)
  (xM ajz ajF ajy ajO E))
def vK:Dr:=yx cF lF dD jw
def gM (E:FQ):MS:=
  (dU (lO (ao (aB 3) (ao (DR KN (aB 1) (DR Fi (aB 2) (mC (.int 1)))) aN))))
def fQ:Dr:=J5 3 4 false fun E=>
  (bD (bZ (Hu ni (ao (Jy (RZ 2) [] (QB (ao (aB 0) (ao (DR Fi (aB 2) (mC (.int 0))) aN))) ou (DR Hx (aB 0) (aB 1))) aN)) (kI 3))
  (bD (gk (Tf (bO (DR Lh (DR rR (aB 1) (DR Fi (aB 2) (mC (.int 1)))) (mC (.int 0)))) (yu (Hu QS (ao (Jy Np [] (K1 (aB 3)) ou (DR kLt (aB 0) (mC (.int 0)))) aN)))) (dU (mC .non)) cY)
  (gM E)))
def jy:Dr:=fQ
def jA:Dr:=J5 4 8 false fun E=>
  (lA (K1 (aB 1)) (g8 2 (cT (kI 4) (cT (kI 5) zE))) (bD (bZ (DR cA (aB 4) (aB 2)) (kI 6))
  (bD (bZ (DR Hx (V0 Fx (aB 0) (ao (aB 6) (ao (mC (.int 0)) aN))) (DR sS (aB 3) (aB 5))) (kI 7))
  (gk (bO (DR Jg (aB 7) (mC (.int 0)))) (dO (V0 K6 (aB 0) (ao (aB 6) aN))) (bZ (aB 7) (Ql (aB 0) (aB 6) G8))))))
def oE:Dr:=jA
def sX (ajs ajF ajy ajS ajQ:Dr)(E:FQ):MS:=
  (dU (tY (aB 5)))
def rE (ajs ajF ajy ajS ajQ:Dr)(E:FQ):MS:=
  (bD (bZ (DR Fi (aB 1) (Oe CZ (mC (.int 1)))) (kI 2))
  (bD (bZ (bf ajy E (ao (aB 1) aN)) (kI 3))
  (bD (bZ (Hu Av (ao (bf ajy E (ao (aB 0) aN)) aN)) (kI 4))
  (bD (bZ (mF aN) (kI 5))
  (bD (Fv (U8 (aB 4)) (bD (bZ (Hu M9 (ao (aB 4) aN)) (kI 6))
  (bD (bZ (bf ajS E (ao (bf ajF E (ao (aB 6) (ao (Hu Ji (ao (DR Fi (aB 2) (mC (.int 0))) aN)) aN))) (ao (DR Ro (aB 4) (aB 6)) (ao (aB 2) aN)))) (kI 7))
  (bD (gk (bO (DR kIs (aB 7) (mC .non))) (dU (mC .non)) cY)
  (bD (gk (bO (DR Jg (Hu Ji (ao (aB 5) aN)) (mC (.int 600)))) (mV "TooMuch" E) cY)
  (bD (dO (pP bB (aB 5) (ao (aB 7) aN)))
  (dO (bf ajQ E (ao (aB 4) (ao (aB 3) (ao (bf ajs E (ao (DR Fi (aB 7) (mC (.int 0))) aN)) (ao (DR Fi (aB 7) (mC (.int 1))) aN))))))))))))
  (sX ajs ajF ajy ajS ajQ E))))))
def uc (ajs ajF ajy ajS ajQ:Dr):Dr:=J5 2 8 true fun E=>
  (bD (gk (Kz (yu (aB 1))) (mV "NoPart" E) cY)
  (rE ajs ajF ajy ajS ajQ E))
def Ak:Dr:=uc vo lF dD jy oE
def gP (E:FQ):MS:=
  (dU (aB 2))
def fD:Dr:=J5 2 4 true fun E=>
  (bD (bZ (mF (ao (mC (.int 1)) aN)) (kI 2))
  (bD (lA (iY (ao (aB 1) aN)) (kI 3) (dO (pP bB (aB 2) (ao (DR sS (DR Fi (aB 2) (aB 3)) (aB 0)) aN))))
  (gP E)))
def fM:Dr:=fD
def uw:Dr:=J5 2 2 false fun E=>
  (dU (Hu Nr (ao (Jy (RZ 2) [1] (K1 (aB 0)) ou (DR Fi (aB 0) (aB 2))) aN)))
def j5:Dr:=uw
def m6 (ajN ajG:Dr)(E:FQ):MS:=
  (dU (aB 3))
def lR (ajN ajG:Dr):Dr:=J5 2 9 false fun E=>
  (bD (bZ (Jy (RZ 2) [0] (Kq (ao (aB 1) aN)) ou (bf ajN E (ao (aB 1) (ao (bf ajG E (ao (aB 2) (ao (aB 0) aN))) aN)))) (kI 2))
  (bD (bZ (mC (.int 0)) (kI 3))
  (bD (lA (K1 (aB 0)) (g8 2 (cT (kI 4) (cT (kI 5) zE))) (bD (bZ (aB 5) (kI 6))
  (bD (lA (QB (ao (aB 4) (ao (aB 2) aN))) (g8 2 (cT (kI 7) (cT (kI 8) zE))) (bZ (DR sS (aB 6) (DR Fi (aB 8) (aB 7))) (kI 6)))
  (bZ (DR cA (aB 3) (aB 6)) (kI 3)))))
  (m6 ajN ajG E))))
def rD:Dr:=lR fM j5
def JW (ajz ajN ajG:Dr)(E:FQ):MS:=
  (dU (bf ajz E (ao (aB 4) aN)))
def Rh (ajz ajN ajG:Dr):Dr:=J5 3 8 false fun E=>
  (bD (bZ (bf ajN E (ao (aB 2) (ao (bf ajG E (ao (aB 0) (ao (aB 1) aN))) aN))) (kI 3))
  (bD (bZ U5 (kI 4))
  (bD (lA (K1 (aB 0)) (g8 2 (cT (kI 5) (cT (kI 6) zE))) (bD (bZ (DR cA (DR cA (Ut KH (aB 5) mO (qQ (aB 1))) (lO (ao (mC (.int 0)) aN))) (Ut KH (aB 5) (qQ (DR cA (aB 1) (mC (.int 1)))) mO)) (kI 7))
  (bZ (DR cA (aas Fe (aB 4) (ao (aB 7) (ao (mC (.int 0)) aN))) (DR sS (aB 6) (DR Fi (aB 3) (DR Fi (aB 5) (aB 1))))) (Ql (aB 4) (aB 7) Fp))))
  (JW ajz ajN ajG E))))
def Oc:Dr:=Rh cF fM j5
def jz (ajL:Dr)(E:FQ):MS:=
  (dU (aB 2))
def iV (ajL:Dr):Dr:=J5 2 3 false fun E=>
  (bD (bZ (mC (.int 0)) (kI 2))
  (bD (Fv (Kz (yu (Hu Lj (ao (Jy Np [1,2] (K1 (aB 0)) ou (bf ajL E (ao (aB 0) (ao (aB 1) (ao (aB 2) aN))))) aN)))) (bZ (DR cA (aB 2) (mC (.int 1))) (kI 2)))
  (jz ajL E)))
def mX:Dr:=iV Oc
def Ar (ajL ajP:Dr)(E:FQ):MS:=
  (dU (Hu ni (ao (aB 3) aN)))
def BK (ajL ajP:Dr)(E:FQ):MS:=
  (bD (bZ (aB 0) (kI 2))
  (bD (bZ (mF aN) (kI 3))
  (bD (lA (iY (ao (aB 1) aN)) (kI 4) (bD (dO (pP bB (aB 3) (ao (bf ajP E (ao (KJ (ao (aB 2) aN)) (ao (aB 4) aN))) aN)))
  (bZ (bf ajL E (ao (aB 2) (ao (aB 4) (ao (DR Fi (aB 3) (aB 4)) aN)))) (kI 2))))
  (Ar ajL ajP E))))
def Jl (ajL ajP:Dr):Dr:=J5 2 5 true fun E=>
  (bD (gk (Kz (yu (aB 0))) (mV "NoPart" E) cY)
  (BK ajL ajP E))
def Pu:Dr:=Jl Oc mX
def aeh (E:FQ):MS:=
  (dU (mC (.int 0)))
def BR:Dr:=J5 2 2 false fun E=>
  (bD (gk (bO (DR kLt (aB 1) (Hu Ji (ao (aB 0) aN)))) (dU (DR Fi (aB 0) (aB 1))) cY)
  (aeh E))
def nY:Dr:=BR
def zQ (ajt:Dr)(E:FQ):MS:=
  (dU (aB 6))
def wO (ajt:Dr):Dr:=J5 3 9 true fun E=>
  (bD (bZ (bf ajt E (ao (aB 0) (ao (aB 1) aN))) (kI 3))
  (bD (bZ (DR Sh (XH (aB 3)) (DR sS (mC (.int 107)) (aB 2))) (kI 4))
  (bD (bZ (DR rR (DR cA (DR cA (aB 3) (DR sS (mC (.int 7919)) (aB 1))) (mC (.int 11))) (mC (.int 4294967291))) (kI 5))
  (bD (bZ (mF aN) (kI 6))
  (bD (lA (iY (ao (aB 2) aN)) (kI 7) (gk (yu (aB 4)) (bD (dO (pP bB (aB 6) (ao (DR rR (aB 3) (DR Ow (mC (.int 10)) (mC (.int 32)))) aN)))
  (bZ (DR KN (aB 3) (DR Ow (mC (.int 10)) (mC (.int 32)))) (kI 3))) (bD (bZ (DR rR (DR cA (DR cA (DR sS (aB 5) (mC (.int 69069))) (mC (.int 362437))) (DR sS (aB 7) (aB 7))) (mC (.int 4294967291))) (kI 5))
  (bD (bZ (DR rR (DR sS (aB 5) (DR cA (DR cA (DR KN (aB 5) (mC (.int 4096))) (aB 7)) (mC (.int 1)))) (mC (.int 999999999989))) (kI 8))
  (dO (pP bB (aB 6) (ao (DR rR (DR sS (DR sS (aB 8) (DR cA (aB 8) (mC (.int 7)))) (DR cA (aB 5) (mC (.int 1)))) (DR Ow (mC (.int 10)) (mC (.int 32)))) aN)))))))
  (zQ ajt E))))))
def pJ:Dr:=wO nY
def jO (ajE:Dr)(E:FQ):MS:=
  (dU (lO (ao (aB 5) (ao (aB 8) (ao (aB 9) (ao (aB 10) aN))))))
def jL (ajE:Dr)(E:FQ):MS:=
  (bD (gk (bO (DR Jg (aB 5) (mC (.str "times")))) (bZ (mC (.str "plus")) (kI 5)) cY)
  (jO ajE E))
def lH (ajE:Dr)(E:FQ):MS:=
  (bD (bZ (ZL (RZ 2) [] (QB (ao (DR Fi (aB 3) (aB 8)) (ao (DR Fi (aB 3) (aB 9)) aN))) ou (Hu ZJ (ao (aB 0) (ao (aB 1) aN)))) (kI 10))
  (bD (bZ (DR cA (DR Fi (aB 10) (mC (.int 3))) (mC (.int 1))) (Ql (aB 10) (mC (.int 3)) Fw))
  (bD (bZ (ZL (RZ 2) [] (QB (ao (DR Fi (aB 3) (aB 8)) (ao (DR Fi (aB 3) (aB 9)) aN))) ou (DR cA (aB 0) (aB 1))) (kI 11))
  (bD (bZ (DR cA (DR Fi (aB 11) (mC (.int 3))) (mC (.int 4))) (Ql (aB 11) (mC (.int 3)) Fw))
  (bD (gk (ZM (bO (DR Jg (aB 5) (mC (.str "times")))) (ZM (bO (DR Tg (Hu RV (ao (Ut KH (aB 11) (qQ (mC (.int 0))) (qQ (mC (.int 3)))) aN)) (DR Fi (KJ (ao (mC (.int 4)) (ao (mC (.int 4)) (ao (mC (.int 3)) aN)))) (DR Hx (aB 2) (mC (.int 1)))))) (bO (DR Tg (DR Fi (aB 11) (mC (.int 3))) (mC (.int 240)))))) (dU (lO (ao (mC (.str "times")) (ao (aB 8) (ao (aB 9) (ao (aB 11) aN)))))) cY)
  (jL ajE E))))))
def mG (ajE:Dr)(E:FQ):MS:=
  (bD (bZ (DR rR (DR Fi (aB 4) (mC (.int 1))) (aB 1)) (kI 8))
  (bD (bZ (DR rR (DR Fi (aB 4) (mC (.int 2))) (aB 1)) (kI 9))
  (bD (gk (bO (DR Sh (DR rR (DR Fi (aB 4) (mC (.int 3))) (mC (.int 3))) (mC (.int 0)))) (bZ (DR Hx (aB 1) (mC (.int 1))) (kI 8)) cY)
  (lH ajE E))))
def mQ (ajE:Dr)(E:FQ):MS:=
  (bD (gk (bO (DR Jg (aB 5) (mC (.str "letter")))) (bD (bZ (DR rR (DR Fi (aB 4) (mC (.int 1))) (aB 2)) (kI 7))
  (dU (lO (ao (mC (.str "letter")) (ao (aB 7) (ao (mC (.int 0)) (ao (DR cA (Jy Np [7] (iY (ao (mC (.int 3)) aN)) ou (Hu aat (ao (DR Jg (aB 1) (aB 0)) aN))) (KJ (ao (mC (.int 1)) aN))) aN))))))) cY)
  (mG ajE E))
def Am (ajE:Dr):Dr:=OD 4 12 fun E=>
  (bD (bZ (bf ajE E (ao (aB 0) (ao (DR cA (mC (.int 1)) (aB 1)) (ao (mC (.int 5)) aN)))) (kI 4))
  (bD (bZ (DR Fi (KJ (ao (mC (.str "number")) (ao (mC (.str "letter")) (ao (mC (.str "plus")) (ao (mC (.str "minus")) (ao (mC (.str "times")) (ao (mC (.str "times")) aN))))))) (DR rR (DR Fi (aB 4) (mC (.int 0))) (mC (.int 6)))) (kI 5))
  (bD (gk (Tf (bO (DR Jg (aB 1) (mC (.int 0)))) (bO (DR Jg (aB 5) (mC (.str "number"))))) (bD (bZ (DR Fi (KJ (ao (DR Hx (DR rR (DR KN (DR Fi (aB 4) (mC (.int 1))) (mC (.int 2))) (mC (.int 9))) (mC (.int 4))) (ao (DR Hx (DR rR (DR KN (DR Fi (aB 4) (mC (.int 1))) (mC (.int 2))) (DR sS (mC (.int 2)) (DR Ow (mC (.int 10)) (mC (.int 30))))) (DR Ow (mC (.int 10)) (mC (.int 30)))) aN))) (DR rR (DR Fi (aB 4) (mC (.int 1))) (mC (.int 2)))) (kI 6))
  (dU (lO (ao (mC (.str "number")) (ao (aB 6) (ao (mC (.int 0)) (ao (KJ (ao (mC (.int 0)) (ao (mC (.int 0)) (ao (mC (.int 0)) (ao (mC (.int 31)) aN))))) aN))))))) cY)
  (mQ ajE E))))
def Bh:Dr:=Am pJ
def zj (ajt ajw:Dr)(E:FQ):MS:=
  (dU (lO (ao (aB 2) (ao (aB 3) aN))))
def wM (ajt ajw:Dr):Dr:=OD 2 6 fun E=>
  (bD (bZ (mF aN) (kI 2))
  (bD (bZ (mF aN) (kI 3))
  (bD (lA (iY (ao (DR cA (mC (.int 3)) (DR rR (DR KN (bf ajt E (ao (aB 0) (ao (mC (.int 0)) aN))) (mC (.int 3))) (mC (.int 10)))) aN)) (kI 4) (bD (bZ (bf ajw E (ao (aB 0) (ao (aB 4) (ao (aB 1) (ao (aB 3) aN))))) (kI 5))
  (bD (dO (pP bB (aB 2) (ao (Ut KH (aB 5) (qQ (mC (.int 0))) (qQ (mC (.int 3)))) aN)))
  (dO (pP bB (aB 3) (ao (DR Fi (aB 5) (mC (.int 3))) aN))))))
  (zj ajt ajw E))))
def wF:Dr:=wM nY Bh
def aeV (ajU ajX ajx ajv aju:Dr)(E:FQ):MS:=
  (dU (aB 2))
def Dh (ajU ajX ajx ajv aju:Dr):Dr:=J5 2 6 true fun E=>
  (bD (bZ (mF aN) (kI 2))
  (bD (lA (K1 (aB 0)) (g8 3 (cT (kI 3) (cT (kI 4) (cT (kI 5) zE)))) (gk (bO (DR Jg (aB 3) (mC (.str "number")))) (dO (pP bB (aB 2) (ao (bf ajU E (ao (aB 4) (ao (aB 1) aN))) aN))) (gk (bO (DR Jg (aB 3) (mC (.str "letter")))) (dO (pP bB (aB 2) (ao (bf ajX E (ao (aB 4) (ao (aB 1) aN))) aN))) (gk (bO (DR Jg (aB 3) (mC (.str "plus")))) (dO (pP bB (aB 2) (ao (bf ajx E (ao (DR Fi (aB 2) (aB 4)) (ao (DR Fi (aB 2) (aB 5)) aN))) aN))) (gk (bO (DR Jg (aB 3) (mC (.str "minus")))) (dO (pP bB (aB 2) (ao (bf ajv E (ao (DR Fi (aB 2) (aB 4)) (ao (DR Fi (aB 2) (aB 5)) aN))) aN))) (dO (pP bB (aB 2) (ao (bf aju E (ao (DR Fi (aB 2) (aB 4)) (ao (DR Fi (aB 2) (aB 5)) aN))) aN))))))))
  (aeV ajU ajX ajx ajv aju E)))
def Dg:Dr:=Dh m9 nC Bu tU vK
def wg (E:FQ):MS:=
  (dU (aB 2))
def rF:Dr:=J5 2 6 true fun E=>
  (bD (bZ (mF aN) (kI 2))
  (bD (lA (K1 (aB 0)) (g8 3 (cT (kI 3) (cT (kI 4) (cT (kI 5) zE)))) (gk (bO (DR Jg (aB 3) (mC (.str "number")))) (dO (pP bB (aB 2) (ao (aB 4) aN))) (gk (bO (DR Jg (aB 3) (mC (.str "letter")))) (dO (pP bB (aB 2) (ao (DR Fi (aB 1) (aB 4)) aN))) (gk (bO (DR Jg (aB 3) (mC (.str "plus")))) (dO (pP bB (aB 2) (ao (DR cA (DR Fi (aB 2) (aB 4)) (DR Fi (aB 2) (aB 5))) aN))) (gk (bO (DR Jg (aB 3) (mC (.str "minus")))) (dO (pP bB (aB 2) (ao (DR Hx (DR Fi (aB 2) (aB 4)) (DR Fi (aB 2) (aB 5))) aN))) (dO (pP bB (aB 2) (ao (DR sS (DR Fi (aB 2) (aB 4)) (DR Fi (aB 2) (aB 5))) aN))))))))
  (wg E)))
def sE:Dr:=rF
def zX (E:FQ):MS:=
  (dU (aB 2))
def xQ:Dr:=J5 2 6 false fun E=>
  (bD (bZ (KJ (ao (lO aN) aN)) (kI 2))
  (bD (lA (iY (ao (aB 0) aN)) (kI 3) (bD (bZ (KJ aN) (kI 4))
  (bD (lA (K1 (aB 2)) (kI 5) (bZ (DR cA (aB 4) (Jy Np [5] (iY (ao (DR cA (DR Fi (aB 1) (aB 3)) (mC (.int 1))) aN)) ou (DR cA (aB 1) (lO (ao (aB 0) aN))))) (kI 4)))
  (bZ (aB 4) (kI 2)))))
  (zX E)))
def wB:Dr:=xQ
def jW (ajW ajG:Dr)(E:FQ):MS:=
  (dU (mC (.bl true)))
def gQ (ajW ajG:Dr):Dr:=J5 3 5 false fun E=>
  (bD (lA (QB (ao (aB 0) (ao (aB 1) aN))) (g8 2 (cT (kI 3) (cT (kI 4) zE))) (bD (gk (bO (DR Nh (bf ajW E (ao (aB 3) (ao (aB 2) aN))) (mC (.bl true)))) (dU (mC (.bl false))) cY)
  (gk (yu (Hu QS (ao (Jy Np [3,4] (iY (ao (aB 2) aN)) ou (DR Sh (bf ajG E (ao (aB 1) (ao (aB 0) aN))) (DR Fi (aB 2) (aB 0)))) aN))) (dU (mC (.bl false))) cY)))
  (jW ajW ajG E))
def gK:Dr:=gQ Bq j5
def uf (ajx ajv aju ajK ajA ajD ajt ajJ ajC ajB ajI ajH:Dr)(E:FQ):MS:=
  (dU (DR Jg (bf aju E (ao (bf ajx E (ao (aB 5) (ao (aB 6) aN))) (ao (aB 10) aN))) (bf ajv E (ao (bf aju E (ao (aB 5) (ao (aB 5) aN))) (ao (bf aju E (ao (aB 6) (ao (aB 6) aN))) aN)))))
def u6 (ajx ajv aju ajK ajA ajD ajt ajJ ajC ajB ajI ajH:Dr)(E:FQ):MS:=
  (bD (gk (ZM (bO (DR Lh (aB 6) (lO aN))) (bO (DR Lh (bf ajK E (ao (bf aju E (ao (aB 5) (ao (aB 6) aN))) (ao (aB 6) aN))) (aB 5)))) (dU (mC (.bl false))) cY)
  (uf ajx ajv aju ajK ajA ajD ajt ajJ ajC ajB ajI ajH E))
def tW (ajx ajv aju ajK ajA ajD ajt ajJ ajC ajB ajI ajH:Dr)(E:FQ):MS:=
  (bD (gk (bO (DR Lh (aB 10) (lO aN))) (bD (bZ (bf ajB E (ao (aB 2) (ao (bf ajD E (ao (aB 10) (ao (aB 1) aN))) aN))) (kI 9))
  (gk (bO (DR Jg (DR Fi (aB 9) (Oe CZ (mC (.int 2)))) (DR Fi (aB 9) (Oe CZ (mC (.int 1)))))) (dU (mC (.bl false))) cY)) cY)
  (u6 ajx ajv aju ajK ajA ajD ajt ajJ ajC ajB ajI ajH E))
def yS (ajx ajv aju ajK ajA ajD ajt ajJ ajC ajB ajI ajH:Dr)(E:FQ):MS:=
  (bD (bZ (bf ajv E (ao (aB 5) (ao (aB 6) aN))) (kI 10))
  (bD (gk (Tf (bO (DR Lh (DR Jg (aB 5) (aB 6)) (aB 7))) (bO (DR Lh (DR Jg (aB 10) (lO aN)) (aB 7)))) (dU (mC (.bl false))) cY)
  (tW ajx ajv aju ajK ajA ajD ajt ajJ ajC ajB ajI ajH E)))
def zZ (ajx ajv aju ajK ajA ajD ajt ajJ ajC ajB ajI ajH:Dr)(E:FQ):MS:=
  (bD (bZ (DR Fi (aB 4) (Oe CZ (mC (.int 2)))) (kI 5))
  (bD (bZ (DR Fi (aB 4) (Oe CZ (mC (.int 1)))) (kI 6))
  (bD (bZ (mC (.bl true)) (kI 7))
  (bD (lA (K1 (bf ajI E (ao (aB 1) (ao (Jy (RZ 2) [] (QB (ao (DR Fi (aB 3) (Oe CZ (mC (.int 2)))) (ao (DR Fi (aB 3) (Oe CZ (mC (.int 1)))) aN))) ou (Hu ZJ (ao (aB 0) (ao (aB 1) aN)))) aN)))) (kI 8) (bD (bZ (bf ajB E (ao (aB 2) (ao (aB 8) aN))) (kI 9))
  (bD (gk (Tf (bO (DR Lh (bf ajA E (ao (aB 5) (ao (aB 8) aN))) (DR Fi (aB 9) (Oe CZ (mC (.int 2)))))) (bO (DR Lh (bf ajA E (ao (aB 6) (ao (aB 8) aN))) (DR Fi (aB 9) (Oe CZ (mC (.int 1))))))) (dU (mC (.bl false))) cY)
  (bZ (yZ (aB 7) (DR Jg (DR Fi (aB 9) (Oe CZ (mC (.int 2)))) (DR Fi (aB 9) (Oe CZ (mC (.int 1)))))) (kI 7)))))
  (yS ajx ajv aju ajK ajA ajD ajt ajJ ajC ajB ajI ajH E)))))
def Q0 (ajx ajv aju ajK ajA ajD ajt ajJ ajC ajB ajI ajH:Dr):Dr:=J5 1 11 false fun E=>
  (bD (bZ (DR cA (mC (.int 1)) (DR rR (bf ajt E (ao (aB 0) (ao (mC (.int 0)) aN))) (mC (.int 3)))) (kI 1))
  (bD (bZ (bf ajJ E (ao (aB 0) (ao (aB 1) aN))) (g8 2 (cT (kI 2) (cT (kI 3) zE))))
  (bD (bZ (bf ajC E (ao (aB 2) (ao (aB 1) aN))) (kI 4))
  (bD (gk (Kz (yu (bf ajH E (ao (aB 4) (ao (aB 3) (ao (aB 1) aN)))))) (dU (mC (.bl false))) cY)
  (zZ ajx ajv aju ajK ajA ajD ajt ajJ ajC ajB ajI ajH E)))))
def Sx:Dr:=Q0 Bu tU vK Ak rD Pu nY wF Dg sE wB gK
def zl:List Str:=["all", "any", "bool", "dict", "enumerate", "int", "isinstance", "len", "max", "range", "reversed", "sorted", "tuple", "zip"]
structure Txt (P:Ew) (w:Em) (K:Dp) (mg:Str->Option Mk) (base:Heap):Prop where
 f0:At K mg "is_whole" (top 5) ["thing"]
 f1:At K mg "is_powers" (top 11) ["thing", "letters"]
 f2:At K mg "is_term" (top 12) ["thing", "letters"]
 f3:At K mg "is_sum" (top 13) ["thing", "letters"]
 f4:At K mg "number_sum" (top 14) ["number", "letters"]
 f5:At K mg "letter_sum" (top 15) ["letter", "letters"]
 f6:At K mg "sum_of_totals" (top 16) ["totals"]
 f7:At K mg "with_times" (top 17) ["one", "other", "factor"]
 f8:At K mg "plus" (top 18) ["one", "other"]
 f9:At K mg "minus" (top 19) ["one", "other"]
 f10:At K mg "packed" (top 20) ["powers"]
 f11:At K mg "unpacked" (top 21) ["key", "letters"]
 f12:At K mg "packed_terms" (top 22) ["one"]
 f13:At K mg "check_powers" (top 23) ["one"]
 f14:At K mg "times" (top 24) ["one", "other"]
 f15:At K mg "part_of_term" (top 25) ["powers", "number", "lead"]
 f16:At K mg "take_away" (top 26) ["left", "terms", "shift", "factor"]
 f17:At K mg "parted" (top 27) ["one", "other"]
 f18:At K mg "powers_up_to" (top 29) ["number", "greatest"]
 f19:At K mg "height" (top 30) ["one", "letter"]
 f20:At K mg "worth_at" (top 31) ["one", "numbers"]
 f21:At K mg "put" (top 32) ["one", "letter", "number"]
 f22:At K mg "least_away" (top 33) ["sums", "letter"]
 f23:At K mg "away" (top 34) ["one", "letters"]
 f24:At K mg "_law_cell" (top 36) ["_law_script", "_law_k"]
 f25:At K mg "_law_draws" (top 37) ["_law_script", "_law_k", "_law_many"]
 f26:At K mg "_law_step" (top 38) ["_law_script", "_law_k", "_law_letters", "_law_tall"]
 f27:At K mg "_law_steps" (top 39) ["_law_script", "_law_letters"]
 f28:At K mg "_law_sums" (top 40) ["_law_steps_here", "_law_letters"]
 f29:At K mg "_law_worths" (top 41) ["_law_steps_here", "_law_numbers"]
 f30:At K mg "_law_field" (top 42) ["_law_letters", "_law_most"]
 f31:At K mg "_law_heights_good" (top 43) ["_law_sums_here", "_law_tall", "_law_letters"]
 z:∀ n∈zl,mg n=FX
 g_MOST_TERMS:∃ n,mg "MOST_TERMS" = FN (.int 600 n)
 g_MOST_POWER:∃ n,mg "MOST_POWER" = FN (.int 60 n)
 g_MOST_PAIRS:∃ n,mg "MOST_PAIRS" = FN (.int 20000 n)
 g_FIELD:∃ n,mg "FIELD" = FN (.int 65536 n)
section
variable {P:Ew}{w:Em}{K:Dp}{mg:Str->Option Mk}{base:Heap}(T:Txt P w K mg base)
include T
theorem pN:Fk P w K mg base 10 "is_whole" lG:=by
 refine fk (k:=9) ["thing"] T.f0 T.z ?_
 intros
 exact aD<|aV<|G4 (K7 Jd Y5<|a2 (vV 0)<|dc (oY (v:=.ty "int") (by rfl) (by exact T.z _ (by decide)) boot_int<|by rfl)<|fun _ _=>by rw [DP])<|Lq<|abu<|K7 Jd Y5<|a2 (vV 0)<|dc (oY (v:=.ty "bool") (by rfl) (by exact T.z _ (by decide)) boot_bool<|by rfl)<|fun _ _=>by rw [DP]
theorem vZ:Fk P w K mg base 11 "is_powers" qC:=by
 refine fk (k:=10) ["thing", "letters"] T.f1 T.z ?_
 intros
 obtain ⟨_,g_MOST_POWER⟩:=T.g_MOST_POWER;refine aq (cD (yP (mW<|fY<|K7 Jd Y5<|a2 (vV 0)<|dc (oY (v:=.ty "tuple") (by rfl) (by exact T.z _ (by decide)) Uz<|by rfl)<|fun _ _=>by rw [DP])<|oO<|J6 (Fo qq) (K7 oF TV<|a1<|vV 0)<|vV 1).pt (aD<|aV BX) bG) ?_;exact aD<|aV<|K7 (UL hh) boot_all<|a1<|T8 [] (cP<|vV 0)<|fun _ _ _ _=>(G4 (Gx (pN T)<|a1<|vV 0)<|Lq<|zbB aan aan aH (vV 0) (dc (v:=.int 60) (gH (by rfl) g_MOST_POWER ⟨_,rfl⟩)<|fun _ _=>Mz)<|by with_unfolding_all rfl)
theorem afl:Fk P w K mg base 12 "is_term" vX:=by
 refine fk (k:=11) ["thing", "letters"] T.f2 T.z ?_
 intros
 refine aq (cD (yP (mW<|fY<|K7 Jd Y5<|a2 (vV 0)<|dc (oY (v:=.ty "tuple") (by rfl) (by exact T.z _ (by decide)) Uz<|by rfl)<|fun _ _=>by rw [DP])<|oO<|J6 (Fo qq) (K7 oF TV<|a1<|vV 0) aH).pt (aD<|aV BX) bG) ?_;exact aD<|aV<|G4 (Gx (vZ T)<|a2 (GZ (vV 0) aH)<|vV 1)<|G4 (Gx (pN T)<|a1<|GZ (vV 0) aH)<|Lq<|Rq (Fo qq) (GZ (vV 0) aH) aH
theorem aeN:Fk P w K mg base 13 "is_sum" Bq:=by
 refine fk (k:=12) ["thing", "letters"] T.f3 T.z ?_
 intros
 obtain ⟨_,g_MOST_TERMS⟩:=T.g_MOST_TERMS;refine aq (cD (yP (mW<|fY<|K7 Jd Y5<|a2 (vV 0)<|dc (oY (v:=.ty "tuple") (by rfl) (by exact T.z _ (by decide)) Uz<|by rfl)<|fun _ _=>by rw [DP])<|oO<|J6 U0 (K7 oF TV<|a1<|vV 0)<|dc (v:=.int 600) (gH (by rfl) g_MOST_TERMS ⟨_,rfl⟩)<|fun _ _=>Mz).pt (aD<|aV BX) bG) ?_;refine aq (cD (mW<|fY<|K7 (UL hh) boot_all<|a1<|T8 [1] (cP<|vV 0)<|fun _ _ _ _=>(Gx (afl T)<|a2 (vV 0)<|vV 1)) (aD<|aV BX) bG) ?_;exact aD<|aV<|K7 (UL hh) boot_all<|a1<|T8 [0] (zaJ (by rfl) (by exact T.z _ (by decide))<|a2 aH<|K7 oF TV<|a1<|vV 0)<|fun _ _ _ _=>(Rq (aaK qq) (GZ (GZ (vV 1)<|cg yj (vV 0) aH) aH)<|GZ (GZ (vV 1)<|vV 0) aH)
theorem vD:Fk P w K mg base 10 "number_sum" m9:=by
 refine fk (k:=9) ["number", "letters"] T.f4 T.z ?_
 intros
 refine aD ?_;with_reducible exact aV (abI (J6 (Fo qq) (vV 0) aH) (fL (a1 (fL (a2 (cg agc (fL (a1 aH)) (vV 1)) (vV 0))))) (fL d7))
theorem uI:Fk P w K mg base 10 "letter_sum" nC:=by
 refine fk (k:=9) ["letter", "letters"] T.f5 T.z ?_
 intros
 refine aD ?_;with_reducible exact aV (fL (a1 (fL (a2 (dct oR Uz (a1 (T8 [0] (T7 (a1 (vV 1))) (fun _ _ _ _=>(abI (J6 (qN qq) (vV 0) (vV 1)) aH aH))))) aH))))
theorem dN:Fk P w K mg base 10 "sum_of_totals" cF:=by
 refine fk (k:=9) ["totals", "terms"] T.f6 T.z ?_
 intros
 obtain ⟨_,g_MOST_TERMS⟩:=T.g_MOST_TERMS;refine aq (GX 1<|dct oR Uz<|a1<|dl1 [0] (cP<|K7 (zbH hh) PyProof.Rows.boot_sorted<|a1<|vV 0) (fun _ _ _ _=>(ais<|J6 (Fo qq) (ZG qq (vV 1) (vV 0) (by intro _ _;rfl)) aH))<|fun _ _ _ _=>(fL<|a2 (vV 0)<|ZG qq (vV 1) (vV 0) (by intro _ _;rfl))) ?_;refine aq (cD (J6 U0 (K7 oF TV<|a1<|vV 1)<|dc (v:=.int 600) (gH (by rfl) g_MOST_TERMS ⟨_,rfl⟩)<|fun _ _=>Mz) (aD je) bG) ?_;exact aD<|aV<|vV 1
theorem jV:Fk P w K mg base 11 "with_times" fj:=by
 refine fk (k:=10) ["one", "other", "factor", "totals", "powers", "number"] T.f7 T.z ?_
 intros
 refine aq (GX 3<|dct (aft hh qq) boot_dict<|a1<|vV 0) ?_;refine aq (cU MF hh (cP<|vV 1) (dJ hh<|aX (JG 4)<|aX (JG 5) dR)<|aD<|p7 (cg bQ (Pq qq (vV 3) (a2 (vV 4) aH) (by rfl) (Mq (by rfl)<|by rfl) (by rfl) (aP<|by rfl)<|bI<|by rfl)<|cg iw (vV 2)<|vV 5)<|rQ (vV 3) (vV 4) (v8 qq) Ag) ?_;exact aD<|aV<|Gx (dN T)<|a1<|vV 3
theorem Gu:Fk P w K mg base 12 "plus" Bu:=by
 refine fk (k:=11) ["one", "other"] T.f8 T.z ?_
 intros
 exact aD<|aV<|Gx (jV T)<|a3 (vV 0) (vV 1) aH
theorem vL:Fk P w K mg base 12 "minus" tU:=by
 refine fk (k:=11) ["one", "other"] T.f9 T.z ?_
 intros
 exact aD<|aV<|Gx (jV T)<|a3 (vV 0) (vV 1)<|nG aH
theorem xH:Fk P w K mg base 10 "packed" vo:=by
 refine fk (k:=9) ["powers", "key", "power"] T.f10 T.z ?_
 intros
 obtain ⟨_,g_FIELD⟩:=T.g_FIELD;refine aq (GX 1 aH) ?_;refine aq (cU MF hh (cP<|vV 0) (JG 2)<|aD<|GX 1<|cg bQ (cg iw (vV 1)<|dc (v:=.int 65536) (gH (by rfl) g_FIELD ⟨_,rfl⟩)<|fun _ _=>Mz)<|vV 2) ?_;exact aD<|aV<|vV 1
theorem qb:Fk P w K mg base 10 "unpacked" lF:=by
 refine fk (k:=9) ["key", "letters", "powers", "taken"] T.f11 T.z ?_
 intros
 obtain ⟨_,g_FIELD⟩:=T.g_FIELD;refine aq (GX 2<|jT d7) ?_;refine aq (cU MF hh (T7<|a1<|vV 1) (JG 3)<|aq (bV<|bN (vV 2) (a1<|cg iG (vV 0)<|dc (v:=.int 65536) (gH (by rfl) g_FIELD ⟨_,rfl⟩)<|fun _ _=>Mz) (by rfl) (gq<|by rfl) (by rfl) (aP<|by rfl)<|by rfl)<|aD<|GX 0<|cg yM (vV 0)<|dc (v:=.int 65536) (gH (by rfl) g_FIELD ⟨_,rfl⟩)<|fun _ _=>Mz) ?_;exact aD<|aV<|CK hh (by rfl) (by exact T.z _ (by decide)) (by rfl) (by exact T.z _ (by decide)) (vV 2) (aP<|by rfl) (bI<|by rfl) (aP<|by rfl)<|bI<|by rfl
theorem cW:Fk P w K mg base 11 "packed_terms" dD:=by
 refine fk (k:=10) ["one"] T.f12 T.z ?_
 intros
 exact aD<|aV<|VJ [] hh (cZ<|by rfl) vY (wC hh<|cZ<|by rfl) (cP<|vV 0) (fun _ _ _ _=>gw)<|fun _ _ _ _=>(fL<|a2 (Gx (xH T)<|a1<|vV 0)<|vV 1)
theorem pD:Fk P w K mg base 10 "check_powers" jw:=by
 refine fk (k:=9) ["one", "powers", "number"] T.f13 T.z ?_
 intros
 obtain ⟨_,g_MOST_POWER⟩:=T.g_MOST_POWER;exact aD<|cU MF hh (cP<|vV 0) (dJ hh<|aX (JG 1)<|aX (JG 2) dR)<|aD<|cD (fY<|K7 (SM hh) boot_any<|a1<|T8 [] (cP<|vV 1)<|fun _ _ _ _=>(Rq U0 (vV 0)<|dc (v:=.int 60) (gH (by rfl) g_MOST_POWER ⟨_,rfl⟩)<|fun _ _=>Mz)) (aD je) bG
theorem j7:Fk P w K mg base 12 "times" vK:=by
 refine fk (k:=11) ["one", "other", "totals", "others", "key", "number", "other_key", "other_number", "place", "letters", "product", "unpacked_terms"] T.f14 T.z ?_
 intros
 obtain ⟨_,g_MOST_PAIRS⟩:=T.g_MOST_PAIRS;refine aq (cD (J6 U0 (cg iw (K7 oF TV<|a1<|vV 0)<|K7 oF TV<|a1<|vV 1)<|dc (v:=.int 20000) (gH (by rfl) g_MOST_PAIRS ⟨_,rfl⟩)<|fun _ _=>Mz) (aD je) bG) ?_;refine aq ?_ ?_
 ·with_reducible exact GX 2 ahl
 refine aq (GX 3<|Gx (cW T)<|a1<|vV 1) ?_;refine aq (cU MF hh (cP<|Gx (cW T)<|a1<|vV 0) (dJ hh<|aX (JG 4)<|aX (JG 5) dR)<|aD<|cU MF hh (cP<|vV 3) (dJ hh<|aX (JG 6)<|aX (JG 7) dR)<|aq (GX 8<|cg bQ (vV 4)<|vV 6)<|aD<|p7 (cg bQ (Ph qq (vV 2) (a2 (vV 8) aH) (by rfl) (Mq (by rfl)<|by rfl) (by rfl) (aP<|by rfl)<|bI<|by rfl)<|cg iw (vV 5)<|vV 7)<|rQ (vV 2) (vV 8) set_dict Ad) ?_;refine aq (GX 9<|abI (fY<|vV 0) (K7 oF TV<|a1<|GZ (GZ (vV 0) aH) aH) aH) ?_;refine aq (GX 10<|Gx (dN T)<|a1<|vV 2) ?_;refine aq (GX 11<|dct oR Uz<|a1<|VJ [9] hh (cZ<|by rfl) vY (wC hh<|cZ<|by rfl) (cP<|vV 10) (fun _ _ _ _=>gw)<|fun _ _ _ _=>(fL<|a2 (Gx (qb T)<|a2 (vV 0)<|vV 2)<|vV 1)) ?_;refine aq (bV<|Gx (pD T)<|a1<|vV 11) ?_;exact aD<|aV<|vV 11
theorem pB:Fk P w K mg base 10 "part_of_term" jy:=by
 refine fk (k:=9) ["powers", "number", "lead", "rest"] T.f15 T.z ?_
 intros
 refine aq (GX 3<|dct oR Uz<|a1<|VJ [] hh (cZ<|by rfl) vY (wC hh<|cZ<|by rfl) (rM (by rfl) (by exact T.z _ (by decide)) (a2 (vV 0)<|GZ (vV 2) aH) (aP<|by rfl)<|bI<|by rfl) (fun _ _ _ _=>gw)<|fun _ _ _ _=>(cg yj (vV 0)<|vV 1)) ?_;refine aq (cD (yP (J6 (Fo qq) (cg iG (vV 1)<|GZ (vV 2) aH) aH)<|oO<|fY<|K7 (SM hh) boot_any<|a1<|T8 [] (cP<|vV 3)<|fun _ _ _ _=>(Rq acZ (vV 0) aH)).pt (aD<|aV Uj) bG) ?_;exact aD<|aV<|fL<|a2 (vV 3)<|cg yM (vV 1)<|GZ (vV 2) aH
theorem vQ:Fk P w K mg base 10 "take_away" oE:=by
 refine fk (k:=9) ["left", "terms", "shift", "factor", "key", "number", "place", "rest"] T.f16 T.z ?_
 intros
 exact aD<|cU MF hh (cP<|vV 1) (dJ hh<|aX (JG 4)<|aX (JG 5) dR)<|aq (GX 6<|cg bQ (vV 4)<|vV 2)<|aq (GX 7<|cg yj (Ph qq (vV 0) (a2 (vV 6) aH) (by rfl) (Mq (by rfl)<|by rfl) (by rfl) (aP<|by rfl)<|bI<|by rfl)<|cg iw (vV 3)<|vV 5)<|aD<|cD (J6 (qN qq) (vV 7) aH) (aD<|bV<|aik (vV 0) (a1<|vV 6) (by rfl) (gq<|by rfl) (by rfl) (aP<|by rfl)<|by rfl)<|aD<|p7 (vV 7)<|rQ (vV 0) (vV 6) set_dict Ad
theorem zau:Fk P w K mg base 12 "parted" Ak:=by
 refine fk (k:=11) ["one", "other", "lead", "terms", "left", "found", "greatest", "term"] T.f17 T.z ?_
 intros
 obtain ⟨_,g_MOST_TERMS⟩:=T.g_MOST_TERMS;refine aq (cD (mW<|fY<|vV 1) (aD je) bG) ?_;refine aq (GX 2<|GZ (vV 1)<|nG aH) ?_;refine aq (GX 3<|Gx (cW T)<|a1<|vV 1) ?_;refine aq (GX 4<|dct (zbp hh qq) boot_dict<|a1<|Gx (cW T)<|a1<|vV 0) ?_;refine aq (GX 5<|jT d7) ?_;refine aq (CQ MF (aip<|vV 4)<|aq (GX 6<|K7 (ahC hh) boot_max<|a1<|vV 4)<|aq (GX 7<|Gx (pB T)<|a3 (Gx (qb T)<|a2 (vV 6)<|K7 oF TV<|a1<|GZ (vV 2) aH) (aaI (vV 4) (vV 6) (by intro _ _;rfl))<|vV 2)<|aq (cD (J6 ad0 (vV 7) Uj) (aD<|aV Uj) bG)<|aq (cD (J6 (qN qq) (K7 oF TV<|a1<|vV 5)<|dc (v:=.int 600) (gH (by rfl) g_MOST_TERMS ⟨_,rfl⟩)<|fun _ _=>Mz) (aD je) bG)<|aq (bV<|bN (vV 5) (a1<|vV 7) (by rfl) (gq<|by rfl) (by rfl) (aP<|by rfl)<|by rfl)<|aD<|bV<|Gx (vQ T)<|aC (vV 4)<|a3 (vV 3) (Gx (xH T)<|a1<|GZ (vV 7) aH)<|GZ (vV 7) aH) ?_;exact aD<|aV<|CK hh (by rfl) (by exact T.z _ (by decide)) (by rfl) (by exact T.z _ (by decide)) (vV 5) (aP<|by rfl) (bI<|by rfl) (aP<|by rfl)<|bI<|by rfl
theorem iH:Fk P w K mg base 10 "powers_up_to" fM:=by
 refine fk (k:=9) ["number", "greatest", "found", "taken"] T.f18 T.z ?_
 intros
 refine aq (GX 2<|jT<|a1 aH) ?_;refine aq (cU MF hh (T7<|a1<|vV 1) (JG 3)<|aD<|bV<|bN (vV 2) (a1<|cg iw (GZ (vV 2)<|vV 3)<|vV 0) (by rfl) (gq<|by rfl) (by rfl) (aP<|by rfl)<|by rfl) ?_;exact aD<|aV<|vV 2
theorem pC:Fk P w K mg base 10 "height" j5:=by
 refine fk (k:=9) ["one", "letter"] T.f19 T.z ?_
 intros
 exact aD<|aV<|Zi hh (by rfl) (by exact T.z _ (by decide)) boot_max (a1<|VJ [1] hh (cZ<|by rfl) vY (wC hh<|cZ<|by rfl) (cP<|vV 0) (fun _ _ _ _=>gw)<|fun _ _ _ _=>(GZ (vV 0)<|vV 2)) (by decide) (by decide)<|aP<|by rfl
theorem o9:Fk P w K mg base 11 "worth_at" rD:=by
 refine fk (k:=10) ["one", "numbers", "tables", "total", "powers", "number", "product", "power", "table"] T.f20 T.z ?_
 intros
 refine aq (aa6 [0] (i:=2) (by assumption) (by rfl) (by exact Or.inl rfl) hh (cZ<|by rfl) vY (wC hh<|cZ<|by rfl) (afN (by rfl) (by exact T.z _ (by decide)) (a1<|vV 1) (aP<|by rfl)<|bI<|by rfl) (fun _ _ _ _=>gw)<|fun _ _ _ _=>(Gx (iH T)<|a2 (vV 1)<|Gx (pC T)<|a2 (vV 2)<|vV 0)) ?_;refine aq (GX 3 aH) ?_;refine aq (cU MF hh (cP<|vV 0) (dJ hh<|aX (JG 4)<|aX (JG 5) dR)<|aq (GX 6<|vV 5)<|aq (cU MF hh (rM (by rfl) (by exact T.z _ (by decide)) (a2 (vV 4)<|vV 2) (aP<|by rfl)<|bI<|by rfl) (dJ hh<|aX (JG 7)<|aX (JG 8) dR)<|aD<|GX 6<|cg iw (vV 6)<|GZ (vV 8)<|vV 7)<|aD<|GX 3<|cg bQ (vV 3)<|vV 6) ?_;exact aD<|aV<|vV 3
theorem Qj:Fk P w K mg base 11 "put" Oc:=by
 refine fk (k:=10) ["one", "letter", "number", "table", "totals", "powers", "factor", "rest"] T.f21 T.z ?_
 intros
 refine aq (GX 3<|Gx (iH T)<|a2 (vV 2)<|Gx (pC T)<|a2 (vV 0)<|vV 1) ?_;refine aq ?_ ?_
 ·with_reducible exact GX 4 ahT
 refine aq (cU MF hh (cP<|vV 0) (dJ hh<|aX (JG 5)<|aX (JG 6) dR)<|aq (GX 7<|cg bQ (cg bQ (Nb (vV 5) Jf<|lC<|vV 1)<|fL<|a1 aH)<|Nb (vV 5) (lC<|cg bQ (vV 1) aH) Jf)<|aD<|p7 (cg bQ (Pq qq (vV 4) (a2 (vV 7) aH) (by rfl) (Mq (by rfl)<|by rfl) (by rfl) (aP<|by rfl)<|bI<|by rfl)<|cg iw (vV 6)<|GZ (vV 3)<|GZ (vV 5)<|vV 1)<|rQ (vV 4) (vV 7) (v8 qq) Ag) ?_;exact aD<|aV<|Gx (dN T)<|a1<|vV 4
theorem uY:Fk P w K mg base 12 "least_away" mX:=by
 refine fk (k:=11) ["sums", "letter", "number"] T.f22 T.z ?_
 intros
 refine aq (GX 2 aH) ?_;refine aq (CQ MF (mW<|fY<|K7 (agY hh) boot_all<|a1<|T8 [1,2] (cP<|vV 0)<|fun _ _ _ _=>(Gx (Qj T)<|a3 (vV 0) (vV 1)<|vV 2))<|aD<|GX 2<|cg bQ (vV 2) aH) ?_;exact aD<|aV<|vV 2
theorem afD:Fk P w K mg base 13 "away" Pu:=by
 refine fk (k:=12) ["one", "letters", "left", "numbers", "letter"] T.f23 T.z ?_
 intros
 refine aq (cD (mW<|fY<|vV 0) (aD je) bG) ?_;refine aq (GX 2<|vV 0) ?_;refine aq (GX 3<|jT d7) ?_;refine aq (cU MF hh (T7<|a1<|vV 1) (JG 4)<|aq (bV<|bN (vV 3) (a1<|Gx (uY T)<|a2 (xO<|a1<|vV 2)<|vV 4) (by rfl) (gq<|by rfl) (by rfl) (aP<|by rfl)<|by rfl)<|aD<|GX 2<|Gx (Qj T)<|a3 (vV 2) (vV 4)<|GZ (vV 3)<|vV 4) ?_;exact aD<|aV<|dct oR Uz<|a1<|vV 3
theorem qH:Fk P w K mg base 10 "_law_cell" nY:=by
 refine fk (k:=9) ["_law_script", "_law_k"] T.f24 T.z ?_
 intros
 refine aq (cD (J6 acZ (vV 1)<|K7 oF TV<|a1<|vV 0) (aD<|aV<|GZ (vV 0)<|vV 1) bG) ?_;exact aD<|aV aH
theorem zaj:Fk P w K mg base 11 "_law_draws" pJ:=by
 refine fk (k:=10) ["_law_script", "_law_k", "_law_many", "_law_left", "_law_free", "_law_seed", "_law_found", "_law_j", "_law_near"] T.f25 T.z ?_
 intros
 refine aq (GX 3<|Gx (qH T)<|a2 (vV 0)<|vV 1) ?_;refine aq (GX 4<|Rq U0 (aad<|vV 3)<|cg iw aH<|vV 2) ?_;refine aq (GX 5<|cg iG (cg bQ (cg bQ (vV 3)<|cg iw aH<|vV 1) aH) aH) ?_;refine aq (GX 6<|jT d7) ?_;refine aq (cU MF hh (T7<|a1<|vV 2) (JG 7)<|aD<|cD (fY<|vV 4) (aq (bV<|bN (vV 6) (a1<|cg iG (vV 3)<|cg JM aH aH) (by rfl) (gq<|by rfl) (by rfl) (aP<|by rfl)<|by rfl)<|aD<|GX 3<|cg yM (vV 3)<|cg JM aH aH)<|aq (GX 5<|cg iG (cg bQ (cg bQ (cg iw (vV 5) aH) aH)<|cg iw (vV 7)<|vV 7) aH)<|aq (GX 8<|cg iG (cg iw (vV 5)<|cg bQ (cg bQ (cg yM (vV 5) aH)<|vV 7) aH) aH)<|aD<|bV<|bN (vV 6) (a1<|cg iG (cg iw (cg iw (vV 8)<|cg bQ (vV 8) aH)<|cg bQ (vV 5) aH)<|cg JM aH aH) (by rfl) (gq<|by rfl) (by rfl) (aP<|by rfl)<|by rfl) ?_;exact aD<|aV<|vV 6
theorem zaO:Fk P w K mg base 12 "_law_step" Bh:=by
 refine fkU (k:=11) ["_law_script", "_law_k", "_law_letters", "_law_tall", "_law_x", "_law_kind", "_law_number", "_law_at", "_law_one", "_law_other", "_law_most", "_law_both"] T.f26 T.z ?_
 intros
 refine aq (GX 4<|Gx (zaj T)<|a3 (vV 0) (cg bQ aH<|vV 1) aH) ?_;refine aq (GX 5<|GZ (xO<|aC eZ<|aC eZ<|aC eZ<|a3 eZ eZ eZ)<|cg iG (GZ (vV 4) aH) aH) ?_;refine aq ?_ ?_
 ·with_reducible exact cD (yP (J6 (qN qq) (vV 1) aH) (oO (J6 (qN qq) (vV 5) eZ))).pt (aq (GX 6 (GZ (xO (a2 (cg yj (cg iG (cg yM (GZ (vV 4) aH) aH) aH) aH) (cg yj (cg iG (cg yM (GZ (vV 4) aH) aH) (cg iw aH (cg JM aH aH))) (cg JM aH aH)))) (cg iG (GZ (vV 4) aH) aH))) (aD (aV (fL (aC eZ (a3 (vV 6) aH (xO (aC aH (a3 aH aH aH))))))))) bG
 refine aq ?_ ?_
 ·with_reducible exact cD (J6 (qN qq) (vV 5) eZ) (aq (GX 7 (cg iG (GZ (vV 4) aH) (vV 2))) (aD (aV (fL (aC eZ (a3 (vV 7) aH (cg bQ (T8 [7] (T7 (a1 aH)) (fun _ _ _ _=>(dct aco boot_int (a1 (Rq (qN qq) (vV 1) (vV 0)))))) (xO (a1 aH))))))))) bG
 refine aq (GX 8<|cg iG (GZ (vV 4) aH)<|vV 1) ?_;refine aq (GX 9<|cg iG (GZ (vV 4) aH)<|vV 1) ?_;refine aq (cD (J6 U0 (cg iG (GZ (vV 4) aH) aH) aH) (aD<|GX 8<|cg yj (vV 1) aH) bG) ?_;refine aq (Qo [] (i:=10) (by assumption) (by rfl) (by exact Or.inl rfl) hh (cZ<|by rfl) vY (wC hh<|cZ<|by rfl) (rM (by rfl) (by exact T.z _ (by decide)) (a2 (GZ (vV 3)<|vV 8)<|GZ (vV 3)<|vV 9) (aP<|by rfl)<|bI<|by rfl) (fun _ _ _ _=>gw)<|fun _ _ _ _=>(K7 (Yp hh) boot_max<|a2 (vV 0)<|vV 1)) ?_;refine aq (p7 (cg bQ (GZ (vV 10) aH) aH)<|rQ (vV 10) aH set_list BZ) ?_;refine aq (Qo [] (i:=11) (by assumption) (by rfl) (by exact Or.inl rfl) hh (cZ<|by rfl) vY (wC hh<|cZ<|by rfl) (rM (by rfl) (by exact T.z _ (by decide)) (a2 (GZ (vV 3)<|vV 8)<|GZ (vV 3)<|vV 9) (aP<|by rfl)<|bI<|by rfl) (fun _ _ _ _=>gw)<|fun _ _ _ _=>(cg bQ (vV 0)<|vV 1)) ?_;refine aq (p7 (cg bQ (GZ (vV 11) aH) aH)<|rQ (vV 11) aH set_list BZ) ?_;refine aq (cD (Ik (J6 (qN qq) (vV 5) eZ)<|Ik (J6 aan (K7 (ajb hh) boot_max<|a1<|Nb (vV 11) (lC aH)<|lC aH)<|GZ (xO<|a3 aH aH aH)<|cg yj (vV 2) aH)<|Hf<|J6 aan (GZ (vV 11) aH) aH).pt (aD<|aV<|fL<|aC eZ<|a3 (vV 8) (vV 9)<|vV 11) bG) ?_;refine aq (cD (J6 (qN qq) (vV 5) eZ) (aD<|GX 5 eZ) bG) ?_;exact aD<|aV<|fL<|aC (vV 5)<|a3 (vV 8) (vV 9)<|vV 10
theorem aeU:Fk P w K mg base 13 "_law_steps" wF:=by
 refine fkU (k:=12) ["_law_script", "_law_letters", "_law_steps_here", "_law_tall", "_law_k", "_law_step_here"] T.f27 T.z ?_
 intros
 refine aq (GX 2<|jT d7) ?_;refine aq (GX 3<|jT d7) ?_;refine aq (cU MF hh (T7<|a1<|cg bQ aH<|cg iG (cg yM (Gx (qH T)<|a2 (vV 0) aH) aH) aH) (JG 4)<|aq (GX 5<|Gx (zaO T)<|aC (vV 0)<|a3 (vV 4) (vV 1)<|vV 3)<|aq (bV<|bN (vV 2) (a1<|Nb (vV 5) (lC aH)<|lC aH) (by rfl) (gq<|by rfl) (by rfl) (aP<|by rfl)<|by rfl)<|aD<|bV<|bN (vV 3) (a1<|GZ (vV 5) aH) (by rfl) (gq<|by rfl) (by rfl) (aP<|by rfl)<|by rfl) ?_;exact aD<|aV<|fL<|a2 (vV 2)<|vV 3
theorem zax:Fk P w K mg base 13 "_law_sums" Dg:=by
 refine fk (k:=12) ["_law_steps_here", "_law_letters", "_law_sums_here", "_law_kind", "_law_one", "_law_other"] T.f28 T.z ?_
 intros
 refine aq (GX 2<|jT d7) ?_;refine aq (cU MF hh (cP<|vV 0) (dJ hh<|aX (JG 3)<|aX (JG 4)<|aX (JG 5) dR)<|aD<|cD (J6 (qN qq) (vV 3) eZ) (aD<|bV<|bN (vV 2) (a1<|Gx (vD T)<|a2 (vV 4)<|vV 1) (by rfl) (gq<|by rfl) (by rfl) (aP<|by rfl)<|by rfl)<|aD<|cD (J6 (qN qq) (vV 3) eZ) (aD<|bV<|bN (vV 2) (a1<|Gx (uI T)<|a2 (vV 4)<|vV 1) (by rfl) (gq<|by rfl) (by rfl) (aP<|by rfl)<|by rfl)<|aD<|cD (J6 (qN qq) (vV 3) eZ) (aD<|bV<|bN (vV 2) (a1<|Gx (Gu T)<|a2 (GZ (vV 2)<|vV 4)<|GZ (vV 2)<|vV 5) (by rfl) (gq<|by rfl) (by rfl) (aP<|by rfl)<|by rfl)<|aD<|cD (J6 (qN qq) (vV 3) eZ) (aD<|bV<|bN (vV 2) (a1<|Gx (vL T)<|a2 (GZ (vV 2)<|vV 4)<|GZ (vV 2)<|vV 5) (by rfl) (gq<|by rfl) (by rfl) (aP<|by rfl)<|by rfl)<|aD<|bV<|bN (vV 2) (a1<|Gx (j7 T)<|a2 (GZ (vV 2)<|vV 4)<|GZ (vV 2)<|vV 5) (by rfl) (gq<|by rfl) (by rfl) (aP<|by rfl)<|by rfl) ?_;exact aD<|aV<|vV 2
theorem oG:Fk P w K mg base 10 "_law_worths" sE:=by
 refine fk (k:=9) ["_law_steps_here", "_law_numbers", "_law_worths_here", "_law_kind", "_law_one", "_law_other"] T.f29 T.z ?_
 intros
 refine aq (GX 2<|jT d7) ?_;refine aq (cU MF hh (cP<|vV 0) (dJ hh<|aX (JG 3)<|aX (JG 4)<|aX (JG 5) dR)<|aD<|cD (J6 (qN qq) (vV 3) eZ) (aD<|bV<|bN (vV 2) (a1<|vV 4) (by rfl) (gq<|by rfl) (by rfl) (aP<|by rfl)<|by rfl)<|aD<|cD (J6 (qN qq) (vV 3) eZ) (aD<|bV<|bN (vV 2) (a1<|GZ (vV 1)<|vV 4) (by rfl) (gq<|by rfl) (by rfl) (aP<|by rfl)<|by rfl)<|aD<|cD (J6 (qN qq) (vV 3) eZ) (aD<|bV<|bN (vV 2) (a1<|cg bQ (GZ (vV 2)<|vV 4)<|GZ (vV 2)<|vV 5) (by rfl) (gq<|by rfl) (by rfl) (aP<|by rfl)<|by rfl)<|aD<|cD (J6 (qN qq) (vV 3) eZ) (aD<|bV<|bN (vV 2) (a1<|cg yj (GZ (vV 2)<|vV 4)<|GZ (vV 2)<|vV 5) (by rfl) (gq<|by rfl) (by rfl) (aP<|by rfl)<|by rfl)<|aD<|bV<|bN (vV 2) (a1<|cg iw (GZ (vV 2)<|vV 4)<|GZ (vV 2)<|vV 5) (by rfl) (gq<|by rfl) (by rfl) (aP<|by rfl)<|by rfl) ?_;exact aD<|aV<|vV 2
theorem aei:Fk P w K mg base 10 "_law_field" wB:=by
 refine fk (k:=9) ["_law_letters", "_law_most", "_law_field_here", "_law_k", "_law_longer", "_law_numbers"] T.f30 T.z ?_
 intros
 refine aq ?_ ?_
 ·with_reducible exact GX 2 (xO (a1 (fL d7)))
 refine aq (cU MF hh (T7<|a1<|vV 0) (JG 3)<|aq (GX 4<|xO d7)<|aq (cU MF hh (cP<|vV 2) (JG 5)<|aD<|GX 4<|cg bQ (vV 4)<|T8 [5] (T7<|a1<|cg bQ (GZ (vV 1)<|vV 3) aH)<|fun _ _ _ _=>(cg bQ (vV 1)<|fL<|a1<|vV 0))<|aD<|GX 2<|vV 4) ?_;exact aD<|aV<|vV 2
theorem lW:Fk P w K mg base 14 "_law_heights_good" gK:=by
 refine fk (k:=13) ["_law_sums_here", "_law_tall", "_law_letters", "_law_one", "_law_most"] T.f31 T.z ?_
 intros
 refine aq (cU MF hh (rM (by rfl) (by exact T.z _ (by decide)) (a2 (vV 0)<|vV 1) (aP<|by rfl)<|bI<|by rfl) (dJ hh<|aX (JG 3)<|aX (JG 4) dR)<|aq (cD (J6 aiO (Gx (aeN T)<|a2 (vV 3)<|vV 2) BX) (aD<|aV BX) bG)<|aD<|cD (fY<|K7 (SM hh) boot_any<|a1<|T8 [3,4] (T7<|a1<|vV 2)<|fun _ _ _ _=>(Rq U0 (Gx (pC T)<|a2 (vV 1)<|vV 0)<|GZ (vV 2)<|vV 0)) (aD<|aV BX) bG) ?_;exact aD<|aV BX
theorem ZX {f:Addr}{fd:N5}(F:Uo K "law" "law" QX f fd):qO P w K mg base Mg 15 f fd ["_law_script"] (lift K Sx):=by
 have S:iI ["_law_script", "_law_letters", "_law_steps_here", "_law_tall", "_law_sums_here", "_law_one", "_law_last", "_law_alike", "_law_numbers", "_law_worths_here", "_law_less"] ["_law_script"] (bw QX):=⟨rfl,rfl,rfl,by decide +kernel,rfl,by decide +kernel,by decide +kernel⟩
 refine acC (k:=14) F S fun _ _ _ _ _ _ hr=>?_;have hc:=hr.calm (by decide);have nd:=S.nd;have z:=T.z;refine aq (GX 1<|cg bQ aH<|cg iG (Gx (qH T)<|a2 (vV 0) aH) aH) ?_;refine aq (p7 (Gx (aeU T)<|a2 (vV 0)<|vV 1)<|dJ hh<|aX (JG 2)<|aX (JG 3) dR) ?_;refine aq (GX 4<|Gx (zax T)<|a2 (vV 2)<|vV 1) ?_;refine aq (cD (mW<|fY<|Gx (lW T)<|a3 (vV 4) (vV 3)<|vV 1) (aD<|aV BX) bG) ?_;refine aq (GX 5<|GZ (vV 4)<|nG aH) ?_;refine aq (GX 6<|GZ (vV 4)<|nG aH) ?_;refine aq (GX 7 BX) ?_;refine aq (cU MF hh (cP<|Gx (aei T)<|a2 (vV 1)<|VJ [] hh (cZ<|by rfl) vY (wC hh<|cZ<|by rfl) (rM (by rfl) (by exact T.z _ (by decide)) (a2 (GZ (vV 3)<|nG aH)<|GZ (vV 3)<|nG aH) (aP<|by rfl)<|bI<|by rfl) (fun _ _ _ _=>gw)<|fun _ _ _ _=>(K7 (Yp hh) boot_max<|a2 (vV 0)<|vV 1)) (JG 8)<|aq (GX 9<|Gx (oG T)<|a2 (vV 2)<|vV 8)<|aq (cD (yP (J6 (Fo qq) (Gx (o9 T)<|a2 (vV 5)<|vV 8)<|GZ (vV 9)<|nG aH)<|oO<|J6 (Fo qq) (Gx (o9 T)<|a2 (vV 6)<|vV 8)<|GZ (vV 9)<|nG aH).pt (aD<|aV BX) bG)<|aD<|GX 7<|G4 (vV 7)<|Lq<|Rq (qN qq) (GZ (vV 9)<|nG aH)<|GZ (vV 9)<|nG aH) ?_;refine aq (GX 10<|Gx (vL T)<|a2 (vV 5)<|vV 6) ?_;refine aq (cD (yP (J6 (Fo qq) (Rq (qN qq) (vV 5)<|vV 6)<|vV 7)<|oO<|J6 (Fo qq) (Rq (qN qq) (vV 10)<|fL d7)<|vV 7).pt (aD<|aV BX) bG) ?_;refine aq (cD (J6 (Fo qq) (vV 10)<|fL d7) (aq (GX 9<|Gx (oG T)<|a2 (vV 2)<|Gx (afD T)<|a2 (vV 10)<|vV 1)<|aD<|cD (J6 (qN qq) (GZ (vV 9)<|nG aH)<|GZ (vV 9)<|nG aH) (aD<|aV BX) bG) bG) ?_;refine aq (cD (Ik (J6 (Fo qq) (vV 6)<|fL d7)<|Hf<|J6 (Fo qq) (Gx (zau T)<|a2 (Gx (j7 T)<|a2 (vV 5)<|vV 6)<|vV 6)<|vV 5).pt (aD<|aV BX) bG) ?_;exact aD<|aV<|Rq (qN qq) (Gx (j7 T)<|a2 (Gx (Gu T)<|a2 (vV 5)<|vV 6)<|vV 10)<|Gx (vL T)<|a2 (Gx (j7 T)<|a2 (vV 5)<|vV 5)<|Gx (j7 T)<|a2 (vV 6)<|vV 6
end
variable {mg : Str->Option Mk}{K : Dp}
def fO (x:Str)(s:Stmt)(oc:Mk)(od:Option Addr)(kV dc pm:Mk)(an:Option Addr)(cd ct:Mk)(sl:Array (Option Mk)):Option Obj:=FN ⟨oc,od,.func (Vr x x (lY s) (eE s) (bw s) .none kV dc pm an cd ct),sl⟩
def sR (f:Addr):Option (Option Mk):=FN (FN (.ref f))
def iM (K:Dp)(x:Str)(s:Stmt):Prop:=∃ f oc od kV dc pm an cd ct sl,M7 K Jh x=sR f/\K.lookup f=fO x s oc od kV dc pm an cd ct sl/\YH K cd x=true/\U7 K (.ref f)=true
theorem RL {x:Str}{s:Stmt}{f:Addr}{oc:Mk}{od:Option Addr}{kV dc pm:Mk}{an:Option Addr}{cd ct:Mk}{sl:Array (Option Mk)}(a:M7 K Jh x=sR f)(l:K.lookup f=fO x s oc od kV dc pm an cd ct sl)(c:YH K cd x=true)(k:U7 K (.ref f)=true):iM K x s:=⟨f,oc,od,kV,dc,pm,an,cd,ct,sl,a,l,c,k⟩
theorem cO {h:Heap}{x:Str}{st:Stmt}{ps:List Str}(X:K.In h)(G:h.Ns Jh mg)(H:iM K x st)(hb:∀ (kV doc pm:Mk) (an:Option Addr) (cdv ct:Mk) (us:List Mk),us.length=ps.length->bindArgs (Vr x x (lY st) (eE st) (bw st) .none kV doc pm an cdv ct) ⟨us,[]⟩=pure (ps.zip us):=by intro _ _ _ _ _ _ us hl;first | (match us,hl with | [_],_=>rfl) | (match us,hl with | [_,_],_=>rfl) | (match us,hl with | [_,_,_],_=>rfl) | (match us,hl with | [_,_,_,_],_=>rfl)):At K mg x st ps:=by
 obtain ⟨f,oc,od,kV,dc,pm,an,cd,ct,sl,a,l,c,k⟩:=H;exact ⟨f,_,FT (st:=st) l c k,Wt X G a,(FT (st:=st) l c k).binds hb⟩
theorem zc {n:Str}{l:List Str}(a:mg n=FX)(b:∀ m∈l,mg m=FX):∀ m∈n::l,mg m=FX:=List.forall_mem_cons.2 ⟨a,b⟩
theorem all_mk {l:PySem.W.OpenLaw}{w:Em}{h:Heap}{fa:Addr}(hlaw:∀ ns:List Int,ns.length<=63->Sx [.kls (ns.map W.int)] g0 (fun w _=>w=.bl true) EF)(X:K.In h)(G:h.Ns Jh mg)(hfa:mg "law" = FN (.ref fa))
  (h0:iM K "is_whole" (top 5))
  (h1:iM K "is_powers" (top 11))
  (h2:iM K "is_term" (top 12))
  (h3:iM K "is_sum" (top 13))
  (h4:iM K "number_sum" (top 14))
  (h5:iM K "letter_sum" (top 15))
  (h6:iM K "sum_of_totals" (top 16))
  (h7:iM K "with_times" (top 17))
  (h8:iM K "plus" (top 18))
  (h9:iM K "minus" (top 19))
  (h10:iM K "packed" (top 20))
  (h11:iM K "unpacked" (top 21))
  (h12:iM K "packed_terms" (top 22))
  (h13:iM K "check_powers" (top 23))
  (h14:iM K "times" (top 24))
  (h15:iM K "part_of_term" (top 25))
  (h16:iM K "take_away" (top 26))
  (h17:iM K "parted" (top 27))
  (h18:iM K "powers_up_to" (top 29))
  (h19:iM K "height" (top 30))
  (h20:iM K "worth_at" (top 31))
  (h21:iM K "put" (top 32))
  (h22:iM K "least_away" (top 33))
  (h23:iM K "away" (top 34))
  (h24:iM K "_law_cell" (top 36))
  (h25:iM K "_law_draws" (top 37))
  (h26:iM K "_law_step" (top 38))
  (h27:iM K "_law_steps" (top 39))
  (h28:iM K "_law_sums" (top 40))
  (h29:iM K "_law_worths" (top 41))
  (h30:iM K "_law_field" (top 42))
  (h31:iM K "_law_heights_good" (top 43))
  (h32:iM K "law" (top 44))
  (z_all:M7 K Jh "all" = FN FX)
  (z_any:M7 K Jh "any" = FN FX)
  (z_bool:M7 K Jh "bool" = FN FX)
  (z_dict:M7 K Jh "dict" = FN FX)
  (z_enumerate:M7 K Jh "enumerate" = FN FX)
  (z_int:M7 K Jh "int" = FN FX)
  (z_isinstance:M7 K Jh "isinstance" = FN FX)
  (z_len:M7 K Jh "len" = FN FX)
  (z_max:M7 K Jh "max" = FN FX)
  (z_range:M7 K Jh "range" = FN FX)
  (z_reversed:M7 K Jh "reversed" = FN FX)
  (z_sorted:M7 K Jh "sorted" = FN FX)
  (z_tuple:M7 K Jh "tuple" = FN FX)
  (z_zip:M7 K Jh "zip" = FN FX)
  (g_MOST_TERMS:∃ n,M7 K Jh "MOST_TERMS" = FN (FN (.int 600 n)))
  (g_MOST_POWER:∃ n,M7 K Jh "MOST_POWER" = FN (FN (.int 60 n)))
  (g_MOST_PAIRS:∃ n,M7 K Jh "MOST_PAIRS" = FN (FN (.int 20000 n)))
  (g_FIELD:∃ n,M7 K Jh "FIELD" = FN (FN (.int 65536 n)))
  : ∃ fd:N5,(∀ (s:AP) (v:Mk),BindsTo s fd ⟨[v],[]⟩ [("_law_script",v)])/\∀ base:Heap,K.In base->base.Ns Jh mg->qO l.prog w K mg base Mg 15 fa fd ["_law_script"] (K4 K):=by
 have T:∀ base,Txt l.prog w K mg base:=fun _=>⟨cO X G h0,cO X G h1,cO X G h2,cO X G h3,cO X G h4,cO X G h5,cO X G h6,cO X G h7,cO X G h8,cO X G h9,cO X G h10,cO X G h11,cO X G h12,cO X G h13,cO X G h14,cO X G h15,cO X G h16,cO X G h17,cO X G h18,cO X G h19,cO X G h20,cO X G h21,cO X G h22,cO X G h23,cO X G h24,cO X G h25,cO X G h26,cO X G h27,cO X G h28,cO X G h29,cO X G h30,cO X G h31,zc (R9 X G z_all) (zc (R9 X G z_any) (zc (R9 X G z_bool) (zc (R9 X G z_dict) (zc (R9 X G z_enumerate) (zc (R9 X G z_int) (zc (R9 X G z_isinstance) (zc (R9 X G z_len) (zc (R9 X G z_max) (zc (R9 X G z_range) (zc (R9 X G z_reversed) (zc (R9 X G z_sorted) (zc (R9 X G z_tuple) (zc (R9 X G z_zip) (fun _ h=>nomatch h)))))))))))))),g_MOST_TERMS.imp fun _ e=>Wt X G e,g_MOST_POWER.imp fun _ e=>Wt X G e,g_MOST_PAIRS.imp fun _ e=>Wt X G e,g_FIELD.imp fun _ e=>Wt X G e⟩
 obtain ⟨f,oc,od,kV,dc,pm,an,cd,ct,sl,a,l,c,k⟩:=h32;have e:=hfa.symm.trans (Wt X G a);cases e;exact ⟨_,fun s v=>.of_eq rfl,fun base _ _=>zbK hlaw<|ZX (T base)<|FT (st:=QX) l c k⟩
variable {XP : (Str->Option Mk)->Heap->Prop}
theorem walk {l:PySem.W.OpenLaw}{q:Ew}{loose:List Str}{YP:Em->Heap->Prop}{d:DefRec}{K:Params->Dp}(hn:l.most=FN 63)(hdf:d.params.defaults=[])
  (hY:∀ (w:Em) (h:Heap),YP w h->(K w.params).In h)
  (F:∀ (w:Em) (mg:Str->Option Mk) (fa:Addr) (h:Heap),(K w.params).In h->h.Ns Jh mg->mg d.name=FN (.ref fa) ->
   ∃ fd:N5,(∀ (s:AP) (u:Mk),BindsTo s fd ⟨[u],[]⟩ [("_law_script",u)])/\∀ base:Heap,(K w.params).In base->base.Ns Jh mg->qO l.prog w (K w.params) mg base Mg 15 fa fd ["_law_script"] (K4 (K w.params))) :
  PySem.W.WalkO q loose XP YP l.row.toRowW d [] (fun f vs=>PySem.call f vs):=
 L2.Gq (n:=63) (k:=15) (x := "_law_script") (CX:=fun _=>Mg) (sp:=fun w=>K4 (K w.params)) hn (by decide) hdf ⟨fun _=>rfl,by decide,by decide⟩ hY F (fun _ _ a ns hl hO hS=>⟨a,ns,rfl,hS,hO,hl,fun _=>rfl⟩) fun _ _ _ _ _ z=>z
local macro_rules | `(tactic| trivial) => `(tactic| with_reducible exact Sm.lit (by decide))
local macro_rules | `(tactic| trivial) => `(tactic| with_reducible exact Sm.zero)
local macro_rules | `(tactic| trivial) => `(tactic| with_reducible exact Sm.neg (by trivial))
local macro_rules | `(tactic| trivial) => `(tactic| with_reducible exact Sm.sub (by trivial) (by trivial))
local macro_rules | `(tactic| trivial) => `(tactic| with_reducible exact Sm.add (by trivial) (by trivial))
local macro_rules | `(tactic| trivial) => `(tactic| with_reducible exact Sm.mul (by trivial) (by trivial))
local macro_rules | `(tactic| trivial) => `(tactic| with_reducible assumption)
theorem Ef (h:Gh)(n:Nat)(c:Cell):(h.set n c).c n=FN c:=by show (if n=n then FN c else h.c n)=FN c;rw [if_pos rfl]
variable {h : Gh}{m n : Nat}
theorem sV {c:Cell}(e:m≠n):(h.set n c).c m=h.c m:=by show (if m=n then FN c else h.c m)=_;rw [if_neg e]
theorem yK (h:Gh)(c:Cell):(h.new c).c h.nx=FN c:=by show (if h.nx=h.nx then FN c else h.c h.nx)=FN c;rw [if_pos rfl]
theorem qI {c:Cell}(e:m≠h.nx):(h.new c).c m=h.c m:=by show (if m=h.nx then FN c else h.c m)=_;rw [if_neg e]
variable {ws : List W}
theorem Ck (e:h.c n=FN (.lst ws)):view h (.loc n)=FN ws:=by simp only [view,dF,e]
theorem Br {a b:Int}(h:0<b):a.fmod b=a % b:=Int.fmod_eq_emod_of_nonneg a (Int.le_of_lt h)
theorem uy {a b:Int}(h:0<b):a.fdiv b=a / b:=Int.fdiv_eq_ediv_of_nonneg a (Int.le_of_lt h)
variable {c : Bool}
theorem XD {c:Prop}[Decidable c]{A B:Prop}(h1:c->A)(h2:¬ c->B):Jw (decide c) A B:=by
 by_cases h:c
 ·rw [decide_eq_true h];exact h1 h
 ·rw [decide_eq_false h];exact h2 h
variable {g : MG}
theorem cV {ws0:List W}{b:MS}{D:bK}(I:Nat->Sw->Gh->Prop)
  (step:∀ (i:Nat) (w:W) (Z : Sw) (h:Gh) (N:Sw->Gh->Prop),(∀ Z' h',I (i+1) Z' h'->N Z' h')->ws[i]?=FN w->I i Z h->g w Z h fun Z1 h1=>b { D with nx:=N,ct:=N,bk:=D.nx } Z1 h1)
  (fin:∀ Z h,I ws.length Z h->D.nx Z h):∀ {Z : Sw} {h:Gh},I 0 Z h->fK ⟨ws0,FX⟩ g b D ws Z h:=by
 induction ws generalizing I with
 | nil=>intro Z h h0;exact fin Z h h0
 | cons w ws ih=>
  intro Z h h0;refine step 0 w Z h _ (fun Z' h' q=>?_) rfl h0;exact ih (fun i=>I<|i+1) (fun i w Z h N hN e hi=>step (i+1) w Z h N hN (by simpa using e) hi) (fun Z h q=>fin Z h q) q
variable {ix : List Nat}{te : ME}{tt : MT}{Z : Sw}{own : W->Option (List W)}{Q : WK}
theorem dW {ws0:List W}(I:Nat->List W->Gh->Prop)
  (step:∀ (i:Nat) (w:W) (acc:List W) (h:Gh) (N:List W->Gh->Prop),(∀ acc' h',I (i+1) acc' h'->N acc' h')->ws[i]?=FN w->I i acc h ->
   ∃ vs,own w=FN vs/\tt (vs.map FN++pY ix Z) h fun c h1=>Jw c (te (vs.map FN++pY ix Z) h1 fun v h2=>N (acc++[v]) h2) (N acc h1))
  (fin:∀ acc h,I ws.length acc h->Q (.lst acc) h):∀ {acc:List W} {h:Gh},I 0 acc h->oX ⟨ws0,FX⟩ own ix tt te Z Q ws acc h:=by
 induction ws generalizing I with
 | nil=>intro acc h h0;exact fin acc h h0
 | cons w ws ih=>
  intro acc h h0;obtain ⟨vs,ev,q⟩:=step 0 w acc h _ (fun acc' h' q=>ih (fun i=>I (i+1)) (fun i w acc h N hN e hi=>step (i+1) w acc h N hN (by simpa using e) hi) (fun acc h q=>fin acc h q) q) rfl h0;show (match own w with
   | some vs=>_
   | none=>False)
  rw [ev];exact q
variable {i : Nat}{w : W}
theorem Bx {lo:Int}(e:(yt lo n)[i]?=FN w):i<n/\w=.int (lo+(i:Int)):=by
 have hi:i<n:=by
  have:=(Le.mp e).1
  simpa [yt] using this
 unfold yt at e;rw [Gy,Yr hi] at e;exact ⟨hi,(Gw e).symm⟩
theorem uz {lo:Int}:(yt lo n).length=n:=by simp [yt]
variable {j : Int}{ma : MA}
theorem uW {b:MS}{D:bK}(hm:∀ R,ma Z h R=R [.int j] h)(h1:-(2^62)<=j)(h2:j<2^62)(I:Nat->Sw->Gh->Prop)
  (step:∀ (i:Nat) (Z : Sw) (h:Gh) (N:Sw->Gh->Prop),(∀ Z' h',I (i+1) Z' h'->N Z' h')->i<j.toNat->I i Z h->g (.int (i:Int)) Z h fun Z1 h1=>b { D with nx:=N,ct:=N,bk:=D.nx } Z1 h1)
  (fin:∀ Z h,I j.toNat Z h->D.nx Z h) (h0:I 0 Z h):lA (iY ma) g b D Z h:=by
 unfold lA iY;rw [hm];refine yp.mk h1 h2 ?_;refine cV I (fun i w Z h N hN e hi=>?_) (fun Z h q=>fin Z h (by rw [uz] at q;exact q)) h0;obtain ⟨hlt,rfl⟩:=Bx e;rw [WW];exact step i Z h N hN hlt hi
variable {ns : List Int}
theorem zbh {k:Int}(h0:0<=k)(h1:k<((ns.map W.int).length:Int)):J7 (ns.map W.int) k=FN (.int (ns.getD k.toNat 0)):=by
 have hk:k.toNat<ns.length:=by rw [Ec] at h1;lia
 have e:(ns.map W.int)[k.toNat]?=FN (.int (ns.getD k.toNat 0)):=by
  rw [Gy,GK hk,Hy,GK hk];rfl
 have:=dh e
 rwa [show ((k.toNat:Nat):Int)=k by lia] at this
theorem ints_get (e:(ns.map W.int)[i]?=FN w):∃ n,ns[i]?=FN n/\w=.int n:=by
 rw [Gy] at e;cases q:ns[i]? with
 | none=>rw [q] at e;cases e
 | some n=>rw [q] at e;exact ⟨n,rfl,(Gw e).symm⟩
theorem pZ (a b:Int):Gg (.int a) (.int b)=(a==b):=by rw [Gg]
abbrev Tr:=Int×Int×Int
def tl (t:Tr):List Int:=[t.1,t.2.1,t.2.2]
def tw (t:Tr):W:=.tup [.int t.1,.int t.2.1,.int t.2.2]
def sc (k:Int)(t:Tr):Tr:=(t.1*k,t.2.1*k,t.2.2*k)
def crs (p q:Tr):Tr:=(p.2.1*q.2.2 - p.2.2*q.2.1,p.2.2*q.1 - p.1*q.2.2,p.1*q.2.1 - p.2.1*q.1)
def dt3 (p q:Tr):Int:=p.1*q.1+p.2.1*q.2.1+p.2.2*q.2.2
theorem oZ (e:h.c n=FN (.lst ws)):dF h (.loc n)=FN ws:=by simp only [dF,e]
theorem zY:∀ bs:List Bool,Ek (bs.map W.bl)=FN bs
 | []=>rfl
 | b::bs=>by rw [Ed,Ek,zY bs];rfl
theorem zbj {s:Src}{b:MS}{D:bK}(I:Nat->Sw->Gh->Prop)(go:∀ i Z h,I i Z h->∀ P:Prop,P->s.go h P)
  (step:∀ (i:Nat) (w:W) (Z : Sw) (h:Gh) (N:Sw->Gh->Prop),(∀ Z' h',I (i+1) Z' h'->N Z' h')->ws[i]?=FN w->I i Z h->g w Z h fun Z1 h1=>b { D with nx:=N,ct:=N,bk:=D.nx } Z1 h1)
  (fin:∀ Z h,I ws.length Z h->D.nx Z h):∀ {Z : Sw} {h:Gh},I 0 Z h->fK s g b D ws Z h:=by
 induction ws generalizing I with
 | nil=>intro Z h h0;exact go 0 Z h h0 _ (fin Z h h0)
 | cons w ws ih=>
  intro Z h h0;refine go 0 Z h h0 _ ?_;refine step 0 w Z h _ (fun Z' h' q=>?_) rfl h0;exact ih (fun i=>I<|i+1) (fun i=>go<|i+1) (fun i w Z h N hN e hi=>step (i+1) w Z h N hN (by simpa using e) hi) (fun Z h q=>fin Z h q) q
theorem aiH {us:List W}(e:h.c n=FN (.lst us))(hz:us.length<G7)(k:Q .non (h.set n (.lst (us++[w])))):bB (.loc n) [w] h Q:=by
 show (match h.c n with
  | some (Cell.lst us)=>_
  | _=>False)
 rw [e];exact ⟨hz,k⟩
theorem aic (hm:∀ R,ma Z h R=R [.int j] h)(h1:-(2^62)<=j)(h2:j<2^62)(hz:j.toNat<=G7)(I:Nat->List W->Gh->Prop)
  (step:∀ (i:Nat) (acc:List W) (h:Gh) (N:List W->Gh->Prop),(∀ acc' h',I (i+1) acc' h'->N acc' h')->i<j.toNat->I i acc h ->
   ∃ vs,own (.int (i:Int))=FN vs/\tt (vs.map FN++pY ix Z) h fun c h1=>Jw c (te (vs.map FN++pY ix Z) h1 fun v h2=>N (acc++[v]) h2) (N acc h1))
  (fin:∀ acc h,I j.toNat acc h->Q (.lst acc) h) (h0:I 0 [] h):Jy own ix (iY ma) tt te Z h Q:=by
 unfold Jy iY;rw [hm];refine yp.mk h1 h2<|fV.mk (by rw [uz];exact hz) ?_
 refine dW I (fun i w acc h N hN e hi=>?_) (fun acc h q=>fin acc h (by rw [uz] at q;exact q)) h0;obtain ⟨hlt,rfl⟩:=Bx e;rw [WW];exact step i acc h N hN hlt hi
theorem c32:(10:Int)^(32:Int).toNat=100000000000000000000000000000000:=by decide
theorem c30:(10:Int)^(30:Int).toNat=1000000000000000000000000000000:=by decide
def uE (c:Dr):Prop:=∀ {h:Gh} {ns:List Int} {k:Int} {Q:WK} {E:FQ},0<=k->Q (.int (ns.getD k.toNat 0)) h->c [.kls (ns.map .int),.int k] h Q E
theorem Gk:uE BR:=by
 intro h ns k Q E h0 q;show br (decide (k<((ns.map W.int).length:Int))) _ _;refine pA (fun hk=>?_)<|fun hk=>?_
 ·conv=>whnf
  rw [zbh h0 hk];exact q
 ·have e:ns.getD k.toNat 0=0:=by
   rw [Hy,Yd (by rw [Ec] at hk;lia)];rfl
  rw [e] at q;exact q
theorem pR (a:Int){b:Int}(h:0<b):0<=a.fmod b/\a.fmod b<b:=by
 rw [Br h];exact ⟨Int.emod_nonneg _ (by lia),Int.emod_lt_of_pos _ h⟩
def zJ (c:Dr):Prop:=∀ {h:Gh} {ns:List Int} {k many:Int} {Q:WK} {E:FQ},0<=k->k<=1000->0<=many->many<=1000 ->
 (∀ xs:List Int,(xs.length:Int)=many->Q (.lst (xs.map .int)) h)->c [.kls (ns.map .int),.int k,.int many] h Q E
theorem zbN {cl:Dr}(hcl:uE cl):zJ (wO cl):=by
 intro h ns k many Q E k0 k1 m0 m1 q;show cl [.kls (ns.map .int),.int k] h _ _;refine hcl k0 ?_;generalize ns.getD k.toNat 0=left;have p62:(2:Int)^62=4611686018427387904:=by decide
 refine And.intro (.of (m:=64) (n:=10) (.lit rfl) (jr (by lia)<|by lia) (by decide)<|by decide) ?_;refine And.intro (.of (m:=64) (n:=10) (.lit rfl) (jr (by lia)<|by lia) (by decide)<|by decide) ?_;refine And.intro (show (4294967291:Int)≠0 by decide) ?_;generalize decide (107*many<(X7 left:Nat))=free;obtain ⟨s0,s1⟩:=pR (left+7919*k+11) (b:=4294967291) (by decide);generalize (left+7919*k+11).fmod 4294967291=seed at *;dsimp only [kI,bD,bZ,mF,aN];refine fV.mk (by decide) ?_;have f32:(10:Int)^(32:Int).toNat≠0:=by rw [c32];decide
 have s32:Sm 8000 ((10:Int)^(32:Int).toNat):=by rw [c32];unfold Sm;decide +kernel
 refine uW (j:=many) (fun _=>rfl) (by lia) (by lia) (fun i Z h'=>∃ (xs:List Int) (left seed:Int) (o7 o8:Option W),xs.length=i/\0<=seed/\seed<4294967291/\h'.c h.nx=FN (.lst (xs.map .int))/\(∀ n,n≠h.nx->h'.c n=h.c n) /\
  Z = [FN (.kls (ns.map .int)),FN (.int k),FN (.int many),FN (.int left),FN (.bl free),FN (.int seed),FN (.loc h.nx),o7,o8]) ?_ ?_ ⟨[],left,seed,FX,FX,rfl,s0,s1,yK _ _,fun n hn=>qI hn,rfl⟩
 ·rintro i Z h' N hN hi ⟨xs,left,seed,o7,o8,hl,s0,s1,hc,ho,rfl⟩;have hi:(i:Int)<many:=by lia
  have sz:(xs.map W.int).length<G7:=by rw [Ec,hl];exact Hl (show i<1000 by lia) (by decide)
  have app:∀ (x:Int) (left' seed':Int) (o7 o8:Option W),0<=seed'->seed'<4294967291->N [FN (.kls (ns.map .int)),FN (.int k),FN (.int many),FN (.int left'),FN (.bl free),FN (.int seed'),FN (.loc h.nx),o7,o8] (h'.set h.nx (.lst (xs.map .int++[.int x]))):=by
   intro x left' seed' o7 o8 h0 h1;refine hN _ _ ⟨xs++[x],left',seed',o7,o8,by simp [hl],h0,h1,by rw [Ef];simp,fun n hn=>by rw [sV hn];exact ho n hn,rfl⟩
  refine ⟨fun _=>?_,fun _=>?_⟩
  ·show (match h'.c h.nx with
    | some (Cell.lst us)=>_
    | _=>False)
   rw [hc];refine And.intro ⟨by decide,by decide,by decide⟩<|And.intro f32 ?_
   show (match h'.c h.nx with
    | some (Cell.lst us)=>_
    | _=>False)
   rw [hc];refine And.intro sz ?_;refine And.intro ⟨by decide,by decide,by decide⟩<|And.intro ⟨f32,8000,by decide,s32⟩ ?_
   exact app _ _ _ _ _ s0 s1
  ·refine And.intro (.of (m:=32) (n:=64) (jr (by lia)<|by lia) (.lit rfl) (by decide)<|by decide) ?_;refine And.intro (.of (m:=10) (n:=10) (jr (by lia)<|by lia) (jr (by lia)<|by lia) (by decide)<|by decide) ?_;refine And.intro (show (4294967291:Int)≠0 by decide) ?_;obtain ⟨t0,t1⟩:=pR (seed*69069+362437+(i:Int)*(i:Int)) (b:=4294967291) (by decide);generalize (seed*69069+362437+(i:Int)*(i:Int)).fmod 4294967291=sd at *;refine And.intro ⟨by decide,64,by decide,.lit rfl⟩ ?_;have d0:0<=sd.fdiv 4096:=by rw [uy (by decide)];lia
   have d1:sd.fdiv 4096<4294967291:=by rw [uy (by decide)];lia
   refine And.intro (.of (m:=32) (n:=40) (jr (by lia)<|by lia) (jr (by lia)<|by lia) (by decide)<|by decide) ?_;refine And.intro (show (999999999989:Int)≠0 by decide) ?_;obtain ⟨n0,n1⟩:=pR (sd*(sd.fdiv 4096+(i:Int)+1)) (b:=999999999989) (by decide);generalize (sd*(sd.fdiv 4096+(i:Int)+1)).fmod 999999999989=nr at *;show (match h'.c h.nx with
    | some (Cell.lst us)=>_
    | _=>False)
   rw [hc];have sn:Sm 41 nr:=jr (by lia) (by lia);have sn7:Sm 41 (nr+7):=jr (by lia) (by lia);refine And.intro (.of sn sn7 (by decide)<|by decide) ?_;refine And.intro (.of (n:=33) (sn.mul sn7) (jr (by lia)<|by lia) (by decide)<|by decide) ?_;refine And.intro ⟨by decide,by decide,by decide⟩<|And.intro f32 ?_
   show (match h'.c h.nx with
    | some (Cell.lst us)=>_
    | _=>False)
   rw [hc];exact And.intro sz<|app _ _ _ _ _ t0 t1
 ·rintro Z h' ⟨xs,left,seed,o7,o8,hl,s0,s1,hc,ho,rfl⟩;refine ⟨fun n c hn e=>by rw [ho n<|by lia];exact e,.inr ⟨h.nx,_,rfl,Ea _,hc,?_,q xs<|by lia⟩⟩;have:∀ ys:List Int,Jc h.nx (ys.map W.int):=fun ys=>by
   induction ys with
   | nil=>exact trivial
   | cons y ys ih=>exact ⟨trivial,ih⟩
  exact this xs
def tK (Q:Bool->Gh->Prop):WK:=fun w h=>match w with
 | .bl c=>Q c h
 | _=>False
def uK (Q:Bool->Gh->Prop):WK:=fun w h=>match aai h w with
 | some b=>Q b h
 | none=>False
def aK (b:ME)(Z : Sw)(Q:WK):WK:=fun x h=>match x with
 | .bl true=>b Z h Q
 | .bl false=>Q (.bl false) h
 | _=>False
def oK (b:ME)(Z : Sw)(Q:WK):WK:=fun x h=>match x with
 | .bl false=>b Z h Q
 | .bl true=>Q (.bl true) h
 | _=>False
def nK (Q:WK):WK:=fun x h=>match x with
 | .bl c=>Q (.bl (!c)) h
 | _=>False
def iK (R:Src->Gh->Prop):WK:=fun w h=>match O2 h w with
 | some s=>R s h
 | none=>False
def xK (f:Str->Bool)(Q:WK):WK:=fun w h=>match w with
 | .exc n=>Q (.bl (f n)) h
 | .exa n _=>Q (.bl (f n)) h
 | _=>False
def pK (Q:Option Int->Gh->Prop):WK:=fun w h=>match w with
 | .int i=>Q (FN i) h
 | _=>False
def acK (g:MG)(b:MS)(D:bK)(Z : Sw):Src->Gh->Prop:=fun s h=>fK s g b D s.ws Z h
def lcK (own:W->Option (List W))(ix:List Nat)(tt:MT)(te:ME)(Z : Sw)(Q:WK):Src->Gh->Prop:=fun s h=>fV s.ws.length (oX s own ix tt te Z Q s.ws [] h)
def rgK (R:Src->Gh->Prop):List W->Gh->Prop:=fun ws h=>match ws with
 | [.int j]=>yp j (R ⟨yt 0 j.toNat,FX⟩ h)
 | _=>False
def zpK (R:Src->Gh->Prop):List W->Gh->Prop:=fun ws h=>match ws with
 | [x,y]=>(match QW h x y with
  | some s=>R s h
  | none=>False)
 | _=>False
theorem aG {m u:MS}{D:bK}(x:m { D with nx:=u D } Z h):bD m u D Z h:=x
variable {N : Sw->Gh->Prop}
theorem aZ {b c:Sw->Gh->Prop}{r:WK}(x:N Z h):bK.nx ⟨N,r,b,c⟩ Z h:=x
theorem jK {b c:Sw->Gh->Prop}{r:WK}(x:r w h):bK.rt ⟨N,r,b,c⟩ w h:=x
theorem bA {D:bK}(x:D.nx Z h):cY D Z h:=x
theorem aM {m:ME}{D:bK}(x:m Z h fun w h1=>g w Z h1 D.nx):bZ m g D Z h:=x
theorem cM {m:ME}{D:bK}(x:m Z h fun _ h1=>D.nx Z h1):dO m D Z h:=x
theorem bC {m:ME}{D:bK}(x:m Z h D.rt):dU m D Z h:=x
variable {E : FQ}
theorem jj {c:Str}{D:bK}(x:E ⟨c,[]⟩ h):mV c E D Z h:=x
theorem bL {t:MT}{a b:MS}{D:bK}(x:t Z h fun c h1=>br c (a D Z h1) (b D Z h1)):gk t a b D Z h:=x
theorem Jt {t:MT}{a b:ME}(x:t Z h fun c h1=>br c (a Z h1 Q) (b Z h1 Q)):mIf t a b Z h Q:=x
variable {d : Str}
theorem d9 {g:RX}(e:w=.tup ws)(b:Ly ws.length n=true)(x:g ws Z h N):g8 n g w Z h N:=by
 subst e;unfold g8;dsimp only;rw [b];exact x
theorem bW {r:RX}(x:g w Z h fun Z1 h1=>r ws Z1 h1 N):cT g r (w::ws) Z h N:=x
theorem iu (x:N Z h):zE [] Z h N:=x
theorem aj (e:Z[i]?=FN (FN w))(x:Q w h):aB i Z h Q:=by
 unfold aB;rw [e];exact x
theorem aU (x:Q w h):mC w Z h Q:=x
theorem aF {r:M2}{ma mb:ME}(x:ma Z h fun a h1=>mb Z h1 fun b h2=>r a b h2 Q):DR r ma mb Z h Q:=x
theorem lB {r:W->Gh->WK->Prop}{ma:ME}(x:ma Z h fun a h1=>r a h1 Q):Oe r ma Z h Q:=x
theorem gU {i:Int}(x:Q (.int (-i)) h):CZ (.int i) h Q:=x
theorem ak {a:ME}{r:MA}{Q:List W->Gh->Prop}(x:a Z h fun w h1=>r Z h1 fun ws h2=>Q (w::ws) h2):ao a r Z h Q:=x
theorem aA {Q:List W->Gh->Prop}(x:Q [] h):aN Z h Q:=x
variable {P : Prop}
theorem bH (e:Nat.ble n 1000=true)(x:P):fV n P:=by
 unfold fV;rw [e];exact x
theorem cI {t:MA}(x:t Z h fun ws h1=>fV ws.length (Q (.tup ws) h1)):lO t Z h Q:=x
theorem jU {t:MA}(x:t Z h fun ws h1=>fV ws.length (Q (.lst ws) h1)):KJ t Z h Q:=x
theorem aL {c:Dr}(x:ma Z h fun ws h1=>c ws h1 Q E):bf c E ma Z h Q:=x
theorem cj {r:MC}(x:ma Z h fun ws h1=>r ws h1 Q):Hu r ma Z h Q:=x
theorem aW {m:ME}{Q:Bool->Gh->Prop}(x:m Z h (tK Q)):bO m Z h Q:=x
theorem jc {Q:Bool->Gh->Prop}(x:Q c h):tK Q (.bl c) h:=x
theorem fu {m:ME}{Q:Bool->Gh->Prop}(x:m Z h (uK Q)):yu m Z h Q:=x
theorem Cr {b:Bool}{Q:Bool->Gh->Prop}(e:aai h w=FN b)(x:Q b h):uK Q w h:=by
 unfold uK;rw [e];exact x
theorem j8 {t:MT}{Q:Bool->Gh->Prop}(x:t Z h fun c h1=>Q (!c) h1):Kz t Z h Q:=x
theorem Bg {t u:MT}{Q:Bool->Gh->Prop}(x:t Z h fun c h1=>br c (u Z h1 Q) (Q false h1)):ZM t u Z h Q:=x
theorem xW {t u:MT}{Q:Bool->Gh->Prop}(x:t Z h fun c h1=>br c (Q true h1) (u Z h1 Q)):Tf t u Z h Q:=x
theorem cJ {Q:Bool->Gh->Prop}(x:Q true h):ou Z h Q:=x
theorem mH {a b:ME}(x:a Z h (aK b Z Q)):yZ a b Z h Q:=x
theorem JN {a:ME}(x:a Z h (nK Q)):Uc a Z h Q:=x
theorem V1 {b:ME}(x:br c (b Z h Q) (Q (.bl false) h)):aK b Z Q (.bl c) h:=by
 cases c with
 | true=>exact x.1 rfl
 | false=>exact x.2 rfl
theorem acV (x:Q (.bl (!c)) h):nK Q (.bl c) h:=x
variable {a : Prop}
theorem nH {b:Prop}(x:a):br true a b:=abT rfl x
theorem qU {b:Prop}(x:b):br false a b:=rH rfl x
theorem JX {b:Prop}(x:b):br (!true) a b:=qU x
theorem QK {b:Prop}(x:a):br (!false) a b:=nH x
theorem cL {b:Prop}(x:a):Jw true a b:=x
theorem jQ {i:Int}(x:Q (.int (i - j)) h):Hx (.int i) (.int j) h Q:=x
theorem cB {i:Int}(x:Q (.int (i+j)) h):cA (.int i) (.int j) h Q:=x
theorem iU {i:Int}(c:qX i j)(x:Q (.int (i*j)) h):sS (.int i) (.int j) h Q:=⟨c,x⟩
theorem xU {i:Int}(c:Aa i j)(x:Q (.int (i.fdiv j)) h):KN (.int i) (.int j) h Q:=⟨c,x⟩
theorem gW {i:Int}(c:j≠0)(x:Q (.int (i.fmod j)) h):rR (.int i) (.int j) h Q:=⟨c,x⟩
theorem Y9 {i:Int}(x:Q (.bl (decide (i<j))) h):kLt (.int i) (.int j) h Q:=x
theorem xu {i:Int}(x:Q (.bl (decide (i>j))) h):Sh (.int i) (.int j) h Q:=x
theorem qP {i:Int}(x:Q (.bl (decide (i=j))) h):Jg (.int i) (.int j) h Q:=by
 have e:Gg (.int i) (.int j)=decide (i=j):=pZ i j;show Q (.bl (Gg (.int i) (.int j))) h;rw [e];exact x
theorem qR {i:Int}(x:Q (.bl (decide (i≠j))) h):Lh (.int i) (.int j) h Q:=by
 have e:(!Gg (.int i) (.int j))=decide (i≠j):=by rw [pZ];by_cases z:i=j <;> simp [z]
 show Q (.bl (!Gg (.int i) (.int j))) h;rw [e];exact x
theorem Uh {i j:Bool}(x:Q (.bl (decide (i≠j))) h):Lh (.bl i) (.bl j) h Q:=by
 have e:(!Gg (.bl i) (.bl j))=decide (i≠j):=by rw [Gg];cases i <;> cases j <;> rfl
 show Q (.bl (!Gg (.bl i) (.bl j))) h;rw [e];exact x
theorem bM {x:W}{i:Int}(e:view h x=FN ws)(a:J7 ws i=FN w)(k:Q w h):Fi x (.int i) h Q:=by
 unfold Fi;dsimp only;rw [e];dsimp only;rw [a];exact k
theorem rT {T:String}{b:Bool}(e:aaj h w T=FN b)(x:Q (.bl b) h):Lk [w,.ty T] h Q:=by
 unfold Lk;dsimp only;rw [e];exact x
theorem gY {xs:List W}(e:view h w=FN xs)(x:Q (.int (xs.length:Int)) h):Ji [w] h Q:=by
 unfold Ji;dsimp only;rw [e];exact x
theorem ji {us:List W}(x:Q (.tup us) h):ni [.lst us] h Q:=x
variable {bs : List Bool}
theorem BL {us:List W}(e:dF h w=FN us)(b:Ek us=FN bs)(x:Q (.bl (bs.any id)) h):QS [w] h Q:=by
 unfold QS;dsimp only;rw [e];dsimp only;rw [b];exact x
theorem Ou {us:List W}(e:dF h w=FN us)(b:Ek us=FN bs)(x:Q (.bl (bs.all id)) h):Qn [w] h Q:=by
 unfold Qn;dsimp only;rw [e];dsimp only;rw [b];exact x
theorem Ac {b:Bool}(x:Q (.int (if b then 1 else 0)) h):aat [.bl b] h Q:=x
theorem kh {mi:MI}{b:MS}{D:bK}(x:mi Z h (acK g b D Z)):lA mi g b D Z h:=x
variable {o : Option (Nat×List W)}
theorem kW {b:MS}{D:bK}(x:fK ⟨ws,o⟩ g b D ws Z h):acK g b D Z ⟨ws,o⟩ h:=x
variable {R : Src->Gh->Prop}
theorem jM {m:ME}(x:m Z h (iK R)):K1 m Z h R:=x
theorem yq (e:O2 h w=FN ⟨ws,o⟩)(x:R ⟨ws,o⟩ h):iK R w h:=by
 unfold iK;rw [e];exact x
theorem mL (x:ma Z h (rgK R)):iY ma Z h R:=x
theorem WX (x:R ⟨[.int 0,.int 1,.int 2],FX⟩ h):rgK R [.int 3] h:=x
theorem pO (x:ma Z h (zpK R)):QB ma Z h R:=x
variable {as : List W}
theorem Jb {a b:W}{bs:List W}{zs:List W}(e:oJ a=FN as)(e':oJ b=FN bs)(z:nJ as bs=zs)(x:R ⟨zs,FX⟩ h):zpK R [a,b] h:=by
 subst z;have es:QW h a b=FN ⟨nJ as bs,FX⟩:=by unfold QW;rw [e,e']
 unfold zpK;dsimp only;rw [es];exact x
theorem abO {a b:W}{bs l:List W}(e:nJ as bs=l):nJ (a::as) (b::bs)=.tup [a,b]::l:=by rw [nJ,e]
theorem fZ {mi:MI}(x:mi Z h (lcK own ix tt te Z Q)):Jy own ix mi tt te Z h Q:=x
theorem Ui (e:Nat.ble ws.length 1000=true)(x:oX ⟨ws,o⟩ own ix tt te Z Q ws [] h):lcK own ix tt te Z Q ⟨ws,o⟩ h:=bH e x
variable {acc : List W}
theorem Ga (x:Q (.lst acc) h):oX ⟨ws,FX⟩ own ix tt te Z Q [] acc h:=x
theorem m7 {r vs:List W}(e:own w=FN vs)(x:tt (vs.map FN++pY ix Z) h fun c h1=>Jw c (te (vs.map FN++pY ix Z) h1 fun v h2=>oX ⟨ws,FX⟩ own ix tt te Z Q r (acc++[v]) h2) (oX ⟨ws,FX⟩ own ix tt te Z Q r acc h1)):oX ⟨ws,FX⟩ own ix tt te Z Q (w::r) acc h:=by
 unfold oX;show match own w with
  | some vs=>tt (vs.map FN++pY ix Z) h fun c h1=>Jw c (te (vs.map FN++pY ix Z) h1 fun v h2=>oX ⟨ws,FX⟩ own ix tt te Z Q r (acc++[v]) h2) (oX ⟨ws,FX⟩ own ix tt te Z Q r acc h1)
  | none=>False
 rw [e];exact x
variable {body : FQ->MS}
theorem aaB {N:Nat}(hl:Ly ws.length n=true)(x:body E { nx:=fun _ h'=>Q .non h',rt:=Q } (ws.map FN++Gv (N - ws.length) FX) h):J5 n N false body ws h Q E:=by
 unfold J5;rw [hl];exact x
theorem HF {r:W->Option Int->Option Int->Gh->WK->Prop}{m:ME}{l u:MO}(x:m Z h fun a h1=>l Z h1 fun lo h2=>u Z h2 fun hi h3=>r a lo hi h3 Q):Ut r m l u Z h Q:=x
theorem jE {m:ME}{Q:Option Int->Gh->Prop}(x:m Z h (pK Q)):qQ m Z h Q:=x
theorem Vf {i:Int}{Q:Option Int->Gh->Prop}(x:Q (FN i) h):pK Q (.int i) h:=x
def p3K (i j k:Nat)(D:bK)(Z : Sw):List W->Gh->Prop:=fun ws h=>match ws with
 | [x,y,z]=>D.nx (((Z.set i (FN x)).set j (FN y)).set k (FN z)) h
 | _=>False
theorem VH {α : Type}{a x:α}{l:List α}:(a::l).set 0 x=x::l:=rfl
theorem VR {α : Type}{a x:α}{l l':List α}(e:l.set n x=l'):(a::l).set (n+1) x=a::l':=by rw [List.set_cons_succ,e]
theorem eN {Z':Sw}(e:Z.set i (FN w) = Z')(x:N Z' h):kI i w Z h N:=by
 subst e;exact x
theorem nV {Z':Sw}(x:N Z' h)(e:Z.set i (FN w) = Z':=by repeat (first | with_reducible exact VH | with_reducible apply VR)):kI i w Z h N:=eN e x
def ini (ws:List W)(n:Nat):Sw:=ws.map FN++Gv (n - ws.length) FX
theorem dY {N:Nat}(hl:Ly ws.length n=true)(e:ini ws N = Z)(x:body E { nx:=fun _ h'=>Q .non h',rt:=Q } Z h):J5 n N false body ws h Q E:=by
 subst e;exact aaB hl x
theorem JB {mi:MI}(x:Jy own ix mi tt te Z h (aah Q)):ZL own ix mi tt te Z h Q:=x
theorem O7 {us:List W}(x:∀ g:Gh,g.c h.nx=FN (.lst us)->(∀ n,n≠h.nx->g.c n=h.c n)->g.nx=h.nx+1->Q (.loc h.nx) g):aah Q (.lst us) h:=x _ (yK _ _) (fun _ e=>qI e) rfl
theorem qw {mo mi:ME}{ms:Vy}(x:mo Z h fun o h1=>mi Z h1 fun i h2=>ms o i w h2 fun h3=>N Z h3):Ql mo mi ms w Z h N:=x
theorem G3 {j:Nat}{k:Int}{ws':List W}{N:Gh->Prop}(e:h.c n=FN (.lst ws))(i:NQ ws.length k=FN j)(s:ws.set j w=ws')(x:∀ g:Gh,g.c n=FN (.lst ws')->(∀ m,m≠n->g.c m=h.c m)->g.nx=h.nx->N g):Fw (.loc n) (.int k) w h N:=by
 subst s;show (match h.c n with
  | some (Cell.lst ws)=>(match NQ ws.length k with
   | some j=>N (h.set n (.lst (ws.set j w)))
   | none=>False)
  | _=>False)
 rw [e];dsimp only;rw [i];exact x _ (Ef _ _ _) (fun _ e=>sV e) rfl
theorem kZ {i:Int}(e:h.c n=FN (.lst ws))(a:J7 ws i=FN w)(k:Q w h):Fi (.loc n) (.int i) h Q:=bM (Ck e) a k
theorem jR {N:Nat}(hl:Ly ws.length n=true)(e:ini ws N = Z)(x:body E { nx:=fun _ h'=>wQ true h .non h' Q,rt:=fun w h'=>wQ true h w h' Q } Z h):J5 n N true body ws h Q E:=by
 subst e;unfold J5;rw [hl];exact x
theorem Ht {a b:List W}(e:Nat.ble (a.length+b.length) 1000=true)(x:Q (.lst (a++b)) h):cA (.lst a) (.lst b) h Q:=bH e x
theorem Km {a b:Bool}(x:Q (.bl (!(a==b))) h):Nh (.bl a) (.bl b) h Q:=x
theorem yW {a b:Str}(x:Q (.bl (decide (a=b))) h):Jg (.str a) (.str b) h Q:=by
 have e:Gg (.str a) (.str b)=decide (a=b):=by rw [Gg];by_cases z:a=b <;> simp [z]
 show Q (.bl (Gg (.str a) (.str b))) h;rw [e];exact x
theorem gJ {r:MM}{mo:ME}(x:mo Z h fun x h1=>Et h1 x (ma Z h1 fun xs h2=>r x xs h2 Q)):pP r mo ma Z h Q:=x
theorem dM {us:List W}(e:h.c n=FN (.lst us))(p:P):Et h (.loc n) P:=by
 simp only [Et,e];exact p
theorem iy (hm:∀ R,ma Z h R=R ws h)(hz:Nat.ble ws.length 1000=true)(x:∀ g:Gh,g.c h.nx=FN (.lst ws)->(∀ n,n≠h.nx->g.c n=h.c n)->g.nx=h.nx+1->Q (.loc h.nx) g):mF ma Z h Q:=by
 unfold mF;rw [hm];exact bH hz<|x _ (yK _ _) (fun _ e=>qI e) rfl
theorem yc {us:List W}(e:h.c n=FN (.lst us))(hz:us.length<=1000)(k:∀ g:Gh,g.c n=FN (.lst (us++[w]))->(∀ m,m≠n->g.c m=h.c m)->g.nx=h.nx->Q .non g):bB (.loc n) [w] h Q:=
 aiH e (Rj hz (by decide)) (k _ (Ef _ _ _) (fun _ e=>sV e) rfl)
def rng (a m:Nat):List Nat:=List.range' a (m - a)
theorem ahA {a x:Nat}:x∈rng a m↔a<=x/\x<m:=by
 unfold rng;rw [List.mem_range'_1];lia
theorem z9 (a m:Nat):yt (a:Int) ((m:Int) - (a:Int)).toNat=(rng a m).map fun x:Nat=>W.int (x:Int):=by
 unfold yt rng;rw [List.range'_eq_map_range,Lb,show ((m:Int) - (a:Int)).toNat=m - a by lia];refine Tb fun x _=>?_;simp
theorem aeg (m:Nat):yt 0 ((m:Nat):Int).toNat=(rng 0 m).map fun x:Nat=>W.int (x:Int):=by
 have:=z9 0 m
 rw [show ((m:Int) - ((0:Nat):Int)).toNat=((m:Nat):Int).toNat by lia] at this;exact this
def acT (R:Src->Gh->Prop):List W->Gh->Prop:=fun ws h=>match ws with
 | [.int i,.int j]=>yp i (yp j (R ⟨yt i (j - i).toNat,FX⟩ h))
 | _=>False
theorem afA (x:ma Z h (acT R)):Vm ma Z h R:=x
theorem aiY {a:Int}(ha:a=(n:Int))(h1:n<=1000)(h2:m<=1000)(x:R ⟨(rng n m).map fun x:Nat=>W.int (x:Int),FX⟩ h):acT R [.int a,.int (m:Int)] h:=by
 subst ha;rw [<-z9] at x;exact yp.mk (by lia) (by lia)<|yp.mk (by lia) (by lia) x
theorem Mf (h2:m<=1000)(x:R ⟨(rng 0 m).map fun x:Nat=>W.int (x:Int),FX⟩ h):rgK R [.int (m:Int)] h:=by
 rw [<-aeg] at x;exact yp.mk (by lia) (by lia) x
def nxt (l:List Nat):Nat:=match l.getLast? with
 | none=>0
 | some x=>x+1
def grow (m:Nat)(l:List Nat):List (List Nat):=(rng (nxt l) m).map fun p=>l++[p]
def abe (h:Gh)(w:W)(ws:List W):Prop:=w=.lst ws\/∃ n,w=.loc n/\h.c n=FN (.lst ws)
theorem uV {b:MS}{D:bK}{α : Type}{v:α->W}{xs:List α}(hv:Z[i]?=FN (FN w))(e:abe h w (xs.map v))(I:Nat->Sw->Gh->Prop)
  (go:∀ i Z h',I i Z h'->abe h' w (xs.map v))
  (step:∀ (i:Nat) (x:α) (Z : Sw) (h:Gh) (N:Sw->Gh->Prop),(∀ Z' h',I (i+1) Z' h'->N Z' h')->xs[i]?=FN x->I i Z h->g (v x) Z h fun Z1 h1=>b { D with nx:=N,ct:=N,bk:=D.nx } Z1 h1)
  (fin:∀ Z h,I xs.length Z h->D.nx Z h) (h0:I 0 Z h):lA (K1 (aB i)) g b D Z h:=by
 unfold lA K1 aB;rw [hv];dsimp only;have gen:∀ s:Src,O2 h w=FN s->s.ws=xs.map v->(∀ h',abe h' w (xs.map v)->∀ P:Prop,P->s.go h' P)->(match O2 h w with
   | some s=>fK s g b D s.ws Z h
   | none=>False):=by
  intro s es ew hg;rw [es];show fK s g b D s.ws Z h;rw [ew];refine zbj I (fun i Z h' hi=>hg h'<|go i Z h' hi) (fun i w Z h N hN e hi=>?_) (fun Z h q=>fin Z h<|by rwa [Ec] at q) h0;rw [Gy] at e;cases q:xs[i]? with
  | none=>rw [q] at e;cases e
  | some x=>
   rw [q] at e;cases e;exact step i x Z h N hN q hi
 rcases e with rfl | ⟨n,rfl,e⟩
 ·exact gen ⟨xs.map v,FX⟩ rfl rfl fun _ _ _ p=>p
 ·refine gen ⟨xs.map v,FN (n,xs.map v)⟩ (by simp only [O2,e]) rfl fun h' e' P p=>⟨?_,p⟩;rcases e' with e' | ⟨n',e',q⟩
  ·cases e'
  ·cases e';exact q
theorem Ie {a x:Nat}(e:(rng a m)[i]?=FN x):x=a+i/\x<m:=by
 have hx:=ahA.mp (Lx e);unfold rng at e;have hl:=(Le.mp e).1;rw [List.length_range'] at hl;rw [GK (by rw [List.length_range'];exact hl),List.getElem_range'] at e;have:=Gw e
 lia
abbrev Tm:=List Int×Int
def GJ (t:Tm):W:=.tup [.tup (t.1.map .int),.int t.2]
def Du (ts:List Tm):W:=.tup (ts.map GJ)
def Ge (h h':Gh):Prop:=h.nx<=h'.nx/\∀ n,n<h.nx->h'.c n=h.c n
theorem Ge.refl (h:Gh):Ge h h:=⟨Ea _,fun _ _=>rfl⟩
theorem Ge.trans {a b c:Gh}(x:Ge a b)(y:Ge b c):Ge a c:=⟨Eb x.1 y.1,fun n hn=>(y.2 n (Hl hn x.1)).trans (x.2 n hn)⟩
def Pw (ps:List Int):Prop:=∀ p∈ps,0<=p/\p<=60
theorem O4 {i:Int}(c:acf i j)(x:Q (.int (i^j.toNat)) h):Ow (.int i) (.int j) h Q:=⟨c,x⟩
theorem qJ (n:Nat):∀ l:List Int,Jc n (l.map .int)
 | []=>by simp [Jc]
 | x::l=>by rw [Ed,Jc];exact ⟨by simp [Lo],qJ n l⟩
def Lg (ts:List Tm):List (List Int×W):=ts.map fun t=>(t.1,.int t.2)
def qM (ts:List Tm)(k:List Int)(n:Int):List Tm:=if ts.any (fun t=>decide (t.1=k)) then ts.map (fun t=>if t.1=k then (t.1,n) else t) else ts++[(k,n)]
theorem Cz:∀ (ts:List Tm) (k:List Int),zu (Lg ts) k=((ts.find? fun t=>decide (t.1=k)).map fun t=>W.int t.2)
 | [],k=>rfl
 | t::ts,k=>by
  show zu ((t.1,.int t.2)::Lg ts) k=_;rw [Cg,RM,Cz ts k];by_cases e:t.1=k
  ·simp [e]
  ·simp [e]
theorem Zz (ts:List Tm)(k:List Int)(n:Int):VN (Lg ts) k (.int n)=Lg (qM ts k n):=by
 have e:(zu (Lg ts) k).isSome=ts.any fun t=>decide (t.1=k):=by
  rw [Cz,Option.isSome_map,V3,List.find?_isSome,Tt]
 unfold VN qM;rw [e];by_cases c:(ts.any fun t=>decide (t.1=k))=true
 ·rw [if_pos c,if_pos c];unfold Lg;rw [Lb,Lb];refine Tb fun t _=>?_;simp only [Wu];by_cases e:t.1=k
  ·rw [if_pos e,if_pos e]
  ·rw [if_neg e,if_neg e]
 ·rw [if_neg c,if_neg c];simp [Lg]
variable {k : List Int}{t : Tm}
theorem ajf {ts:List Tm}{n:Int}(h:t∈qM ts k n):t∈ts\/t=(k,n):=by
 unfold qM at h;split at h
 ·obtain ⟨u,hu,rfl⟩:=Gs.mp h;by_cases e:u.1=k
  ·rw [if_pos e,e];exact .inr rfl
  ·rw [if_neg e];exact .inl hu
 ·rcases Mr.mp h with h | h
  ·exact .inl h
  ·exact .inr<|K5.mp h
theorem zH (ts:List Tm)(k:List Int)(n:Int):(qM ts k n).length<=ts.length+1:=by
 unfold qM;split
 ·rw [Ec];lia
 ·simp
theorem rC (k:List Int):KC (.tup (k.map .int))=FN k:=by
 show vd (k.map .int)=FN k;induction k with
 | nil=>rfl
 | cons a k ih=>rw [Ed];simp [vd,ih]
variable {x : Int}
theorem Pj {ts:List Tm}{N:Gh->Prop}(e:h.c n=FN (.dtt (Lg ts)))(hz:ts.length<=990)(q:∀ g:Gh,g.c n=FN (.dtt (Lg (qM ts k x)))->(∀ m,m≠n->g.c m=h.c m)->g.nx=h.nx->N g):Fp (.loc n) (.tup (k.map .int)) (.int x) h N:=by
 unfold Fp;rw [rC];dsimp only;rw [e];dsimp only;refine fV.mk (Eb (m:=1000) (by unfold Lg;rw [Ec];lia)<|by decide) ?_;rw [Zz];exact q _ (Ef _ _ _) (fun _ e=>sV e) rfl
theorem aby {ts:List Tm}(e:h.c n=FN (.dtt (Lg ts)))(f:(ts.find? fun t=>decide (t.1=k))=FN t)(q:Q (.int t.2) h):Yo (.loc n) (.tup (k.map .int)) h Q:=by
 unfold Yo;rw [rC];dsimp only;rw [e];dsimp only;rw [Cz,f];exact q
theorem afE (x:∀ g:Gh,g.c h.nx=FN (.dtt (Lg []))->(∀ n,n≠h.nx->g.c n=h.c n)->g.nx=h.nx+1->Q (.loc h.nx) g):U5 Z h Q:=x _ (yK _ _) (fun _ e=>qI e) rfl
theorem zbm (ts:List Tm)(k:List Int)(n:Int)(nd:(ts.map (·.1)).Nodup):((qM ts k n).map (·.1)).Nodup:=by
 unfold qM;split
 ·rw [Lb];have e:(((·.1):Tm->List Int) ∘ fun t:Tm=>if t.1=k then (t.1,n) else t)=(·.1):=by
   funext t;simp only [Wu];split <;> rfl
  rw [e];exact nd
 ·rename_i c;rw [Iu,List.nodup_append];refine ⟨nd,by simp,fun a ha b hb e=>c ?_⟩;simp only [Ed,Mw,K5] at hb;obtain ⟨t,ht,e2⟩:=Gs.mp ha;rw [Tt];exact ⟨t,ht,by simp [e2,e,hb]⟩
def getM (ts:List Tm)(k:List Int):Int:=((ts.find? fun t=>decide (t.1=k)).map (·.2)).getD 0
def xP (ts:List Tm)(k:List Int)(v:Int):List Tm:=qM ts k (getM ts k+v)
def jx (ts:List Tm)(ks:List (List Int)):List Tm:=(ks.map fun k=>(k,getM ts k)).filter fun t=>decide (t.2≠0)
def lin (f:List Int->Int)(ts:List Tm):Int:=(ts.map fun t=>f t.1*t.2).sum
theorem bU (t:Tm)(ts:List Tm)(k:List Int):getM (t::ts) k=if t.1=k then t.2 else getM ts k:=by
 unfold getM;rw [RM];by_cases e:t.1=k
 ·rw [if_pos e,decide_eq_true e];rfl
 ·rw [if_neg e,decide_eq_false e]
theorem zbn (ts us:List Tm)(k:List Int):getM (ts++us) k=if k∈ts.map (·.1) then getM ts k else getM us k:=by
 induction ts with
 | nil=>simp
 | cons t ts ih=>
  rw [W2,bU,bU,ih,Ed];by_cases e:t.1=k
  ·rw [if_pos e,if_pos e,if_pos (by simp [e])]
  ·rw [if_neg e,if_neg e];by_cases m:k∈ts.map (·.1)
   ·rw [if_pos m,if_pos (Jm _ m)]
   ·rw [if_neg m,if_neg (fun q=>by rcases J1.mp q with q | q;exact e q.symm;exact m q)]
theorem getM_none {ts:List Tm}(h:k∉ts.map (·.1)):getM ts k=0:=by
 induction ts with
 | nil=>rfl
 | cons t ts ih=>
  rw [Ed] at h;rw [bU,if_neg (fun e=>h (by simp [e])),ih fun m=>h (Jm _ m)]
theorem jk {ts:List Tm}(nd:(ts.map (·.1)).Nodup)(h:t∈ts):getM ts t.1=t.2:=by
 induction ts with
 | nil=>cases h
 | cons u ts ih=>
  rw [Ed,RN] at nd;rw [bU];rcases J1.mp h with rfl | h
  ·rw [if_pos rfl]
  ·rw [if_neg (fun e=>nd.1 (by rw [e];exact Gs.mpr ⟨t,h,rfl⟩)),ih nd.2 h]
theorem Kh (ts:List Tm)(k:List Int):(ts.any fun t=>decide (t.1=k))=decide (k∈ts.map (·.1)):=by
 rw [V3,Tt,decide_eq_true_iff,Gs];constructor
 ·rintro ⟨t,ht,e⟩;exact ⟨t,ht,by simpa using e⟩
 ·rintro ⟨t,ht,e⟩;exact ⟨t,ht,by simpa using e⟩
theorem get_map (ts:List Tm)(k r:List Int)(n:Int):getM (ts.map fun t=>if t.1=k then (t.1,n) else t) r=if r=k/\k∈ts.map (·.1) then n else getM ts r:=by
 induction ts with
 | nil=>simp [getM]
 | cons t ts ih=>
  rw [Ed,bU,ih,bU,Ed];by_cases e:t.1=k
  ·rw [if_pos e];dsimp only;by_cases q:t.1=r
   ·rw [if_pos q,if_pos ⟨by rw [<-q,e],by simp [e]⟩]
   ·rw [if_neg q,if_neg q,if_neg (fun z=>q (by rw [e,z.1])),if_neg (fun z=>q (by rw [e,z.1]))]
  ·rw [if_neg e];by_cases q:t.1=r
   ·rw [if_pos q,if_pos q,if_neg (fun z=>e (by rw [q,z.1]))]
   ·rw [if_neg q,if_neg q];by_cases m:r=k/\k∈ts.map (·.1)
    ·rw [if_pos m,if_pos ⟨m.1,Jm _ m.2⟩]
    ·rw [if_neg m,if_neg (fun z=>m ⟨z.1,by rcases J1.mp z.2 with y | y;exact absurd y.symm e;exact y⟩)]
theorem yC {ts:List Tm}(n:Int)(h:k∈ts.map (·.1)):qM ts k n=ts.map fun t=>if t.1=k then (t.1,n) else t:=by
 unfold qM;rw [Kh,if_pos (by simpa using h)]
theorem nQ {ts:List Tm}(n:Int)(h:k∉ts.map (·.1)):qM ts k n=ts++[(k,n)]:=by
 unfold qM;rw [Kh,if_neg (by simpa using h)]
theorem Ja (ts:List Tm)(k r:List Int)(n:Int):getM (qM ts k n) r=if r=k then n else getM ts r:=by
 by_cases h:k∈ts.map (·.1)
 ·rw [yC n h,get_map];by_cases q:r=k
  ·rw [if_pos q,if_pos ⟨q,h⟩]
  ·rw [if_neg q,if_neg (fun z=>q z.1)]
 ·rw [nQ n h,zbn];by_cases q:r=k
  ·rw [if_pos q,q,if_neg h,bU,if_pos rfl]
  ·rw [if_neg q];by_cases m:r∈ts.map (·.1)
   ·rw [if_pos m]
   ·rw [if_neg m,bU,if_neg (JD q),getM_none m];rfl
theorem tR (ts:List Tm)(k r:List Int)(v:Int):getM (xP ts k v) r=getM ts r+if r=k then v else 0:=by
 unfold xP;rw [Ja];by_cases q:r=k
 ·rw [if_pos q,if_pos q,q]
 ·rw [if_neg q,if_neg q,Nu]
theorem keys_map (ts:List Tm)(k:List Int)(n:Int):(ts.map fun t=>if t.1=k then (t.1,n) else t).map (·.1)=ts.map (·.1):=by
 rw [Lb];refine Tb fun t _=>?_;simp only [Wu];split <;> rfl
theorem nU (ts:List Tm)(k:List Int)(v:Int):(xP ts k v).map (·.1)=if k∈ts.map (·.1) then ts.map (·.1) else ts.map (·.1)++[k]:=by
 unfold xP;by_cases h:k∈ts.map (·.1)
 ·rw [yC _ h,keys_map,if_pos h]
 ·rw [nQ _ h,if_neg h,Iu];rfl
variable {v : Int}
theorem oM {ts:List Tm}(nd:(ts.map (·.1)).Nodup):((xP ts k v).map (·.1)).Nodup:=zbm ts k _ nd
theorem aQ (f:List Int->Int)(t:Tm)(ts:List Tm):lin f (t::ts)=f t.1*t.2+lin f ts:=by unfold lin;simp
theorem dZ (f:List Int->Int)(ts us:List Tm):lin f (ts++us)=lin f ts+lin f us:=by unfold lin;simp
variable {f : List Int->Int}
theorem Ig {f:List Int->Int}{k:List Int}{n:Int}:∀ {ts:List Tm},(ts.map (·.1)).Nodup->k∈ts.map (·.1)->lin f (ts.map fun t=>if t.1=k then (t.1,n) else t)=lin f ts+f k*(n - getM ts k)
 | t::ts,nd,h=>by
  rw [Ed,RN] at nd;rw [Ed,aQ,aQ,bU];by_cases e:t.1=k
  ·have no:k∉ts.map (·.1):=e ▸ nd.1;have em:(ts.map fun t=>if t.1=k then (t.1,n) else t)=ts:=by
    refine (Tb fun u hu=>?_).trans (List.map_id _);rw [if_neg (fun q=>no (by rw [<-q];exact Gs.mpr ⟨u,hu,rfl⟩))];rfl
   rw [if_pos e,if_pos e,em];dsimp only;rw [e];grind
  ·rw [if_neg e,if_neg e,Ig nd.2 (by rcases J1.mp h with q | q;exact absurd q.symm e;exact q)];lia
theorem vA {ts:List Tm}(nd:(ts.map (·.1)).Nodup):lin f (xP ts k v)=lin f ts+f k*v:=by
 unfold xP;by_cases h:k∈ts.map (·.1)
 ·rw [yC _ h,Ig nd h];grind
 ·rw [nQ _ h,dZ,getM_none h];unfold lin;simp
theorem aha {a b:List Int}(p:a.Perm b):a.sum=b.sum:=by
 induction p with
 | nil=>rfl
 | cons x _ ih=>simp only [Ws,ih]
 | swap x y l=>simp only [Ws];lia
 | trans _ _ ih1 ih2=>exact ih1.trans ih2
theorem lQ (f:List Int->Int):∀ ts:List Tm,lin f (ts.filter fun t=>decide (t.2≠0))=lin f ts
 | []=>rfl
 | t::ts=>by
  rw [TK];by_cases e:t.2=0
  ·rw [if_neg (by simp [e]),lQ f ts,aQ,e];lia
  ·rw [if_pos (by simp [e]),aQ,aQ,lQ f ts]
variable {ks : List (List Int)}{D : List Tm}
theorem Ia (nd:(D.map (·.1)).Nodup)(p:ks.Perm (D.map (·.1))):lin f (jx D ks)=lin f D:=by
 unfold jx;rw [lQ];unfold lin;rw [Lb,aha (p.map _),Lb];congr 1
 refine Tb fun t ht=>?_;simp only [Wu];rw [jk nd ht]
theorem u5:∀ {ks js:List (List Int)},ks.Perm js->ks.Pairwise (· < ·)->js.Pairwise (· < ·)->ks=js
 | [],js,p,_,_=>p.symm.eq_nil.symm
 | a::ks,[],p,_,_=>p.eq_nil
 | a::ks,b::js,p,h1,h2=>by
  have e:a=b:=by
   have ma:a∈b::js:=p.mem_iff.mp (LQ ..);have mb:b∈a::ks:=p.mem_iff.mpr (LQ ..);rcases J1.mp ma with e | ma
   ·exact e
   ·rcases J1.mp mb with e | mb
    ·exact e.symm
    ·exact absurd (List.lt_trans ((SN.mp h1).1 b mb)<|(SN.mp h2).1 a ma)<|YG _
  subst e;rw [u5 (List.Perm.cons_inv p) (SN.mp h1).2 (SN.mp h2).2]
theorem Gf {u:Tm}(nd:(D.map (·.1)).Nodup)(p:∀ k∈ks,k∈D.map (·.1))(h:u∈jx D ks):u∈D/\u.2≠0:=by
 unfold jx at h;obtain ⟨h1,h2⟩:=V5.mp h;obtain ⟨k,hk,rfl⟩:=Gs.mp h1;obtain ⟨t,ht,rfl⟩:=Gs.mp (p k hk);rw [jk nd ht] at h2 |-
 exact ⟨ht,by simpa using h2⟩
theorem za (D:List Tm)(ks:List (List Int)):(jx D ks).length<=ks.length:=by
 unfold jx;exact Eb (List.length_filter_le _ _) (by rw [Ec];exact Ea _)
theorem sZ (h:ks.Pairwise (· < ·)):((jx D ks).map (·.1)).Pairwise (· < ·):=by
 unfold jx;rw [Tv];refine List.Pairwise.filter _ ?_;rw [Tv];exact h
theorem cQ (h:ks.Pairwise (· < ·)):ks.Nodup:=by
 unfold List.Nodup;refine h.imp fun {a b} h e=>?_;rw [e] at h;exact YG _ h
theorem afv (nd:(D.map (·.1)).Nodup)(nz:∀ t∈D,t.2≠0):jx D (D.map (·.1))=D:=by
 unfold jx;rw [Lb];have e:D.map ((fun k=>(k,getM D k)) ∘ (·.1))=D:=(Tb fun t ht=>by simp only [Wu];rw [jk nd ht];rfl).trans (List.map_id _);rw [e];exact List.filter_eq_self.mpr fun t ht=>by simpa using nz t ht
def putD (l:Nat)(x:Int)(ts:List Tm):List Tm:=ts.foldl (fun D t=>xP D (t.1.set l 0) (t.2*x^(t.1.getD l 0).toNat)) []
def fr (l:Nat)(x:Int)(r k:List Int):Int:=if r=k.set l 0 then x^(k.getD l 0).toNat else 0
theorem dG (l:Nat)(x:Int)(ts:List Tm)(t:Tm):putD l x (ts++[t])=xP (putD l x ts) (t.1.set l 0) (t.2*x^(t.1.getD l 0).toNat):=by unfold putD;rw [Vb];rfl
theorem Dq {α : Type}{P:List α->Prop}(h0:P [])(h1:∀ ts t,P ts->P (ts++[t]))(ts:List α):P ts:=by
 have:∀ us:List α,P us.reverse:=fun us=>by
  induction us with
  | nil=>exact h0
  | cons a us ih=>rw [YD];exact h1 _ _ ih
 have:=this ts.reverse
 rwa [List.reverse_reverse] at this
theorem lN (l:Nat)(x:Int)(ts:List Tm):((putD l x ts).map (·.1)).Nodup:=by
 refine Dq (P:=fun ts=>((putD l x ts).map (·.1)).Nodup) Wz (fun ts t ih=>?_) ts;rw [dG];exact oM ih
theorem Ax (l:Nat)(x:Int)(r:List Int)(ts:List Tm):getM (putD l x ts) r=lin (fr l x r) ts:=by
 refine Dq (P:=fun ts=>getM (putD l x ts) r=lin (fr l x r) ts) rfl (fun ts t ih=>?_) ts;rw [dG,tR,dZ,ih];unfold lin fr;simp only [Ed,Mw,Ws,List.sum_nil,Nu];split
 ·rw [WT]
 ·rw [Int.zero_mul]
variable {l : Nat}
theorem pI {ts:List Tm}:∀ k∈(putD l x ts).map (·.1),∃ t∈ts,k=t.1.set l 0:=by
 refine Dq (P:=fun ts=>∀ k∈(putD l x ts).map (·.1),∃ t∈ts,k=t.1.set l 0) (fun _ h=>(nomatch h)) (fun ts t ih k hk=>?_) ts;rw [dG,nU] at hk;have hk:k∈(putD l x ts).map (·.1)\/k=t.1.set l 0:=by
  split at hk
  ·exact .inl hk
  ·rcases Mr.mp hk with hk | hk
   ·exact .inl hk
   ·exact .inr<|K5.mp hk
 rcases hk with hk | hk
 ·obtain ⟨u,hu,e⟩:=ih k hk;exact ⟨u,N7 _ hu,e⟩
 ·exact ⟨t,by simp,hk⟩
theorem uQ (l:Nat)(x:Int)(ts:List Tm):(putD l x ts).length<=ts.length:=by
 refine Dq (P:=fun ts=>(putD l x ts).length<=ts.length) (Ea _) (fun ts t ih=>?_) ts;rw [dG,JC];have:=zH (putD l x ts) (t.1.set l 0) (getM (putD l x ts) (t.1.set l 0)+t.2*x^(t.1.getD l 0).toNat)
 unfold xP;rw [V2];lia
theorem QT {ts:List Tm}(e:h.c n=FN (.dtt (Lg ts)))(m:k∈ts.map (·.1))(q:Q (.int (getM ts k)) h):Yo (.loc n) (.tup (k.map .int)) h Q:=by
 cases f:ts.find? fun t=>decide (t.1=k) with
 | none=>
  obtain ⟨t,ht,e⟩:=Gs.mp m;exact absurd (YX.mp f t ht)<|by simp [e]
 | some t=>
  have eg:getM ts k=t.2:=by unfold getM;rw [f];rfl
  rw [eg] at q;exact aby e f q
variable {L : Nat}
theorem Bf {ts:List Tm}(nd:(ts.map (·.1)).Nodup)(hL:∀ t∈ts,t.1.length=L):Eo (ts.map (·.1)):=by
 intro h2 k hk e;obtain ⟨t,ht,e1⟩:=Gs.mp hk;have L0:L=0:=by rw [<-hL t ht,e1,e];rfl
 have all:∀ k∈ts.map (·.1),k=[]:=fun k hk=>by
  obtain ⟨u,hu,e2⟩:=Gs.mp hk;rw [<-e2];exact RT<|by rw [hL u hu,L0]
 generalize ts.map (·.1)=ks at nd h2 all;match ks,nd,h2,all with
 | a::b::r,nd,_,all=>
  have ea:=all a (by simp);have eb:=all b (by simp);rw [ea,eb] at nd;simp at nd
 | [_],_,h2,_=>simp at h2
 | [],_,h2,_=>simp at h2
def Pv (ps:List Int):Prop:=∀ p∈ps,0<=p/\p<=61
theorem afS (us:List W)(k:Nat):xT us FX (FN (k:Int))=us.take k:=by
 unfold xT;rw [HT.Js,HT.Cv,Wy,Nat.sub_zero];by_cases h:k<=us.length
 ·rw [Nat.min_eq_left h]
 ·rw [Nat.min_eq_right (by lia),LK,Vz (by lia)]
theorem afp (us:List W)(k:Nat):xT us (FN (k:Int)) FX=us.drop k:=by
 unfold xT;rw [HT.Js,HT.Cv];by_cases h:k<=us.length
 ·rw [Nat.min_eq_left h,Vz (by rw [List.length_drop];exact Ea _)]
 ·rw [Nat.min_eq_right (by lia),List.drop_length,List.drop_of_length_le (by lia)];simp
theorem Qz {a b:List W}(hz:a.length+b.length<=1000)(q:Q (.tup (a++b)) h):cA (.tup a) (.tup b) h Q:=by
 cases a with
 | nil=>exact q
 | cons w a=>
  refine fV.mk (Eb (m:=1000) (by simp at hz;lia)<|by decide) ?_;exact q
theorem v7 {Q:Option Int->Gh->Prop}(x:Q FX h):mO Z h Q:=x
theorem agw {ps:List Int}{k:Nat}(h:k<ps.length):J7 (ps.map W.int) (k:Int)=FN (.int (ps.getD k 0)):=
 dh (by rw [Gy,Hy,GK h];rfl)
theorem aey {ps:List Int}{z:Int}(hl:l<ps.length):((ps.map W.int).take l++[.int z])++(ps.map W.int).drop (l+1)=(ps.set l z).map .int:=by
 rw [List.set_eq_take_append_cons_drop,if_pos hl];simp [List.map_take,List.map_drop]
variable {hi lo : Option Int}
theorem Pk (x:Q (.tup (xT ws lo hi)) h):KH (.tup ws) lo hi h Q:=x
theorem abl {ps:List Int}{z:Int}{mz:ME}(hp:ps.length=L)(hl:l<L)(hL:L<=8)(h1:Z[i]?=FN (FN (.tup (ps.map .int))))(h2:Z[1]?=FN (FN (.int (l:Int))))
  (hz:∀ R:WK,R (.int z) h->mz Z h R) (q:Q (.tup ((ps.set l z).map .int)) h) :
  DR cA (DR cA (Ut KH (aB i) mO (qQ (aB 1))) (lO (ao mz aN))) (Ut KH (aB i) (qQ (DR cA (aB 1) (mC (.int 1)))) mO) Z h Q:=by
 refine aF<|aF<|HF<|aj h1<|v7<|jE<|aj h2<|Vf<|Pk ?_
 refine cI<|ak<|hz _<|aA<|bH rfl ?_
 rw [afS];refine Qz (by simp;lia) ?_;refine HF<|aj h1<|jE<|aF<|aj h2<|aU<|cB<|Vf<|v7<|Pk ?_
 have e1:(l:Int)+1=((l+1:Nat):Int):=by lia
 rw [e1];rw [afp];refine Qz (by simp;lia) ?_;rw [aey (by lia)];exact q
theorem Xq {ts:List Tm}(e:h.c n=FN (.dtt (Lg ts)))(q:Q (.int (getM ts k)) h):Fe (.loc n) [.tup (k.map .int),.int 0] h Q:=by
 unfold Fe;dsimp only;rw [e,rC];dsimp only;rw [Cz];have:(((ts.find? fun t=>decide (t.1=k)).map fun t=>W.int t.2).getD (.int 0))=.int (getM ts k):=by
  unfold getM;cases ts.find? fun t=>decide (t.1=k) <;> rfl
 rw [this];exact q
theorem HN {kvs:List (List Int×W)}(e:h.c n=FN (.dtt kvs))(p:P):Gj h (.loc n) P:=by
 unfold Gj;dsimp only;rw [e];exact p
theorem Qp {r:MM}{mo:ME}(x:mo Z h fun x h1=>Gj h1 x (ma Z h1 fun xs h2=>r x xs h2 Q)):aas r mo ma Z h Q:=x
theorem ab4 (n:Nat)(t:Tm):Lo n (GJ t):=by
 unfold GJ;simp only [Lo,Jc];exact ⟨qJ _ _,trivial,trivial⟩
theorem PX (n:Nat):∀ ts:List Tm,Jc n (ts.map GJ)
 | []=>by simp [Jc]
 | t::ts=>by rw [Ed,Jc];exact ⟨ab4 n t,PX n ts⟩
theorem TX (n:Nat)(ts:List Tm):Lo n (Du ts):=by unfold Du;rw [Lo];exact PX n ts
theorem Qk (n:Nat):∀ ss:List (List Tm),Jc n (ss.map Du)
 | []=>by simp [Jc]
 | s::ss=>by rw [Ed,Jc];exact ⟨TX n s,Qk n ss⟩
theorem Jr:∀ l:List Int,kJ (l.map .int) (l.map .int)=true
 | []=>rfl
 | a::l=>by rw [Ed,kJ,Jr l,Gg];simp
theorem aa3 (t:Tm):Gg (GJ t) (GJ t)=true:=by
 unfold GJ;simp only [Gg,kJ,Jr,beq_self_eq_true,Bool.and_self]
theorem Ox:∀ s:List Tm,kJ (s.map GJ) (s.map GJ)=true
 | []=>rfl
 | t::s=>by rw [Ed,kJ,Ox s,aa3];rfl
theorem aaF (n:Nat)(t:Tm):HD (n+3) (GJ t)=true:=by simp [GJ,HD]
theorem EY (n:Nat)(s:List Tm):HD (n+4) (Du s)=true:=by
 unfold Du;rw [HD,Wq];intro w hw;obtain ⟨t,_,rfl⟩:=Gs.mp hw;exact aaF n t
theorem XR (s:List Tm):Gg (Du s) (Du s)=true:=by
 unfold Du;rw [Gg,Ox]
variable {s : List Tm}
theorem ajp (k:Q (.bl false) h):Lh (Du s) (Du s) h Q:=by
 show Jw (HD 30 (Du s)&&HD 30 (Du s)) (Q (.bl (!Gg (Du s) (Du s))) h) False;rw [EY 26,XR];exact k
theorem zbI (k:Q (.bl true) h):Jg (Du s) (Du s) h Q:=by
 show Jw (HD 30 (Du s)&&HD 30 (Du s)) (Q (.bl (Gg (Du s) (Du s))) h) False;rw [EY 26,XR];exact k
theorem ahf {p:List Int}{n:Int}(q:Q (.tup ((p++[n]).map .int)) h)(hz:p.length<=900:=by omega):cA (.tup (p.map .int)) (.tup [.int n]) h Q:=by
 cases p with
 | nil=>exact q
 | cons a p=>
  refine fV.mk (Eb (m:=1000) (by simp at hz |-;lia)<|by decide) ?_;rw [Iu] at q;exact q
def pack (k:List Int):Int:=k.foldl (fun a p=>a*65536+p) 0
def Kb (L:Nat)(k:List Int):Prop:=k.length=L/\∀ p∈k,0<=p/\p<=100
theorem cN (k:List Int)(p:Int):pack (k++[p])=pack k*65536+p:=by unfold pack;rw [Vb];rfl
theorem oh {p:Int}(h:Kb (L+1) (k++[p])):Kb L k/\0<=p/\p<=100:=by
 refine ⟨⟨by have:=h.1;simp at this;lia,fun q hq=>h.2 q<|N7 _ hq⟩,h.2 p<|by simp⟩
theorem jB (h:k.length=L+1):∃ (a:List Int) (p:Int),k=a++[p]:=by
 refine ⟨k.dropLast,k.getLast (by intro e;rw [e] at h;simp at h),?_⟩;exact (List.dropLast_concat_getLast _).symm
theorem fB:∀ {L:Nat} {k l:List Int},Kb L k->Kb L l->pack k=pack l->k=l
 | 0,k,l,h1,h2,_=>by rw [RT h1.1,RT h2.1]
 | L+1,k,l,h1,h2,e=>by
  obtain ⟨a,p,rfl⟩:=jB h1.1;obtain ⟨b,q,rfl⟩:=jB h2.1;obtain ⟨ha,p0,p1⟩:=oh h1;obtain ⟨hb,q0,q1⟩:=oh h2;rw [cN,cN] at e;have e1:pack a=pack b:=by lia
  have e2:p=q:=by lia
  rw [fB ha hb e1,e2]
theorem GF:∀ {a b:List Int} {p q:Int},a.length=b.length->(a++[p]<b++[q]↔a<b\/a=b/\p<q)
 | [],[],p,q,_=>by simp [Vw]
 | [],_::_,_,_,h=>by simp at h
 | _::_,[],_,_,h=>by simp at h
 | x::a,y::b,p,q,h=>by
  have ih:=GF (a:=a) (b:=b) (p:=p) (q:=q) (by simpa using h);rw [W2,W2,Vw,Vw,ih];constructor
  ·rintro (h | ⟨h1,h2 | ⟨h2,h3⟩⟩)
   ·exact .inl<|.inl h
   ·exact .inl<|.inr ⟨h1,h2⟩
   ·exact .inr ⟨by rw [h1,h2],h3⟩
  ·rintro ((h | ⟨h1,h2⟩) | ⟨h1,h2⟩)
   ·exact .inl h
   ·exact .inr ⟨h1,.inl h2⟩
   ·obtain ⟨e1,e2⟩:=Rv h1;exact .inr ⟨e1,.inr ⟨e2,h2⟩⟩
theorem tX:∀ {L:Nat} {k l:List Int},Kb L k->Kb L l->(k<l↔pack k<pack l)
 | 0,k,l,h1,h2=>by
  rw [RT h1.1,RT h2.1];constructor
  ·intro h;exact absurd h (YG _)
  ·intro h;exact absurd h (Int.lt_irrefl _)
 | L+1,k,l,h1,h2=>by
  obtain ⟨a,p,rfl⟩:=jB h1.1;obtain ⟨b,q,rfl⟩:=jB h2.1;obtain ⟨ha,p0,p1⟩:=oh h1;obtain ⟨hb,q0,q1⟩:=oh h2;have ih:=tX ha hb;rw [GF (by rw [ha.1,hb.1]),cN,cN];constructor
  ·rintro (h | ⟨h,h'⟩)
   ·have:=ih.mp h;lia
   ·rw [h];lia
  ·intro h;rcases Int.lt_trichotomy (pack a) (pack b) with c | c | c
   ·exact .inl<|ih.mpr c
   ·exact .inr ⟨fB ha hb c,by lia⟩
   ·lia
def bJ (k l:List Int):List Int:=List.zipWith (· + ·) k l
theorem vG {l:List Int}(h:k.length=l.length):(bJ k l).length=k.length:=by unfold bJ;rw [List.length_zipWith,h,Nat.min_self]
theorem vN:∀ (k l:List Int),bJ k l=bJ l k
 | [],[]=>rfl
 | [],_::_=>rfl
 | _::_,[]=>rfl
 | a::k,b::l=>by
  show (a+b)::bJ k l=(b+a)::bJ l k;rw [vN k l,Int.add_comm]
theorem xZ:∀ {k l:List Int} {p q:Int},k.length=l.length->bJ (k++[p]) (l++[q])=bJ k l++[p+q]
 | [],[],p,q,_=>rfl
 | [],_::_,_,_,h=>by simp at h
 | _::_,[],_,_,h=>by simp at h
 | x::a,y::b,p,q,h=>by
  show (x+y)::bJ (a++[p]) (b++[q])=(x+y)::(bJ a b++[p+q]);rw [xZ (by simpa using h)]
theorem dB:∀ {L:Nat} {k l:List Int},k.length=L->l.length=L->pack (bJ k l)=pack k+pack l
 | 0,k,l,h1,h2=>by rw [RT h1,RT h2];rfl
 | L+1,k,l,h1,h2=>by
  obtain ⟨a,p,rfl⟩:=jB h1;obtain ⟨b,q,rfl⟩:=jB h2;have la:a.length=L:=by simpa using h1
  have lb:b.length=L:=by simpa using h2
  rw [xZ (by rw [la,lb]),cN,cN,cN,dB la lb];lia
theorem tV:∀ {k l:List Int} {p:Int},p∈bJ k l->∃ a∈k,∃ b∈l,p=a+b
 | [],_,_,h=>by simp [bJ] at h
 | _::_,[],_,h=>by simp [bJ] at h
 | a::k,b::l,p,h=>by
  have h:p∈(a+b)::bJ k l:=h;rcases J1.mp h with rfl | h
  ·exact ⟨a,by simp,b,by simp,rfl⟩
  ·obtain ⟨x,hx,y,hy,e⟩:=tV h;exact ⟨x,Jm _ hx,y,Jm _ hy,e⟩
theorem qF:∀ {L:Nat} {k:List Int},Kb L k->0<=pack k/\(pack k).natAbs<2^(16*L)
 | 0,k,h=>by rw [RT h.1];exact ⟨Wf _,by decide⟩
 | L+1,k,h=>by
  obtain ⟨a,p,rfl⟩:=jB h.1;obtain ⟨ha,p0,p1⟩:=oh h;obtain ⟨i0,i1⟩:=qF ha;rw [cN,Nat.mul_succ,Vi];generalize 2^(16*L)=A at *;have:(2:Nat)^16=65536:=rfl
  rw [this];lia
def Hq (k:List Int)(n:Int)(vs:List Tm)(D:List Tm):List Tm:=vs.foldl (fun D s=>xP D (bJ k s.1) (n*s.2)) D
def gF (us vs:List Tm):List Tm:=us.foldl (fun D t=>Hq t.1 t.2 vs D) []
theorem eO (k:List Int)(n:Int)(vs D:List Tm)(s:Tm):Hq k n (vs++[s]) D=xP (Hq k n vs D) (bJ k s.1) (n*s.2):=by unfold Hq;rw [Vb];rfl
theorem dH (us vs:List Tm)(t:Tm):gF (us++[t]) vs=Hq t.1 t.2 vs (gF us vs):=by unfold gF;rw [Vb];rfl
variable {vs : List Tm}
theorem Ii {n:Int}(h:(D.map (·.1)).Nodup):((Hq k n vs D).map (·.1)).Nodup:=by
 refine Dq (P:=fun vs=>((Hq k n vs D).map (·.1)).Nodup) h (fun vs t ih=>?_) vs;rw [eO];exact oM ih
theorem fU (us vs:List Tm):((gF us vs).map (·.1)).Nodup:=by
 refine Dq (P:=fun us=>((gF us vs).map (·.1)).Nodup) Wz (fun us t ih=>?_) us;rw [dH];exact Ii ih
theorem Bm (k:List Int)(n:Int)(vs D:List Tm):(Hq k n vs D).length<=D.length+vs.length:=by
 refine Dq (P:=fun vs=>(Hq k n vs D).length<=D.length+vs.length) (Ea _) (fun vs t ih=>?_) vs;rw [eO,JC,V2];exact Eb (zH ..)<|by lia
theorem uN (us vs:List Tm):(gF us vs).length<=us.length*vs.length:=by
 refine Dq (P:=fun us=>(gF us vs).length<=us.length*vs.length) (Jk _) (fun us t ih=>?_) us;rw [dH,JC,V2,Nat.add_mul,Nat.one_mul];exact Eb (Bm ..)<|by lia
def dl (r k:List Int):Int:=if k=r then 1 else 0
theorem CN (k:List Int)(n:Int)(r:List Int)(D vs:List Tm):getM (Hq k n vs D) r=getM D r+n*lin (fun l=>dl r (bJ k l)) vs:=by
 refine Dq (P:=fun vs=>getM (Hq k n vs D) r=getM D r+n*lin (fun l=>dl r<|bJ k l) vs) (by show getM D r=getM D r+n*0;lia) (fun vs t ih=>?_) vs;rw [eO,tR,dZ,ih];show _=_+n*(_+lin (fun l=>dl r (bJ k l)) [t]);rw [aQ];show _=_+n*(_+(dl r (bJ k t.1)*t.2+0));unfold dl;by_cases c:bJ k t.1=r
 ·rw [if_pos c.symm,if_pos c];grind
 ·rw [if_neg (JD c),if_neg c];grind
theorem jg (r:List Int)(us vs:List Tm):getM (gF us vs) r=lin (fun k=>lin (fun l=>dl r (bJ k l)) vs) us:=by
 refine Dq (P:=fun us=>getM (gF us vs) r=lin (fun k=>lin (fun l=>dl r<|bJ k l) vs) us) rfl (fun us t ih=>?_) us;rw [dH,CN,ih,dZ,aQ];show _=_+(_+0);rw [Nu,WT]
theorem agm (us:List Tm):lin (fun _=>0) us=0:=by
 induction us with
 | nil=>rfl
 | cons t us ih=>rw [aQ,ih];lia
theorem uq (f g:List Int->Int):∀ us:List Tm,lin (fun k=>f k+g k) us=lin f us+lin g us
 | []=>rfl
 | t::us=>by rw [aQ,aQ,aQ,uq f g us];grind
theorem iC (f:List Int->Int)(c:Int):∀ us:List Tm,lin (fun k=>f k*c) us=lin f us*c
 | []=>by show (0:Int)=0*c;lia
 | t::us=>by rw [aQ,aQ,iC f c us];grind
theorem Cd (f:List Int->List Int->Int)(vs:List Tm):∀ us:List Tm,lin (fun k=>lin (fun l=>f k l) vs) us=lin (fun l=>lin (fun k=>f k l) us) vs
 | []=>by show (0:Int)=lin (fun _=>0) vs;rw [agm]
 | t::us=>by
  rw [aQ,Cd f vs us];have e:(fun l=>lin (fun k=>f k l) (t::us))=fun l=>f t.1 l*t.2+lin (fun k=>f k l) us:=by funext l;rw [aQ]
  rw [e,uq,iC]
theorem zar (r:List Int)(us vs:List Tm):getM (gF us vs) r=getM (gF vs us) r:=by
 rw [jg,jg,Cd];have:(fun l=>lin (fun k=>dl r (bJ k l)) us)=fun l=>lin (fun k=>dl r (bJ l k)) us:=by
  funext l;have:(fun k=>dl r (bJ k l))=fun k=>dl r (bJ l k):=by funext k;rw [vN]
  rw [this]
 rw [this]
def iR (D rs:List Tm):Prop:=∃ ks:List (List Int),ks.Perm (D.map (·.1))/\ks.Pairwise (· < ·)/\rs=jx D ks
theorem JV (D:List Tm)(ks:List (List Int)):jx D ks=(ks.filter fun k=>decide (getM D k≠0)).map fun k=>(k,getM D k):=by
 unfold jx;rw [List.filter_map];rfl
variable {rs : List Tm}
theorem iR.same {F qs:List Tm}(e:∀ r,getM D r=getM F r)(a:iR D rs)(b:iR F qs):rs=qs:=by
 obtain ⟨ks,pk,sk,rfl⟩:=a;obtain ⟨js,pj,sj,rfl⟩:=b;rw [JV,JV];have key:(ks.filter fun k=>decide (getM D k≠0))=js.filter fun k=>decide (getM F k≠0):=by
  refine u5 ?_ (sk.filter _)<|sj.filter _
  refine (List.perm_ext_iff_of_nodup ((cQ sk).filter _)<|(cQ sj).filter _).mpr fun r=>?_;rw [V5,V5,decide_eq_true_iff,decide_eq_true_iff,e r];constructor
  ·rintro ⟨_,nz⟩;exact ⟨pj.mem_iff.mpr<|MJ fun no=>nz<|getM_none no,nz⟩
  ·rintro ⟨_,nz⟩;exact ⟨pk.mem_iff.mpr<|MJ fun no=>nz (by rw [<-e r];exact getM_none no),nz⟩
 rw [key];exact Tb fun k _=>by rw [e k]
def Ms (L:Nat)(us:List Tm):Prop:=us.length<=210/\(us.map (·.1)).Pairwise (· < ·)/\∀ t∈us,t.1.length=L/\t.2≠0/\Sm 1000 t.2/\∀ p∈t.1,0<=p/\p<=40
theorem Hi {l:List Int}(hk:k.length=L/\∀ p∈k,0<=p/\p<=40)(hl:l.length=L/\∀ p∈l,0<=p/\p<=40):Kb L (bJ k l):=by
 refine ⟨by rw [vG<|by rw [hk.1,hl.1],hk.1],fun p hp=>?_⟩;obtain ⟨a,ha,b,hb,rfl⟩:=tV hp;have:=hk.2 a ha
 have:=hl.2 b hb
 lia
theorem Gi (ht:t.1.length=L/\∀ p∈t.1,0<=p/\p<=40)(hv:∀ t∈vs,t.1.length=L/\∀ p∈t.1,0<=p/\p<=40)(hD:∀ k∈D.map (·.1),Kb L k):∀ k∈(Hq t.1 t.2 vs D).map (·.1),Kb L k:=by
 revert hv
 refine Dq (P:=fun vs=>(∀ t∈vs,t.1.length=L/\∀ p∈t.1,0<=p/\p<=40)->∀ k∈(Hq t.1 t.2 vs D).map (·.1),Kb L k) (fun _=>hD) (fun vs s ih hv k hk=>?_) vs;rw [eO,nU] at hk;have hk:k∈(Hq t.1 t.2 vs D).map (·.1)\/k=bJ t.1 s.1:=by
  split at hk
  ·exact .inl hk
  ·rcases Mr.mp hk with hk | hk
   ·exact .inl hk
   ·exact .inr<|K5.mp hk
 rcases hk with hk | rfl
 ·exact ih (fun u hu=>hv u<|N7 _ hu) k hk
 ·exact Hi ht<|hv s<|by simp
variable {us : List Tm}
theorem w6 (hu:∀ t∈us,t.1.length=L/\∀ p∈t.1,0<=p/\p<=40)(hv:∀ t∈vs,t.1.length=L/\∀ p∈t.1,0<=p/\p<=40):∀ k∈(gF us vs).map (·.1),Kb L k:=by
 revert hu
 refine Dq (P:=fun us=>(∀ t∈us,t.1.length=L/\∀ p∈t.1,0<=p/\p<=40)->∀ k∈(gF us vs).map (·.1),Kb L k) (fun _ k hk=>by simp [gF] at hk) (fun us t ih hu=>?_) us;rw [dH];exact Gi (hu t<|by simp) hv<|ih fun u h=>hu u<|N7 _ h
def HW (D:List Tm):List (Key×W):=D.map fun t=>(.inl (pack t.1),.int t.2)
theorem uF (hD:∀ j∈D.map (·.1),Kb L j)(hk:Kb L k):nO (HW D) (.inl (pack k))=((D.find? fun t=>decide (t.1=k)).map fun t=>W.int t.2):=by
 unfold nO HW;induction D with
 | nil=>rfl
 | cons t D ih=>
  have ih:=ih fun j hj=>hD j (by rw [Ed];exact Jm _ hj)
  rw [Ed,RM,RM];by_cases c:t.1=k
  ·rw [decide_eq_true c,decide_eq_true (by rw [c])];rfl
  ·rw [decide_eq_false c,decide_eq_false (fun e=>c (fB (hD t.1 (by simp)) hk (Sum.inl.inj e)))];exact ih
theorem ags (hD:∀ j∈D.map (·.1),Kb L j)(hk:Kb L k):(nO (HW D) (.inl (pack k))).getD (.int 0)=.int (getM D k):=by
 rw [uF hD hk];unfold getM;cases D.find? fun t=>decide (t.1=k) <;> rfl
theorem Ih {n:Int}(hD:∀ j∈D.map (·.1),Kb L j)(hk:Kb L k):KD (HW D) (.inl (pack k)) (.int n)=HW (qM D k n):=by
 have ea:((HW D).any fun kv=>decide (kv.1=Sum.inl (pack k)))=D.any fun t=>decide (t.1=k):=by
  unfold HW;rw [List.any_map,V3,Tt,Tt];constructor
  ·rintro ⟨t,ht,e⟩;simp only [Wu,decide_eq_true_iff] at e;exact ⟨t,ht,decide_eq_true<|fB (hD t.1<|Gs.mpr ⟨t,ht,rfl⟩) hk<|Sum.inl.inj e⟩
  ·rintro ⟨t,ht,e⟩;rw [decide_eq_true_iff] at e;exact ⟨t,ht,by simp [e]⟩
 unfold KD qM;rw [ea];by_cases c:(D.any fun t=>decide (t.1=k))=true
 ·rw [if_pos c,if_pos c];unfold HW;rw [Lb,Lb];refine Tb fun t ht=>?_;simp only [Wu];by_cases e:t.1=k
  ·rw [if_pos e,if_pos (by rw [e])]
  ·rw [if_neg e,if_neg (fun z=>e (fB (hD t.1 (Gs.mpr ⟨t,ht,rfl⟩)) hk (Sum.inl.inj z)))]
 ·rw [if_neg c,if_neg c];simp [HW]
theorem Kc:∀ {ks js:List Int},ks.Perm js->ks.Pairwise (· < ·)->js.Pairwise (· < ·)->ks=js
 | [],js,p,_,_=>p.symm.eq_nil.symm
 | a::ks,[],p,_,_=>p.eq_nil
 | a::ks,b::js,p,h1,h2=>by
  have e:a=b:=by
   have ma:a∈b::js:=p.mem_iff.mp (LQ ..);have mb:b∈a::ks:=p.mem_iff.mpr (LQ ..);rcases J1.mp ma with e | ma
   ·exact e
   ·rcases J1.mp mb with e | mb
    ·exact e.symm
    ·have:=(SN.mp h1).1 b mb
     have:=(SN.mp h2).1 a ma
     lia
  subst e;rw [Kc (List.Perm.cons_inv p) (SN.mp h1).2 (SN.mp h2).2]
def Uk (a:List Int):List (List Int)->List (List Int)
 | []=>[a]
 | b::l=>if a<b then a::b::l else b::Uk a l
theorem n6 (a:List Int):∀ l,(Uk a l).Perm (a::l)
 | []=>.refl _
 | b::l=>by
  unfold Uk;split
  ·exact .refl _
  ·exact (List.Perm.cons b<|n6 a l).trans (List.Perm.swap a b l)
theorem Cy {a:List Int}:∀ {l:List (List Int)},l.Pairwise (· < ·)->a∉l->(Uk a l).Pairwise (· < ·)
 | [],_,_=>by simp [Uk]
 | b::l,h,n=>by
  rw [SN] at h;unfold Uk;split
  ·rename_i c;rw [SN];refine ⟨fun x hx=>?_,SN.mpr h⟩;rcases J1.mp hx with rfl | hx
   ·exact c
   ·exact List.lt_trans c<|h.1 x hx
  ·rename_i c;rw [SN];refine ⟨fun x hx=>?_,Cy h.2 fun m=>n<|Jm _ m⟩;rcases J1.mp ((n6 a l).mem_iff.mp hx) with rfl | hx
   ·rcases List.le_iff_lt_or_eq.mp (List.not_lt.mp c) with h | h
    ·exact h
    ·exact absurd (by rw [h];exact LQ ..) n
   ·exact h.1 x hx
theorem Sv:∀ (l:List (List Int)),l.Nodup->∃ ks:List (List Int),ks.Perm l/\ks.Pairwise (· < ·)
 | [],_=>⟨[],.refl _,.nil⟩
 | a::l,nd=>by
  rw [RN] at nd;obtain ⟨ks,p,s⟩:=Sv l nd.2;exact ⟨Uk a ks,(n6 a ks).trans (p.cons a),Cy s fun m=>nd.1<|p.mem_iff.mp m⟩
def PkX (c0:Dr):Prop:=∀ {h:Gh} {k:List Int} {L:Nat} {Q:WK} {E:FQ},Kb L k->L<=8->Q (.int (pack k)) h->c0 [.tup (k.map .int)] h Q E
theorem lJ {b:MS}{D:bK}(hv:Z[i]?=FN (FN (.tup ws)))(x:fK ⟨ws,FX⟩ g b D ws Z h):lA (K1 (aB i)) g b D Z h:=kh (jM (aj hv (yq rfl (kW x))))
theorem Kl (h:Kb L k)(i:Nat):Kb (min i L) (k.take i):=⟨by rw [Lr,h.1],fun p hp=>h.2 p (X4 hp)⟩
theorem Ov:PkX vB:=by
 intro h k L Q E hk hL q;unfold vB;refine dY rfl (Z:=[FN<|.tup<|k.map .int,FX,FX]) rfl<|aG<|aM<|aU ?_
 refine nV<|aZ ?_
 refine aG ?_;refine lJ (ws:=k.map .int) rfl ?_;refine cV (fun i Z h'=>h'=h/\∃ s2:Option W,Z = [FN<|.tup<|k.map .int,FN<|.int<|pack<|k.take i,s2]) ?_ ?_ ⟨rfl,FX,rfl⟩
 ·rintro i w Z h' N hN e ⟨rfl,s2,rfl⟩;obtain ⟨p,ep,rfl⟩:=ints_get e;have sp:=(qF (Kl hk i)).2;have s1:Sm 128 (pack (k.take i)):=Hl sp (Ub (by decide) (by lia));refine nV ?_;refine aM<|aF<|aF<|aj rfl<|aU<|iU (.of s1 (n:=64) (.lit rfl) (by decide)<|by decide)<|aj rfl<|cB ?_
  refine eN (Z':=[FN<|.tup<|k.map .int,FN<|.int<|pack<|k.take<|i+1,FN<|.int p]) ?_<|aZ<|hN _ _ ⟨rfl,_,rfl⟩
  rw [Lz,ep];show _=[FN (W.tup (k.map .int)),FN (.int (pack (k.take i++[p]))),FN (.int p)];rw [cN];rfl
 ·rintro Z h' ⟨rfl,s2,rfl⟩;rw [Ec,LK];unfold sJ;exact aZ<|bC<|aj rfl<|jK q
def UnX (c0:Dr):Prop:=∀ {h:Gh} {k:List Int} {L:Nat} {Q:WK} {E:FQ},Kb L k->L<=8->Q (.tup (k.map .int)) h->c0 [.int (pack k),.int (L:Int)] h Q E
theorem afk (h:Kb L k)(hi:i<L):(pack (k.take (L - i))).fmod 65536=k.getD (L - 1 - i) 0/\(pack (k.take (L - i))).fdiv 65536=pack (k.take (L - (i+1))):=by
 have lk:=h.1;have e1:L - i=(L - 1 - i)+1:=by lia
 have e2:L - (i+1)=L - 1 - i:=by lia
 have ek:k[L - 1 - i]?=FN (k[L - 1 - i]'(by lia)):=GK (by lia);have hb:=h.2 (k[L - 1 - i]'(by lia)) (TQ (by lia));rw [e2,e1,Lz,ek];show (pack (k.take (L - 1 - i)++[k[L - 1 - i]'(by lia)])).fmod 65536=_/\(pack (k.take (L - 1 - i)++[k[L - 1 - i]'(by lia)])).fdiv 65536=_;rw [cN,Hy,ek];have:=(qF (Kl h (L - 1 - i))).1
 rw [Br (by decide),uy (by decide)];constructor
 ·show _=k[L - 1 - i]'(by lia);lia
 ·lia
theorem Z5 {us:List W}(hv:Z[i]?=FN (FN (.loc n)))(e:h.c n=FN (.lst us))(x:Q (.tup us.reverse) h):tY (aB i) Z h Q:=by
 refine aj hv ?_;show (match dF h (.loc n) with
  | some us=>Q (.tup us.reverse) h
  | none=>False)
 rw [oZ e];exact x
def dg (k:List Int)(L i:Nat):List Int:=(LC i).map fun j=>k.getD (L - 1 - j) 0
theorem agV (h:k.length=L):(dg k L L).reverse=k:=by
 have ll:(dg k L L).length=L:=by unfold dg;simp
 refine List.ext_getElem (by rw [List.length_reverse,ll,h]) fun j h1 h2=>?_;rw [List.getElem_reverse];simp only [dg,List.getElem_map,List.getElem_range,Ec,Y8];have:L - 1 - (L - 1 - j)=j:=by lia
 rw [this,Hy,GK h2];rfl
theorem YC:UnX mj:=by
 intro h k L Q E hk hL q;unfold mj;refine jR rfl (Z:=[FN<|.int<|pack k,FN<|.int L,FX,FX]) rfl ?_;refine aG<|aM<|iy (ws:=[]) (fun R=>rfl) rfl fun g eg og xg=>?_
 refine nV<|aZ ?_
 refine aG ?_;refine uW (j:=(L:Int)) (fun _=>rfl) (by lia) (by lia) (fun i Z h'=>i<=L/\∃ s3:Option W,Z = [FN<|.int<|pack<|k.take<|L - i,FN<|.int L,FN<|.loc h.nx,s3]/\h'.c h.nx=FN (.lst<|(dg k L i).map .int)/\∀ n,n≠h.nx->h'.c n=h.c n) ?_ ?_ ⟨Jk _,FX,by rw [Nat.sub_zero,Vz (by rw [hk.1];exact Ea _)],eg,og⟩
 ·rintro i Z h' N hN hi ⟨_,s3,rfl,e2,o2⟩;have hi:i<L:=by lia
  obtain ⟨u1,u2⟩:=afk hk hi;refine nV ?_;refine aG<|cM<|gJ<|aj rfl<|dM e2<|ak<|aF<|aj rfl<|aU<|gW (by decide)<|aA ?_
  refine yc e2 (by rw [Ec];unfold dg;simp;lia) fun g2 a1 a2 a3=>aZ ?_;refine aM<|aF<|aj rfl<|aU<|xU ⟨by decide,64,by decide,.lit rfl⟩ ?_
  rw [u2];refine nV<|aZ ?_
  refine hN _ _ ⟨by lia,_,rfl,?_,fun n hn=>by rw [a2 n hn];exact o2 n hn⟩;rw [a1,u1];unfold dg;rw [YL,Iu,Iu];rfl
 ·rintro Z h' ⟨_,s3,rfl,e2,o2⟩;have eL:(L:Int).toNat=L:=by lia
  rw [eL] at e2;unfold mU;refine aZ<|bC<|Z5 rfl e2 ?_
  rw [<-List.map_reverse,agV hk.1];exact ⟨fun n c hn ec=>by rw [o2 n<|by lia];exact ec,.inl ⟨by rw [Lo];exact qJ _ _,q⟩⟩
def Q8 (t:Tm):W:=.tup [.int (pack t.1),.int t.2]
def PtX (c0:Dr):Prop:=∀ {h:Gh} {us:List Tm} {L:Nat} {Q:WK} {E:FQ},(∀ t∈us,Kb L t.1)->us.length<=1000->L<=8->Q (.lst (us.map Q8)) h->c0 [Du us] h Q E
theorem adT {pk:Dr}(hpk:PkX pk):PtX (fJ pk):=by
 intro h us L Q E hu hz hL q;unfold fJ;refine dY rfl (Z:=[FN<|Du us]) rfl<|bC<|fZ<|jM<|aj rfl<|yq (ws:=us.map GJ) (o:=FX) rfl<|fV.mk (Eb (m:=1000) (by rw [Ec];exact hz)<|by decide) ?_
 refine dW (fun i acc g=>g=h/\acc=(us.take i).map Q8) ?_ ?_ ⟨rfl,rfl⟩
 ·rintro i w acc g N hN e ⟨rfl,rfl⟩;rw [Gy] at e;cases qe:us[i]? with
  | none=>rw [qe] at e;cases e
  | some t=>
   rw [qe] at e;cases e;refine ⟨[.tup<|t.1.map .int,.int t.2],rfl,cJ<|cL<|cI<|ak<|aL<|ak<|aj rfl<|aA ?_⟩;refine hpk (hu t<|Lx qe) hL<|ak<|aj rfl<|aA<|bH rfl<|hN _ _ ⟨rfl,?_⟩
   rw [Lz,qe,Iu];rfl
 ·rintro acc g ⟨rfl,rfl⟩;rw [Ec,LK];exact jK q
theorem Pg (e:h.c n=FN (.dct (HW D)))(hD:∀ j∈D.map (·.1),Kb L j)(m:k∈D.map (·.1))(q:Q (.int (getM D k)) h):Ro (.loc n) (.int (pack k)) h Q:=by
 show (match h.c n with
  | some (.dct kvs)=>(match nO kvs (.inl (pack k)) with
   | some w=>Q w h
   | none=>False)
  | _=>False)
 rw [e];show (match nO (HW D) (.inl (pack k)) with
  | some w=>Q w h
  | none=>False)
 rw [uF hD (hD k m)];cases f:D.find? fun t=>decide (t.1=k) with
 | none=>
  obtain ⟨t,ht,e⟩:=Gs.mp m;exact absurd (YX.mp f t ht)<|by simp [e]
 | some t=>
  have eg:getM D k=t.2:=by unfold getM;rw [f];rfl
  rw [eg] at q;exact q
def itW (t:Tm):W:=.tup [.int (pack t.1),.int t.2]
def acu (c0:Dr):Prop:=∀ {h:Gh} {n:Nat} {D:List Tm} {L:Nat} {Q:WK} {E:FQ},h.c n=FN (.dct (HW D))->(∀ j∈D.map (·.1),Kb L j)->(D.map (·.1)).Nodup->D.length<=30000->(∀ rs,iR D rs->(rs.length<=600->Q (.tup (rs.map itW)) h)/\(600<rs.length->E ⟨"TooMuch",[]⟩ h))->c0 [.loc n] h Q E
def Zx (rs:List Tm):Prop:=∃ t∈rs,∃ p∈t.1,60<p
instance (rs:List Tm):Decidable (Zx rs):=by unfold Zx;infer_instance
def CpX (c0:Dr):Prop:=∀ {h:Gh} {rs:List Tm} {L:Nat} {Q:WK} {E:FQ},(∀ t∈rs,t.1.length=L)->L<=8->rs.length<=600->(¬ Zx rs->Q .non h)->(Zx rs->E ⟨"TooMuch",[]⟩ h)->c0 [Du rs] h Q E
theorem adC:CpX fH:=by
 intro h rs L Q E hl hL hz q1 q2;unfold fH;refine dY rfl (Z:=[FN<|Du rs,FX,FX]) rfl ?_;refine lJ (ws:=rs.map GJ) rfl ?_;refine cV (fun i Z h'=>h'=h/\(∀ t∈rs.take i,∀ p∈t.1,¬ 60<p)/\∃ s1 s2:Option W,Z = [FN<|Du rs,s1,s2]) ?_ ?_ ⟨rfl,fun _ h=>by simp at h,FX,FX,rfl⟩
 ·rintro i w Z h' N hN e ⟨rfl,lo,s1,s2,rfl⟩;rw [Gy] at e;cases qe:rs[i]? with
  | none=>rw [qe] at e;cases e
  | some t=>
   rw [qe] at e;cases e;have mt:=Lx qe;have lt:=hl t mt;refine d9 rfl rfl<|bW<|nV ?_
   refine bW<|nV ?_
   refine iu ?_;refine bL<|fu<|cj<|ak<|fZ<|jM<|aj rfl<|yq (ws:=t.1.map .int) (o:=FX) rfl<|fV.mk (Eb (m:=1000) (by rw [Ec];lia)<|by decide) ?_
   refine dW (fun j acc g=>g=h'/\acc=((t.1.take j).map fun p=>decide<|p>60).map .bl) ?_ ?_ ⟨rfl,rfl⟩
   ·rintro j w acc g N' hN' e' ⟨rfl,rfl⟩;obtain ⟨p,ep,rfl⟩:=ints_get e';refine ⟨[.int p],rfl,cJ<|cL<|aF<|aj rfl<|aU<|xu<|hN' _ _ ⟨rfl,?_⟩⟩;rw [Lz,ep];simp
   ·rintro acc g ⟨rfl,rfl⟩;rw [Ec,LK];refine aA<|BL (us:=(t.1.map fun p=>decide<|p>60).map .bl) (bs:=t.1.map fun p=>decide<|p>60) rfl (zY _)<|Cr rfl ?_
    have ea:(t.1.map fun p=>decide (p>60)).any id=decide (∃ p∈t.1,60<p):=by
     rw [V3,List.any_map,Tt,decide_eq_true_iff];constructor
     ·rintro ⟨p,hp,e⟩;exact ⟨p,hp,by simpa using e⟩
     ·rintro ⟨p,hp,e⟩;exact ⟨p,hp,by simpa using e⟩
    rw [ea];refine pA (fun c=>jj<|q2 ⟨t,mt,c⟩) fun c=>bA<|hN _ _ ⟨rfl,fun u hu p hp h60=>?_,_,_,rfl⟩
    rw [Lz,qe] at hu;rcases Mr.mp hu with hu | hu
    ·exact lo u hu p hp h60
    ·have:u=t:=by simpa using hu
     exact c ⟨p,by rw [<-this];exact hp,h60⟩
 ·rintro Z h' ⟨rfl,lo,s1,s2,rfl⟩;rw [Ec,LK] at lo;exact aZ<|q1 fun ⟨t,ht,p,hp,h60⟩=>lo t ht p hp h60
def Over (us vs rs:List Tm):Prop:=20000<us.length*vs.length\/600<rs.length\/Zx rs
theorem PK {N:Gh->Prop}(e:h.c n=FN (.dct (HW D)))(hD:∀ j∈D.map (·.1),Kb L j)(hk:Kb L k)(hz:D.length<=30000)(q:∀ g:Gh,g.c n=FN (.dct (HW (qM D k x)))->(∀ m,m≠n->g.c m=h.c m)->g.nx=h.nx->N g):G8 (.loc n) (.int (pack k)) (.int x) h N:=by
 show (match h.c n with
  | some (.dct kvs)=>fV (kvs.length+1) (N (h.set n (.dct (KD kvs (.inl (pack k)) (.int x)))))
  | _=>False)
 rw [e];refine fV.mk (Eb (m:=30001) (by unfold HW;rw [Ec];lia)<|by decide) ?_;rw [Ih hD hk];exact q _ (Ef _ _ _) (fun _ e=>sV e) rfl
theorem Qg (e:h.c n=FN (.dct (HW D)))(hD:∀ j∈D.map (·.1),Kb L j)(hk:Kb L k)(q:Q (.int (getM D k)) h):Fx (.loc n) [.int (pack k),.int 0] h Q:=by
 show (match h.c n,(FN (Sum.inl (pack k)):Option Key) with
  | some (.dct kvs),FN k=>Q ((nO kvs k).getD (.int 0)) h
  | _,_=>False)
 rw [e];show Q ((nO (HW D) (.inl (pack k))).getD (.int 0)) h;rw [ags hD hk];exact q
theorem zN {kvs:List (Key×W)}(e:h.c n=FN (.dct kvs))(p:P):Es h (.loc n) P:=by
 unfold Es;dsimp only;rw [e];exact p
theorem JH {r:MM}{mo:ME}(x:mo Z h fun x h1=>Es h1 x (ma Z h1 fun xs h2=>r x xs h2 Q)):V0 r mo ma Z h Q:=x
theorem zbw (x:∀ g:Gh,g.c h.nx=FN (.dct (HW []))->(∀ n,n≠h.nx->g.c n=h.c n)->g.nx=h.nx+1->Q (.loc h.nx) g):UJ Z h Q:=x _ (yK _ _) (fun _ e=>qI e) rfl
theorem zav (e:us[i]?=FN t):gF (us.take (i+1)) vs=Hq t.1 t.2 vs (gF (us.take i) vs):=by
 rw [Lz,e];exact dH ..
theorem aez {n:Int}{s:Tm}(e:vs[i]?=FN s):Hq k n (vs.take (i+1)) D=xP (Hq k n (vs.take i) D) (bJ k s.1) (n*s.2):=by
 rw [Lz,e];exact eO ..
theorem Ms.kb (h:Ms L us):∀ t∈us,t.1.length=L/\∀ p∈t.1,0<=p/\p<=40:=fun t ht=>⟨(h.2.2 t ht).1,(h.2.2 t ht).2.2.2⟩
theorem iR.facts (hD:∀ k∈D.map (·.1),Kb L k)(nd:(D.map (·.1)).Nodup)(a:iR D rs):(∀ t∈rs,Kb L t.1/\t.2≠0)/\(rs.map (·.1)).Pairwise (· < ·):=by
 obtain ⟨ks,pk,sk,rfl⟩:=a;refine ⟨fun t ht=>?_,sZ sk⟩;have:=Gf nd (fun k hk=>pk.mem_iff.mp hk) ht
 exact ⟨hD t.1<|Gs.mpr ⟨t,this.1,rfl⟩,this.2⟩
theorem CT:∀ us:List Tm,nA (us.map GJ)=FN (Lg us)
 | []=>rfl
 | t::us=>by
  show (match KC (.tup (t.1.map W.int)) with
   | some ks=>(nA (us.map GJ)).map ((ks,W.int t.2)::·)
   | none=>FX)=_
  rw [rC,CT us];rfl
theorem agR (nd:(us.map (·.1)).Nodup)(x:∀ g:Gh,g.c h.nx=FN (.dtt (Lg us))->(∀ n,n≠h.nx->g.c n=h.c n)->g.nx=h.nx+1->Q (.loc h.nx) g):Bl [Du us] h Q:=by
 show (match nA (us.map GJ) with
  | some ps=>(ps.map (·.1)).Nodup/\Q (.loc h.nx) (h.new (.dtt ps))
  | none=>False)
 rw [CT];refine ⟨?_,x _ (yK _ _) (fun _ e=>qI e) rfl⟩;have:(Lg us).map (·.1)=us.map (·.1):=by unfold Lg;rw [Lb];rfl
 rw [this];exact nd
theorem QJ {h':Gh}(keep:∀ n,n<h.nx->h'.c n=h.c n)(q:Q (Du us) h):wQ true h (Du us) h' Q:=
 ⟨fun n c hn ec=>by rw [keep n hn];exact ec,.inl ⟨TX _ _,q⟩⟩
def jF (f:Int)(us vs:List Tm):List Tm:=vs.foldl (fun D t=>xP D t.1 (f*t.2)) us
theorem gj (f:Int)(us vs:List Tm)(t:Tm):jF f us (vs++[t])=xP (jF f us vs) t.1 (f*t.2):=by unfold jF;rw [Vb];rfl
theorem fP {f:Int}(h:(us.map (·.1)).Nodup):((jF f us vs).map (·.1)).Nodup:=by
 refine Dq (P:=fun vs=>((jF f us vs).map (·.1)).Nodup) h (fun vs t ih=>?_) vs;rw [gj];exact oM ih
theorem tM (f:Int)(us vs:List Tm):(jF f us vs).length<=us.length+vs.length:=by
 refine Dq (P:=fun vs=>(jF f us vs).length<=us.length+vs.length) (Ea _) (fun vs t ih=>?_) vs;rw [gj,JC,V2];exact Eb (zH ..)<|by lia
theorem agv (f:Int)(us:List Tm)(r:List Int)(vs:List Tm):getM (jF f us vs) r=getM us r+f*lin (fun k=>if k=r then 1 else 0) vs:=by
 refine Dq (P:=fun vs=>getM (jF f us vs) r=getM us r+f*lin (fun k=>if k=r then 1 else 0) vs) (by show getM us r=getM us r+f*0;lia) (fun vs t ih=>?_) vs;rw [gj,tR,dZ,ih];unfold lin;simp only [Ed,Mw,Ws,List.sum_nil,Nu];by_cases c:t.1=r
 ·rw [if_pos c.symm,if_pos c];grind
 ·rw [if_neg (JD c),if_neg c];grind
variable {r : List Int}
theorem IK {r:List Int}:∀ {vs:List Tm},(vs.map (·.1)).Nodup->lin (fun k=>if k=r then 1 else 0) vs=getM vs r
 | [],_=>rfl
 | t::vs,nd=>by
  rw [Ed,RN] at nd;rw [aQ,bU,IK nd.2];by_cases c:t.1=r
  ·rw [if_pos c,if_pos c,getM_none (c ▸ nd.1)];lia
  ·rw [if_neg c,if_neg c];lia
theorem pU {f:Int}:∀ k∈(jF f us vs).map (·.1),k∈us.map (·.1)\/k∈vs.map (·.1):=by
 refine Dq (P:=fun vs=>∀ k∈(jF f us vs).map (·.1),k∈us.map (·.1)\/k∈vs.map (·.1)) (fun k h=>.inl h) (fun vs t ih k hk=>?_) vs;rw [gj,nU] at hk;rw [Iu,Mr];have hk:k∈(jF f us vs).map (·.1)\/k=t.1:=by
  split at hk
  ·exact .inl hk
  ·rcases Mr.mp hk with hk | hk
   ·exact .inl hk
   ·exact .inr<|K5.mp hk
 rcases hk with hk | hk
 ·rcases ih k hk with h | h
  ·exact .inl h
  ·exact .inr<|.inl h
 ·exact .inr<|.inr<|by simp [hk]
def Ls (L:Nat)(us:List Tm):Prop:=us.length<=400/\(us.map (·.1)).Pairwise (· < ·)/\∀ t∈us,t.1.length=L/\t.2≠0/\Sm 2000 t.2
theorem ajc {f:Int}(hu:Ls L us)(hv:Ls L vs):∀ t∈jF f us vs,t.1.length=L:=fun t ht=>by
 rcases pU t.1 (Gs.mpr ⟨t,ht,rfl⟩) with h | h
 ·obtain ⟨u,h1,h2⟩:=Gs.mp h;rw [<-h2];exact (hu.2.2 u h1).1
 ·obtain ⟨u,h1,h2⟩:=Gs.mp h;rw [<-h2];exact (hv.2.2 u h1).1
def aau (c0:Dr):Prop:=∀ {h:Gh} {n:Nat} {ts:List Tm} {Q:WK} {E:FQ},h.c n=FN (.dtt (Lg ts))->ts.length<=1000->Eo (ts.map (·.1))->(∀ ks:List (List Int),ks.Perm (ts.map (·.1))->ks.Pairwise (· < ·)->((jx ts ks).length<=600->Q (Du (jx ts ks)) h)/\(600<(jx ts ks).length->E ⟨"TooMuch",[]⟩ h))->c0 [.loc n] h Q E
theorem afg (hv:Z[0]?=FN (FN (.loc n)))(ec:h.c n=FN (.dct (HW D)))(hD:∀ j∈D.map (·.1),Kb L j)(nd:(D.map (·.1)).Nodup)(hz:D.length<=30000)
  (q:∀ rs,iR D rs->Q (.lst (rs.map itW)) h) :
  Jy Np [0] (K1 (Hu Al (ao (aB 0) aN))) (bO (DR Lh (DR RP (aB 1) (aB 0)) (mC (.int 0)))) (lO (ao (aB 0) (ao (DR RP (aB 1) (aB 0)) aN))) Z h Q:=by
 have eb:pY [0] Z = [FN (.loc n)]:=by unfold pY;rw [Ed,hv];rfl
 refine fZ<|jM<|cj<|ak<|aj hv<|aA<|Or.inr ?_
 show (match h.c n with
  | some (.dct kvs)=>∃ ks:List Int,xr kvs ks/\∀ js:List Int,js.Perm ks->js.Pairwise (· < ·)->_
  | _=>False)
 rw [ec];refine ⟨(D.map (·.1)).map pack,by unfold xr HW;rw [Lb,Lb,Lb];rfl,fun js pj sj=>?_⟩;obtain ⟨ks,pk,sk⟩:=Sv (D.map (·.1)) nd;have ej:js=ks.map pack:=by
  refine Kc (pj.trans (pk.map pack).symm) sj ?_;rw [Tv];exact List.Pairwise.imp_of_mem (fun {a b} ha hb h=>(tX (hD a<|pk.mem_iff.mp ha)<|hD b<|pk.mem_iff.mp hb).mp h) sk
 subst ej;have q:=q _ ⟨ks,pk,sk,rfl⟩;have lk:ks.length=D.length:=by rw [pk.length_eq,Ec]
 refine yq (ws:=(ks.map pack).map .int) (o:=FX) rfl<|fV.mk (Eb (m:=30000) (by rw [Ec,Ec];lia)<|by decide) ?_
 refine dW (fun i acc h'=>h'=h/\acc=(jx D<|ks.take i).map itW) ?_ ?_ ⟨rfl,rfl⟩
 ·rintro i w acc h' N hN e ⟨rfl,rfl⟩;rw [Lb,Gy] at e;cases qe:ks[i]? with
  | none=>rw [qe] at e;cases e
  | some k=>
   rw [qe] at e;cases e;have mk:=pk.mem_iff.mp (Lx qe);refine ⟨[.int<|pack k],rfl,?_⟩;rw [eb];have eo:jx D (ks.take (i+1))=jx D (ks.take i)++([(k,getM D k)].filter fun t:Tm=>decide (t.2≠0)):=by
    unfold jx;rw [Lz,qe,Iu,List.filter_append];rfl
   refine aW<|aF<|aF<|aj rfl<|aj rfl<|Or.inr<|Pg ec hD mk<|aU<|qR<|jc ?_
   refine XD (fun ne=>?_) fun ne=>?_
   ·refine cI<|ak<|aj rfl<|ak<|aF<|aj rfl<|aj rfl<|Or.inr<|Pg ec hD mk<|aA<|bH rfl ?_
    refine hN _ _ ⟨rfl,?_⟩;rw [eo,TK,if_pos (by simpa using ne),Iu];rfl
   ·refine hN _ _ ⟨rfl,?_⟩;rw [eo,TK,if_neg (by simpa using ne)];simp
 ·rintro acc h' ⟨rfl,rfl⟩;rw [Ec,Ec,LK];exact q
theorem zbs:acu cG:=by
 intro h n D L Q E ec hD nd hz q;unfold cG;refine dY rfl (Z:=[FN<|.loc n,FX]) rfl<|aG<|aM<|cj<|ak<|afg rfl ec hD nd hz fun rs hr=>aA<|ji ?_
 obtain ⟨q1,q2⟩:=q rs hr;refine nV<|aZ ?_
 refine aG<|bL<|aW<|aF<|cj<|ak<|aj rfl<|aA<|gY (xs:=rs.map itW) rfl ?_
 rw [Ec];refine aU<|xu<|jc<|pA (fun c=>jj<|q2<|by lia) fun c=>bA<|aZ ?_
 unfold c7;exact bC<|aj rfl<|jK<|q1<|by lia
theorem agg {ts:List Tm}(hv:Z[0]?=FN (FN (.loc n)))(ec:h.c n=FN (.dtt (Lg ts)))(hz:ts.length<=1000)(hs:Eo (ts.map (·.1)))
  (q:∀ ks:List (List Int),ks.Perm (ts.map (·.1))->ks.Pairwise (· < ·)->Q (.lst ((jx ts ks).map GJ)) h) :
  Jy Np [0] (K1 (Hu Al (ao (aB 0) aN))) (bO (DR Lh (DR RP (aB 1) (aB 0)) (mC (.int 0)))) (lO (ao (aB 0) (ao (DR RP (aB 1) (aB 0)) aN))) Z h Q:=by
 have eb:pY [0] Z = [FN (.loc n)]:=by unfold pY;rw [Ed,hv];rfl
 refine fZ<|jM<|cj<|ak<|aj hv<|aA<|Or.inl ?_
 show (match h.c n with
  | some (.dtt kvs)=>Eo (kvs.map (·.1))/\∀ ks:List (List Int),ks.Perm (kvs.map (·.1))->ks.Pairwise (· < ·)->_
  | _=>False)
 rw [ec];have ek:(Lg ts).map (·.1)=ts.map (·.1):=by unfold Lg;rw [Lb];rfl
 refine ⟨by rw [ek];exact hs,fun ks pk sk=>?_⟩;rw [ek] at pk;have q:=q ks pk sk;have lk:ks.length=ts.length:=by rw [pk.length_eq,Ec]
 refine yq (ws:=ks.map fun k=>.tup<|k.map .int) (o:=FX) rfl<|fV.mk (Eb (m:=1000) (by rw [Ec];lia)<|by decide) ?_
 refine dW (fun i acc h'=>h'=h/\acc=(jx ts<|ks.take i).map GJ) ?_ ?_ ⟨rfl,rfl⟩
 ·rintro i w acc h' N hN e ⟨rfl,rfl⟩;rw [Gy] at e;cases qe:ks[i]? with
  | none=>rw [qe] at e;cases e
  | some k=>
   rw [qe] at e;cases e;have mk:=pk.mem_iff.mp (Lx qe);refine ⟨[.tup<|k.map .int],rfl,?_⟩;rw [eb];have eo:jx ts (ks.take (i+1))=jx ts (ks.take i)++([(k,getM ts k)].filter fun t:Tm=>decide (t.2≠0)):=by
    unfold jx;rw [Lz,qe,Iu,List.filter_append];rfl
   refine aW<|aF<|aF<|aj rfl<|aj rfl<|Or.inl<|QT ec mk<|aU<|qR<|jc ?_
   refine XD (fun ne=>?_) fun ne=>?_
   ·refine cI<|ak<|aj rfl<|ak<|aF<|aj rfl<|aj rfl<|Or.inl<|QT ec mk<|aA<|bH rfl ?_
    refine hN _ _ ⟨rfl,?_⟩;rw [eo,TK,if_pos (by simpa using ne),Iu];rfl
   ·refine hN _ _ ⟨rfl,?_⟩;rw [eo,TK,if_neg (by simpa using ne)];simp
 ·rintro acc h' ⟨rfl,rfl⟩;rw [Ec,LK];exact q
theorem aiL:aau cG:=by
 intro h n ts Q E ec hz hs q;unfold cG;refine dY rfl (Z:=[FN<|.loc n,FX]) rfl<|aG<|aM<|cj<|ak<|agg rfl ec hz hs fun ks pk sk=>aA<|ji ?_
 obtain ⟨q1,q2⟩:=q ks pk sk;refine nV<|aZ ?_
 refine aG<|bL<|aW<|aF<|cj<|ak<|aj rfl<|aA<|gY (xs:=(jx ts ks).map GJ) rfl ?_
 rw [Ec];refine aU<|xu<|jc<|pA (fun c=>jj<|q2<|by lia) fun c=>bA<|aZ ?_
 unfold c7;exact bC<|aj rfl<|jK<|q1<|by lia
def acy (f:Int)(us vs rs:List Tm):Prop:=∃ ks:List (List Int),ks.Perm ((jF f us vs).map (·.1))/\ks.Pairwise (· < ·)/\rs=jx (jF f us vs) ks
def WhX (c0:Dr):Prop:=∀ {h:Gh} {us vs:List Tm} {f:Int} {L:Nat} {Q:WK} {E:FQ},Ls L us->Ls L vs->Sm 64 f->(∀ rs,acy f us vs rs->(rs.length<=600->Q (Du rs) h)/\(600<rs.length->∀ h':Gh,E ⟨"TooMuch",[]⟩ h'))->c0 [Du us,Du vs,.int f] h Q E
theorem zaw {f:Int}(e:vs[i]?=FN t):jF f us (vs.take (i+1))=xP (jF f us (vs.take i)) t.1 (f*t.2):=by
 rw [Lz,e];exact gj ..
theorem adb {so:Dr}(hso:aau so):WhX (iJ so):=by
 intro h us vs f L Q E hu hv sf q;have lu:=hu.1;have lv:=hv.1;unfold iJ;refine jR rfl (Z:=[FN<|Du us,FN<|Du vs,FN<|.int f,FX,FX,FX]) rfl<|aG<|aM<|cj<|ak<|aj rfl<|aA<|agR (cQ hu.2.1) fun g eg og xg=>?_
 refine nV<|aZ ?_
 refine aG ?_;refine lJ (ws:=vs.map GJ) rfl ?_;refine cV (fun i Z h'=>∃ s4 s5:Option W,Z = [FN<|Du us,FN<|Du vs,FN<|.int f,FN<|.loc h.nx,s4,s5]/\h'.c h.nx=FN (.dtt<|Lg<|jF f us<|vs.take i)/\∀ n,n≠h.nx->h'.c n=h.c n) ?_ ?_ ⟨FX,FX,rfl,eg,og⟩
 ·rintro i w Z h' N hN e ⟨s4,s5,rfl,e2,o2⟩;rw [Gy] at e;cases qe:vs[i]? with
  | none=>rw [qe] at e;cases e
  | some t=>
   rw [qe] at e;cases e;have ld:=tM f us (vs.take i);rw [Lr] at ld;refine d9 rfl rfl<|bW<|nV ?_
   refine bW<|nV ?_
   refine iu ?_;refine aM<|aF<|Qp<|aj rfl<|HN e2<|ak<|aj rfl<|ak<|aU<|aA<|Xq e2 ?_
   refine aF<|aj rfl<|aj rfl<|iU (.of sf (hv.2.2 t<|Lx qe).2.2 (by decide) (by decide))<|cB<|qw<|aj rfl<|aj rfl ?_
   refine Pj e2 (by lia) fun g2 a1 a2 a3=>aZ<|hN _ _ ⟨_,_,rfl,?_,fun n hn=>by rw [a2 n hn];exact o2 n hn⟩
   rw [zaw qe];exact a1
 ·rintro Z h' ⟨s4,s5,rfl,e2,o2⟩;rw [Ec,LK] at e2;unfold jt;refine aZ<|bC<|aL<|ak<|aj rfl<|aA ?_
  refine hso e2 (Eb (tM f us vs)<|by lia) (Bf (L:=L) (fP<|cQ hu.2.1)<|ajc hu hv) fun ks pk sk=>?_;obtain ⟨q1,q2⟩:=q _ ⟨ks,pk,sk,rfl⟩;exact ⟨fun l=>QJ (fun n hn=>o2 n<|by lia)<|q1 l,fun l=>q2 l h'⟩
def SX (f:Int)(c0:Dr):Prop:=∀ {h:Gh} {us vs:List Tm} {L:Nat} {Q:WK} {E:FQ},Ls L us->Ls L vs->(∀ rs,acy f us vs rs->(rs.length<=600->Q (Du rs) h)/\(600<rs.length->∀ h':Gh,E ⟨"TooMuch",[]⟩ h'))->c0 [Du us,Du vs] h Q E
variable {wt : Dr}
theorem Zh (hwt:WhX wt):SX 1 (Iw wt):=by
 intro h us vs L Q E hu hv q;unfold Iw;exact dY rfl (Z:=[FN<|Du us,FN<|Du vs]) rfl<|bC<|aL<|ak<|aj rfl<|ak<|aj rfl<|ak<|aU<|aA<|hwt hu hv (.lit rfl) q
theorem zbS (hwt:WhX wt):SX (-1) (yU wt):=by
 intro h us vs L Q E hu hv q;unfold yU;exact dY rfl (Z:=[FN<|Du us,FN<|Du vs]) rfl<|bC<|aL<|ak<|aj rfl<|ak<|aj rfl<|ak<|lB<|aU<|gU<|aA<|hwt hu hv (.lit rfl) q
theorem Bw {b:MS}{D:bK}(hv:Z[i]?=FN (FN (.lst ws)))(x:fK ⟨ws,FX⟩ g b D ws Z h):lA (K1 (aB i)) g b D Z h:=kh (jM (aj hv (yq rfl (kW x))))
theorem Qu {l:List W}:J7 (w::l) 0=FN w:=by
 unfold J7 NQ;simp
theorem lets (hv:Z[0]?=FN (FN (Du us)))(hl:∀ t∈us,t.1.length=L)(q:∀ l:Nat,(us≠[]->l=L)->Q (.int l) h):
  mIf (yu (aB 0)) (Hu Ji (ao (DR Fi (DR Fi (aB 0) (mC (.int 0))) (mC (.int 0))) aN)) (mC (.int 0)) Z h Q:=by
 cases us with
 | nil=>exact Jt (fu (aj hv (Cr (b:=false) rfl (qU (aU (q 0 fun n=>absurd rfl n))))))
 | cons t us=>
  refine Jt<|fu<|aj hv<|Cr (b:=true) rfl<|nH<|cj<|ak<|aF<|aF<|aj hv<|aU<|bM (ws:=(t::us).map GJ) rfl (w:=GJ t) (by rw [Ed];exact Qu)<|aU<|bM (ws:=[.tup<|t.1.map .int,.int t.2]) rfl (w:=.tup (t.1.map .int)) Qu<|aA<|gY (xs:=t.1.map .int) rfl ?_
  rw [Ec];exact q _ fun _=>hl t<|by simp
theorem adL {un:Dr}{E0:FQ}(hun:UnX un)(hv:Z[10]?=FN (FN (.tup (rs.map itW))))(hv9:Z[9]?=FN (FN (.int l)))(hr:∀ t∈rs,Kb L t.1)(hl:rs≠[]->l=L)(hL:L<=8)(hz:rs.length<=600)(q:Q (.lst (rs.map GJ)) h):
  Jy (RZ 2) [9] (K1 (aB 10)) ou (lO (ao (bf un E0 (ao (aB 0) (ao (aB 2) aN))) (ao (aB 1) aN))) Z h Q:=by
 have eb:pY [9] Z = [FN (.int l)]:=by unfold pY;rw [Ed,hv9];rfl
 refine fZ<|jM<|aj hv<|yq (ws:=rs.map itW) (o:=FX) rfl<|fV.mk (Eb (m:=1000) (by rw [Ec];lia)<|by decide) ?_
 refine dW (fun i acc g=>g=h/\acc=(rs.take i).map GJ) ?_ ?_ ⟨rfl,rfl⟩
 ·rintro i w acc g N hN e ⟨rfl,rfl⟩;rw [Gy] at e;cases qe:rs[i]? with
  | none=>rw [qe] at e;cases e
  | some t=>
   rw [qe] at e;cases e;have mt:=Lx qe;have el:=hl (List.ne_nil_of_mem mt);subst el;refine ⟨[.int<|pack t.1,.int t.2],rfl,?_⟩;rw [eb];refine cJ<|cL<|cI<|ak<|aL<|ak<|aj rfl<|ak<|aj rfl<|aA ?_
   refine hun (hr t mt) hL<|ak<|aj rfl<|aA<|bH rfl<|hN _ _ ⟨rfl,?_⟩
   rw [Lz,qe,Iu];rfl
 ·rintro acc g ⟨rfl,rfl⟩;rw [Ec,LK];exact q
def VG (c0:Dr):Prop:=∀ {h:Gh} {us vs:List Tm} {L:Nat} {Q:WK} {E:FQ},Ms L us->Ms L vs->L<=8->(∀ rs,iR (gF us vs) rs->(¬ Over us vs rs->Q (Du rs) h)/\(Over us vs rs->∀ h':Gh,E ⟨"TooMuch",[]⟩ h'))->c0 [Du us,Du vs] h Q E
abbrev ht (us vs:List Tm)(h:Gh)(r:Sw):Sw:=FN (Du us)::FN (Du vs)::FN (.loc h.nx)::FN (.lst (vs.map Q8))::r
theorem agQ {so un pt cp:Dr}(hso:acu so)(hun:UnX un)(hpt:PtX pt)(hcp:CpX cp):VG (yx so un pt cp):=by
 intro h us vs L Q E hu hv hL q;have lu:=hu.1;have lv:=hv.1;have ku:=hu.kb;have kv:=hv.kb;have kbu:∀ t∈us,Kb L t.1:=fun t ht=>⟨(ku t ht).1,fun p hp=>by have:=(ku t ht).2 p hp;lia⟩
 have kbv:∀ t∈vs,Kb L t.1:=fun t ht=>⟨(kv t ht).1,fun p hp=>by have:=(kv t ht).2 p hp;lia⟩
 have kD:=w6 ku kv;obtain ⟨ks,pk,sk⟩:=Sv _ (fU us vs);have hO:iR (gF us vs) (jx (gF us vs) ks):=⟨ks,pk,sk,rfl⟩
 unfold yx;refine jR rfl (Z:=[FN<|Du us,FN<|Du vs,FX,FX,FX,FX,FX,FX,FX,FX,FX,FX]) rfl ?_;refine aG<|bL<|aW<|aF<|aF<|cj<|ak<|aj rfl<|aA<|gY (xs:=us.map GJ) rfl<|cj<|ak<|aj rfl<|aA<|gY (xs:=vs.map GJ) rfl ?_
 rw [Ec,Ec];refine iU (.of (n:=8) (m:=8) (by unfold Sm;show (us.length:Int).natAbs<256;lia) (by unfold Sm;show (vs.length:Int).natAbs<256;lia) (by decide)<|by decide)<|aU<|xu<|jc ?_
 have em:(us.length:Int)*(vs.length:Int)=((us.length*vs.length:Nat):Int):=by rw [Int.natCast_mul]
 rw [em];generalize ez:us.length*vs.length=z;refine pA (fun c=>jj<|(q _ hO).2 (.inl<|by lia) _) fun c=>bA<|aZ ?_
 have hz:us.length*vs.length<=20000:=by lia
 unfold xM;refine aG<|aM<|zbw fun g eg og xg=>?_
 refine nV<|aZ ?_
 refine aG<|aM<|aL<|ak<|aj rfl<|aA<|hpt kbv (by lia) hL ?_
 refine nV<|aZ ?_
 refine aG<|kh<|jM<|aL<|ak<|aj rfl<|aA<|hpt kbu (by lia) hL<|yq (ws:=us.map Q8) (o:=FX) rfl<|kW ?_
 refine cV (fun i Z h'=>∃ s4 s5 s6 s7 s8:Option W,Z = ht us vs h [s4,s5,s6,s7,s8,FX,FX,FX]/\h'.c h.nx=FN (.dct<|HW<|gF (us.take i) vs)/\h'.nx=h.nx+1/\∀ n,n≠h.nx->h'.c n=h.c n) ?_ ?_ ⟨FX,FX,FX,FX,FX,rfl,eg,xg,og⟩
 ·rintro i w Z h' N hN e ⟨s4,s5,s6,s7,s8,rfl,e2,x2,o2⟩;rw [Gy] at e;cases qe:us[i]? with
  | none=>rw [qe] at e;cases e
  | some t=>
   rw [qe] at e;cases e;have mt:=Lx qe;have zi:(us.take i).length*vs.length<=20000:=Eb (Xh _ (by rw [Lr];lia)) hz;have ldi:=Eb (uN (us.take i) vs) zi;have kDi:∀ k∈(gF (us.take i) vs).map (·.1),Kb L k:=w6 (fun u hu=>ku u (X4 hu)) kv
   refine d9 rfl rfl<|bW<|nV ?_
   refine bW<|nV ?_
   refine iu ?_;refine Bw (ws:=vs.map Q8) rfl ?_;refine cV (fun j Z h'=>∃ s6 s7 s8:Option W,Z = ht us vs h [FN<|.int<|pack t.1,FN<|.int t.2,s6,s7,s8,FX,FX,FX]/\h'.c h.nx=FN (.dct<|HW<|Hq t.1 t.2 (vs.take j)<|gF (us.take i) vs)/\h'.nx=h.nx+1/\∀ n,n≠h.nx->h'.c n=h.c n) ?_ ?_ ⟨s6,s7,s8,rfl,e2,x2,o2⟩
   ·rintro j w Z h2 N2 hN2 e' ⟨s6,s7,s8,rfl,e3,x3,o3⟩;rw [Gy] at e';cases qf:vs[j]? with
    | none=>rw [qf] at e';cases e'
    | some s=>
     rw [qf] at e';cases e'
     have ms:=Lx qf;have kDj:=Gi (t:=t) (vs:=vs.take j) (ku t mt) (fun u hu=>kv u (X4 hu)) kDi;have kz:=Hi (ku t mt) (kv s ms);have lj:=Bm t.1 t.2 (vs.take j) (gF (us.take i) vs);rw [Lr] at lj;refine d9 rfl rfl<|bW<|nV ?_
     refine bW<|nV ?_
     refine iu ?_;refine aG<|aM<|aF<|aj rfl<|aj rfl<|cB ?_
     rw [<-dB (ku t mt).1 (kv s ms).1];refine nV<|aZ ?_
     refine aM<|aF<|JH<|aj rfl<|zN e3<|ak<|aj rfl<|ak<|aU<|aA<|Qg e3 kDj kz ?_
     refine aF<|aj rfl<|aj rfl<|iU (.of (hu.2.2 t mt).2.2.1 (hv.2.2 s ms).2.2.1 (by decide) (by decide))<|cB<|qw<|aj rfl<|aj rfl ?_
     refine PK e3 kDj kz (by lia) fun g2 a1 a2 a3=>aZ<|hN2 _ _ ⟨_,_,_,rfl,?_,by lia,fun n hn=>by rw [a2 n hn];exact o3 n hn⟩
     rw [aez qf];exact a1
   ·rintro Z h2 ⟨s6,s7,s8,rfl,e3,x3,o3⟩;rw [Ec,LK] at e3;refine aZ<|hN _ _ ⟨_,_,_,_,_,rfl,?_,x3,o3⟩
    rw [zav qe];exact e3
 ·rintro Z h' ⟨s4,s5,s6,s7,s8,rfl,e2,x2,o2⟩;rw [Ec,LK] at e2;have ge:Ge h h':=⟨by lia,fun n hn=>o2 n (by lia)⟩
  refine aZ ?_;unfold vR;refine aG<|aM<|lets (L:=L) rfl (fun t ht=>(ku t ht).1) fun l el=>?_
  refine nV<|aZ ?_
  refine aG<|aM<|aL<|ak<|aj rfl<|aA ?_
  refine hso e2 kD (fU us vs) (Eb (uN us vs)<|by lia) fun rs hr=>?_;obtain ⟨q1,q2⟩:=q rs hr;have fr:=(hr.facts kD (fU us vs)).1;refine ⟨fun l6=>?_,fun l6=>q2 (.inr<|.inl l6) _⟩;have hne:rs≠[]->l=L:=fun n=>el fun eu=>n (by
   subst eu;obtain ⟨ks,pk,sk,rfl⟩:=hr;have:ks=[]:=pk.eq_nil
   rw [this];rfl)
  refine nV<|aZ ?_
  refine aG<|aM<|cj<|ak<|adL hun rfl rfl (fun t ht=>(fr t ht).1) hne hL l6<|aA<|ji ?_
  refine nV<|aZ ?_
  refine aG<|cM<|aL<|ak<|aj rfl<|aA ?_
  refine hcp (fun t ht=>(fr t ht).1.1) hL l6 (fun lo=>aZ<|bC<|aj rfl<|jK<|QJ (fun n hn=>ge.2 n hn)<|q1 fun o=>?_) fun hi=>q2 (.inr<|.inr hi) _;rcases o with o | o | o
  ·lia
  ·lia
  ·exact lo o
def rO (x:Int)(G:Nat):List Int:=(LC (G+1)).map fun k=>x^k
def mo (ps xs:List Int):Nat->Int
 | 0=>1
 | i+1=>mo ps xs i*(xs.getD i 0)^(ps.getD i 0).toNat
def wo (ts:List Tm)(xs:List Int)(L:Nat):Nat->Int
 | 0=>0
 | i+1=>wo ts xs L i+(ts.getD i ([],0)).2*mo (ts.getD i ([],0)).1 xs L
def Bd (xs:List Int):Prop:=∀ x∈xs,Sm 34 x
theorem yL (k:Nat)(h:Sm 34 x):(x^k).natAbs<=2^(34*k):=by
 rw [Int.natAbs_pow,Nat.pow_mul];exact Nat.pow_le_pow_left (Mv h) k
variable {xs : List Int}
theorem Bd.get (h:Bd xs)(i:Nat):Sm 34 (xs.getD i 0):=by
 rw [Hy];cases e:xs[i]? with
 | none=>exact (by unfold Sm;decide:Sm 34 0)
 | some x=>exact h x (Lx e)
theorem Pw.get {ps:List Int}(h:Pw ps)(i:Nat):0<=ps.getD i 0/\ps.getD i 0<=60:=by
 rw [Hy];cases e:ps[i]? with
 | none=>exact (by decide:(0:Int)<=0/\(0:Int)<=60)
 | some x=>exact h x (Lx e)
theorem Bv {p:Int}(h:Sm 34 x)(h1:p<=60):(x^p.toNat).natAbs<=2^2040:=
 Eb (yL _ h) (Ub (by decide) (by lia))
theorem Y6 {ps xs:List Int}(hx:Bd xs)(hp:Pw ps):∀ i,(mo ps xs i).natAbs<=2^(2040*i)
 | 0=>by simp [mo]
 | i+1=>by
  rw [mo,Y4,Nat.mul_succ,Vi];exact Ww (Y6 hx hp i)<|Bv (hx.get i) (hp.get i).2
theorem aeT {k:Nat}{a b:Int}(h:Sm m a)(hb:b.natAbs<=2^k):Sm (m+k) (a*b):=by
 unfold Sm at *;rw [Y4,Vi];exact Nat.mul_lt_mul_of_lt_of_le h hb<|Vj<|by decide
theorem Jz {k:Nat}{b:Int}(hb:b.natAbs<=2^k):Sm (k+1) b:=by
 unfold Sm;exact Rj hb<|Nat.pow_lt_pow_right (by decide)<|Xn _
theorem vH {G k:Nat}(h:k<=G):((rO x G).map W.int)[k]?=FN (.int (x^k)):=by
 unfold rO;rw [Gy,Gy,Yr (by lia)];rfl
theorem afb (x:Int)(G:Nat):(rO x G).length=G+1:=by unfold rO;simp
theorem aeo (x:Int)(G:Nat):rO x (G+1)=rO x G++[x^G*x]:=by
 unfold rO;rw [YL,Iu,List.map_singleton,Int.pow_succ]
def Sg (c0:Dr):Prop:=∀ {h:Gh} {x:Int} {G:Nat} {Q:WK} {E:FQ},Sm 34 x->G<=60->Q (.lst ((rO x G).map .int)) h->c0 [.int x,.int (G:Int)] h Q E
theorem Qe:Sg fD:=by
 intro h x G Q E sx hG q;unfold fD;refine jR rfl (Z:=[FN<|.int x,FN<|.int (G:Int),FX,FX]) rfl ?_;refine aG<|aM<|iy (ws:=[.int 1]) (fun R=>rfl) rfl fun g eg og xg=>?_
 refine nV<|aZ ?_
 refine aG ?_;refine uW (j:=(G:Int)) (fun _=>rfl) (by lia) (by lia) (fun i Z h'=>∃ (s3:Option W),Z = [FN<|.int x,FN<|.int (G:Int),FN<|.loc h.nx,s3]/\h'.c h.nx=FN (.lst<|(rO x i).map .int)/\∀ n,n≠h.nx->h'.c n=h.c n) ?_ ?_ ⟨FX,rfl,by rw [eg];simp [rO,YL],og⟩
 ·rintro i Z h' N hN hi ⟨s3,rfl,e2,e3⟩;refine nV ?_;refine cM<|gJ<|aj rfl<|dM e2 ?_
  refine ak<|aF<|aF<|aj rfl<|aj rfl<|kZ e2 (dh<|vH<|Ea i) ?_
  refine aj rfl<|iU (.of (Jz<|yL i sx) sx (by lia)<|by decide)<|aA ?_
  refine yc e2 (by rw [Ec,afb];lia) fun g2 a1 a2 a3=>aZ<|hN _ _ ⟨_,rfl,?_,fun n hn=>by rw [a2 n hn];exact e3 n hn⟩
  rw [a1,aeo,Iu];rfl
 ·rintro Z h' ⟨s3,rfl,e2,e3⟩;unfold gP;have eG:(G:Int).toNat=G:=by lia
  rw [eG] at e2;refine aZ<|bC<|aj rfl ?_
  exact ⟨fun n c hn ec=>by rw [e3 n<|by lia];exact ec,.inr ⟨h.nx,_,rfl,Ea _,e2,qJ _ _,q⟩⟩
def Wi (L:Nat)(ts:List Tm):Prop:=ts.length<=600/\∀ t∈ts,t.1.length=L/\Sm 1000 t.2/\Pw t.1
def Wx (c0:Dr):Prop:=∀ {h:Gh} {ts:List Tm} {L l:Nat} {Q:WK} {E:FQ},Wi L ts->l<L->(∀ M:Nat,M<=60->(∀ t∈ts,t.1.getD l 0<=(M:Int))->(∀ B:Nat,(∀ t∈ts,t.1.getD l 0<=(B:Int))->M<=B)->Q (.int (M:Int)) h)->c0 [Du ts,.int (l:Int)] h Q E
theorem zal:Wx uw:=by
 intro h ts L l Q E wf hl q;unfold uw;refine dY rfl (Z:=[FN<|Du ts,FN<|.int (l:Int)]) rfl<|bC<|cj<|ak ?_
 refine fZ<|jM<|aj rfl<|yq (ws:=ts.map GJ) (o:=FX) rfl<|fV.mk (Eb (m:=1000) (by rw [Ec];have:=wf.1;lia)<|by decide) ?_
 refine dW (fun i acc g=>g=h/\acc=((ts.take i).map fun t=>t.1.getD l 0).map .int) ?_ ?_ ⟨rfl,rfl⟩
 ·rintro i w acc g N hN e ⟨rfl,rfl⟩;rw [Gy] at e;cases qe:ts[i]? with
  | none=>rw [qe] at e;cases e
  | some t=>
   rw [qe] at e;cases e;obtain ⟨w1,_,_⟩:=wf.2 t (Lx qe);refine ⟨[.tup<|t.1.map .int,.int t.2],rfl,cJ<|cL<|aF<|aj rfl<|aj rfl ?_⟩;refine bM (ws:=t.1.map .int) (w:=.int (t.1.getD l 0)) rfl (dh ?_)<|hN _ _ ⟨rfl,?_⟩
   ·rw [Gy,Hy,GK (by lia)];rfl
   ·rw [Lz,qe];simp
 ·rintro acc g ⟨rfl,rfl⟩;rw [Ec,LK];refine aA ⟨_,rfl,fun M hM=>?_⟩;rcases hM with ⟨z,rfl⟩ | ⟨hm,ha⟩
  ·have:ts=[]:=List.map_eq_nil_iff.mp z
   subst this;exact jK<|q 0 (by decide) (fun _ h=>(nomatch h)) fun _ _=>Jk _
  ·obtain ⟨t,ht,rfl⟩:=Gs.mp hm;obtain ⟨b0,b1⟩:=(wf.2 t ht).2.2.get l;obtain ⟨k,ek⟩:=Int.eq_ofNat_of_zero_le b0;rw [ek] at b1 ha |-
   exact jK (q k (by lia) (fun u hu=>ha _<|Gs.mpr ⟨u,hu,rfl⟩) fun B hB=>by have:=hB t ht;lia)
theorem afL {ma:MA}{R:Src->Gh->Prop}{Z : Sw}{h:Gh} (x:ma Z h fun ws h1=>match ws with
 | [.tup as]=>R ⟨Ti 0 as,FX⟩ h1
 | _=>False):Kq ma Z h R:=x
def ab3 (c0:Dr):Prop:=∀ {h:Gh} {ts:List Tm} {xs:List Int} {L:Nat} {Q:WK} {E:FQ},L<=8->Wi L ts->xs.length=L->Bd xs->Q (.int (wo ts xs L ts.length)) h->c0 [Du ts,.tup (xs.map .int)] h Q E
def afM (ts:List Tm)(xs:List Int)(acc:List W):Prop:=∀ k,k<acc.length->∃ G:Nat,acc[k]?=FN (.lst ((rO (xs.getD k 0) G).map .int))/\∀ t∈ts,t.1.getD k 0<=(G:Int)
theorem aeX {pu ht:Dr}(hpu:Sg pu)(hht:Wx ht):ab3 (lR pu ht):=by
 intro h ts xs L Q E hL wf hx bx q;have lx:(xs.map W.int).length=L:=by rw [Ec];exact hx
 unfold lR;refine dY rfl (Z:=[FN<|Du ts,FN<|.tup<|xs.map .int,FX,FX,FX,FX,FX,FX,FX]) rfl<|aG<|aM<|fZ<|afL<|ak<|aj rfl<|aA ?_
 show fV _ _;refine fV.mk (Eb (m:=1000) (by rw [uP,lx];lia)<|by decide) ?_;refine dW (fun i acc g=>g=h/\acc.length=i/\afM ts xs acc) ?_ ?_ ⟨rfl,rfl,fun k hk=>absurd hk<|Nat.not_lt_zero _⟩
 ·rintro i w acc g N hN e ⟨rfl,a1,a2⟩;obtain ⟨a,ea,rfl⟩:=yV e;have hi:i<L:=by have:=(Le.mp ea).1;lia
  rw [Gy,GK (by lia)] at ea;have eg:xs.getD i 0=xs[i]'(by lia):=by rw [Hy,GK (by lia)];rfl
  cases ea;rw [<-eg,Nat.zero_add];refine ⟨[.int (i:Int),.int<|xs.getD i 0],rfl,cJ<|cL<|aL<|ak<|aj rfl<|ak<|aL<|ak<|aj rfl<|ak<|aj rfl<|aA ?_⟩;refine hht wf hi fun M hM hb _=>aA<|hpu (bx.get i) hM<|hN _ _ ⟨rfl,by simp [a1],fun k hk=>?_⟩
  by_cases c:k<acc.length
  ·obtain ⟨G,g1,g2⟩:=a2 k c;exact ⟨G,by rw [RQ c];exact g1,g2⟩
  ·have:k=i:=by simp at hk;lia
   subst this;refine ⟨M,?_,hb⟩;rw [Ob (by lia),a1];simp
 ·rintro tb g ⟨rfl,a1,a2⟩;rw [uP,lx] at a1;refine nV<|aZ ?_
  refine aG<|aM<|aU ?_
  refine nV<|aZ ?_
  refine aG ?_;refine lJ (ws:=ts.map GJ) rfl ?_;refine cV (fun i Z h'=>h'=g/\∃ s4 s5 s6 s7 s8:Option W,Z = [FN<|Du ts,FN<|.tup<|xs.map .int,FN<|.lst tb,FN<|.int<|wo ts xs L i,s4,s5,s6,s7,s8]) ?_ ?_ ⟨rfl,FX,FX,FX,FX,FX,rfl⟩
  ·rintro i w Z h' N hN e ⟨rfl,s4,s5,s6,s7,s8,rfl⟩;rw [Gy] at e;cases qe:ts[i]? with
   | none=>rw [qe] at e;cases e
   | some t=>
    rw [qe] at e;cases e;have mt:=Lx qe;obtain ⟨w1,w2,w3⟩:=wf.2 t mt;have et:ts.getD i ([],0)=t:=by rw [Hy,qe];rfl
    refine d9 rfl rfl<|bW<|nV ?_
    refine bW<|nV ?_
    refine iu ?_;refine aG<|aM<|aj rfl<|nV<|aZ ?_
    refine aG<|kh<|pO<|ak<|aj rfl<|ak<|aj rfl<|aA ?_
    refine Jb (as:=t.1.map .int) (bs:=tb) rfl rfl rfl<|kW ?_
    have lz:(nJ (t.1.map W.int) tb).length=L:=by rw [uO,Ec];lia
    refine cV (fun j Z h1=>h1=h'/\∃ s7 s8:Option W,Z = [FN<|Du ts,FN<|.tup<|xs.map .int,FN<|.lst tb,FN<|.int<|wo ts xs L i,FN<|.tup<|t.1.map .int,FN<|.int t.2,FN<|.int<|t.2*mo t.1 xs j,s7,s8]) ?_ ?_ ⟨rfl,s7,s8,by rw [mo,XJ]⟩
    ·rintro j w Z h1 N' hN' e' ⟨rfl,s7,s8,rfl⟩;obtain ⟨a,b,ea,eb,rfl⟩:=kY e';have hj:j<L:=by have:=(Le.mp eb).1;lia
     obtain ⟨G,g1,g2⟩:=a2 j (by lia);rw [eb] at g1;cases g1;rw [Gy,GK (by lia)] at ea;have eg:t.1.getD j 0=t.1[j]'(by lia):=by rw [Hy,GK (by lia)];rfl
     cases ea;rw [<-eg];obtain ⟨b0,b1⟩:=w3.get j;have b2:=g2 t mt;have en:t.1.getD j 0=(((t.1.getD j 0).toNat:Nat):Int):=by lia
     refine d9 rfl rfl<|bW<|nV ?_
     refine bW<|nV ?_
     refine iu ?_;refine aM<|aF<|aj rfl<|aF<|aj rfl<|aj rfl ?_
     refine bM (ws:=(rO (xs.getD j 0) G).map .int) (w:=.int (xs.getD j 0^(t.1.getD j 0).toNat)) rfl (by rw [en];exact dh (by rw [Wr];exact vH (by lia))) ?_;refine iU (.of (aeT w2<|Y6 bx w3 j) (Jz<|Bv (bx.get j) b1) (by lia)<|by decide) ?_;refine eN (Z':=[FN<|Du ts,FN<|.tup<|xs.map .int,FN<|.lst tb,FN<|.int<|wo ts xs L i,FN<|.tup<|t.1.map .int,FN<|.int t.2,FN<|.int<|t.2*mo t.1 xs (j+1),FN<|.int<|t.1.getD j 0,FN<|.lst<|(rO (xs.getD j 0) G).map .int]) (by rw [mo,<-Int.mul_assoc];rfl)<|aZ<|hN' _ _ ⟨rfl,_,_,rfl⟩
    ·rintro Z h1 ⟨rfl,s7,s8,rfl⟩;rw [lz];refine aZ<|aM<|aF<|aj rfl<|aj rfl<|cB ?_
     refine eN (Z':=[FN<|Du ts,FN<|.tup<|xs.map .int,FN<|.lst tb,FN<|.int<|wo ts xs L<|i+1,FN<|.tup<|t.1.map .int,FN<|.int t.2,FN<|.int<|t.2*mo t.1 xs L,s7,s8]) (by rw [wo,et];rfl)<|aZ<|hN _ _ ⟨rfl,_,_,_,_,_,rfl⟩
  ·rintro Z h' ⟨rfl,s4,s5,s6,s7,s8,rfl⟩;rw [Ec];unfold m6;exact aZ<|bC<|aj rfl<|jK q
theorem jZ {f g:List Int->Int}:∀ {us:List Tm},(∀ t∈us,f t.1=g t.1)->lin f us=lin g us
 | [],_=>rfl
 | t::us,h=>by rw [aQ,aQ,h t (by simp),jZ fun u hu=>h u (Jm _ hu)]
theorem gA {r:List Int}:∀ {vs:List Tm},(vs.map (·.1)).Nodup->lin (dl r) vs=getM vs r
 | [],_=>rfl
 | t::vs,nd=>by
  rw [Ed,RN] at nd;rw [aQ,bU,gA nd.2];unfold dl;by_cases c:t.1=r
  ·rw [if_pos c,if_pos c,getM_none (c ▸ nd.1)];lia
  ·rw [if_neg c,if_neg c];lia
theorem afx {g:List Int->Int}{n:Int}(nd:(D.map (·.1)).Nodup)(vs:List Tm):lin g (Hq k n vs D)=lin g D+n*lin (fun l=>g (bJ k l)) vs:=by
 refine Dq (P:=fun vs=>lin g (Hq k n vs D)=lin g D+n*lin (fun l=>g<|bJ k l) vs) (by show lin g D=lin g D+n*0;lia) (fun vs t ih=>?_) vs;rw [eO,vA (Ii nd),ih,dZ,aQ];show _=_+n*(_+(g (bJ k t.1)*t.2+0));grind
theorem afr (g:List Int->Int)(us vs:List Tm):lin g (gF us vs)=lin (fun k=>lin (fun l=>g (bJ k l)) vs) us:=by
 refine Dq (P:=fun us=>lin g (gF us vs)=lin (fun k=>lin (fun l=>g<|bJ k l) vs) us) rfl (fun us t ih=>?_) us;rw [dH,afx (fU us vs),ih,dZ,aQ];show _=_+(_+0);rw [Nu,WT]
theorem afV {g:List Int->Int}(hg:∀ t∈us,∀ s∈vs,g (bJ t.1 s.1)=g t.1*g s.1):lin g (gF us vs)=lin g us*lin g vs:=by
 rw [afr,<-iC];refine jZ fun t ht=>?_;rw [WT,<-iC];refine jZ fun s hs=>?_;rw [hg t ht s hs,WT]
theorem oU {g:List Int->Int}{f:Int}(nd:(us.map (·.1)).Nodup)(vs:List Tm):lin g (jF f us vs)=lin g us+f*lin g vs:=by
 refine Dq (P:=fun vs=>lin g (jF f us vs)=lin g us+f*lin g vs) (by show lin g us=lin g us+f*0;lia) (fun vs t ih=>?_) vs;rw [gj,vA (fP nd),ih,dZ,aQ];show _=_+f*(_+(g t.1*t.2+0));grind
theorem iR.lin {D rs:List Tm}(nd:(D.map (·.1)).Nodup)(a:iR D rs)(g:List Int->Int):lin g rs=lin g D:=by
 obtain ⟨ks,pk,_,rfl⟩:=a;exact Ia nd pk
theorem iR.nd (a:iR D rs):(rs.map (·.1)).Nodup:=by
 obtain ⟨ks,_,sk,rfl⟩:=a;exact cQ<|sZ sk
theorem iR.get (nd:(D.map (·.1)).Nodup)(a:iR D rs)(r:List Int):getM rs r=getM D r:=by
 rw [<-gA a.nd,a.lin nd,gA nd]
theorem IV {ts:List Tm}{xs:List Int}{L:Nat}:∀ i,i<=ts.length->wo ts xs L i=lin (fun k=>mo k xs L) (ts.take i)
 | 0,_=>rfl
 | i+1,h=>by
  have e:ts[i]?=FN (ts[i]'(by lia)):=GK _;rw [wo,IV i (by lia),Lz,e,Hy,e];show _=lin _ (ts.take i++[ts[i]'(by lia)]);rw [dZ,aQ];show _=_+(_+0);rw [Nu,WT];rfl
theorem QG {ts:List Tm}:wo ts xs L ts.length=lin (fun k=>mo k xs L) ts:=by
 rw [IV _ (Ea _),LK]
theorem vI:∀ {k l:List Int} {i:Nat},k.length=l.length->(bJ k l).getD i 0=k.getD i 0+l.getD i 0
 | [],[],_,_=>rfl
 | [],_::_,_,h=>by simp at h
 | _::_,[],_,h=>by simp at h
 | a::k,b::l,0,_=>rfl
 | a::k,b::l,i+1,h=>by
  show (bJ k l).getD i 0=k.getD i 0+l.getD i 0;exact vI<|by simpa using h
theorem Kr {k l xs:List Int}(hl:k.length=l.length)(hk:∀ i,0<=k.getD i 0)(hm:∀ i,0<=l.getD i 0):∀ i,mo (bJ k l) xs i=mo k xs i*mo l xs i
 | 0=>rfl
 | i+1=>by
  rw [mo,mo,mo,Kr hl hk hm i,vI hl,Int.toNat_add (hk i) (hm i),Int.pow_add];grind
theorem Ju {f:List Int->Int}{B C:Nat}(hf:∀ k,(f k).natAbs<=B):∀ {us:List Tm},(∀ t∈us,t.2.natAbs<=C)->(lin f us).natAbs<=us.length*(B*C)
 | [],_=>Jk _
 | t::us,h=>by
  rw [aQ,K9,Nat.succ_mul,WY];refine Eb (Int.natAbs_add_le _ _)<|XM ?_<|Ju hf fun u hu=>h u<|Jm _ hu
  rw [Y4];exact Ww (hf _)<|h t<|by simp
theorem aeG {n:Int}(vs:List Tm):∀ x∈(Hq k n vs D).map (·.1),x∈D.map (·.1)\/∃ s∈vs,x=bJ k s.1:=by
 refine Dq (P:=fun vs=>∀ x∈(Hq k n vs D).map (·.1),x∈D.map (·.1)\/∃ s∈vs,x=bJ k s.1) (fun _ h=>.inl h) (fun vs s ih x hx=>?_) vs;rw [eO,nU] at hx;have hx:x∈(Hq k n vs D).map (·.1)\/x=bJ k s.1:=by
  split at hx
  ·exact .inl hx
  ·rcases Mr.mp hx with hx | hx
   ·exact .inl hx
   ·exact .inr<|K5.mp hx
 rcases hx with hx | hx
 ·rcases ih x hx with h | ⟨u,hu,e⟩
  ·exact .inl h
  ·exact .inr ⟨u,N7 _ hu,e⟩
 ·exact .inr ⟨s,by simp,hx⟩
theorem Bt (us vs:List Tm):∀ x∈(gF us vs).map (·.1),∃ t∈us,∃ s∈vs,x=bJ t.1 s.1:=by
 refine Dq (P:=fun us=>∀ x∈(gF us vs).map (·.1),∃ t∈us,∃ s∈vs,x=bJ t.1 s.1) (fun x h=>by simp [gF] at h) (fun us t ih x hx=>?_) us;rw [dH] at hx;rcases aeG vs x hx with h | ⟨s,hs,e⟩
 ·obtain ⟨u,hu,s,hs,e⟩:=ih x h;exact ⟨u,N7 _ hu,s,hs,e⟩
 ·exact ⟨t,by simp,s,hs,e⟩
def Mb (L b p n:Nat)(us:List Tm):Prop:=us.length<=n/\(us.map (·.1)).Pairwise (· < ·)/\∀ t∈us,t.1.length=L/\t.2≠0/\Sm b t.2/\∀ q∈t.1,0<=q/\q<=(p:Int)
variable {b p : Nat}
theorem Mb.mono {L b p n b' p' n':Nat}{us:List Tm}(h:Mb L b p n us)(hb:b<=b')(hp:p<=p')(hn:n<=n'):Mb L b' p' n' us:=
 ⟨by have:=h.1;lia,h.2.1,fun t ht=>⟨(h.2.2 t ht).1,(h.2.2 t ht).2.1,(h.2.2 t ht).2.2.1.mono hb,fun q hq=>by have:=(h.2.2 t ht).2.2.2 q hq;lia⟩⟩
theorem Mb.ms (h:Mb L 1000 30 64 us):Ms L us:=⟨by have:=h.1;lia,h.2.1,fun t ht=>⟨(h.2.2 t ht).1,(h.2.2 t ht).2.1,(h.2.2 t ht).2.2.1,fun q hq=>by have:=(h.2.2 t ht).2.2.2 q hq;lia⟩⟩
theorem iR.mem (nd:(D.map (·.1)).Nodup)(a:iR D rs):rs.length<=D.length/\(rs.map (·.1)).Pairwise (· < ·)/\∀ t∈rs,t.1∈D.map (·.1)/\t.2≠0/\t.2=getM D t.1:=by
 obtain ⟨ks,pk,sk,rfl⟩:=a;have lo:=za D ks;rw [pk.length_eq,Ec] at lo;refine ⟨lo,sZ sk,fun t ht=>?_⟩;have:=Gf nd (fun k hk=>pk.mem_iff.mp hk) ht
 exact ⟨Gs.mpr ⟨t,this.1,rfl⟩,this.2,(jk nd this.1).symm⟩
theorem aiN {c q:Nat}(hu:Mb L b p n us)(hv:Mb L c q m vs)(hn:n<=64)(hm:m<=64)(a:iR (gF us vs) rs):Mb L (b+c+13) (p+q) (n*m) rs:=by
 obtain ⟨h1,h2,h3⟩:=a.mem (fU us vs);have lm:=Eb (Eb h1 (uN us vs)) (Ww hu.1 hv.1);refine ⟨lm,h2,fun t ht=>?_⟩;obtain ⟨k1,k2,k3⟩:=h3 t ht;obtain ⟨x,hx,s,hs,e⟩:=Bt us vs _ k1;refine ⟨by rw [e,vG<|by rw [(hu.2.2 x hx).1,(hv.2.2 s hs).1],(hu.2.2 x hx).1],k2,?_,fun z hz=>?_⟩
 ·rw [k3,jg];have d1:∀ k l,(dl t.1 (bJ k l)).natAbs<=1:=fun k l=>by unfold dl;split <;> decide
  have i1:∀ k,(lin (fun l=>dl t.1 (bJ k l)) vs).natAbs<=64*2^c:=fun k=>Eb (Ju (B:=1) (C:=2^c) (fun l=>d1 k l) fun s hs=>Mv (hv.2.2 s hs).2.2.1) (by rw [Nat.one_mul];exact Xh _ (Eb hv.1 hm))
  have i2:=Ju (C:=2^b) i1 fun s hs=>Mv (hu.2.2 s hs).2.2.1
  unfold Sm;refine Rj i2<|Rj (Xh _<|Eb hu.1 hn) ?_
  rw [Vi,Vi];have p1:0<2^b:=Vj (by decide);have p2:0<2^c:=Vj (by decide);have p3:0<2^b*2^c:=Nat.mul_pos p1 p2;have e:64*(64*2^c*2^b)=4096*(2^b*2^c):=by
   rw [Nat.mul_assoc 64,<-Nat.mul_assoc 64 64,Nat.mul_comm (2^c)]
  rw [e];have e2:(2:Nat)^13=8192:=by decide
  rw [e2];lia
 ·rw [e] at hz;obtain ⟨y,hy,w,hw,rfl⟩:=tV hz;have:=(hu.2.2 x hx).2.2.2 y hy
  have:=(hv.2.2 s hs).2.2.2 w hw
  lia
theorem Qy (h:∀ t∈us,Sm b t.2)(r:List Int):Sm b (getM us r):=by
 unfold getM;cases e:us.find? fun t=>decide (t.1=r) with
 | none=>exact Vj (by decide)
 | some t=>exact h t (List.mem_of_find?_eq_some e)
theorem aiM {f:Int}(hu:Mb L b p n us)(hv:Mb L b p n vs)(hf:f=1\/f = -1)(a:iR (jF f us vs) rs):Mb L (b+1) p (n+n) rs:=by
 have nu:=cQ hu.2.1;obtain ⟨h1,h2,h3⟩:=a.mem (fP nu);have lm:=Eb (Eb h1 (tM f us vs)) (XM hu.1 hv.1);refine ⟨lm,h2,fun t ht=>?_⟩;obtain ⟨k1,k2,k3⟩:=h3 t ht;have kk:t.1.length=L/\∀ q∈t.1,0<=q/\q<=(p:Int):=by
  rcases pU t.1 k1 with h | h
  ·obtain ⟨u,hu2,e⟩:=Gs.mp h;rw [<-e];exact ⟨(hu.2.2 u hu2).1,(hu.2.2 u hu2).2.2.2⟩
  ·obtain ⟨u,hu2,e⟩:=Gs.mp h;rw [<-e];exact ⟨(hv.2.2 u hu2).1,(hv.2.2 u hu2).2.2.2⟩
 refine ⟨kk.1,k2,?_,kk.2⟩;have e:getM (jF f us vs) t.1=getM us t.1+f*getM vs t.1:=by rw [<-gA (fP nu),oU nu,gA nu,gA (cQ hv.2.1)]
 have b1:=Qy (fun u h=>(hu.2.2 u h).2.2.1) t.1;have b2:=Qy (fun u h=>(hv.2.2 u h).2.2.1) t.1;rw [k3,e];unfold Sm at *;rw [XO];rcases hf with rfl | rfl <;> lia
def pe:List Int->Int->Int
 | [],_=>0
 | c::p,x=>c+x*pe p x
def pq (a:Int):List Int->List Int
 | []=>[]
 | [_]=>[]
 | _::c::p=>pe (c::p) a::pq a (c::p)
theorem Gn (a x:Int):∀ p,pe p x=pe p a+(x - a)*pe (pq a p) x
 | []=>by simp [pe,pq]
 | [c]=>by simp [pe,pq]
 | c::d::p=>by
  have ih:=Gn a x (d::p);have e1:pe (c::d::p) x=c+x*pe (d::p) x:=rfl;have e2:pe (c::d::p) a=c+a*pe (d::p) a:=rfl;have e3:pe (pq a (c::d::p)) x=pe (d::p) a+x*pe (pq a (d::p)) x:=rfl;rw [e1,e2,e3,ih];generalize pe (d::p) a=A;generalize pe (pq a (d::p)) x=B;grind
theorem Oi (a:Int):∀ p,(pq a p).length=p.length - 1
 | []=>rfl
 | [_]=>rfl
 | _::c::p=>by show (pq a (c::p)).length+1=_;rw [Oi a (c::p)];simp
theorem sY (a:Int):∀ p,pe p a=0->(∀ c∈pq a p,c=0)->∀ c∈p,c=0
 | [],_,_,_,h=>nomatch h
 | [c],h,_,d,hd=>by
  have:c+a*0=0:=h
  rw [K5.mp hd];lia
 | c::d::p,h,hq,e,he=>by
  have h1:pe (d::p) a=0:=hq _ (LQ ..);have ih:=sY a (d::p) h1 fun z hz=>hq z (Jm _ hz)
  rcases J1.mp he with rfl | he
  ·have h:e+a*pe (d::p) a=0:=h;rw [h1] at h;lia
  ·exact ih e he
theorem roots:∀ (xs p:List Int),xs.Nodup->p.length<=xs.length->(∀ x∈xs,pe p x=0)->∀ c∈p,c=0
 | [],p,_,hl,_,c,hc=>by
  have:p=[]:=RT (by simpa using hl)
  rw [this] at hc;cases hc
 | a::xs,p,nd,hl,h,c,hc=>by
  have h0:=h a (by simp);rw [RN] at nd;refine sY a p h0 (roots xs (pq a p) nd.2 (by rw [Oi];simp at hl;lia) fun x hx=>?_) c hc;have:=Gn a x p
  rw [h x (by simp [hx]),h0,WW] at this;rcases Int.mul_eq_zero.mp this.symm with e | e
  ·have:a=x:=by lia
   exact absurd (this ▸ hx) nd.1
  ·exact e
def Fq:Nat->Int->List Int->List Int
 | _,_,[]=>[]
 | 0,v,c::p=>(c+v)::p
 | e+1,v,c::p=>c::Fq e v p
theorem Ay:∀ (e:Nat) (v:Int) (p:List Int),(Fq e v p).length=p.length
 | _,_,[]=>by rw [Fq]
 | 0,v,c::p=>by simp [Fq]
 | e+1,v,c::p=>by rw [Fq,K9,Ay e v p];rfl
theorem Ks:∀ (e:Nat) (v:Int) (p:List Int) (x:Int),e<p.length->pe (Fq e v p) x=pe p x+x^e*v
 | e,_,[],_,h=>by simp at h
 | 0,v,c::p,x,_=>by
  rw [Fq,pe,pe,Int.pow_zero];lia
 | e+1,v,c::p,x,h=>by
  rw [Fq,pe,pe,Ks e v p x (by simp at h;lia),Int.pow_succ];generalize x^e=A;generalize pe p x=B;grind
theorem nZ:∀ (e:Nat) (v:Int) (p:List Int) (j:Nat),e<p.length->(Fq e v p).getD j 0=p.getD j 0+if j=e then v else 0
 | e,_,[],_,h=>by simp at h
 | 0,v,c::p,j,_=>by
  rw [Fq];cases j with
  | zero=>simp
  | succ j=>simp
 | e+1,v,c::p,j,h=>by
  rw [Fq];cases j with
  | zero=>simp
  | succ j=>
   have:=nZ e v p j (by simp at h;lia)
   simpa using this
def pol (l:Nat)(r:List Int)(H:Nat):List Tm->List Int
 | []=>Gv H 0
 | t::ts=>if r=t.1.set l 0 then Fq (t.1.getD l 0).toNat t.2 (pol l r H ts) else pol l r H ts
theorem iz (l:Nat)(r:List Int)(H:Nat):∀ ts,(pol l r H ts).length=H
 | []=>by simp [pol]
 | t::ts=>by
  rw [pol];split
  ·rw [Ay,iz l r H ts]
  ·exact iz l r H ts
theorem Qm (x:Int):∀ H:Nat,pe (Gv H 0) x=0
 | 0=>rfl
 | H+1=>by rw [RB,pe,Qm x H];lia
theorem Qq {l:Nat}{r:List Int}{H:Nat}{x:Int}:∀ {ts:List Tm},(∀ t∈ts,(t.1.getD l 0).toNat<H)->pe (pol l r H ts) x=lin (fr l x r) ts
 | [],_=>Qm x H
 | t::ts,h=>by
  have ih:=Qq (r:=r) (x:=x) fun u hu=>h u (Jm _ hu)
  rw [pol,aQ];unfold fr at *;by_cases e:r=t.1.set l 0
  ·rw [if_pos e,if_pos e,Ks _ _ _ _ (by rw [iz];exact h t (by simp)),ih];lia
  ·rw [if_neg e,if_neg e,ih];lia
theorem PB {l:Nat}{r:List Int}{H j:Nat}:∀ {ts:List Tm},(∀ t∈ts,(t.1.getD l 0).toNat<H)->(∀ t∈ts,r=t.1.set l 0->(t.1.getD l 0).toNat≠j)->(pol l r H ts).getD j 0=0
 | [],_,_=>by
  rw [pol,Hy,W0];split <;> rfl
 | t::ts,h,n=>by
  have ih:=PB (fun u hu=>h u (Jm _ hu)) fun u hu=>n u (Jm _ hu)
  rw [pol];by_cases e:r=t.1.set l 0
  ·rw [if_pos e,nZ _ _ _ _ (by rw [iz];exact h t (by simp)),ih,if_neg fun z=>n t (by simp) e z.symm];rfl
  ·rw [if_neg e,ih]
theorem nW {a:List Int}(h:l<a.length):(a.set l 0).set l (a.getD l 0)=a:=by
 rw [List.set_set,Hy,GK h];simp
theorem QC {l H:Nat}{t:Tm}:∀ {ts:List Tm},(ts.map (·.1)).Nodup->(∀ u∈ts,l<u.1.length/\0<=u.1.getD l 0/\(u.1.getD l 0).toNat<H)->t∈ts->(pol l (t.1.set l 0) H ts).getD (t.1.getD l 0).toNat 0=t.2
 | [],_,_,ht=>nomatch ht
 | u::ts,nd,h,ht=>by
  obtain ⟨t1,t2,_⟩:=h t ht;rw [Ed,RN] at nd;have hs:=fun v hv=>h v (Jm u hv)
  have hb:∀ v∈ts,(v.1.getD l 0).toNat<H:=fun v hv=>(hs v hv).2.2
  rw [pol];rcases J1.mp ht with rfl | ht
  ·rw [if_pos rfl,nZ _ _ _ _ (by rw [iz];exact (h t (by simp)).2.2),if_pos rfl,PB hb,WW];intro v hv e1 e2;obtain ⟨v1,v2,_⟩:=hs v hv;have e3:v.1.getD l 0=t.1.getD l 0:=by lia
   have e4:v.1=t.1:=by rw [<-nW v1,<-nW t1,e3,e1]
   exact nd.1<|e4 ▸ Gs.mpr ⟨v,hv,rfl⟩
  ·have ih:=QC nd.2 hs ht;obtain ⟨u1,u2,u3⟩:=h u (by simp);by_cases e:t.1.set l 0=u.1.set l 0
   ·rw [if_pos e,nZ _ _ _ _ (by rw [iz];exact u3),ih,if_neg,Nu];intro z;have e3:u.1.getD l 0=t.1.getD l 0:=by lia
    have e4:t.1=u.1:=by rw [<-nW t1,<-nW u1,e3,e]
    exact nd.1<|e4 ▸ Gs.mpr ⟨t,ht,rfl⟩
   ·rw [if_neg e,ih]
def Io (l:Nat)(x:Int)(ts us:List Tm):Prop:=∃ ks:List (List Int),ks.Perm ((putD l x ts).map (·.1))/\ks.Pairwise (· < ·)/\us=jx (putD l x ts) ks
theorem Io.uniq {ts:List Tm}:Io l x ts us->Io l x ts vs->us=vs:=fun ⟨ks,p,s,e⟩ ⟨js,p',s',e'⟩=>by rw [e,e',u5 (p.trans p'.symm) s s']
theorem Io.nil {ts:List Tm}:Io l x ts []->∀ r,lin (fr l x r) ts=0:=fun ⟨ks,p,s,e⟩ r=>by
 rw [<-Ax];by_cases m:r∈(putD l x ts).map (·.1)
 ·refine MJ fun nz=>?_;have:(r,getM (putD l x ts) r)∈jx (putD l x ts) ks:=V5.mpr ⟨Gs.mpr ⟨r,p.mem_iff.mpr m,rfl⟩,by simpa using nz⟩
  rw [<-e] at this;cases this
 ·exact getM_none m
theorem Xf {M:Nat}{ts:List Tm}(ne:ts≠[])(nd:(ts.map (·.1)).Nodup)(h:∀ t∈ts,l<t.1.length/\0<=t.1.getD l 0/\t.1.getD l 0<=(M:Int)/\t.2≠0)(nx:xs.Nodup)(hx:∀ x∈xs,∀ r,lin (fr l x r) ts=0):xs.length<=M:=by
 refine MJ fun c=>?_;obtain ⟨t,ht⟩:=List.exists_mem_of_ne_nil ts ne;have hb:∀ u∈ts,(u.1.getD l 0).toNat<M+1:=fun u hu=>by have:=h u hu;lia
 have z:=roots xs (pol l (t.1.set l 0) (M+1) ts) nx (by rw [iz];lia) fun x hx'=>by rw [Qq hb];exact hx x hx' _
 have e:=QC nd (fun u hu=>⟨(h u hu).1,(h u hu).2.1,hb u hu⟩) ht;have hj:(t.1.getD l 0).toNat<(pol l (t.1.set l 0) (M+1) ts).length:=by rw [iz];exact hb t ht
 rw [Hy,GK hj] at e;exact (h t ht).2.2.2 (by rw [<-e];exact z _ (TQ hj))
def Gd (L m M:Nat)(ts:List Tm):Prop:=ts.length<=64/\(ts.map (·.1)).Pairwise (· < ·)/\∀ t∈ts,t.1.length=L/\t.2≠0/\Sm m t.2/\∀ p∈t.1,0<=p/\p<=(M:Int)
theorem Hh {ps:List Int}{M:Nat}(h:∀ p∈ps,0<=p/\p<=(M:Int))(l:Nat):0<=ps.getD l 0/\(ps.getD l 0).toNat<=M:=by
 rw [Hy];cases e:ps[l]? with
 | none=>exact ⟨Wf _,Jk _⟩
 | some x=>have:=h x (Lx e);show 0<=x/\x.toNat<=M;lia
theorem ahi {B:Nat}(h:∀ u∈D,u.2.natAbs<=B):(getM D k).natAbs<=B:=by
 unfold getM;cases f:D.find? fun t=>decide (t.1=k) with
 | none=>exact Jk _
 | some t=>exact h t (List.mem_of_find?_eq_some f)
theorem zbE {M:Nat}{ts:List Tm}(hx:∀ p,p<=M->(x^p).natAbs<=2^b)(h:∀ t∈ts,Sm m t.2/\(t.1.getD l 0).toNat<=M):∀ u∈putD l x ts,u.2.natAbs<=ts.length*2^(m+b):=by
 revert h
 refine Dq (P:=fun ts=>(∀ t∈ts,Sm m t.2/\(t.1.getD l 0).toNat<=M)->∀ u∈putD l x ts,u.2.natAbs<=ts.length*2^(m+b)) (fun _ _ h=>(nomatch h)) (fun ts t ih h u hu=>?_) ts;have i2:=ih fun u hu=>h u (N7 _ hu)
 obtain ⟨h1,h2⟩:=h t (by simp);have v:(t.2*x^(t.1.getD l 0).toNat).natAbs<=2^(m+b):=by
  rw [Y4,Vi];exact Ww (Mv h1)<|hx _ h2
 rw [dG] at hu;rw [JC,V2,Nat.add_mul];generalize (2:Nat)^(m+b)=A at *;rcases ajf hu with hu | rfl
 ·have:=i2 u hu;lia
 ·have:=ahi (k:=t.1.set l 0) i2
  have:=Int.natAbs_add_le (getM (putD l x ts) (t.1.set l 0)) (t.2*x^(t.1.getD l 0).toNat)
  dsimp only;lia
def Zr (i:Nat)(ts:List Tm):Prop:=∀ t∈ts,∀ j,j<i->t.1.getD j 0=0
theorem kE {ps:List Int}{j:Nat}:(ps.set l 0).getD j 0=if j=l then 0 else ps.getD j 0:=by
 rw [Hy,List.getElem?_set];by_cases e:l=j
 ·rw [if_pos e,if_pos e.symm];split <;> rfl
 ·rw [if_neg e,if_neg (JD e),Hy]
theorem Io.gd {M:Nat}{ts:List Tm}(g:Gd L m M ts)(p:Io l x ts us)(hx:∀ p,p<=M->(x^p).natAbs<=2^b):Gd L (m+b+7) M us/\us.length<=ts.length/\(∀ u∈us,u.1.getD l 0=0)/\∀ u∈us,∃ t∈ts,u.1=t.1.set l 0:=by
 obtain ⟨ks,pk,sk,rfl⟩:=p;have hin:=fun u hu=>Gf (u:=u) (lN l x ts) (fun k hk=>pk.mem_iff.mp hk) hu
 have hk:∀ u∈jx (putD l x ts) ks,∃ t∈ts,u.1=t.1.set l 0:=fun u hu=>pI u.1 (Gs.mpr ⟨u,(hin u hu).1,rfl⟩)
 have ajZ:(jx (putD l x ts) ks).length<=ts.length:=by
  have a:=za (putD l x ts) ks;rw [pk.length_eq,Ec] at a;exact Eb a<|uQ l x ts
 refine ⟨⟨Eb ajZ g.1,sZ sk,fun u hu=>?_⟩,ajZ,fun u hu=>?_,hk⟩
 ·obtain ⟨t,ht,e⟩:=hk u hu;obtain ⟨w1,w2,w3,w4⟩:=g.2.2 t ht;refine ⟨by rw [e,Wn];exact w1,(hin u hu).2,?_,fun p hp=>?_⟩
  ·have bb:=zbE (l:=l) hx (fun t ht=>⟨(g.2.2 t ht).2.2.1,(Hh (g.2.2 t ht).2.2.2 l).2⟩) u (hin u hu).1;unfold Sm;rw [Vi 2 (m+b) 7];have p0:0<2^(m+b):=Vj (by decide);have:=Xh (2^(m+b)) g.1
   generalize 2^(m+b)=A at *;lia
  ·rw [e] at hp;rcases List.mem_or_eq_of_mem_set hp with hp | rfl
   ·exact w4 p hp
   ·lia
 ·obtain ⟨t,ht,e⟩:=hk u hu;rw [e,kE,if_pos rfl]
theorem Zr.put {ts:List Tm}(z:Zr l ts)(h1:∀ u∈us,u.1.getD l 0=0)(h2:∀ u∈us,∃ t∈ts,u.1=t.1.set l 0):Zr (l+1) us:=fun u hu j hj=>by
 by_cases e:j=l
 ·rw [e];exact h1 u hu
 ·obtain ⟨t,ht,q⟩:=h2 u hu;rw [q,kE,if_neg e];exact z t ht j<|by lia
theorem Ka {k xs:List Int}{l:Nat}:∀ i,mo k xs i=mo (k.set l 0) xs i*if l<i then xs.getD l 0^(k.getD l 0).toNat else 1
 | 0=>by simp [mo]
 | i+1=>by
  rw [mo,mo,Ka (l:=l) i,kE];by_cases e:i=l
  ·subst e;rw [if_neg (Nv _),if_pos rfl,if_pos (Xn _)];simp
  ·rw [if_neg e];by_cases c:l<i
   ·rw [if_pos c,if_pos (by lia)];generalize mo (k.set l 0) xs i=A;generalize xs.getD l 0^(k.getD l 0).toNat=B;generalize xs.getD i 0^(k.getD i 0).toNat=C;grind
   ·rw [if_neg c,if_neg (by lia),XJ,XJ]
theorem zaB {ts:List Tm}(hl:l<L)(p:Io l (xs.getD l 0) ts us):lin (fun k=>mo k xs L) us=lin (fun k=>mo k xs L) ts:=by
 obtain ⟨ks,pk,sk,rfl⟩:=p;rw [Ia (lN l _ ts) pk];refine Dq (P:=fun ts=>lin (fun k=>mo k xs L) (putD l (xs.getD l 0) ts)=lin (fun k=>mo k xs L) ts) rfl (fun ts t ih=>?_) ts;rw [dG,vA (lN l _ ts),ih,dZ];congr 1
 rw [aQ];show _=mo t.1 xs L*t.2+0;rw [Ka (l:=l) (k:=t.1) L,if_pos hl,Nu];generalize mo (t.1.set l 0) xs L=A;generalize xs.getD l 0^(t.1.getD l 0).toNat=B;grind
theorem yw {k xs:List Int}:∀ {i:Nat},(∀ j,j<i->k.getD j 0=0)->mo k xs i=1
 | 0,_=>rfl
 | i+1,h=>by rw [mo,yw fun j hj=>h j (by lia),h i (by lia)];simp
theorem ab7 (hl:l<L)(ts:List Tm):lin (fun k=>mo k xs L) (putD l (xs.getD l 0) ts)=lin (fun k=>mo k xs L) ts:=by
 refine Dq (P:=fun ts=>lin (fun k=>mo k xs L) (putD l (xs.getD l 0) ts)=lin (fun k=>mo k xs L) ts) rfl (fun ts t ih=>?_) ts;rw [dG,vA (lN l _ ts),ih,dZ];congr 1
 rw [aQ];show _=mo t.1 xs L*t.2+0;rw [Ka (l:=l) (k:=t.1) L,if_pos hl,Nu];generalize mo (t.1.set l 0) xs L=A;generalize xs.getD l 0^(t.1.getD l 0).toNat=B;grind
theorem Qx {ts:List Tm}(hL:∀ t∈ts,t.1.length=L/\t.2≠0)(nd:(ts.map (·.1)).Nodup)(ne:ts≠[])(z:Zr L ts):lin (fun k=>mo k xs L) ts≠0:=by
 have rep:∀ t∈ts,t.1=Gv L 0:=fun t ht=>by
  refine List.eq_replicate_iff.mpr ⟨(hL t ht).1,fun p hp=>?_⟩;obtain ⟨j,hj,e⟩:=RD.mp hp;have:=z t ht j (by rw [<-(hL t ht).1];exact hj)
  rw [Hy,GK hj] at this;rw [<-e];exact this
 match ts,ne,hL,nd,rep,z with
 | [t],_,hL,nd,rep,z=>
  rw [aQ];show mo t.1 xs L*t.2+0≠0;rw [yw fun j hj=>z t (by simp) j hj];have:=(hL t (by simp)).2
  lia
 | t::u::r,_,hL,nd,rep,_=>
  rw [Ed,Ed,RN] at nd;refine absurd ?_ nd.1;rw [rep t (by simp),rep u (by simp)];exact LQ
def nz (D:List Tm):List Tm:=D.filter fun t=>decide (t.2≠0)
theorem PJ (f:List Int->Int):∀ D,lin f (nz D)=lin f D
 | []=>rfl
 | t::D=>by
  have i:=PJ f D;unfold nz at *;rw [TK,aQ];by_cases c:t.2=0
  ·rw [if_neg (by simpa using c),i,c];lia
  ·rw [if_pos (by simpa using c),aQ,i]
theorem O5 {k xs:List Int}{l:Nat}{x:Int}(h:k.getD l 0=0):∀ i,mo k (xs.set l x) i=mo k xs i
 | 0=>rfl
 | i+1=>by
  rw [mo,mo,O5 h i];by_cases c:i=l
  ·rw [c,h];simp
  ·congr 2
   rw [Hy,Hy,List.getElem?_set_ne (JD c)]
theorem acv {L:Nat}{M:Nat->Nat}:∀ (n i:Nat) (ts:List Tm),i+n=L->ts≠[]->(ts.map (·.1)).Nodup->(∀ t∈ts,t.1.length=L/\t.2≠0/\∀ j,0<=t.1.getD j 0/\t.1.getD j 0<=(M j:Int))->Zr i ts ->
  ∃ xs:List Int,xs.length=L/\(∀ j,j<L->0<=xs.getD j 0/\xs.getD j 0<=(M j:Int))/\lin (fun k=>mo k xs L) ts≠0
 | 0,i,ts,e,ne,nd,h,z=>by
  have e:i=L:=e;subst e;refine ⟨Gv i 0,by simp,fun j hj=>?_,Qx (fun t ht=>⟨(h t ht).1,(h t ht).2.1⟩) nd ne z⟩;rw [Hy,W0,if_pos hj];exact ⟨Wf _,Int.natCast_nonneg _⟩
 | n+1,i,ts,e,ne,nd,h,z=>by
  have hi:i<L:=by lia
  have ⟨x,hx,nx⟩:∃ x:Nat,x<=M i/\nz (putD i (x:Int) ts)≠[]:=MJ fun c=>by
   have a:∀ x:Nat,x<=M i->nz (putD i (x:Int) ts)=[]:=fun x hx=>MJ fun d=>c ⟨x,hx,d⟩
   have r:=Xf (l:=i) (M:=M i) (xs:=(LC (M i+1)).map fun y:Nat=>(y:Int)) ne nd (fun t ht=>⟨by rw [(h t ht).1];exact hi,((h t ht).2.2 i).1,((h t ht).2.2 i).2,(h t ht).2.1⟩) (by
    rw [List.nodup_iff_pairwise_ne,Tv];exact List.pairwise_lt_range.imp fun h=>by lia) fun x hx r=>by
    obtain ⟨y,hy,rfl⟩:=Gs.mp hx;rw [<-Ax];have z0:=a y (by rw [Tz] at hy;lia);refine MJ fun nz0=>?_;unfold getM at nz0;cases f:(putD i (y:Int) ts).find? fun t=>decide (t.1=r) with
    | none=>rw [f] at nz0;exact nz0 rfl
    | some u=>
     rw [f] at nz0;have:u∈nz (putD i (y:Int) ts):=V5.mpr ⟨List.mem_of_find?_eq_some f,by simpa using nz0⟩
     rw [z0] at this;cases this
   rw [Ec,Y8] at r;lia
  have kk:∀ u∈nz (putD i (x:Int) ts),u.2≠0/\∃ t∈ts,u.1=t.1.set i 0:=fun u hu=>by
   obtain ⟨h1,h2⟩:=V5.mp hu;exact ⟨by simpa using h2,pI u.1<|Gs.mpr ⟨u,h1,rfl⟩⟩
  have z1:∀ u∈nz (putD i (x:Int) ts),u.1.getD i 0=0:=fun u hu=>by
   obtain ⟨_,t,ht,e⟩:=kk u hu;rw [e,kE,if_pos rfl]
  obtain ⟨xs,lx,bx,wx⟩:=acv (L:=L) (M:=M) n (i+1) (nz (putD i (x:Int) ts)) (by lia) nx ((lN i (x:Int) ts).sublist (List.Sublist.map _ List.filter_sublist)) (fun u hu=>by
   obtain ⟨u2,t,ht,e⟩:=kk u hu;refine ⟨by rw [e,Wn];exact (h t ht).1,u2,fun j=>?_⟩;rw [e,kE];split
   ·exact ⟨Wf _,Int.natCast_nonneg _⟩
   ·exact (h t ht).2.2 j) (z.put z1 fun u hu=>(kk u hu).2)
  refine ⟨xs.set i x,by rw [Wn];exact lx,fun j hj=>?_,?_⟩
  ·rw [Hy,List.getElem?_set];by_cases c:i=j
   ·rw [if_pos c,if_pos (by lia)];subst c;exact ⟨Int.natCast_nonneg _,by show (x:Int)<=_;lia⟩
   ·rw [if_neg c,<-Hy];exact bx j hj
  ·have ex:(xs.set i (x:Int)).getD i 0=x:=by rw [Hy,List.getElem?_set,if_pos rfl,if_pos (show i<xs.length by lia)];rfl
   have ec:lin (fun k=>mo k (xs.set i (x:Int)) L) (nz (putD i (x:Int) ts))=lin (fun k=>mo k xs L) (nz (putD i (x:Int) ts)):=jZ fun u hu=>O5 (z1 u hu) L
   have ep:=ab7 (xs:=xs.set i (x:Int)) hi ts;rw [ex] at ep;rw [<-ep,<-PJ,ec];exact wx
theorem ac5 {x:Nat}(hx:x<=6)(hp:p<=6):((x:Int)^p).natAbs<=2^24:=by
 rw [Int.natAbs_pow];refine Eb (Nat.pow_le_pow_left (show (x:Int).natAbs<=8 by lia) p) ?_;refine Eb (Ub (by decide) hp)<|by decide
theorem afm {ts:List Tm}(h:∀ t∈ts,t.1.length=L):∀ u∈putD l x ts,u.1.length=L:=fun u hu=>by
 obtain ⟨t,ht,e⟩:=pI u.1 (Gs.mpr ⟨u,hu,rfl⟩);rw [e,Wn];exact h t ht
def aag (c0:Dr):Prop:=∀ {h:Gh} {ts:List Tm} {L l:Nat} {x:Int} {Q:WK} {E:FQ},Wi L ts->l<L->L<=8->Sm 34 x ->
 (∀ (us:List Tm) (h':Gh),Io l x ts us->Ge h h'->Q (Du us) h')->c0 [Du ts,.int (l:Int),.int x] h Q E
theorem zaD {ts:List Tm}(e:ts[i]?=FN t):putD l x (ts.take (i+1))=xP (putD l x (ts.take i)) (t.1.set l 0) (t.2*x^(t.1.getD l 0).toNat):=by
 rw [Lz,e];exact dG ..
theorem abY {so pu ht:Dr}(hso:aau so)(hpu:Sg pu)(hht:Wx ht):aag (Rh so pu ht):=by
 intro h ts L l x Q E wf hl hL sx q;have ok:=Bf (lN l x ts) (afm (l:=l) (x:=x) fun t ht=>(wf.2 t ht).1);unfold Rh;refine dY rfl (Z:=[FN<|Du ts,FN<|.int (l:Int),FN<|.int x,FX,FX,FX,FX,FX]) rfl<|aG<|aM<|aL<|ak<|aj rfl<|ak<|aL<|ak<|aj rfl<|ak<|aj rfl<|aA ?_
 refine hht wf hl fun G hG hb _=>?_;refine aA<|hpu sx hG ?_
 refine eN (Z':=[FN<|Du ts,FN<|.int (l:Int),FN<|.int x,FN<|.lst<|(rO x G).map .int,FX,FX,FX,FX]) rfl<|aZ<|aG<|aM<|afE fun g eg og xg=>?_
 refine eN (Z':=[FN<|Du ts,FN<|.int (l:Int),FN<|.int x,FN<|.lst<|(rO x G).map .int,FN<|.loc h.nx,FX,FX,FX]) rfl<|aZ<|aG ?_
 refine lJ (ws:=ts.map GJ) rfl ?_;refine cV (fun i Z h'=>i<=600/\∃ s5 s6 s7:Option W,Z = [FN<|Du ts,FN<|.int (l:Int),FN<|.int x,FN<|.lst<|(rO x G).map .int,FN<|.loc h.nx,s5,s6,s7]/\h'.c h.nx=FN (.dtt<|Lg<|putD l x<|ts.take i)/\h'.nx=h.nx+1/\∀ n,n≠h.nx->h'.c n=h.c n) ?_ ?_ ⟨Jk _,FX,FX,FX,rfl,eg,xg,og⟩
 ·rintro i w Z h' N hN e ⟨hi,s5,s6,s7,rfl,e2,x2,o2⟩;rw [Gy] at e;cases qe:ts[i]? with
  | none=>rw [qe] at e;cases e
  | some t=>
   rw [qe] at e;cases e;have mt:=Lx qe;have hi:=(Le.mp qe).1;have ajZ:=wf.1;obtain ⟨w1,w2,w3⟩:=wf.2 t mt;obtain ⟨b0,b1⟩:=w3.get l;have b2:=hb t mt;have en:t.1.getD l 0=(((t.1.getD l 0).toNat:Nat):Int):=by lia
   have ld:=uQ l x (ts.take i);rw [Lr] at ld;refine d9 rfl rfl<|bW<|eN (Z':=[FN<|Du ts,FN<|.int (l:Int),FN<|.int x,FN<|.lst<|(rO x G).map .int,FN<|.loc h.nx,FN<|.tup<|t.1.map .int,s6,s7]) rfl<|bW<|eN (Z':=[FN<|Du ts,FN<|.int (l:Int),FN<|.int x,FN<|.lst<|(rO x G).map .int,FN<|.loc h.nx,FN<|.tup<|t.1.map .int,FN<|.int t.2,s7]) rfl<|iu ?_
   refine aG<|aM<|abl w1 hl hL rfl rfl (fun R hR=>aU hR) ?_
   refine eN (Z':=[FN<|Du ts,FN<|.int (l:Int),FN<|.int x,FN<|.lst<|(rO x G).map .int,FN<|.loc h.nx,FN<|.tup<|t.1.map .int,FN<|.int t.2,FN<|.tup<|(t.1.set l 0).map .int]) rfl<|aZ<|aM<|aF<|Qp<|aj rfl<|HN e2<|ak<|aj rfl<|ak<|aU<|aA<|Xq e2 ?_
   refine aF<|aj rfl<|aF<|aj rfl<|aF<|aj rfl<|aj rfl<|bM (ws:=t.1.map .int) rfl (agw<|by lia) ?_
   refine bM (ws:=(rO x G).map .int) (w:=.int (x^(t.1.getD l 0).toNat)) rfl (by rw [en];exact dh (by rw [Wr];exact vH (by lia))) ?_;refine iU (.of w2 (Jz<|yL _ sx) (by lia)<|by lia)<|cB<|qw<|aj rfl<|aj rfl ?_
   refine Pj e2 (by lia) fun g2 a1 a2 a3=>aZ<|hN _ _ ⟨by lia,_,_,_,rfl,?_,by lia,fun n hn=>by rw [a2 n hn];exact o2 n hn⟩
   rw [zaD qe];exact a1
 ·rintro Z h' ⟨hi,s5,s6,s7,rfl,e2,x2,o2⟩;rw [Ec,LK] at e2;unfold JW;refine aZ<|bC<|aL<|ak<|aj rfl<|aA ?_
  have l6:=Eb (uQ l x ts) wf.1;refine hso e2 (by lia) ok fun ks pk sk=>⟨fun _=>jK<|q _ h' ⟨ks,pk,sk,rfl⟩ ⟨by lia,fun n hn=>o2 n<|by lia⟩,fun c=>?_⟩;have a:=za (putD l x ts) ks;rw [pk.length_eq,Ec] at a;lia
theorem Gd.ts {L m M:Nat}{ts:List Tm}(g:Gd L m M ts)(hM:M<=60)(hm:m<=1000):Wi L ts:=⟨Eb g.1 (by decide),fun t ht=>⟨(g.2.2 t ht).1,(g.2.2 t ht).2.2.1.mono hm,fun p hp=>by have:=(g.2.2 t ht).2.2.2 p hp;lia⟩⟩
theorem zbP (x:Q (.bl (!s.isEmpty)) h):Lj [.lst [Du s]] h Q:=by
 show Q (.bl ((!(s.map GJ).isEmpty)&&true)) h;cases s <;> exact x
def acS (c0:Dr):Prop:=∀ {h:Gh} {ts:List Tm} {L m l:Nat} {Q:WK} {E:FQ},Gd L m 6 ts->ts≠[]->m<=1000->l<L->L<=8 ->
 (∀ (x:Nat) (us:List Tm) (h':Gh),x<=6->Io l (x:Int) ts us->us≠[]->Ge h h'->Q (.int (x:Int)) h')->c0 [.lst [Du ts],.int (l:Int)] h Q E
theorem zbR {pt:Dr}(hpt:aag pt):acS (iV pt):=by
 intro h ts L m l Q E g ne hm hl hL q;unfold iV;refine dY rfl (Z:=[FN<|.lst [Du ts],FN<|.int (l:Int),FX]) rfl<|aG<|aM<|aU ?_
 refine nV<|aZ ?_
 refine aG ?_;refine ⟨fun k Z h'=>∃ x:Nat,k+x=7/\Z = [FN<|.lst [Du ts],FN<|.int (l:Int),FN<|.int (x:Int)]/\Ge h h'/\∀ y:Nat,y<x->∀ r,lin (fr l (y:Int) r) ts=0,⟨7,0,by lia,rfl,.refl h,fun y hy=>absurd hy<|by lia⟩,?_⟩;rintro k Z h' ⟨x,ek,rfl,gx,lo⟩;have xb:x<=6:=by
  have:=Xf (l:=l) (M:=6) (xs:=(LC x).map fun y:Nat=>(y:Int)) ne (cQ g.2.1) (fun t ht=>by
   have:=Hh (g.2.2 t ht).2.2.2 l
   exact ⟨by rw [(g.2.2 t ht).1];exact hl,this.1,by lia,(g.2.2 t ht).2.1⟩) (by
   rw [List.nodup_iff_pairwise_ne,Tv];exact List.pairwise_lt_range.imp fun h=>by lia) fun z hz r=>by
   obtain ⟨y,hy,rfl⟩:=Gs.mp hz;exact lo y (Tz.mp hy) r
  rw [Ec,Y8] at this;exact this
 have sx:Sm 34 (x:Int):=(jr (n:=20) (by lia) (by lia)).mono (by decide);refine j8<|fu<|cj<|ak ?_
 refine fZ<|jM<|aj rfl<|yq (ws:=[Du ts]) (o:=FX) rfl<|fV.mk (show 1<=G7 by decide) ?_
 refine dW (fun i acc g=>Ge h g/\(i=0/\acc=[]\/i=1/\∃ us,Io l (x:Int) ts us/\acc=[Du us])) ?_ ?_ ⟨gx,.inl ⟨rfl,rfl⟩⟩
 ·rintro i w acc g' N hN e ⟨gg,c⟩;have i0:i=0:=by have:=(Le.mp e).1;simp at this;exact this
  subst i0;rcases c with ⟨_,rfl⟩ | ⟨c,_⟩
  ·cases e;refine ⟨[Du ts],rfl,cJ<|cL ?_⟩;refine aL<|ak<|aj rfl<|ak<|aj rfl<|ak<|aj rfl<|aA ?_
   exact hpt (g.ts (by decide) hm) hl hL sx fun us h2 pu ge=>hN _ _ ⟨gg.trans ge,.inr ⟨rfl,us,pu,rfl⟩⟩
  ·cases c
 ·rintro acc g' ⟨gg,c⟩;rcases c with ⟨c,_⟩ | ⟨_,us,pu,rfl⟩
  ·cases c
  refine aA<|zbP<|Cr rfl ?_
  cases us with
  | cons t us=>
   refine JX<|aZ ?_
   unfold jz;exact bC<|aj rfl<|jK<|q x _ g' xb pu (by simp) gg
  | nil=>
   refine QK<|aM<|aF<|aj rfl<|aU<|cB ?_
   have ex:((x+1:Nat):Int)=(x:Int)+1:=by lia
   refine eN (Z':=[FN<|.lst [Du ts],FN<|.int (l:Int),FN<|.int<|(x:Int)+1]) rfl<|aZ ⟨k - 1,by lia,x+1,by lia,by rw [ex],gg,fun y hy=>?_⟩
   by_cases c:y<x
   ·exact lo y c
   ·have:y=x:=by lia
    subst this;exact pu.nil
def AwX (c0:Dr):Prop:=∀ {h:Gh} {ts:List Tm} {L m:Nat} {Q:WK} {E:FQ},Gd L m 6 ts->ts≠[]->L<=8->m+31*L<=1000->(∀ xs:List Int,xs.length=L->(∀ x∈xs,0<=x/\x<=6)->lin (fun k=>mo k xs L) ts≠0->Q (.tup (xs.map .int)) h)->c0 [Du ts,.int (L:Int)] h Q E
theorem afW {pt la:Dr}(hpt:aag pt)(hla:acS la):AwX (Jl pt la):=by
 intro h ts L m Q E g ne hL hm q;unfold Jl;refine jR rfl (Z:=[FN<|Du ts,FN<|.int (L:Int),FX,FX,FX]) rfl ?_;refine aG<|bL<|j8<|fu<|aj rfl<|Cr (b:=true) ?_<|JX<|bA<|aZ ?_
 ·cases ts with
  | nil=>exact absurd rfl ne
  | cons a r=>rfl
 unfold BK;refine aG<|aM<|aj rfl ?_
 refine nV<|aZ ?_
 refine aG<|aM<|iy (ws:=[]) (fun R=>rfl) rfl fun g1 eg og xg=>?_
 refine nV<|aZ ?_
 refine aG ?_;refine uW (j:=(L:Int)) (fun _=>rfl) (by lia) (by lia) (fun i Z h'=>∃ (ns:List Int) (S:List Tm) (s4:Option W),Z = [FN<|Du ts,FN<|.int (L:Int),FN<|Du S,FN<|.loc h.nx,s4]/\ns.length=i/\(∀ x∈ns,0<=x/\x<=6)/\Gd L (m+31*i) 6 S/\S≠[]/\Zr i S/\(∀ xs:List Int,(∀ j,j<i->xs.getD j 0=ns.getD j 0)->lin (fun k=>mo k xs L) S=lin (fun k=>mo k xs L) ts)/\h'.c h.nx=FN (.lst<|ns.map .int)/\Ge h h'/\h.nx+1<=h'.nx) ?_ ?_ ⟨[],ts,FX,rfl,rfl,fun _ h=>(nomatch h),g,ne,fun _ _ _ hj=>absurd hj<|by lia,fun _ _=>rfl,eg,⟨by lia,fun n hn=>og n<|by lia⟩,by lia⟩
 ·rintro i Z h' N hN hi ⟨ns,S,s4,rfl,ln,bn,gi,nei,zi,wi,e2,ge,ne2⟩;have hi:i<L:=by lia
  refine nV ?_;refine aG<|cM<|gJ<|aj rfl<|dM e2<|ak<|aL<|ak<|jU<|ak<|aj rfl<|aA<|bH rfl<|ak<|aj rfl<|aA ?_
  refine hla gi nei (by lia) hi hL fun x us h2 hx pus neus ge2=>aA ?_;have e3:h2.c h.nx=FN (.lst (ns.map .int)):=by rw [ge2.2 h.nx (by lia)];exact e2
  refine yc e3 (by rw [Ec,ln];lia) fun g2 a1 a2 a3=>aZ ?_;have a1:g2.c h.nx=FN (.lst ((ns++[(x:Int)]).map .int)):=by rw [a1,Iu];rfl
  have ix:J7 ((ns++[(x:Int)]).map W.int) (i:Int)=FN (.int (x:Int)):=dh (by
   rw [Gy,Ob (by rw [ln];exact Ea _),ln,Nat.sub_self];rfl)
  refine aM<|aL<|ak<|aj rfl<|ak<|aj rfl<|ak<|aF<|aj rfl<|aj rfl<|kZ a1 ix<|aA ?_
  have sx:Sm 34 (x:Int):=(jr (n:=20) (by lia) (by lia)).mono (by decide);refine hpt (gi.ts (by decide)<|by lia) hi hL sx fun vs h3 pvs ge3=>?_;rw [pvs.uniq pus];have n2:=ge2.1;have n3:=ge3.1;obtain ⟨p1,_,p3,p4⟩:=pus.gd gi (b:=24) fun q hq=>ac5 hx hq
  refine nV<|aZ<|hN _ _ ⟨ns++[(x:Int)],us,FN<|.int (i:Int),rfl,by rw [JC,ln];rfl,fun y hy=>?_,?_,neus,zi.put p3 p4,fun xs hx'=>?_,by rw [ge3.2 h.nx<|by lia];exact a1,⟨by have:=ge.1;lia,fun n hn=>?_⟩,by lia⟩
  ·rcases Mr.mp hy with hy | hy
   ·exact bn y hy
   ·rw [K5.mp hy];lia
  ·rw [show m+31*(i+1)=m+31*i+24+7 by lia];exact p1
  ·have ei:xs.getD i 0=(x:Int):=by
    rw [hx' i (by lia),Hy,Ob (by lia),ln,Nat.sub_self];rfl
   rw [<-ei] at pus;rw [zaB hi pus];refine wi xs fun j hj=>?_;rw [hx' j (by lia),Hy,RQ (by lia),<-Hy]
  ·rw [ge3.2 n (by lia),a2 n (by lia),ge2.2 n (by lia)];exact ge.2 n hn
 ·rintro Z h' ⟨ns,S,s4,rfl,ln,bn,gi,nei,zi,wi,e2,ge,_⟩;have eL:(L:Int).toNat=L:=by lia
  rw [eL] at ln zi wi;unfold Ar;refine aZ<|bC<|cj<|ak<|aj rfl<|aA ?_
  show (match dF h' (.loc h.nx) with
   | some us=>_
   | none=>False)
  rw [oZ e2];refine ⟨fun n c hn ec=>by rw [ge.2 n hn];exact ec,.inl ⟨by rw [Lo];exact qJ _ _,q ns ln bn ?_⟩⟩;rw [<-wi ns fun _ _=>rfl];exact Qx (fun t ht=>⟨(gi.2.2 t ht).1,(gi.2.2 t ht).2.1⟩) (cQ gi.2.1) nei zi
theorem QV (c:Int):∀ k:Nat,(Gv k [W.int c]).flatten=(Gv k c).map .int
 | 0=>rfl
 | k+1=>by rw [RB,RB,W3,QV c k];rfl
theorem abm {c:Int}(hL:L<=8)(q:Q (.tup ((Gv L c).map .int)) h):RJ (.tup [.int c]) (.int L) h Q:=by
 have eL:(L:Int).toNat=L:=by lia
 refine ⟨⟨by lia,by lia,by rw [eL];simp;lia⟩,?_⟩;rw [eL,QV];exact q
def nsT (n:Int)(L:Nat):List Tm:=if n≠0 then [(Gv L 0,n)] else []
def NsX (c0:Dr):Prop:=∀ {h:Gh} {n:Int} {L:Nat} {Q:WK} {E:FQ},L<=8->Q (Du (nsT n L)) h->c0 [.int n,.int (L:Int)] h Q E
theorem adF:NsX iD:=by
 intro h n L Q E hL q;unfold iD;refine dY rfl (Z:=[FN<|.int n,FN<|.int (L:Int)]) rfl<|bC<|Jt<|aW<|aF<|aj rfl<|aU<|qR<|jc ?_
 unfold nsT at q;refine pA (fun c=>?_) fun c=>?_
 ·rw [if_pos c] at q;refine cI<|ak<|cI<|ak<|aF<|cI<|ak<|aU<|aA<|bH rfl<|aj rfl<|abm hL ?_
  exact ak<|aj rfl<|aA<|bH rfl<|aA<|bH rfl<|jK q
 ·rw [if_neg c] at q;exact cI<|aA<|bH rfl<|jK q
def NP (l L:Nat):List Int:=(LC L).map fun k=>if k=l then 1 else 0
def LsX (c0:Dr):Prop:=∀ {h:Gh} {l L:Nat} {Q:WK} {E:FQ},L<=8->Q (Du [(NP l L,1)]) h->c0 [.int (l:Int),.int (L:Int)] h Q E
theorem Bs (ea:acc=(NP l i).map .int):acc++[.int (if i=l then 1 else 0)]=(NP l (i+1)).map .int:=by
 rw [ea];unfold NP;rw [YL,Iu,Iu];rfl
theorem ado:LsX jd:=by
 intro h l L Q E hL q;unfold jd;refine dY rfl (Z:=[FN<|.int (l:Int),FN<|.int (L:Int)]) rfl<|bC<|cI<|ak<|cI<|ak<|cj<|ak ?_
 refine aic (j:=(L:Int)) (fun R=>rfl) (by lia) (by lia) (Eb (m:=1000) (by lia)<|by decide) (fun i acc g=>g=h/\acc=(NP l i).map .int) ?_ ?_ ⟨rfl,rfl⟩
 ·rintro i acc g N hN hi ⟨rfl,ea⟩;refine ⟨[.int (i:Int)],rfl,cJ<|cL<|Jt<|aW<|aF<|aj rfl<|aj rfl<|qP<|jc ?_⟩;refine pA (fun c=>aU<|hN _ _ ⟨rfl,?_⟩) fun c=>aU<|hN _ _ ⟨rfl,?_⟩
  ·rw [<-Bs ea,if_pos (by lia)]
  ·rw [<-Bs ea,if_neg (by lia)]
 ·rintro acc g ⟨rfl,rfl⟩;have eL:(L:Int).toNat=L:=by lia
  rw [eL];exact aA<|ji<|ak<|aU<|aA<|bH rfl<|aA<|bH rfl<|jK q
def WhG (c0:Dr):Prop:=∀ {h:Gh} {i:Int} {Q:WK} {E:FQ},Q (.bl true) h->c0 [.int i] h Q E
theorem Kp:WhG lK:=by
 intro h i Q E q;unfold lK;refine dY rfl (Z:=[FN<|.int i]) rfl<|bC ?_
 refine mH<|cj<|ak<|aj rfl<|ak<|aU<|aA<|rT (b:=true) rfl<|V1<|nH ?_
 exact JN<|cj<|ak<|aj rfl<|ak<|aU<|aA<|rT (b:=false) rfl<|acV<|jK q
theorem Vc (q:Q (.bl true) h):Qn [.lst (Gv n (.bl true))] h Q:=by
 refine Ou (us:=Gv n (.bl true)) (bs:=Gv n true) rfl ?_ ?_
 ·induction n with
  | zero=>rfl
  | succ n ih=>rw [RB,RB];simp [Ek,ih]
 ·have:(Gv n true).all id=true:=by rw [Wq];intro x hx;rw [(List.mem_replicate.mp hx).2];rfl
  rw [this];exact q
theorem Nk {a b:Int}(x:Q (.bl (decide (a<=b))) h):Tg (.int a) (.int b) h Q:=x
theorem ajq {p:Int}(hv:Z[0]?=FN (FN (.int p)))(h0:0<=p)(h1:p<=60)(q:Q (.bl true) h):Cj Tg Tg (mC (.int 0)) (aB 0) (mC (.int 60)) Z h Q:=by
 refine aU<|aj hv<|Nk ?_
 rw [decide_eq_true h0];refine aU<|Nk ?_
 rw [decide_eq_true h1];exact q
def PwG (c0:Dr):Prop:=∀ {h:Gh} {ps:List Int} {L:Nat} {Q:WK} {E:FQ},ps.length=L->L<=8->Pw ps->Q (.bl true) h->c0 [.tup (ps.map .int),.int (L:Int)] h Q E
theorem zbU {wh:Dr}(hwh:WhG wh):PwG (jD wh):=by
 intro h ps L Q E hl hL hp q;unfold jD;refine dY rfl (Z:=[FN<|.tup<|ps.map .int,FN<|.int (L:Int)]) rfl<|aG<|bL<|xW<|j8<|fu<|cj<|ak<|aj rfl<|ak<|aU<|aA<|rT (b:=true) rfl<|Cr rfl<|rH rfl ?_
 refine aW<|aF<|cj<|ak<|aj rfl<|aA<|gY (xs:=ps.map .int) rfl<|aj rfl<|qR<|jc ?_
 rw [Ec,hl];refine pA (fun c=>absurd rfl c) fun c=>bA<|aZ ?_
 unfold j9;refine bC<|cj<|ak<|fZ<|jM<|aj rfl<|yq (ws:=ps.map .int) (o:=FX) rfl<|fV.mk (Eb (m:=1000) (by rw [Ec];lia)<|by decide) ?_
 refine dW (fun i acc g=>g=h/\acc=Gv i (.bl true)) ?_ ?_ ⟨rfl,rfl⟩
 ·rintro i w acc g N hN e ⟨rfl,rfl⟩;rw [Gy] at e;cases qe:ps[i]? with
  | none=>rw [qe] at e;cases e
  | some p=>
   rw [qe] at e;cases e;have b:=hp p (Lx qe);refine ⟨[.int p],rfl,cJ<|cL<|mH<|aL<|ak<|aj rfl<|aA<|hwh<|V1<|nH ?_⟩;refine ajq rfl b.1 b.2<|hN _ _ ⟨rfl,?_⟩
   rw [Yt]
 ·rintro acc g ⟨rfl,rfl⟩;exact aA<|Vc<|jK q
def TeG (c0:Dr):Prop:=∀ {h:Gh} {t:Tm} {L:Nat} {Q:WK} {E:FQ},t.1.length=L->L<=8->Pw t.1->t.2≠0->Q (.bl true) h->c0 [GJ t,.int (L:Int)] h Q E
theorem agp {wh pw:Dr}(hwh:WhG wh)(hpw:PwG pw):TeG (pW wh pw):=by
 intro h t L Q E hl hL hp ne q;unfold pW;refine dY rfl (Z:=[FN<|GJ t,FN<|.int (L:Int)]) rfl<|aG<|bL<|xW<|j8<|fu<|cj<|ak<|aj rfl<|ak<|aU<|aA<|rT (b:=true) rfl<|Cr rfl<|rH rfl ?_
 refine aW<|aF<|cj<|ak<|aj rfl<|aA<|gY (xs:=[.tup<|t.1.map .int,.int t.2]) rfl<|aU<|qR<|jc ?_
 refine rH rfl<|bA<|aZ ?_
 unfold qD;refine bC<|mH<|aL<|ak<|aF<|aj rfl<|aU<|bM (ws:=[.tup<|t.1.map .int,.int t.2]) (w:=.tup (t.1.map .int)) rfl rfl<|ak<|aj rfl<|aA ?_
 refine hpw hl hL hp<|V1<|nH ?_
 refine mH<|aL<|ak<|aF<|aj rfl<|aU<|bM (ws:=[.tup<|t.1.map .int,.int t.2]) (w:=.int t.2) rfl rfl<|aA<|hwh<|V1<|nH ?_
 refine aF<|aF<|aj rfl<|aU<|bM (ws:=[.tup<|t.1.map .int,.int t.2]) (w:=.int t.2) rfl rfl<|aU<|qR ?_
 rw [decide_eq_true ne];exact jK q
theorem abx {l:List Int}(q:Q (.bl (decide (k<l))) h):WD (.tup (k.map .int)) (.tup (l.map .int)) h Q:=by
 unfold WD;rw [rC,rC];exact q
def IsG (c0:Dr):Prop:=∀ {h:Gh} {us:List Tm} {L:Nat} {Q:WK} {E:FQ},L<=8->us.length<=600->(us.map (·.1)).Pairwise (· < ·)->(∀ t∈us,t.1.length=L/\Pw t.1/\t.2≠0)->Q (.bl true) h->c0 [Du us,.int (L:Int)] h Q E
theorem R8 (e:ws.length<=1000)(x:oX ⟨ws,o⟩ own ix tt te Z Q ws [] h):lcK own ix tt te Z Q ⟨ws,o⟩ h:=fV.mk (Eb (m:=1000) e (by decide)) x
theorem zbG {te:Dr}(hte:TeG te):IsG (vC te):=by
 intro h us L Q E hL lu su hu q;unfold vC;refine dY rfl (Z:=[FN<|Du us,FN<|.int (L:Int)]) rfl<|aG<|bL<|xW<|j8<|fu<|cj<|ak<|aj rfl<|ak<|aU<|aA<|rT (b:=true) rfl<|Cr rfl<|rH rfl ?_
 refine aW<|aF<|cj<|ak<|aj rfl<|aA<|gY (xs:=us.map GJ) rfl<|aU<|xu<|jc ?_
 rw [Ec];refine pA (fun c=>by lia) fun c=>bA<|aZ ?_
 unfold rB;refine aG<|bL<|j8<|fu<|cj<|ak<|fZ<|jM<|aj rfl<|yq (ws:=us.map GJ) (o:=FX) rfl<|fV.mk (Eb (m:=1000) (by rw [Ec];lia)<|by decide) ?_
 refine dW (fun i acc g=>g=h/\acc=Gv i (.bl true)) ?_ ?_ ⟨rfl,rfl⟩
 ·rintro i w acc g N hN e ⟨rfl,rfl⟩;rw [Gy] at e;cases qe:us[i]? with
  | none=>rw [qe] at e;cases e
  | some t=>
   rw [qe] at e;cases e;obtain ⟨h1,h2,h3⟩:=hu t (Lx qe);refine ⟨[GJ t],rfl,cJ<|cL<|aL<|ak<|aj rfl<|ak<|aj rfl<|aA<|hte h1 hL h2 h3<|hN _ _ ⟨rfl,?_⟩⟩;rw [Yt]
 ·rintro acc g ⟨rfl,rfl⟩;refine aA<|Vc<|Cr rfl<|rH rfl<|bA<|aZ ?_
  unfold rP;refine bC<|cj<|ak<|fZ<|afA<|ak<|aU<|ak<|cj<|ak<|aj rfl<|aA<|gY (xs:=us.map GJ) rfl<|aA ?_
  refine aiY (a:=1) (n:=1) (m:=(us.map GJ).length) rfl (by decide) (by rw [Ec];lia)<|R8 ?_ ?_
  ·rw [Ec];unfold rng;rw [List.length_range',Ec];lia
  refine dW (fun i acc g'=>g'=g/\acc=Gv i (.bl true)) ?_ ?_ ⟨rfl,rfl⟩
  ·rintro i w acc g' N hN e ⟨rfl,rfl⟩;rw [Gy] at e;cases qj:(rng 1 (us.map GJ).length)[i]? with
   | none=>rw [qj] at e;cases e
   | some j=>
    rw [qj] at e;cases e;obtain ⟨ej,hj⟩:=Ie qj;subst ej;rw [Ec] at hj;have e1:(us.map GJ)[i]?=FN (GJ (us[i]'(by lia))):=by rw [Gy,GK (by lia)];rfl
    have e2:(us.map GJ)[1+i]?=FN (GJ (us[1+i]'hj)):=by rw [Gy,GK hj];rfl
    have lt:(us[i]'(by lia)).1<(us[1+i]'hj).1:=by
     have:=YS.mp su i (1+i) (by rw [Ec];lia) (by rw [Ec];lia) (by lia)
     rw [List.getElem_map,List.getElem_map] at this;exact this
    refine ⟨[.int ((1+i:Nat):Int)],rfl,cJ<|cL<|aF<|aF<|aF<|aj rfl<|aF<|aj rfl<|aU<|jQ ?_⟩;rw [show ((1+i:Nat):Int) - 1=(i:Int) by lia];refine bM (ws:=us.map GJ) rfl (dh e1)<|aU<|bM (ws:=[.tup<|(us[i]'(by lia)).1.map .int,.int (us[i]'(by lia)).2]) (w:=.tup ((us[i]'(by lia)).1.map .int)) rfl rfl ?_
    refine aF<|aF<|aj rfl<|aj rfl<|bM (ws:=us.map GJ) rfl (dh e2)<|aU<|bM (ws:=[.tup<|(us[1+i]'hj).1.map .int,.int (us[1+i]'hj).2]) (w:=.tup ((us[1+i]'hj).1.map .int)) rfl rfl<|abx ?_
    rw [decide_eq_true lt];refine hN _ _ ⟨rfl,?_⟩;rw [Yt]
  ·rintro acc g' ⟨rfl,rfl⟩;exact aA<|Vc<|jK q
theorem OJ {α : Type} [DecidableEq α]:∀ {l m:List α},l.Nodup->(∀ x∈l,x∈m)->l.length<=m.length
 | [],_,_,_=>Jk _
 | a::l,m,nd,h=>by
  rw [RN] at nd;have ma:=h a LQ;have:=OJ (l:=l) (m:=m.erase a) nd.2 fun x hx=>(List.mem_erase_of_ne (fun e:x=a=>nd.1 (e ▸ hx))).mpr (h x (Jm _ hx))
  rw [List.length_erase_of_mem ma] at this;have:=List.length_pos_of_mem ma
  rw [K9];lia
def V7 (p:Nat):Nat->List (List Int)
 | 0=>[[]]
 | L+1=>(LC (p+1)).flatMap fun a:Nat=>(V7 p L).map ((a:Int)::·)
theorem XC {α : Type}(c:Nat):∀ l:List α,(l.map fun _=>c).sum=l.length*c
 | []=>by simp
 | _::l=>by rw [Ed,Ws,XC c l,K9,Nat.succ_mul,WY]
theorem Ae (p:Nat):∀ L,(V7 p L).length=(p+1)^L
 | 0=>rfl
 | L+1=>by
  rw [V7,List.length_flatMap];simp only [Ec,Ae p L];rw [XC,Y8,XO,Nat.mul_comm]
theorem Df {p:Nat}:∀ (L:Nat) (k:List Int),k.length=L->(∀ j,0<=k.getD j 0)->(∀ j,j<L->k.getD j 0<=(p:Int))->k∈V7 p L
 | 0,k,h,_,_=>by rw [RT h];exact LQ
 | L+1,[],h,_,_=>by simp at h
 | L+1,a::k,h,h0,h1=>by
  rw [V7];have a0:=h0 0;have a1:=h1 0 (by lia);simp only [List.getD_cons_zero] at a0 a1;refine List.mem_flatMap.mpr ⟨a.toNat,Tz.mpr<|by lia,Gs.mpr ⟨k,Df L k (by simpa using h) (fun j=>?_)<|fun j hj=>?_,?_⟩⟩
  ·have:=h0 (j+1);rw [List.getD_cons_succ] at this;exact this
  ·have:=h1 (j+1) (by lia);rw [List.getD_cons_succ] at this;exact this
  ·rw [show ((a.toNat:Nat):Int)=a by lia]
structure Hs (L b:Nat) (T:Nat->Nat) (us:List Tm):Prop where
 srt:(us.map (·.1)).Pairwise (· < ·)
 ok:∀ t∈us,t.1.length=L/\t.2≠0/\Sm b t.2/\∀ j,0<=t.1.getD j 0/\t.1.getD j 0<=(T j:Int)
variable {T : Nat->Nat}
theorem Hs.mono {L b b':Nat}{T T':Nat->Nat}{us:List Tm}(h:Hs L b T us)(hb:b<=b')(hT:∀ j,T j<=T' j):Hs L b' T' us:=
 ⟨h.srt,fun t ht=>⟨(h.ok t ht).1,(h.ok t ht).2.1,(h.ok t ht).2.2.1.mono hb,fun j=>by have:=(h.ok t ht).2.2.2 j;have:=hT j;lia⟩⟩
theorem Hs.nd (h:Hs L b T us):(us.map (·.1)).Nodup:=cQ h.srt
theorem Hs.box (h:Hs L b T us)(hp:∀ j,j<L->T j<=p):us.length<=(p+1)^L:=by
 rw [<-Ae p L,<-Ec (f:=(·.1)) (as:=us)];refine OJ h.nd fun k hk=>?_;obtain ⟨t,ht,rfl⟩:=Gs.mp hk;exact Df L t.1 (h.ok t ht).1 (fun j=>((h.ok t ht).2.2.2 j).1) fun j hj=>by have:=((h.ok t ht).2.2.2 j).2;have:=hp j hj;lia
theorem Hs.pw (h:Hs L b T us)(hp:∀ j,j<L->T j<=p)(ht:t∈us):∀ q∈t.1,0<=q/\q<=(p:Int):=fun q hq=>by
 obtain ⟨j,hj,e⟩:=RD.mp hq;have:=(h.ok t ht).2.2.2 j
 rw [Hy,GK hj] at this;have t2:0<=t.1[j]/\t.1[j]<=(T j:Int):=this;rw [(h.ok t ht).1] at hj;have:=hp j hj
 rw [<-e];lia
theorem Hs.mb (h:Hs L b T us)(hp:∀ j,j<L->T j<=p):Mb L b p us.length us:=
 ⟨Ea _,h.srt,fun t ht=>⟨(h.ok t ht).1,(h.ok t ht).2.1,(h.ok t ht).2.2.1,h.pw hp ht⟩⟩
theorem Hs.mul {c:Nat}{U:Nat->Nat}(hu:Hs L b T us)(hv:Hs L c U vs)(hp:∀ j,j<L->T j<=p)(hq:∀ j,j<L->U j<=p)(l1:us.length<=64)(l2:vs.length<=64)(a:iR (gF us vs) rs):Hs L (b+c+13) (fun j=>T j+U j) rs:=by
 have m:=aiN (hu.mb hp) (hv.mb hq) l1 l2 a;refine ⟨m.2.1,fun t ht=>⟨(m.2.2 t ht).1,(m.2.2 t ht).2.1,(m.2.2 t ht).2.2.1,fun j=>?_⟩⟩;obtain ⟨x,hx,s,hs,e⟩:=Bt us vs _ ((a.mem (fU us vs)).2.2 t ht).1;rw [e,vI (by rw [(hu.ok x hx).1,(hv.ok s hs).1])];have h1:=(hu.ok x hx).2.2.2 j;have h2:=(hv.ok s hs).2.2.2 j;lia
theorem Hs.add {f:Int}(hu:Hs L b T us)(hv:Hs L b T vs)(hp:∀ j,j<L->T j<=p)(hf:f=1\/f = -1)(a:iR (jF f us vs) rs):Hs L (b+1) T rs:=by
 have m:=aiM ((hu.mb hp).mono (Ea _) (Ea _) (Nat.le_max_left _ vs.length)) ((hv.mb hp).mono (Ea _) (Ea _) (YM us.length _)) hf a;refine ⟨m.2.1,fun t ht=>⟨(m.2.2 t ht).1,(m.2.2 t ht).2.1,(m.2.2 t ht).2.2.1,fun j=>?_⟩⟩;rcases pU t.1 ((a.mem (fP hu.nd)).2.2 t ht).1 with h | h
 ·obtain ⟨u,hu2,e⟩:=Gs.mp h;rw [<-e];exact (hu.ok u hu2).2.2.2 j
 ·obtain ⟨u,hu2,e⟩:=Gs.mp h;rw [<-e];exact (hv.ok u hu2).2.2.2 j
structure Sz (L p:Nat):Prop where
 l:L<=3
 l1:1<=L
 p4:p<=4
 one:(p+1)^L<=64
 two:(p+p+1)^L<=400
theorem yd (h:L<=3)(h1:1<=L):Sz L (if L=3 then 3 else 4):=by
 have:L=1\/L=2\/L=3:=by lia
 rcases this with rfl | rfl | rfl <;> exact ⟨by decide,by decide,by decide,by decide,by decide⟩
theorem Hs.nn (h:Hs L b T us)(ht:t∈us)(i:Nat):0<=t.1.getD i 0:=((h.ok t ht).2.2.2 i).1
variable {c0 : Dr}
theorem HB (hc:VG c0){c:Nat}{U:Nat->Nat}(z:Sz L p)(hu:Hs L b T us)(hv:Hs L c U vs)(hb:b<=1000)(hc':c<=1000)(hp:∀ j,j<L->T j<=p)(hq:∀ j,j<L->U j<=p)
  (q:∀ rs,iR (gF us vs) rs->Hs L (b+c+13) (fun j=>T j+U j) rs->(∀ xs,lin (fun k=>mo k xs L) rs=lin (fun k=>mo k xs L) us*lin (fun k=>mo k xs L) vs)->Q (Du rs) h):c0 [Du us,Du vs] h Q E:=by
 have z1:=z.l;have z3:=z.p4;have lu:=Eb (hu.box hp) z.one;have lv:=Eb (hv.box hq) z.one;refine hc (L:=L) ((hu.mb hp).mono hb (show p<=30 by lia) lu).ms ((hv.mb hq).mono hc' (show p<=30 by lia) lv).ms (by lia) fun rs a=>?_;have hr:=hu.mul hv hp hq lu lv a;have p2:∀ j,j<L->T j+U j<=p+p:=fun j hj=>XM (hp j hj) (hq j hj)
 have lr:=Eb (hr.box p2) z.two;refine ⟨fun _=>q rs a hr fun xs=>?_,fun o=>?_⟩
 ·rw [a.lin (fU us vs),afV fun t ht s hs=>Kr (by rw [(hu.ok t ht).1,(hv.ok s hs).1]) (hu.nn ht) (hv.nn hs) L]
 ·rcases o with o | o | ⟨t,ht,x,hx,h60⟩
  ·have:=Ww lu lv
   lia
  ·lia
  ·have:=hr.pw p2 ht x hx
   lia
theorem Hv {s:Int}(hs:s=1\/s = -1)(hc:SX s c0)(hp:∀ j,j<L->T j<=p)(hP:(p+1)^L<=400)(hu:Hs L b T us)(hv:Hs L b T vs)(hb:b<=2000)
  (q:∀ rs,iR (jF s us vs) rs->Hs L (b+1) T rs->(∀ xs,lin (fun k=>mo k xs L) rs=lin (fun k=>mo k xs L) us+s*lin (fun k=>mo k xs L) vs)->Q (Du rs) h):c0 [Du us,Du vs] h Q E:=by
 refine hc ⟨Eb (hu.box hp) hP,hu.srt,fun t ht=>⟨(hu.ok t ht).1,(hu.ok t ht).2.1,(hu.ok t ht).2.2.1.mono hb⟩⟩ ⟨Eb (hv.box hp) hP,hv.srt,fun t ht=>⟨(hv.ok t ht).1,(hv.ok t ht).2.1,(hv.ok t ht).2.2.1.mono hb⟩⟩ fun rs a=>?_;have hr:=hu.add hv hp hs a;refine ⟨fun _=>q rs a hr fun xs=>?_,fun l=>?_⟩
 ·rw [iR.lin (fP hu.nd) a,oU hu.nd]
 ·have:=Eb (hr.box hp) hP
  lia
theorem Hs.self (h:Hs L b T us):iR us us:=⟨us.map (·.1),.refl _,h.srt,(afv h.nd fun t ht=>(h.ok t ht).2.1).symm⟩
theorem aiz {p m uu vv qs:List Tm}(nu:(us.map (·.1)).Nodup)(hp:iR (jF 1 us vs) p)(hm:iR (jF (-1) us vs) m)(huu:iR (gF us us) uu)(hvv:iR (gF vs vs) vv)(hr:iR (gF p m) rs)(hq:iR (jF (-1) uu vv) qs):rs=qs:=by
 refine hr.same (fun r=>?_) hq;have e:lin (dl r) (jF (-1) uu vv)=lin (dl r) uu + -1*lin (dl r) vv:=oU huu.nd vv;rw [gA (fP huu.nd),gA huu.nd,gA hvv.nd,huu.get (fU _ _),hvv.get (fU _ _)] at e;rw [e,jg,hp.lin (fP nu),oU nu];have i:∀ ws:List Tm,lin (fun k=>lin (fun l=>dl r (bJ k l)) m) ws=getM (gF ws us) r - getM (gF ws vs) r:=fun ws=>by
  have:lin (fun k=>lin (fun l=>dl r (bJ k l)) m) ws=lin (fun k=>lin (fun l=>dl r (bJ k l)) us+lin (fun l=>dl r (bJ k l)) vs * -1) ws:=jZ fun t _=>by
   rw [hm.lin (fP nu),oU nu,WT]
  rw [this,jg,jg,uq];rw [iC];lia
 rw [i,i,zar r vs us];lia
def Ry (ts:List Tm)(k:List Int):List Tm:=ts.filter fun t=>decide (t.1≠k)
def Bo (ts:List Tm)(k:List Int)(v:Int):List Tm:=if v=0 then Ry ts k else qM ts k v
structure Dc (L:Nat) (D:List Tm):Prop where
 kb:∀ j∈D.map (·.1),Kb L j
 nd:(D.map (·.1)).Nodup
 nz:∀ t∈D,t.2≠0
theorem afq (hD:∀ j∈D.map (·.1),Kb L j)(hk:Kb L k):Om (HW D) (.inl (pack k))=HW (Ry D k):=by
 unfold Om HW Ry;rw [List.filter_map];congr 1
 refine List.filter_congr fun t ht=>?_;show decide (Sum.inl (pack t.1)≠(Sum.inl (pack k):Key))=decide (t.1≠k);exact decide_eq_decide.mpr ⟨fun h e=>h<|by rw [e],fun h e=>h<|fB (hD t.1<|Gs.mpr ⟨t,ht,rfl⟩) hk<|Sum.inl.inj e⟩
theorem zbo (D:List Tm)(k r:List Int):getM (Ry D k) r=if r=k then 0 else getM D r:=by
 induction D with
 | nil=>unfold Ry getM;simp
 | cons t D ih=>
  unfold Ry at *;rw [TK];by_cases c:t.1=k
  ·rw [if_neg (by simpa using c),ih,bU,c];by_cases e:r=k
   ·rw [if_pos e,if_pos e]
   ·rw [if_neg e,if_neg e,if_neg (JD e)]
  ·rw [if_pos (by simpa using c),bU,bU,ih];by_cases e:r=k
   ·rw [if_pos e,if_pos e,if_neg (by rw [e];exact c)]
   ·rw [if_neg e,if_neg e]
theorem afY (D:List Tm)(k r:List Int)(v:Int):getM (Bo D k v) r=if r=k then v else getM D r:=by
 unfold Bo;split
 ·rename_i e;rw [zbo,e]
 ·exact Ja ..
theorem ug (h:t∈Bo D k v):t∈D\/v≠0/\t=(k,v):=by
 unfold Bo at h;split at h
 ·exact .inl (V5.mp h).1
 ·rename_i e;unfold qM at h;split at h
  ·obtain ⟨u,hu,eu⟩:=Gs.mp h;split at eu
   ·rename_i c;exact .inr ⟨e,by rw [<-eu,c]⟩
   ·exact .inl<|eu ▸ hu
  ·rcases Mr.mp h with h | h
   ·exact .inl h
   ·exact .inr ⟨e,K5.mp h⟩
theorem ajn (nd:(D.map (·.1)).Nodup):((Bo D k v).map (·.1)).Nodup:=by
 unfold Bo;split
 ·exact nd.sublist<|List.Sublist.map _ List.filter_sublist
 ·unfold qM;split
  ·rw [keys_map];exact nd
  ·rename_i c;rw [Iu,List.nodup_append];refine ⟨nd,by simp,fun a ha b hb e=>c ?_⟩;rw [Ed,Mw,K5] at hb;obtain ⟨t,ht,et⟩:=Gs.mp ha;exact Tt.mpr ⟨t,ht,decide_eq_true<|by rw [et,e,hb]⟩
theorem Dc.put (h:Dc L D)(hk:Kb L k):Dc L (Bo D k v):=by
 refine ⟨fun j hj=>?_,ajn h.nd,fun t ht=>?_⟩
 ·obtain ⟨t,ht,rfl⟩:=Gs.mp hj;rcases ug ht with m | ⟨_,rfl⟩
  ·exact h.kb _<|Gs.mpr ⟨t,m,rfl⟩
  ·exact hk
 ·rcases ug ht with m | ⟨e,rfl⟩
  ·exact h.nz t m
  ·exact e
theorem zaP (D:List Tm)(k:List Int)(v:Int):(Bo D k v).length<=D.length+1:=by
 unfold Bo;split
 ·exact Eb (List.length_filter_le _ _)<|Tp _
 ·unfold qM;split
  ·rw [Ec];lia
  ·simp
theorem ahu (e:h.c n=FN (.dct (HW D)))(hD:∀ j∈D.map (·.1),Kb L j)(hk:Kb L k)(m:k∈D.map (·.1))(q:∀ (g:Gh) (w:W),g.c n=FN (.dct (HW (Ry D k)))->(∀ m,m≠n->g.c m=h.c m)->g.nx=h.nx->Q w g):K6 (.loc n) [.int (pack k)] h Q:=by
 show (match h.c n,(FN (Sum.inl (pack k)):Option Key) with
  | some (.dct kvs),FN k=>(match nO kvs k with
   | some v=>Q v (h.set n (.dct (Om kvs k)))
   | none=>False)
  | _,_=>False)
 rw [e];show (match nO (HW D) (.inl (pack k)) with
  | some v=>Q v (h.set n (.dct (Om (HW D) (.inl (pack k)))))
  | none=>False)
 rw [uF hD hk,afq hD hk];obtain ⟨t,ht,et⟩:=Gs.mp m;cases c:D.find? fun t=>decide (t.1=k) with
 | none=>exact absurd (decide_eq_true et) (by simpa using YX.mp c t ht)
 | some u=>exact q _ _ (Ef _ _ _) (fun _ e=>sV e) rfl
def Lf (s:List Int)(f:Int)(vs D:List Tm):List Tm:=vs.foldl (fun D t=>Bo D (bJ s t.1) (getM D (bJ s t.1) - f*t.2)) D
theorem kj (s:List Int)(f:Int)(vs D:List Tm)(t:Tm):Lf s f (vs++[t]) D=Bo (Lf s f vs D) (bJ s t.1) (getM (Lf s f vs D) (bJ s t.1) - f*t.2):=by unfold Lf;rw [Vb];rfl
theorem Az {s:List Int}{f:Int}{j:Nat}(e:vs[j]?=FN t):Lf s f (vs.take (j+1)) D=Bo (Lf s f (vs.take j) D) (bJ s t.1) (getM (Lf s f (vs.take j) D) (bJ s t.1) - f*t.2):=by
 rw [Lz,e];exact kj ..
def dz (s r k:List Int):Int:=if bJ s k=r then 1 else 0
theorem HY (s:List Int)(f:Int)(vs D:List Tm)(r:List Int):getM (Lf s f vs D) r=getM D r - f*lin (dz s r) vs:=by
 refine Dq (P:=fun vs=>getM (Lf s f vs D) r=getM D r - f*lin (dz s r) vs) (by simp [Lf,lin]) (fun vs t ih=>?_) vs;rw [kj,afY];have el:lin (dz s r) (vs++[t])=lin (dz s r) vs+dz s r t.1*t.2:=by unfold lin;simp
 rw [el];unfold dz at *;by_cases c:r=bJ s t.1
 ·rw [if_pos c,if_pos c.symm,<-c,ih];grind
 ·rw [if_neg c,if_neg (JD c),ih];grind
theorem Di {s:List Int}{f:Int}(hD:Dc L D)(hv:∀ t∈vs,Kb L (bJ s t.1)):Dc L (Lf s f vs D):=by
 revert hv
 refine Dq (P:=fun vs=>(∀ t∈vs,Kb L<|bJ s t.1)->Dc L (Lf s f vs D)) (fun _=>hD) (fun vs t ih hv=>?_) vs;rw [kj];exact (ih fun u hu=>hv u<|N7 _ hu).put (hv t<|by simp)
theorem IW (s:List Int)(f:Int)(vs D:List Tm):(Lf s f vs D).length<=D.length+vs.length:=by
 refine Dq (P:=fun vs=>(Lf s f vs D).length<=D.length+vs.length) (Ea _) (fun vs t ih=>?_) vs;rw [kj,JC];have:=zaP (Lf s f vs D) (bJ s t.1) (getM (Lf s f vs D) (bJ s t.1) - f*t.2)
 simp only [K9,Wk];lia
def acM (c0:Dr):Prop:=∀ {h:Gh} {n:Nat} {D vs:List Tm} {s:List Int} {f:Int} {L:Nat} {Q:WK} {E:FQ},h.c n=FN (.dct (HW D))->Dc L D->D.length+vs.length<=30000->s.length=L->(∀ t∈vs,t.1.length=L/\Kb L (bJ s t.1)/\t.2≠0/\Sm 3000 t.2)->f≠0->Sm 3000 f ->
 (∀ g:Gh,g.c n=FN (.dct (HW (Lf s f vs D)))->(∀ m,m≠n->g.c m=h.c m)->g.nx=h.nx->Q .non g)->c0 [.loc n,.lst (vs.map Q8),.int (pack s),.int f] h Q E
theorem afQ:acM jA:=by
 intro h n D vs s f L Q E e hD hz hs hv f0 sf q;unfold jA;refine dY rfl (Z:=[FN<|.loc n,FN<|.lst<|vs.map Q8,FN<|.int<|pack s,FN<|.int f,FX,FX,FX,FX]) rfl ?_;refine Bw rfl ?_;refine cV (fun j Z h'=>∃ s4 s5 s6 s7:Option W,Z = [FN<|.loc n,FN<|.lst<|vs.map Q8,FN<|.int<|pack s,FN<|.int f,s4,s5,s6,s7]/\h'.c n=FN (.dct<|HW<|Lf s f (vs.take j) D)/\h'.nx=h.nx/\∀ m,m≠n->h'.c m=h.c m) ?_ ?_ ⟨FX,FX,FX,FX,rfl,e,rfl,fun _ _=>rfl⟩
 ·rintro j w Z h' N hN e' ⟨s4,s5,s6,s7,rfl,e3,x3,o3⟩;rw [Gy] at e';cases qf:vs[j]? with
  | none=>rw [qf] at e';cases e'
  | some t=>
   rw [qf] at e';cases e'
   have mt:=Lx qf;obtain ⟨lt,kt,t0,st⟩:=hv t mt;have dj:Dc L (Lf s f (vs.take j) D):=Di hD fun u hu=>(hv u (X4 hu)).2.1
   have lj:=IW s f (vs.take j) D;rw [Lr] at lj;refine d9 rfl rfl<|bW ?_
   refine nV<|bW ?_
   refine nV<|iu ?_
   refine aG<|aM<|aF<|aj rfl<|aj rfl<|cB ?_
   rw [Int.add_comm,<-dB hs lt];refine nV<|aZ ?_
   refine aG<|aM<|aF<|JH<|aj rfl<|zN e3<|ak<|aj rfl<|ak<|aU<|aA<|Qg e3 dj.kb kt ?_
   refine aF<|aj rfl<|aj rfl<|iU (.of sf st (by decide)<|by decide)<|jQ ?_
   refine nV<|aZ ?_
   refine bL<|aW<|aF<|aj rfl<|aU<|qP<|jc ?_
   refine pA (fun c=>?_) fun c=>?_
   ·refine cM<|JH<|aj rfl<|zN e3<|ak<|aj rfl<|aA ?_
    refine ahu e3 dj.kb kt ?_ fun g w a1 a2 a3=>aZ<|hN _ _ ⟨_,_,_,_,rfl,?_,by lia,fun m hm=>by rw [a2 m hm];exact o3 m hm⟩
    ·refine MJ fun z=>?_;rw [getM_none z] at c;have:=Int.mul_ne_zero f0 t0
     lia
    ·rw [Az qf];unfold Bo;rw [if_pos c];exact a1
   ·refine aM<|aj rfl<|qw<|aj rfl<|aj rfl ?_
    refine PK e3 dj.kb kt (by lia) fun g a1 a2 a3=>aZ<|hN _ _ ⟨_,_,_,_,rfl,?_,by lia,fun m hm=>by rw [a2 m hm];exact o3 m hm⟩
    rw [Az qf];unfold Bo;rw [if_neg c];exact a1
 ·rintro Z h' ⟨s4,s5,s6,s7,rfl,e3,x3,o3⟩;rw [Ec,LK] at e3;exact aZ<|q _ e3 o3 x3
def gn (k l:List Int):List Int:=List.zipWith (· - ·) k l
theorem yh:∀ {k l:List Int} {p q:Int},k.length=l.length->gn (k++[p]) (l++[q])=gn k l++[p - q]
 | [],[],_,_,_=>rfl
 | [],_::_,_,_,h=>by simp at h
 | _::_,[],_,_,h=>by simp at h
 | a::k,b::l,p,q,h=>by
  have:=yh (k:=k) (l:=l) (p:=p) (q:=q) (by simpa using h)
  unfold gn at *;rw [W2,W2,Xu,this,Xu,W2]
theorem tQ {l:List Int}(h:k.length=l.length):(gn k l).length=k.length:=by unfold gn;rw [List.length_zipWith,h,Nat.min_self]
theorem oV:∀ {k l:List Int},k.length=l.length->gn (bJ k l) l=k
 | [],[],_=>rfl
 | [],_::_,h=>by simp at h
 | _::_,[],h=>by simp at h
 | a::k,b::l,h=>by
  have:=oV (k:=k) (l:=l) (by simpa using h)
  unfold gn bJ at *;rw [Xu,Xu,this];congr 1
  lia
theorem oN:∀ {k l:List Int},k.length=l.length->bJ (gn k l) l=k
 | [],[],_=>rfl
 | [],_::_,h=>by simp at h
 | _::_,[],h=>by simp at h
 | a::k,b::l,h=>by
  have:=oN (k:=k) (l:=l) (by simpa using h)
  unfold gn bJ at *;rw [Xu,Xu,this];congr 1
  lia
theorem ur:∀ {k l:List Int},k.length=l.length->(nJ (k.map W.int) (l.map .int)).length=k.length
 | [],[],_=>rfl
 | [],_::_,h=>by simp at h
 | _::_,[],h=>by simp at h
 | a::k,b::l,h=>congrArg (· + 1) (ur (k:=k) (l:=l) (by simpa using h))
def Ng (k:List Int):Prop:=∃ p∈k,p<0
instance (k:List Int):Decidable (Ng k):=inferInstanceAs (Decidable (∃ p∈k,p<0))
def PoX (c0:Dr):Prop:=∀ {h:Gh} {k:List Int} {v:Int} {t:Tm} {L:Nat} {Q:WK} {E:FQ},k.length=L->t.1.length=L->L<=8->t.2≠0->Sm 3000 v->Sm 3000 t.2->(v.fmod t.2≠0\/Ng (gn k t.1)->Q .non h)->(v.fmod t.2=0->¬ Ng (gn k t.1)->Q (GJ (gn k t.1,v.fdiv t.2)) h)->c0 [.tup (k.map .int),.int v,GJ t] h Q E
theorem Zk:PoX fQ:=by
 intro h k v t L Q E hk ht hL t0 sv st q1 q2;unfold fQ;refine dY rfl (Z:=[FN<|.tup<|k.map .int,FN<|.int v,FN<|GJ t,FX]) rfl<|aG<|aM ?_
 refine cj<|ak<|fZ<|pO<|ak<|aj rfl<|ak<|aF<|aj rfl<|aU<|bM (x:=GJ t) (i:=0) (w:=.tup (t.1.map .int)) rfl rfl<|aA<|Jb (as:=k.map .int) (bs:=t.1.map .int) rfl rfl rfl ?_
 refine fV.mk (Eb (m:=1000) (by rw [ur<|by rw [hk,ht]];lia)<|by decide) ?_;refine dW (fun i acc g=>g=h/\acc=(gn (k.take i)<|t.1.take i).map .int) ?_ ?_ ⟨rfl,rfl⟩
 ·rintro i w acc g N hN e ⟨rfl,rfl⟩;obtain ⟨a,b,ea,eb,rfl⟩:=kY e;obtain ⟨p,ep,rfl⟩:=ints_get ea;obtain ⟨r,er,rfl⟩:=ints_get eb;refine ⟨[.int p,.int r],rfl,cJ<|cL<|aF<|aj rfl<|aj rfl<|jQ<|hN _ _ ⟨rfl,?_⟩⟩;rw [Lz,Lz,ep,er];show _=(gn (k.take i++[p]) (t.1.take i++[r])).map W.int;rw [yh (by rw [Lr,Lr,hk,ht]),Iu];rfl
 ·rintro acc g ⟨rfl,rfl⟩;rw [ur (by rw [hk,ht]),LK,hk,<-ht,LK];refine aA<|ji ?_
  refine nV<|aZ ?_
  refine aG<|bL<|xW<|aW<|aF<|aF<|aj rfl<|aF<|aj rfl<|aU<|bM (x:=GJ t) (i:=1) (w:=.int t.2) rfl rfl<|gW t0<|aU<|qR<|jc ?_
  refine pA (fun c=>nH<|bC<|aU<|jK<|q1<|.inl c) fun c=>?_;refine fu<|cj<|ak<|fZ<|jM<|aj rfl<|yq (ws:=(gn k t.1).map .int) (o:=FX) rfl<|fV.mk (Eb (m:=1000) (by rw [Ec,tQ<|by rw [hk,ht]];lia)<|by decide) ?_
  refine dW (fun j acc g'=>g'=g/\acc=(((gn k t.1).take j).map fun p=>decide<|p<0).map .bl) ?_ ?_ ⟨rfl,rfl⟩
  ·rintro j w acc g' N' hN' e' ⟨rfl,rfl⟩;obtain ⟨p,ep,rfl⟩:=ints_get e';refine ⟨[.int p],rfl,cJ<|cL<|aF<|aj rfl<|aU<|Y9<|hN' _ _ ⟨rfl,?_⟩⟩;rw [Lz,ep];simp
  ·rintro acc g' ⟨rfl,rfl⟩;rw [Ec,LK];refine aA<|BL (us:=((gn k t.1).map fun p=>decide<|p<0).map .bl) (bs:=(gn k t.1).map fun p=>decide<|p<0) rfl (zY _)<|Cr rfl ?_
   have ea:((gn k t.1).map fun p=>decide (p<0)).any id=decide (Ng (gn k t.1)):=by
    rw [V3,List.any_map,Tt,decide_eq_true_iff];constructor
    ·rintro ⟨p,hp,e⟩;exact ⟨p,hp,by simpa using e⟩
    ·rintro ⟨p,hp,e⟩;exact ⟨p,hp,by simpa using e⟩
   rw [ea];refine pA (fun d=>bC<|aU<|jK<|q1<|.inr d) fun d=>bA<|aZ ?_
   unfold gM;have c':v.fmod t.2=0:=MJ c;refine bC<|cI<|ak<|aj rfl<|ak<|aF<|aj rfl<|aF<|aj rfl<|aU<|bM (x:=GJ t) (i:=1) (w:=.int t.2) rfl rfl<|xU ⟨t0,3000,by decide,st⟩<|aA<|bH rfl<|jK<|q2 c' d
theorem agH (e:h.c n=FN (.dct (HW D)))(hD:Dc L D)(m:k∈D.map (·.1))(q:Q (.int (getM D k)) h):Ro (.loc n) (.int (pack k)) h Q:=by
 show (match h.c n with
  | some (.dct kvs)=>(match nO kvs (.inl (pack k)) with
   | some w=>Q w h
   | none=>False)
  | _=>False)
 rw [e];show (match nO (HW D) (.inl (pack k)) with
   | some w=>Q w h
   | none=>False)
 rw [uF hD.kb (hD.kb k m)];unfold getM at q;obtain ⟨t,ht,et⟩:=Gs.mp m;cases c:D.find? fun t=>decide (t.1=k) with
 | none=>exact absurd (decide_eq_true et) (by simpa using YX.mp c t ht)
 | some u=>rw [c] at q;exact q
theorem ahy {Q:Bool->Gh->Prop}(hv:Z[i]?=FN (FN (.loc n)))(e:h.c n=FN (.dct (HW D)))(q:Q (!D.isEmpty) h):U8 (aB i) Z h Q:=by
 refine aj hv ?_;show (match h.c n with
  | some (.dct kvs)=>Q (!kvs.isEmpty) h
  | _=>False)
 rw [e];show Q (!(HW D).isEmpty) h;have:(HW D).isEmpty=D.isEmpty:=by unfold HW;cases D <;> rfl
 rw [this];exact q
theorem Zd (e:h.c n=FN (.dct (HW D)))(ne:D≠[])(q:∀ k,k∈D.map (·.1)->(∀ j∈D.map (·.1),pack j<=pack k)->Q (.int (pack k)) h):M9 [.loc n] h Q:=by
 show (match h.c n with
  | some (.dct kvs)=>∃ ks:List Int,xr kvs ks/\0<ks.length/\∀ M,M∈ks->(∀ a,a∈ks->a<=M)->Q (.int M) h
  | _=>False)
 rw [e];refine ⟨(D.map (·.1)).map pack,?_,?_,fun M hM ha=>?_⟩
 ·unfold xr HW;rw [Lb,Lb,Lb];rfl
 ·rw [Ec,Ec];exact List.length_pos_iff.mpr ne
 ·obtain ⟨k,hk,rfl⟩:=Gs.mp hM;exact q k hk fun j hj=>ha _<|Gs.mpr ⟨j,hj,rfl⟩
theorem vP:∀ us:List Tm,nj (us.map Q8)=FN (HW us)
 | []=>rfl
 | t::us=>by
  show (match Va (.int (pack t.1)) with
   | some ks=>(nj (us.map Q8)).map ((ks,W.int t.2)::·)
   | none=>FX)=_
  rw [vP us];rfl
theorem aes (kb:∀ j∈us.map (·.1),Kb L j)(nd:(us.map (·.1)).Nodup):iB [] (HW us)=HW us:=by
 revert kb nd
 refine Dq (P:=fun us=>(∀ j∈us.map (·.1),Kb L j)->(us.map (·.1)).Nodup->iB [] (HW us)=HW us) (fun _ _=>rfl) (fun us t ih kb nd=>?_) us;rw [Iu] at kb nd;rw [List.nodup_append] at nd;have kb1:∀ j∈us.map (·.1),Kb L j:=fun j hj=>kb j (N7 _ hj)
 have i:=ih kb1 nd.1;have e1:HW (us++[t])=HW us++[(.inl (pack t.1),.int t.2)]:=by unfold HW;rw [Iu];rfl
 have e2:iB [] (HW us++[(.inl (pack t.1),.int t.2)])=KD (iB [] (HW us)) (.inl (pack t.1)) (.int t.2):=by unfold iB;rw [Vb];rfl
 rw [e1,e2,i,Ih kb1 (kb t.1 (by simp)),nQ t.2 (fun m=>nd.2.2 _ m t.1 (by simp) rfl),e1]
theorem zbu (kb:∀ j∈us.map (·.1),Kb L j)(nd:(us.map (·.1)).Nodup)(q:∀ g:Gh,g.c h.nx=FN (.dct (HW us))->(∀ n,n≠h.nx->g.c n=h.c n)->g.nx=h.nx+1->Q (.loc h.nx) g):Av [.lst (us.map Q8)] h Q:=by
 show (match nj (us.map Q8) with
   | some ps=>Q (.loc h.nx) (h.new (.dct (iB [] ps)))
   | none=>False)
 rw [vP];show Q (.loc h.nx) (h.new (.dct (iB [] (HW us))));rw [aes kb nd];exact q _ (yK _ _) (fun _ e=>qI e) rfl
structure Vt (L:Nat) (vs:List Tm) (ld:Tm):Prop where
 ex:∃ vi,vs=vi++[ld]
 kb:∀ t∈vs,Kb L t.1/\t.2≠0/\Sm 3000 t.2
 srt:(vs.map (·.1)).Pairwise (· < ·)
 len:vs.length<=1000
variable {ld : Tm}
theorem Vt.mem (V:Vt L vs ld):ld∈vs:=by obtain ⟨vi,rfl⟩:=V.ex;simp
theorem Vt.le (V:Vt L vs ld)(h:t∈vs):t=ld\/pack t.1<pack ld.1:=by
 have km:=V.kb t h;have kl:=V.kb ld V.mem;obtain ⟨vi,rfl⟩:=V.ex;have s:=V.srt;rw [Iu,S8] at s;rcases Mr.mp h with h | h
 ·exact .inr<|(tX km.1 kl.1).mp (s.2.2 _ (Gs.mpr ⟨t,h,rfl⟩) _<|by simp)
 ·exact .inl<|K5.mp h
theorem Qi {s:List Int}(V:Vt L vs ld)(hs:s.length=L):lin (dz s (bJ s ld.1)) vs=ld.2:=by
 have kl:=V.kb ld V.mem;have z:∀ t∈vs,t≠ld->bJ s t.1≠bJ s ld.1:=fun t ht ne e=>by
  have:=V.le ht
  have e2:=congrArg pack e;rw [dB hs (V.kb t ht).1.1,dB hs kl.1.1] at e2;rcases this with h | h
  ·exact ne h
  ·lia
 obtain ⟨vi,rfl⟩:=V.ex;have nn:∀ t∈vi,t≠ld:=fun t ht e=>by
  have s:=V.srt;rw [Iu,S8] at s;have:=s.2.2 _ (Gs.mpr ⟨t,ht,rfl⟩) ld.1 (by simp)
  rw [e] at this;exact YG _ this
 unfold lin;rw [Iu,List.sum_append];have e0:(vi.map fun t=>dz s (bJ s ld.1) t.1*t.2).sum=0:=by
  have:vi.map (fun t=>dz s (bJ s ld.1) t.1*t.2)=vi.map fun _=>(0:Int):=Tb fun t ht=>by
   unfold dz;rw [if_neg (z t (N7 _ ht) (nn t ht))];exact Int.zero_mul _
  rw [this];clear this z nn V;induction vi with
  | nil=>rfl
  | cons _ _ ih=>rw [Ed,Ws,ih];rfl
 rw [e0];show 0+(dz s (bJ s ld.1) ld.1*ld.2+0)=_;unfold dz;rw [if_pos rfl];lia
theorem aaY {K:List Int}(V:Vt L vs ld)(hD:Dc L D)(mK:K∈D.map (·.1))(up:∀ j∈D.map (·.1),pack j<=pack K)(hn:¬ Ng (gn K ld.1))(hd:(getM D K).fmod ld.2=0)(kz:∀ t∈vs,Kb L (bJ (gn K ld.1) t.1)):
  ∀ j∈(Lf (gn K ld.1) ((getM D K).fdiv ld.2) vs D).map (·.1),pack j<pack K:=by
 have kK:=hD.kb K mK;have kl:=V.kb ld V.mem;have ll:K.length=ld.1.length:=by rw [kK.1,kl.1.1]
 have ls:(gn K ld.1).length=L:=by rw [tQ ll,kK.1]
 have dc:=Di (f:=(getM D K).fdiv ld.2) hD kz;have z0:getM (Lf (gn K ld.1) ((getM D K).fdiv ld.2) vs D) K=0:=by
  rw [HY];have:=Qi V ls
  rw [oN ll] at this;rw [this];have:=Int.mul_fdiv_add_fmod (getM D K) ld.2
  rw [hd] at this;grind
 intro j hj;have ne:j≠K:=fun e=>by
  subst e;obtain ⟨t,ht,et⟩:=Gs.mp hj;have:=jk dc.nd ht
  rw [et,z0] at this;exact dc.nz t ht this.symm
 have le:pack j<=pack K:=by
  have go:∀ ws:List Tm,(∀ t∈ws,t∈vs)->∀ j∈(Lf (gn K ld.1) ((getM D K).fdiv ld.2) ws D).map (·.1),pack j<=pack K:=fun ws=>by
   refine Dq (P:=fun ws=>(∀ t∈ws,t∈vs)->∀ j∈(Lf (gn K ld.1) ((getM D K).fdiv ld.2) ws D).map (·.1),pack j<=pack K) (fun _=>up) (fun ws t ih hw j hj=>?_) ws;rw [kj] at hj;obtain ⟨u,hu,eu⟩:=Gs.mp hj;rcases ug hu with m | ⟨_,rfl⟩
   ·exact ih (fun t ht=>hw t<|N7 _ ht) j<|Gs.mpr ⟨u,m,eu⟩
   ·have mt:=hw t (by simp);rw [<-eu];show pack (bJ _ _)<=_;have e1:=dB ls (V.kb t mt).1.1;have e2:=dB ls kl.1.1;rw [oN ll] at e2;rw [e1,e2];rcases V.le mt with h | h
    ·rw [h];lia
    ·lia
  exact go vs (fun _ h=>h) j hj
 have:=fB (dc.kb j hj) kK
 exact Int.lt_iff_le_and_ne.mpr ⟨le,fun e=>ne<|this e⟩
def aam (c0:Dr):Prop:=∀ {h:Gh} {us vs:List Tm} {ld:Tm} {L:Nat} {Q:WK} {E:FQ} (J:List Tm->List Tm->Prop),L<=8->Dc L us->us.length<=1000->Vt L vs ld->J [] us ->
 (∀ f D K,J f D->Dc L D->K∈D.map (·.1)->(∀ j∈D.map (·.1),pack j<=pack K)->D.length<=20000/\Sm 3000 (getM D K)/\f.length<=600 /\
  ((getM D K).fmod ld.2≠0\/Ng (gn K ld.1)->Q .non h) /\
  ((getM D K).fmod ld.2=0->¬ Ng (gn K ld.1)->(f.length=600->∀ h',Ge h h'->E ⟨"TooMuch",[]⟩ h') /\
   (f.length≠600->(getM D K).fdiv ld.2≠0/\Sm 3000 ((getM D K).fdiv ld.2)/\(∀ t∈vs,Kb L (bJ (gn K ld.1) t.1))/\J (f++[(gn K ld.1,(getM D K).fdiv ld.2)]) (Lf (gn K ld.1) ((getM D K).fdiv ld.2) vs D)))) ->
 (∀ f,J f []->Q (Du f.reverse) h)->c0 [Du us,Du vs] h Q E
theorem afz {l:List Int}(hk:Kb L k)(hl:Kb L l)(n:¬ Ng (gn k l)):Kb L (gn k l):=by
 refine ⟨by rw [tQ<|by rw [hk.1,hl.1],hk.1],fun p hp=>⟨Int.not_lt.mp fun c=>n ⟨p,hp,c⟩,?_⟩⟩;unfold gn at hp;obtain ⟨i,hi,e⟩:=RD.mp hp;rw [List.getElem_zipWith] at e;rw [List.length_zipWith] at hi;have h1:=hk.2 (k[i]'(by lia)) (TQ _);have h2:=hl.2 (l[i]'(by lia)) (TQ _);lia
theorem aje {us:List W}(h:us.getLast?=FN w):J7 us (-1)=FN w:=by
 have hn:us≠[]:=by
  rintro rfl;simp at h
 obtain ⟨i,hi⟩:∃ i,us.length=i+1:=⟨us.length - 1,by have:=List.length_pos_iff.mpr hn;lia⟩
 have e1:NQ (i+1) (-1)=FN i:=by
  unfold NQ;repeat' split
  all_goals first | (exfalso;lia) | (congr 1;lia)
 unfold J7;rw [hi,e1];rw [List.getLast?_eq_getElem?,hi] at h
 simpa using h
theorem ajm (e:∃ vi,vs=vi++[ld])(q:Q (GJ ld) h):Fi (Du vs) (.int (-1)) h Q:=by
 obtain ⟨vi,rfl⟩:=e;have e1:((vi++[ld]).map GJ).getLast?=FN (GJ ld):=by rw [Iu];simp
 exact bM (ws:=(vi++[ld]).map GJ) rfl (aje e1) q
theorem zbr (x:Q (.bl true) h):kIs .non .non h Q:=x
theorem aiv (x:Q (.bl false) h):kIs (GJ t) .non h Q:=x
theorem zaQ {pk un pt po tk:Dr}(hpk:PkX pk)(hun:UnX un)(hpt:PtX pt)(hpo:PoX po)(htk:acM tk):aam (uc pk un pt po tk):=by
 intro h us vs ld L Q E J hL hu lu V j0 step fin;have kl:=V.kb ld V.mem;have vne:vs≠[]:=fun e=>by have:=V.mem;rw [e] at this;cases this
 unfold uc;refine jR rfl (Z:=[FN<|Du us,FN<|Du vs,FX,FX,FX,FX,FX,FX]) rfl ?_;refine aG<|bL<|j8<|fu<|aj rfl<|Cr (b:=true) ?_ ?_
 ·show FN (!(vs.map GJ).isEmpty)=FN true;cases vs with
  | nil=>exact absurd rfl vne
  | cons _ _=>rfl
 refine qU<|bA<|aZ ?_
 unfold rE;refine aG<|aM<|aF<|aj rfl<|lB<|aU ?_
 show Fi (Du vs) (.int (-1)) h _;refine ajm V.ex ?_;refine nV<|aZ ?_
 refine aG<|aM<|aL<|ak<|aj rfl<|aA<|hpt (fun t ht=>(V.kb t ht).1) V.len hL ?_
 refine nV<|aZ ?_
 refine aG<|aM<|cj<|ak<|aL<|ak<|aj rfl<|aA<|hpt (fun t ht=>hu.kb _<|Gs.mpr ⟨t,ht,rfl⟩) lu hL<|aA ?_
 refine zbu hu.kb hu.nd fun g1 a1 b1 c1=>?_;refine nV<|aZ ?_
 refine aG<|aM<|iy (ws:=[]) (fun R=>rfl) rfl fun g2 a2 b2 c2=>?_
 refine nV<|aZ ?_
 have nb:g1.nx=h.nx+1:=c1;refine aG ?_;refine ⟨fun m Z h'=>∃ (f D:List Tm) (s6 s7:Option W),Z = [FN<|Du us,FN<|Du vs,FN<|GJ ld,FN<|.lst<|vs.map Q8,FN<|.loc h.nx,FN<|.loc g1.nx,s6,s7]/\h'.c h.nx=FN (.dct<|HW D)/\h'.c g1.nx=FN (.lst<|f.map GJ)/\(∀ n,n<h.nx->h'.c n=h.c n)/\h.nx<=h'.nx/\J f D/\Dc L D/\∀ j∈D.map (·.1),(pack j).toNat<m,?_,?_⟩
 ·refine ⟨2^200,[],us,FX,FX,rfl,?_,a2,fun n hn=>?_,by lia,j0,hu,fun j hj=>?_⟩
  ·rw [b2 _ (by lia)];exact a1
  ·rw [b2 n (by lia),b1 n (by lia)]
  ·have:=(qF (hu.kb j hj))
   have p2:(2:Nat)^(16*L)<=2^200:=Ub (by decide) (by lia);lia
 ·rintro m Z h' ⟨f,D,s6,s7,rfl,eD,eF,ko,kn,jf,dc,um⟩;refine ahy rfl eD ?_;cases D with
  | nil=>
   refine qU ?_;unfold sX;refine aZ<|bC<|Z5 rfl eF ?_
   rw [<-List.map_reverse];exact ⟨fun n c hn ec=>by rw [ko n hn];exact ec,.inl ⟨TX _ _,fin f jf⟩⟩
  | cons d0 D0=>
   generalize hDD:d0::D0=D at *;have ne:D≠[]:=by rw [<-hDD];simp
   rw [show (!D.isEmpty)=true by rw [<-hDD];rfl];refine nH ?_;refine aG<|aM<|cj<|ak<|aj rfl<|aA<|Zd eD ne fun K mK up=>?_
   obtain ⟨lD,sK,lf,qn,qd⟩:=step f D K jf dc mK up;have kK:=dc.kb K mK;refine nV<|aZ ?_
   refine aG<|aM<|aL<|ak<|aL<|ak<|aj rfl<|ak<|cj<|ak<|aF<|aj rfl<|aU<|bM (x:=GJ ld) (i:=0) (w:=.tup (ld.1.map .int)) rfl rfl<|aA<|gY (xs:=ld.1.map .int) rfl<|aA ?_
   rw [Ec,kl.1.1];refine hun kK hL ?_;refine ak<|aF<|aj rfl<|aj rfl<|agH eD dc mK<|ak<|aj rfl<|aA ?_
   refine hpo kK.1 kl.1.1 hL kl.2.1 sK kl.2.2 (fun c=>?_) fun c1' c2'=>?_
   ·refine nV<|aZ ?_
    refine aG<|bL<|aW<|aF<|aj rfl<|aU ?_
    refine zbr<|jc<|nH<|bC<|aU ?_
    exact ⟨fun n c hn ec=>by rw [ko n hn];exact ec,.inl ⟨by simp [Lo],qn c⟩⟩
   ·obtain ⟨qx,qg⟩:=qd c1' c2';refine nV<|aZ ?_
    refine aG<|bL<|aW<|aF<|aj rfl<|aU ?_
    refine aiv<|jc<|qU<|bA<|aZ ?_
    refine aG<|bL<|aW<|aF<|cj<|ak<|aj rfl<|aA<|gY (xs:=f.map GJ) (Ck eF)<|aU<|qP<|jc ?_
    rw [Ec];refine pA (fun c6=>jj<|qx (by lia) h' ⟨kn,ko⟩) fun c6=>bA<|aZ ?_
    obtain ⟨f0,sf,kz,jn⟩:=qg (by lia);have ks:=afz kK kl.1 c2';refine aG<|cM<|gJ<|aj rfl<|dM eF<|ak<|aj rfl<|aA<|yc eF (by rw [Ec];lia) fun g3 a3 b3 c3=>aZ ?_
    have eD3:g3.c h.nx=FN (.dct (HW D)):=by rw [b3 _ (by lia)];exact eD
    refine cM<|aL<|ak<|aj rfl<|ak<|aj rfl<|ak<|aL<|ak<|aF<|aj rfl<|aU<|bM (x:=GJ (gn K ld.1,(getM D K).fdiv ld.2)) (i:=0) (w:=.tup ((gn K ld.1).map .int)) rfl rfl<|aA<|hpk ks hL ?_ 
    refine ak<|aF<|aj rfl<|aU<|bM (x:=GJ (gn K ld.1,(getM D K).fdiv ld.2)) (i:=1) (w:=.int ((getM D K).fdiv ld.2)) rfl rfl<|aA ?_
    refine htk eD3 dc (by have:=V.len;lia) ks.1 (fun t ht=>⟨(V.kb t ht).1.1,kz t ht,(V.kb t ht).2⟩) f0 sf fun g4 a4 b4 c4=>aZ ?_;have tl:=aaY V dc mK up c2' c1' kz;refine ⟨(pack K).toNat,um K mK,f++[(gn K ld.1,(getM D K).fdiv ld.2)],_,_,_,rfl,a4,?_,fun n hn=>?_,by lia,jn,Di dc kz,fun j hj=>?_⟩
    ·rw [b4 _ (by lia),a3,Iu];rfl
    ·rw [b4 n (by lia),b3 n (by lia),ko n hn]
    ·have:=tl j hj
     have:=(qF ((Di dc kz).kb j hj)).1
     lia
def pr (q vs:List Tm)(r:List Int):Int:=(q.map fun t=>t.2*lin (dz t.1 r) vs).sum
theorem zM (q vs:List Tm)(t:Tm)(r:List Int):pr (q++[t]) vs r=pr q vs r+t.2*lin (dz t.1 r) vs:=by
 unfold pr;rw [Iu,List.sum_append];simp
theorem tH {α : Type}:∀ l:List α,(l.map fun _=>(0:Int)).sum=0
 | []=>rfl
 | _::l=>by rw [Ed,Ws,tH l];rfl
theorem Oo (vs:List Tm)(r:List Int):pr [] vs r=0:=rfl
structure Qs (L:Nat) (q:List Tm):Prop where
 kb:∀ t∈q,Kb L t.1/\t.2≠0/\Sm 1000 t.2
 srt:(q.map (·.1)).Pairwise (· < ·)
 len:q.length<=600
variable {q : List Tm}
theorem Qs.init (h:Qs L (q++[t])):Qs L q/\∀ u∈q,pack u.1<pack t.1:=by
 have s:=h.srt;rw [Iu,S8] at s;refine ⟨⟨fun u hu=>h.kb u<|N7 _ hu,s.1,by have:=h.len;rw [JC] at this;lia⟩,fun u hu=>?_⟩;exact (tX (h.kb u<|N7 _ hu).1 (h.kb t<|by simp).1).mp (s.2.2 _ (Gs.mpr ⟨u,hu,rfl⟩) _<|by simp)
theorem air {s:List Int}(V:Vt L vs ld)(hs:s.length=L)(h:lin (dz s r) vs≠0):pack r<=pack s+pack ld.1/\r.length=L:=by
 refine MJ fun c=>h ?_;have:vs.map (fun t=>dz s r t.1*t.2)=vs.map fun _=>(0:Int):=Tb fun t ht=>by
  unfold dz;rw [if_neg (fun e=>c ?_)]
  ·exact Int.zero_mul _
  ·have k:=(V.kb t ht).1.1;rw [<-e,dB hs k];refine ⟨?_,by rw [vG<|by rw [hs,k],hs]⟩;rcases V.le ht with e | e
   ·rw [e];exact Wf _
   ·lia
 unfold lin;rw [this];exact tH _
theorem Qc (V:Vt L vs ld)(hq:∀ t∈q,t.1.length=L)(h:pr q vs r≠0):∃ t∈q,pack r<=pack t.1+pack ld.1:=by
 refine MJ fun c=>h ?_;have:q.map (fun t=>t.2*lin (dz t.1 r) vs)=q.map fun _=>(0:Int):=Tb fun t ht=>by
  have z:lin (dz t.1 r) vs=0:=MJ fun n=>c ⟨t,ht,(air V (hq t ht) n).1⟩
  rw [z];exact Int.mul_zero _
 unfold pr;rw [this];exact tH _
theorem aiQ (V:Vt L vs ld)(h:Qs L (q++[t])):pr (q++[t]) vs (bJ t.1 ld.1)=t.2*ld.2:=by
 have kt:=(h.kb t (by simp)).1;have kl:=(V.kb ld V.mem).1;rw [zM,Qi V kt.1];have z:pr q vs (bJ t.1 ld.1)=0:=MJ fun n=>by
  obtain ⟨u,hu,le⟩:=Qc V (fun u hu=>(h.init.1.kb u hu).1.1) n;rw [dB kt.1 kl.1] at le;have:=h.init.2 u hu
  lia
 rw [z,WW]
theorem ahx (h:Dc L D)(m:k∈D.map (·.1)):getM D k≠0:=by
 obtain ⟨t,ht,rfl⟩:=Gs.mp m;rw [jk h.nd ht];exact h.nz t ht
theorem get_mem (h:getM D k≠0):k∈D.map (·.1):=MJ fun c=>h (getM_none c)
theorem Qs.pre {p:List Tm}(h:Qs L (q++p)):Qs L q:=by
 have s:=h.srt;rw [Iu,S8] at s;exact ⟨fun u hu=>h.kb u<|N7 _ hu,s.1,by have:=h.len;rw [JC] at this;lia⟩
theorem aht (hp:aam c0)(e:List Int->Int)(hL:L<=8)(hq:Qs L q)(V:Vt L vs ld)(lv:q.length*vs.length<=18000)(sl:Sm 1000 ld.2)(hu:Dc L us)(lu:us.length<=1000)(hkz:∀ t∈q,∀ u∈vs,Kb L (bJ t.1 u.1))
  (hg:∀ r,getM us r=pr q vs r+e r)
  (he:∀ r,e r≠0->Sm 1000 (e r)/\((e r).fmod ld.2≠0\/Ng (gn r ld.1))/\∀ t∈q,pack r<pack t.1+pack ld.1\/pack r=pack t.1+pack ld.1/\(e r).fmod ld.2≠0)
  (q1:(∀ r,e r=0)->Q (Du q) h) (q2:(∃ r,e r≠0)->Q .non h):c0 [Du us,Du vs] h Q E:=by
 have kl:=V.kb ld V.mem;have top:∀ {qi f:List Tm} {t:Tm} {D:List Tm},q=(qi++[t])++f.reverse->(∀ r,getM D r=pr (qi++[t]) vs r+e r)->getM D (bJ t.1 ld.1)=t.2*ld.2+e (bJ t.1 ld.1)/\getM D (bJ t.1 ld.1)≠0/\pack (bJ t.1 ld.1)=pack t.1+pack ld.1/\(e (bJ t.1 ld.1)≠0->(getM D (bJ t.1 ld.1)).fmod ld.2≠0):=fun {qi f t D} eq g=>by
  subst eq;have Q1:=hq.pre;have mt:t∈qi++[t]++f.reverse:=by simp
  have kt:=hq.kb t mt;have e1:=g (bJ t.1 ld.1);rw [aiQ V Q1] at e1;have ep:=dB kt.1.1 kl.1.1;have fm:e (bJ t.1 ld.1)≠0->(getM D (bJ t.1 ld.1)).fmod ld.2≠0:=fun n=>by
   rw [e1,Int.mul_add_fmod_self_right];rcases (he _ n).2.2 t mt with c | c
   ·lia
   ·exact c.2
  refine ⟨e1,fun z=>?_,ep,fm⟩;by_cases n:e (bJ t.1 ld.1)=0
  ·rw [n,Nu] at e1;exact Int.mul_ne_zero kt.2.1 kl.2.1 (by rw [<-e1];exact z)
  ·exact fm n (by rw [z];exact Int.zero_fmod _)
 refine hp (ld:=ld) (fun f D=>∃ qr,q=qr++f.reverse/\(∀ r,getM D r=pr qr vs r+e r)/\D.length<=1000+f.length*vs.length) hL hu lu V ⟨q,by simp,hg,by simpa using lu⟩ (fun f D K=>?_) fun f=>?_
 ·rintro ⟨qr,eq,g,lD⟩ dc mK up;have lq:=hq.len;have l2:q.length=qr.length+f.length:=by rw [eq];simp
  have nK:=ahx dc mK;have l3:f.length*vs.length<=q.length*vs.length:=Xh _ (by lia);rcases List.eq_nil_or_concat qr with rfl | ⟨qi,t,rfl⟩
  ·have eK:getM D K=e K:=by rw [g,Oo,WW]
   have hK:=he K (by rw [<-eK];exact nK);refine ⟨by lia,by rw [eK];exact hK.1.mono (by decide),by lia,fun _=>q2 ⟨K,by rw [<-eK];exact nK⟩,fun c d=>?_⟩;rw [eK] at c;rcases hK.2.1 with z | z
   ·exact absurd c z
   ·exact absurd z d
  ·rw [List.concat_eq_append] at *;obtain ⟨t1,t2,t3,t4⟩:=top eq g;have mt:t∈q:=by rw [eq];simp
   have kt:=hq.kb t mt;have k0:=hkz t mt ld V.mem;have Q1:Qs L (qi++[t]):=by rw [eq] at hq;exact hq.pre
   have eK:K=bJ t.1 ld.1:=by
    have h1:=up _ (get_mem t2);refine fB (dc.kb K mK) k0<|Int.le_antisymm ?_ h1
    rw [t3];by_cases c:e K=0
    ·rw [g,c,Nu] at nK;obtain ⟨u,hu',le⟩:=Qc V (fun u hu'=>(Q1.kb u hu').1.1) nK;rcases Mr.mp hu' with m | m
     ·have:=Q1.init.2 u m;lia
     ·rw [K5.mp m] at le;exact le
    ·rcases (he K c).2.2 t mt with z | z
     ·lia
     ·lia
   subst eK;have sv:Sm 3000 (getM D (bJ t.1 ld.1)):=by
    rw [t1];have s1:Sm 2000 (t.2*ld.2):=Sm.mul kt.2.2 sl;by_cases c:e (bJ t.1 ld.1)=0
    ·rw [c,Nu];exact s1.mono (by decide)
    ·exact (Sm.add s1 (he _ c).1).mono (by decide)
   refine ⟨by lia,sv,by lia,fun c=>?_,fun c d=>?_⟩
   ·refine q2 ⟨bJ t.1 ld.1,fun z=>?_⟩;rw [z,Nu] at t1;rw [t1,oV (by rw [kt.1.1,kl.1.1])] at c;rcases c with c | ⟨p,hp',np⟩
    ·exact c<|Int.mul_fmod_left _ _
    ·have:=(kt.1.2 p hp').1;lia
   ·have z:e (bJ t.1 ld.1)=0:=MJ fun n=>t4 n c
    rw [z,Nu] at t1;rw [JC,V2] at l2;have ed:(getM D (bJ t.1 ld.1)).fdiv ld.2=t.2:=by rw [t1];exact Int.mul_fdiv_cancel _ kl.2.1
    rw [ed,oV (by rw [kt.1.1,kl.1.1])];refine ⟨fun z=>by lia,fun _=>⟨kt.2.1,kt.2.2.mono<|by decide,fun u hu'=>hkz t mt u hu',qi,by rw [eq];simp,fun r=>?_,?_⟩⟩
    ·rw [HY,g,zM];generalize t.2*lin (dz t.1 r) vs=X;lia
    ·have:=IW t.1 t.2 vs D
     rw [JC,V2,Nat.succ_mul];lia
 ·rintro ⟨qr,eq,g,_⟩;rcases List.eq_nil_or_concat qr with rfl | ⟨qi,t,rfl⟩
  ·rw [Xl] at eq;rw [<-eq];exact q1 fun r=>by have:=g r;rw [Oo,WW] at this;rw [<-this];rfl
  ·rw [List.concat_eq_append] at *;exact absurd rfl (top eq g).2.1
abbrev R4:=Nat×Nat×Nat×Nat
def rW (T:R4):List W:=[.int T.1,.int T.2.1,.int T.2.2.1,.int T.2.2.2]
def hg (T:R4):Nat->Nat
 | 0=>T.1
 | 1=>T.2.1
 | 2=>T.2.2.1
 | _=>0
inductive Sp where
 | num (c:Int) | lt (i:Nat) | pl (i j:Nat) | mi (i j:Nat) | ti (i j:Nat)
def st3:Sp->List W
 | .num c=>[.str "number",.int c,.int 0]
 | .lt i=>[.str "letter",.int i,.int 0]
 | .pl i j=>[.str "plus",.int i,.int j]
 | .mi i j=>[.str "minus",.int i,.int j]
 | .ti i j=>[.str "times",.int i,.int j]
structure Gp (Ts:List R4) (T:R4) (i j:Nat):Prop where
 ex:∃ U V,Ts[i]?=FN U/\Ts[j]?=FN V/\(∀ x,hg U x<=hg T x/\hg V x<=hg T x)/\U.2.2.2+1<=T.2.2.2/\V.2.2.2+1<=T.2.2.2
def Good (L p:Nat)(Ts:List R4)(T:R4):Sp->Prop
 | .num c=>Sm 101 c/\31<=T.2.2.2
 | .lt i=>i<L/\1<=hg T i/\1<=T.2.2.2
 | .pl i j=>Gp Ts T i j
 | .mi i j=>Gp Ts T i j
 | .ti i j=>∃ U V,Ts[i]?=FN U/\Ts[j]?=FN V/\(∀ x,hg U x+hg V x<=hg T x)/\U.2.2.2+V.2.2.2+4<=T.2.2.2
def Rok (p k:Nat)(T:R4):Prop:=(∀ x,hg T x<=p)/\T.2.2.2<=240+k
def zf (f:Nat->Nat->Nat)(U V:R4):R4:=(f U.1 V.1,f U.2.1 V.2.1,f U.2.2.1 V.2.2.1,f U.2.2.2 V.2.2.2)
theorem ab1 {f:Nat->Nat->Nat}{U V:R4}(hf:∀ (a b:Nat) (Q:WK),Q (.int (f a b:Nat)) h->te [FN (.int a),FN (.int b)] h Q)(q:Q (.lst (rW (zf f U V))) h):zpK (lcK (RZ 2) [] ou te Z Q) [.lst (rW U),.lst (rW V)] h:=by
 refine Jb (as:=rW U) (bs:=rW V) rfl rfl rfl<|Ui rfl ?_
 refine m7 (vs:=[.int U.1,.int V.1]) rfl<|cJ<|cL<|hf _ _ _ ?_
 refine m7 (vs:=[.int U.2.1,.int V.2.1]) rfl<|cJ<|cL<|hf _ _ _ ?_
 refine m7 (vs:=[.int U.2.2.1,.int V.2.2.1]) rfl<|cJ<|cL<|hf _ _ _ ?_
 refine m7 (vs:=[.int U.2.2.2,.int V.2.2.2]) rfl<|cJ<|cL<|hf _ _ _ ?_
 exact Ga q
theorem Yk {a:Nat}(q:Q (.int ((max a b:Nat):Int)) h):ZJ [.int a,.int b] h Q:=by
 show Q (.int (if (b:Int)>a then (b:Int) else a)) h;have:(if (b:Int)>a then (b:Int) else a)=((max a b:Nat):Int):=by split <;> lia
 rw [this];exact q
theorem lo3 {k:Nat}{s:Str}{i:Int}{h':Gh}{w':W}(f:Fz k h' w w'):La (Fz k h') [.str s,.int i,.int j,w] [.str s,.int i,.int j,w']:=
 .cons (.inl ⟨by simp [Lo],rfl⟩) (.cons (.inl ⟨by simp [Lo],rfl⟩) (.cons (.inl ⟨by simp [Lo],rfl⟩) (.cons f .nil)))
theorem R6 (k:Nat)(T:R4):Jc k (rW T):=by simp [rW,Jc,Lo]
theorem aal {h':Gh}{s:Str}{i:Int}{T:R4}(k:∀ n,n<h.nx->h'.c n=h.c n)(q:Q (.tup [.str s,.int i,.int j,.lst (rW T)]) h):zB h (.tup [.str s,.int i,.int j,.lst (rW T)]) h' Q:=
 ⟨fun n c hn e=>by rw [k n hn];exact e,_,_,rfl,lo3 (.inl ⟨by rw [Lo];exact R6 _ _,rfl⟩),q⟩
theorem acD {h':Gh}{s:Str}{i:Int}{T:R4}(k:∀ n,n<h.nx->h'.c n=h.c n)(hm:h.nx<=m)(e:h'.c m=FN (.lst (rW T)))(q:Q (.tup [.str s,.int i,.int j,.lst (rW T)]) h):zB h (.tup [.str s,.int i,.int j,.loc m]) h' Q:=
 ⟨fun n c hn e=>by rw [k n hn];exact e,_,_,rfl,lo3 (.inr ⟨m,_,rfl,hm,e,R6 _ _,rfl⟩),q⟩
theorem O8 {N:Nat}(hl:Ly ws.length n=true)(e:ini ws N = Z)(x:body E { nx:=fun _ _=>False,rt:=fun w h'=>zB h w h' Q } Z h):OD n N body ws h Q E:=by
 subst e;unfold OD;rw [hl];exact x
theorem aiV {us:List W}(ec:h.c n=FN (.lst ws))(e:xT ws lo hi=us)(x:Q (.lst us) h):KH (.loc n) lo hi h Q:=by
 subst e;show (match dF h (.loc n) with
  | some ws=>Q (.lst (xT ws lo hi)) h
  | none=>False)
 rw [oZ ec];exact x
structure Ps (L k:Nat) (Ts:List R4) (h0 h:Gh) (n:Nat):Prop where
 kl:Ts.length=k
 nl:n<h0.nx
 c:h.c n=FN (.lst (Ts.map fun T=>.lst (rW T)))
 kp:∀ m,m<h0.nx->h.c m=h0.c m
 nx:h0.nx<=h.nx
 l:L<=3
 l1:1<=L
 k12:k<=12
 ok:∀ T∈Ts,(∀ x,hg T x<=if L=3 then 3 else 4)/\T.2.2.2+1<=240+k
abbrev eU (h:Gh)(Q:WK):bK:={ nx:=fun _ _=>False,rt:=fun w h'=>zB h w h' Q }
theorem BJ (U V:R4)(x:Nat):hg (zf max U V) x=max (hg U x) (hg V x):=by
 unfold hg zf;split <;> rfl
theorem abH (T:R4)(d:Nat)(x:Nat):hg (T.1,T.2.1,T.2.2.1,d) x=hg T x:=by
 unfold hg;split <;> rfl
theorem Ot (U V:R4)(x:Nat):hg (zf (· + ·) U V) x=hg U x+hg V x:=by
 unfold hg zf;split <;> rfl
section
variable {dr:Dr}{k:Nat}{Ts:List R4}{h0:Gh}(Pz:Ps L k Ts h0 h n)(qz:∀ s T,Good L (if L=3 then 3 else 4) Ts T s->Rok (if L=3 then 3 else 4) k T->Q (.tup (st3 s++[.lst (rW T)])) h0)
include Pz qz
theorem Oj {s:Str}{j:Nat}{U V T:R4}{s4 s6 s7 s11:Option W}(hs:s = "plus"\/s = "minus")(eU':Ts[i]?=FN U)(eV:Ts[j]?=FN V)(hm:h0.nx<=m)(em:h.c m=FN (.lst (rW T)))(eT:T=((zf max U V).1,(zf max U V).2.1,(zf max U V).2.2.1,(zf max U V).2.2.2+1)):
  jO dr E (eU h0 Q) [FN (.kls (ns.map .int)),FN (.int k),FN (.int L),FN (.loc n),s4,FN (.str s),s6,s7,FN (.int i),FN (.int j),FN (.loc m),s11] h:=by
 unfold jO;refine bC<|cI<|ak<|aj rfl<|ak<|aj rfl<|ak<|aj rfl<|ak<|aj rfl<|aA<|bH rfl ?_
 refine jK<|acD Pz.kp hm em ?_
 have u1:=Pz.ok U (Lx eU');have v1:=Pz.ok V (Lx eV);have hT:∀ x,hg T x=max (hg U x) (hg V x):=fun x=>by rw [eT,abH (zf max U V),BJ]
 have hd:T.2.2.2=max U.2.2.2 V.2.2.2+1:=by rw [eT];rfl
 have rk:Rok (if L=3 then 3 else 4) k T:=⟨fun x=>by rw [hT];exact Nat.max_le.mpr ⟨u1.1 x,v1.1 x⟩,by lia⟩
 have gp:Gp Ts T i j:=⟨U,V,eU',eV,fun x=>by rw [hT];exact ⟨Nat.le_max_left _ _,YM _ _⟩,by lia,by lia⟩
 rcases hs with rfl | rfl
 ·exact qz (.pl i j) T gp rk
 ·exact qz (.mi i j) T gp rk
theorem W7 {s:Str}{j:Nat}{U V:R4}{s4 s6 s7 s10 s11:Option W}(hs:s = "plus"\/s = "minus"\/s = "times")(eU':Ts[i]?=FN U)(eV:Ts[j]?=FN V):
  lH dr E (eU h0 Q) [FN (.kls (ns.map .int)),FN (.int k),FN (.int L),FN (.loc n),s4,FN (.str s),s6,s7,FN (.int i),FN (.int j),s10,s11] h:=by
 unfold lH;have ge:∀ {i:Nat} {U:R4},Ts[i]?=FN U->J7 (Ts.map fun T=>W.lst (rW T)) (i:Int)=FN (.lst (rW U)):=fun e=>dh (by rw [Gy,e];rfl)
 refine aG<|aM<|JB<|fZ<|pO<|ak<|aF<|aj rfl<|aj rfl<|kZ Pz.c (ge eU')<|ak<|aF<|aj rfl<|aj rfl<|kZ Pz.c (ge eV)<|aA ?_
 refine ab1 (f:=max) (fun a b Q q=>cj<|ak<|aj rfl<|ak<|aj rfl<|aA<|Yk q)<|O7 fun g1 a1 b1 c1=>?_
 refine nV<|aZ ?_
 refine aG<|aM<|aF<|aF<|aj rfl<|aU<|kZ a1 (i:=3) (w:=.int (zf max U V).2.2.2) rfl<|aU<|cB ?_
 refine qw<|aj rfl<|aU<|G3 a1 (j:=3) rfl (s:=rfl) fun g2 a2 b2 c2=>aZ ?_
 have P2:Ps L k Ts h0 g2 n:=⟨Pz.kl,Pz.nl,by rw [b2 _ (HX (Hl Pz.nl Pz.nx)),b1 _ (HX (Hl Pz.nl Pz.nx))];exact Pz.c,fun m hm=>by rw [b2 _ (HX (Hl hm Pz.nx)),b1 _ (HX (Hl hm Pz.nx))];exact Pz.kp m hm,by have:=Pz.nx;lia,Pz.l,Pz.l1,Pz.k12,Pz.ok⟩
 have e2:g2.c h.nx=FN (.lst (rW ((zf max U V).1,(zf max U V).2.1,(zf max U V).2.2.1,(zf max U V).2.2.2+1))):=a2;refine aG<|aM<|JB<|fZ<|pO<|ak<|aF<|aj rfl<|aj rfl<|kZ P2.c (ge eU')<|ak<|aF<|aj rfl<|aj rfl<|kZ P2.c (ge eV)<|aA ?_
 refine ab1 (f:=(· + ·)) (fun a b Q q=>aF<|aj rfl<|aj rfl<|cB q)<|O7 fun g3 a3 b3 c3=>?_
 refine nV<|aZ ?_
 refine aG<|aM<|aF<|aF<|aj rfl<|aU<|kZ a3 (i:=3) (w:=.int (zf (· + ·) U V).2.2.2) rfl<|aU<|cB ?_
 refine qw<|aj rfl<|aU<|G3 a3 (j:=3) rfl (s:=rfl) fun g4 a4 b4 c4=>aZ ?_
 have e4:g4.c g2.nx=FN (.lst (rW ((zf (· + ·) U V).1,(zf (· + ·) U V).2.1,(zf (· + ·) U V).2.2.1,(zf (· + ·) U V).2.2.2+4))):=a4;have P4:Ps L k Ts h0 g4 n:=⟨Pz.kl,Pz.nl,by rw [b4 _ (HX (Hl Pz.nl P2.nx)),b3 _ (HX (Hl Pz.nl P2.nx))];exact P2.c,fun m hm=>by rw [b4 _ (HX (Hl hm P2.nx)),b3 _ (HX (Hl hm P2.nx))];exact P2.kp m hm,by have:=P2.nx;lia,Pz.l,Pz.l1,Pz.k12,Pz.ok⟩
 have lt2:h.nx<g2.nx:=by lia
 have e5:g4.c h.nx=FN (.lst (rW ((zf max U V).1,(zf max U V).2.1,(zf max U V).2.2.1,(zf max U V).2.2.2+1))):=by rw [b4 _ (HX lt2),b3 _ (HX lt2)];exact e2
 have rest:∀ s6 s7,jL dr E (eU h0 Q) [FN (.kls (ns.map .int)),FN (.int k),FN (.int L),FN (.loc n),s4,FN (.str s),s6,s7,FN (.int i),FN (.int j),FN (.loc h.nx),FN (.loc g2.nx)] g4:=fun s6 s7=>by
  unfold jL;refine aG<|bL<|aW<|aF<|aj rfl<|aU<|yW<|jc ?_
  refine pA (fun c=>?_) fun c=>bA<|aZ ?_
  ·refine aM<|aU<|nV<|aZ ?_
   exact Oj P4 qz (.inl rfl) eU' eV Pz.nx e5 rfl
  ·refine Oj P4 qz (?_) eU' eV Pz.nx e5 rfl;rcases hs with h | h | h
   ·exact .inl h
   ·exact .inr h
   ·exact absurd h c
 refine aG<|bL<|Bg<|aW<|aF<|aj rfl<|aU<|yW<|jc ?_
 refine pA (fun cs=>?_) fun cs=>qU<|bA<|aZ<|rest _ _
 refine Bg<|aW<|aF<|cj<|ak<|HF<|aj rfl<|jE<|aU<|Vf<|jE<|aU<|Vf ?_
 refine aiV (us:=[.int (U.1+V.1:Nat),.int (U.2.1+V.2.1:Nat),.int (U.2.2.1+V.2.2.1:Nat)]) e4 rfl<|aA ?_
 refine ⟨[((U.1+V.1:Nat):Int),((U.2.1+V.2.1:Nat):Int),((U.2.2.1+V.2.2.1:Nat):Int)],rfl,Nat.succ_pos _,fun M hM ha=>?_⟩;have m0:=ha _ (LQ ..);have m1:=ha _ (Jm _ (LQ ..));have m2:=ha _ (Jm _ (Jm _ (LQ ..)));have ixL:J7 [W.int 4,.int 4,.int 3] ((L:Int) - 1)=FN (.int ((if L=3 then 3 else 4:Nat):Int)):=by
  have:L=1\/L=2\/L=3:=by have:=Pz.l;have:=Pz.l1;lia
  rcases this with rfl | rfl | rfl <;> rfl
 refine aF<|jU<|ak<|aU<|ak<|aU<|ak<|aU<|aA<|bH rfl<|aF<|aj rfl<|aU<|jQ<|bM (ws:=[.int 4,.int 4,.int 3]) rfl ixL<|Nk<|jc ?_
 refine pA (fun cp=>?_) fun _=>qU<|bA<|aZ<|rest _ _
 refine aW<|aF<|aF<|aj rfl<|aU<|kZ e4 (i:=3) (w:=.int (U.2.2.2+V.2.2.2+4:Nat)) rfl<|aU<|Nk<|jc ?_
 refine pA (fun cd=>?_) fun _=>bA<|aZ<|rest _ _
 refine bC<|cI<|ak<|aU<|ak<|aj rfl<|ak<|aj rfl<|ak<|aj rfl<|aA<|bH rfl ?_
 refine jK<|acD P4.kp P2.nx e4<|qz (.ti i j) _ ⟨U,V,eU',eV,fun x=>?_,Ea _⟩ ⟨fun x=>?_,?_⟩
 ·rw [abH (zf (· + ·) U V),Ot];exact Ea _
 ·rw [abH (zf (· + ·) U V),Ot];match x with
  | 0=>show U.1+V.1<=_;lia
  | 1=>show U.2.1+V.2.1<=_;lia
  | 2=>show U.2.2.1+V.2.2.1<=_;lia
  | _+3=>exact Jk _
 ·show U.2.2.2+V.2.2.2+4<=240+k;lia
end
variable {Ts : List R4}{s10 s4 s6 s7 : Option W}
theorem jJ (x:Int)(n:Nat)(hn:0<n):∃ m:Nat,x.fmod n=(m:Int)/\m<n:=by
 have h1:=Int.fmod_nonneg_of_pos x (b:=n) (by lia);have h2:=Int.fmod_lt_of_pos x (b:=n) (by lia);exact ⟨(x.fmod n).toNat,by lia,by lia⟩
theorem adB {p r:Prop}[Decidable p][Decidable r]{A B M:Prop}(m:br (decide r) A B->M)(x:p\/r->A)(y:¬ p->¬ r->B):br (decide p) (br true A B) M:=
 pA (fun c=>nH (x (.inl c))) fun c=>m (pA (fun c'=>x (.inr c')) fun c'=>y c c')
section
variable {dr:Dr}{k:Nat}{h0:Gh}(Pz:Ps L k Ts h0 h n)(qz:∀ s T,Good L (if L=3 then 3 else 4) Ts T s->Rok (if L=3 then 3 else 4) k T->Q (.tup (st3 s++[.lst (rW T)])) h0)
include Pz qz
theorem abP {s:Str}{a b c d e:Int}{s8 s9 s11:Option W}(hs:s = "plus"\/s = "minus"\/s = "times")(hk:0<k):
  mG dr E (eU h0 Q) [FN (.kls (ns.map .int)),FN (.int k),FN (.int L),FN (.loc n),FN (.lst [.int a,.int b,.int c,.int d,.int e]),FN (.str s),s6,s7,s8,s9,s10,s11] h:=by
 unfold mG;obtain ⟨i,ei,li⟩:=jJ b k hk;obtain ⟨j,ej,lj⟩:=jJ c k hk;have gt:∀ i,i<k->∃ U,Ts[i]?=FN U:=fun i hi=>⟨_,GK (by rw [Pz.kl];exact hi)⟩
 obtain ⟨U,eU'⟩:=gt i li;obtain ⟨V,eV⟩:=gt j lj;obtain ⟨X,eX⟩:=gt (k - 1) (by lia);refine aG<|aM<|aF<|aF<|aj rfl<|aU<|bM (ws:=[.int a,.int b,.int c,.int d,.int e]) (w:=.int b) rfl rfl<|aj rfl<|gW (by lia) ?_
 rw [ei];refine nV<|aZ ?_
 refine aG<|aM<|aF<|aF<|aj rfl<|aU<|bM (ws:=[.int a,.int b,.int c,.int d,.int e]) (w:=.int c) rfl rfl<|aj rfl<|gW (by lia) ?_
 rw [ej];refine nV<|aZ ?_
 refine aG<|bL<|aW<|aF<|aF<|aF<|aj rfl<|aU<|bM (ws:=[.int a,.int b,.int c,.int d,.int e]) (w:=.int d) rfl rfl<|aU<|gW (by decide)<|aU<|xu<|jc ?_
 refine pA (fun _=>?_) fun _=>bA<|aZ<|W7 Pz qz hs eU' eV
 refine aM<|aF<|aj rfl<|aU<|jQ ?_
 rw [show (k:Int) - 1=((k - 1:Nat):Int) by lia];exact nV<|aZ<|W7 Pz qz hs eX eV
theorem DW {s:Str}{a b c d e:Int}{s8 s9 s11:Option W}(hs:s = "letter"\/s = "plus"\/s = "minus"\/s = "times")(hk:0<k):
  mQ dr E (eU h0 Q) [FN (.kls (ns.map .int)),FN (.int k),FN (.int L),FN (.loc n),FN (.lst [.int a,.int b,.int c,.int d,.int e]),FN (.str s),s6,s7,s8,s9,s10,s11] h:=by
 unfold mQ;refine aG<|bL<|aW<|aF<|aj rfl<|aU<|yW<|jc ?_
 refine pA (fun cs=>?_) fun cs=>bA<|aZ<|abP Pz qz (hs.resolve_left cs) hk
 have l1:=Pz.l1;have l3:=Pz.l;obtain ⟨i,ei,li⟩:=jJ b L l1;refine aG<|aM<|aF<|aF<|aj rfl<|aU<|bM (ws:=[.int a,.int b,.int c,.int d,.int e]) (w:=.int b) rfl rfl<|aj rfl<|gW (by lia) ?_
 rw [ei];refine nV<|aZ ?_
 refine bC<|cI<|ak<|aU<|ak<|aj rfl<|ak<|aU<|ak<|aF<|fZ<|mL<|ak<|aU<|aA<|WX<|Ui rfl ?_
 refine m7 (vs:=[.int 0]) rfl<|cJ<|cL<|cj<|ak<|aF<|aj rfl<|aj rfl<|qP<|aA<|Ac ?_
 refine m7 (vs:=[.int 1]) rfl<|cJ<|cL<|cj<|ak<|aF<|aj rfl<|aj rfl<|qP<|aA<|Ac ?_
 refine m7 (vs:=[.int 2]) rfl<|cJ<|cL<|cj<|ak<|aF<|aj rfl<|aj rfl<|qP<|aA<|Ac ?_
 refine Ga<|jU<|ak<|aU<|aA<|bH rfl<|Ht rfl<|aA<|bH rfl<|jK ?_
 have i3:i=0\/i=1\/i=2:=by lia
 have p1:1<=(if L=3 then 3 else 4):=by split <;> decide
 rcases i3 with rfl | rfl | rfl
 ·exact aal (T:=(1,0,0,1)) Pz.kp<|qz (.lt 0) _ ⟨li,Ea _,Ea _⟩ ⟨fun x=>Eb (m:=1) (by unfold hg;split <;> decide) p1,by show 1<=240+k;lia⟩
 ·exact aal (T:=(0,1,0,1)) Pz.kp<|qz (.lt 1) _ ⟨li,Ea _,Ea _⟩ ⟨fun x=>Eb (m:=1) (by unfold hg;split <;> decide) p1,by show 1<=240+k;lia⟩
 ·exact aal (T:=(0,0,1,1)) Pz.kp<|qz (.lt 2) _ ⟨li,Ea _,Ea _⟩ ⟨fun x=>Eb (m:=1) (by unfold hg;split <;> decide) p1,by show 1<=240+k;lia⟩
end
variable {s8 s9 : Option W}
def acA (c0:Dr):Prop:=∀ {ns:List Int} {L k n:Nat} {Ts:List R4} {h:Gh} {Q:WK} {E:FQ},Ps L k Ts h h n->(∀ s T,Good L (if L=3 then 3 else 4) Ts T s->Rok (if L=3 then 3 else 4) k T->Q (.tup (st3 s++[.lst (rW T)])) h)->c0 [.kls (ns.map .int),.int k,.int L,.loc n] h Q E
theorem aiZ {dr:Dr}(hdr:zJ dr):acA (Am dr):=by
 intro ns L k n Ts h Q E Pz qz;have k12:=Pz.k12;refine O8 rfl (Z:=[FN<|.kls<|ns.map .int,FN<|.int k,FN<|.int L,FN<|.loc n,FX,FX,FX,FX,FX,FX,FX,FX]) rfl ?_;refine aG<|aM<|aL<|ak<|aj rfl<|ak<|aF<|aU<|aj rfl<|cB<|ak<|aU<|aA ?_
 refine hdr (by lia) (by lia) (by decide) (by decide) fun xs hx=>?_;match xs,hx with
 | [a,b,c,d,e],_=>
 refine nV<|aZ ?_
 refine aG<|aM<|aF<|jU<|ak<|aU<|ak<|aU<|ak<|aU<|ak<|aU<|ak<|aU<|ak<|aU<|aA<|bH rfl ?_
 refine aF<|aF<|aj rfl<|aU<|bM (ws:=[.int a,.int b,.int c,.int d,.int e]) (w:=.int a) rfl rfl<|aU<|gW (by decide) ?_
 obtain ⟨r,er,lr⟩:=jJ a 6 (by decide);have er:a.fmod 6=(r:Int):=er;rw [er];obtain ⟨s,es,hs⟩:∃ s,J7 [W.str "number",.str "letter",.str "plus",.str "minus",.str "times",.str "times"] (r:Int)=FN (.str s)/\(s = "number"\/s = "letter"\/s = "plus"\/s = "minus"\/s = "times"):=by
  have:r=0\/r=1\/r=2\/r=3\/r=4\/r=5:=by lia
  rcases this with rfl | rfl | rfl | rfl | rfl | rfl
  ·exact ⟨_,rfl,.inl rfl⟩
  ·exact ⟨_,rfl,.inr<|.inl rfl⟩
  ·exact ⟨_,rfl,.inr<|.inr<|.inl rfl⟩
  ·exact ⟨_,rfl,.inr<|.inr<|.inr<|.inl rfl⟩
  ·exact ⟨_,rfl,.inr<|.inr<|.inr<|.inr rfl⟩
  ·exact ⟨_,rfl,.inr<|.inr<|.inr<|.inr rfl⟩
 refine bM (ws:=[W.str "number",.str "letter",.str "plus",.str "minus",.str "times",.str "times"]) rfl es<|nV<|aZ ?_
 refine aG<|bL<|xW<|aW<|aF<|aj rfl<|aU<|qP<|jc ?_
 refine adB (r:=s = "number") (fun z=>aW<|aF<|aj rfl<|aU<|yW<|jc z) (fun _=>?_) fun c0 c1=>bA<|aZ<|DW Pz qz (hs.resolve_left c1)<|by lia
 have d2:Aa b 2:=⟨by decide,64,by decide,.lit rfl⟩
 have s30:Sm 100 ((10:Int)^(30:Int).toNat):=by rw [c30];unfold Sm;decide +kernel
 refine aG<|aM<|aF<|jU<|ak<|aF<|aF<|aF<|aF<|aj rfl<|aU<|bM (ws:=[.int a,.int b,.int c,.int d,.int e]) (w:=.int b) rfl rfl<|aU<|xU d2<|aU<|gW (by decide)<|aU<|jQ ?_
 refine ak<|aF<|aF<|aF<|aF<|aj rfl<|aU<|bM (ws:=[.int a,.int b,.int c,.int d,.int e]) (w:=.int b) rfl rfl<|aU<|xU d2 ?_
 refine aF<|aU<|aF<|aU<|aU<|O4 ⟨by decide,by decide,by decide⟩<|iU (.of (m:=64) (n:=100) (.lit rfl) s30 (by decide)<|by decide)<|gW (by rw [c30];decide) ?_
 refine aF<|aU<|aU<|O4 ⟨by decide,by decide,by decide⟩<|jQ<|aA<|bH rfl ?_
 refine aF<|aF<|aj rfl<|aU<|bM (ws:=[.int a,.int b,.int c,.int d,.int e]) (w:=.int b) rfl rfl<|aU<|gW (by decide) ?_
 obtain ⟨t,et,lt⟩:=jJ b 2 (by decide);have et:b.fmod 2=(t:Int):=et;rw [et,c30];obtain ⟨u,v⟩:=pR (b.fdiv 2) (b:=9) (by decide);obtain ⟨u',v'⟩:=pR (b.fdiv 2) (b:=2*1000000000000000000000000000000) (by decide);generalize eA:(b.fdiv 2).fmod 9 - 4=A;generalize eB:(b.fdiv 2).fmod (2*1000000000000000000000000000000) - 1000000000000000000000000000000=B;have sA:Sm 101 A:=(jr (n:=10) (by lia) (by lia)).mono (by decide);have sB:Sm 101 B:=jr (by lia) (by lia);obtain ⟨y,ey,sy⟩:∃ y,J7 [W.int A,.int B] (t:Int)=FN (.int y)/\Sm 101 y:=by
  have:t=0\/t=1:=by lia
  rcases this with rfl | rfl
  ·exact ⟨A,rfl,sA⟩
  ·exact ⟨B,rfl,sB⟩
 refine bM (ws:=[W.int A,.int B]) rfl ey<|nV<|aZ ?_
 refine bC<|cI<|ak<|aU<|ak<|aj rfl<|ak<|aU<|ak<|jU<|ak<|aU<|ak<|aU<|ak<|aU<|ak<|aU<|aA<|bH rfl<|aA<|bH rfl<|jK ?_
 exact aal (T:=(0,0,0,31)) Pz.kp<|qz (.num y) _ ⟨sy,Ea _⟩ ⟨fun x=>by unfold hg;split <;> exact Jk _,by show 31<=240+k;lia⟩
theorem Aj (e:((rng 0 m).map fun x:Nat=>W.int (x:Int))[i]?=FN w):i<m/\w=.int (i:Int):=by
 rw [Gy] at e;obtain ⟨x,qe,rfl⟩:=Option.map_eq_some_iff.mp e;obtain ⟨rfl,lx⟩:=Ie qe;rw [Nat.zero_add] at lx |-
 exact ⟨lx,rfl⟩
abbrev pL (L:Nat):Nat:=if L=3 then 3 else 4
structure RW (L:Nat) (Ss:List Sp) (Ts:List R4):Prop where
 len:Ss.length=Ts.length
 ok:∀ (i:Nat) s T,Ss[i]?=FN s->Ts[i]?=FN T->Good L (pL L) (Ts.take i) T s/\Rok (pL L) i T
theorem V6 (s:Sp):∃ a i j,st3 s=[.str a,.int i,.int j]:=by cases s <;> exact ⟨_,_,_,rfl⟩
theorem nT {α : Type}{l:List α}{a x:α}(e:(l++[a])[i]?=FN x):(i<l.length/\l[i]?=FN x)\/(i=l.length/\x=a):=by
 by_cases h:i<l.length
 ·rw [RQ h] at e;exact .inl ⟨h,e⟩
 ·rw [Ob (by lia)] at e;have:i - l.length=0:=by
   have:=(Le.mp e).1
   rw [V2] at this;lia
  rw [this] at e;exact .inr ⟨by lia,(Gw e).symm⟩
variable {Ss : List Sp}
theorem RW.snoc {s:Sp}{T:R4}(h:RW L Ss Ts)(g:Good L (pL L) Ts T s)(r:Rok (pL L) Ts.length T):RW L (Ss++[s]) (Ts++[T]):=by
 refine ⟨by rw [JC,JC,h.len];rfl,fun i s' T' e1 e2=>?_⟩;have hl:=h.len;rcases nT e1 with ⟨l1,e1⟩ | ⟨l1,rfl⟩ <;> rcases nT e2 with ⟨l2,e2⟩ | ⟨l2,rfl⟩
 ·rw [List.take_append_of_le_length (by lia)];exact h.ok i s' T' e1 e2
 ·lia
 ·lia
 ·subst l2;rw [List.take_append_of_le_length (Ea _),LK];exact ⟨g,r⟩
def MN (s:Sp):W:=.tup (st3 s)
def MK (T:R4):W:=.lst (rW T)
theorem Oz (k:Nat):∀ Ss:List Sp,Jc k (Ss.map MN)
 | []=>by simp [Jc]
 | s::Ss=>by
  rw [Ed,Jc];refine ⟨?_,Oz k Ss⟩;obtain ⟨a,i,j,e⟩:=V6 s;unfold MN;rw [e];simp [Lo,Jc]
theorem QF (k:Nat):∀ Ts:List R4,Jc k (Ts.map MK)
 | []=>by simp [Jc]
 | T::Ts=>by
  rw [Ed,Jc];exact ⟨by unfold MK;rw [Lo];exact R6 _ _,QF k Ts⟩
theorem ahN {us:List W}(e:xT ws lo hi=us)(x:Q (.tup us) h):KH (.tup ws) lo hi h Q:=by
 subst e;exact x
def ac2 (c0:Dr):Prop:=∀ {ns:List Int} {L:Nat} {h:Gh} {Q:WK} {E:FQ},1<=L->L<=3->(∀ Ss Ts,RW L Ss Ts->3<=Ts.length->Ts.length<=12->Q (.tup [.lst (Ss.map MN),.lst (Ts.map MK)]) h)->c0 [.kls (ns.map .int),.int L] h Q E
theorem aiU {ce st:Dr}(hce:uE ce)(hst:acA st):ac2 (wM ce st):=by
 intro ns L h Q E l1 l3 q;refine O8 rfl (Z:=[FN<|.kls<|ns.map .int,FN<|.int L,FX,FX,FX,FX]) rfl ?_;refine aG<|aM<|iy (ws:=[]) (fun R=>rfl) rfl fun g1 a1 b1 c1=>?_
 refine nV<|aZ ?_
 refine aG<|aM<|iy (ws:=[]) (fun R=>rfl) rfl fun g2 a2 b2 c2=>?_
 refine nV<|aZ ?_
 refine aG<|kh<|mL<|ak<|aF<|aU<|aF<|aF<|aL<|ak<|aj rfl<|ak<|aU<|aA<|hce (by decide) ?_
 refine aU<|xU ⟨by decide,64,by decide,.lit rfl⟩<|aU<|gW (by decide)<|cB<|aA ?_
 obtain ⟨m,em,lm⟩:=jJ ((ns.getD (0:Int).toNat 0).fdiv 3) 10 (by decide);have em:((ns.getD (0:Int).toNat 0).fdiv 3).fmod 10=(m:Int):=em;rw [em,show (3:Int)+(m:Int)=((3+m:Nat):Int) by lia,c1];refine Mf (by lia)<|kW ?_
 refine cV (fun i Z g=>∃ Ss Ts s4 s5,RW L Ss Ts/\Ts.length=i/\Z = [FN<|.kls<|ns.map .int,FN<|.int L,FN<|.loc h.nx,FN<|.loc<|h.nx+1,s4,s5]/\g.c h.nx=FN (.lst<|Ss.map MN)/\g.c (h.nx+1)=FN (.lst<|Ts.map MK)/\g.nx=h.nx+2/\∀ m,m<h.nx->g.c m=h.c m) ?_ ?_ ⟨[],[],FX,FX,⟨rfl,fun i s T e=>by simp at e⟩,rfl,rfl,by rw [b2 _<|by lia];exact a1,by rw [<-c1];exact a2,by lia,fun m hm=>by rw [b2 _<|by lia,b1 _<|by lia]⟩
 ·rintro i w Z g N hN e ⟨Ss,Ts,s4,s5,hS,hi,rfl,e1,e2,enx,kp⟩;obtain ⟨lx,rfl⟩:=Aj e;refine nV ?_;refine aG<|aM<|aL<|ak<|aj rfl<|ak<|aj rfl<|ak<|aj rfl<|ak<|aj rfl<|aA ?_
  refine hst (Ts:=Ts) ⟨hi,by lia,e2,fun _ _=>rfl,Ea _,l3,l1,by lia,fun T hT=>?_⟩ fun s T gd rk=>?_
  ·obtain ⟨j,hj,ej⟩:=RD.mp hT;have ej2:Ts[j]?=FN T:=by rw [GK hj,ej]
   have hj2:j<Ss.length:=by rw [hS.len];exact hj
   have:=(hS.ok j _ T (GK hj2) ej2).2
   exact ⟨this.1,by have:=this.2;lia⟩
  obtain ⟨a,x,y,e3⟩:=V6 s;rw [e3];refine nV<|aZ ?_
  refine aG<|cM<|gJ<|aj rfl<|dM e1<|ak<|HF<|aj rfl<|jE<|aU<|Vf<|jE<|aU<|Vf ?_
  refine ahN (us:=[.str a,.int x,.int y]) rfl<|aA ?_
  refine (yc e1 (by rw [Ec,hS.len];lia) fun g3 a3 b3 c3=>aZ ?_);have e2':g3.c (h.nx+1)=FN (.lst (Ts.map MK)):=by rw [b3 _ (by lia)];exact e2
  refine cM<|gJ<|aj rfl<|dM e2'<|ak<|aF<|aj rfl<|aU<|bM (ws:=[.str a,.int x,.int y,MK T]) (w:=MK T) rfl rfl<|aA ?_
  refine yc e2' (by rw [Ec];lia) fun g4 a4 b4 c4=>hN _ _ ?_;refine ⟨Ss++[s],Ts++[T],_,_,hS.snoc gd (by rw [hi];exact rk),by rw [JC,hi];rfl,rfl,?_,?_,by lia,fun m hm=>by rw [b4 _<|by lia,b3 _<|by lia];exact kp m hm⟩
  ·rw [b4 _ (by lia),a3,Iu];show _=FN (Cell.lst (Ss.map MN++[.tup (st3 s)]));rw [e3]
  ·rw [a4,Iu];rfl
 ·rintro Z g ⟨Ss,Ts,s4,s5,hS,hi,rfl,e1,e2,enx,kp⟩;have hi:Ts.length=3+m:=by rw [hi,Ec];simp [rng]
  refine aZ<|bC<|cI<|ak<|aj rfl<|ak<|aj rfl<|aA<|bH rfl<|jK ?_
  exact ⟨fun n c hn e=>by rw [kp n hn];exact e,_,_,rfl,.cons (.inr ⟨_,_,rfl,Ea _,e1,Oz _ _,rfl⟩)<|.cons (.inr ⟨_,_,rfl,Tp _,e2,QF _ _,rfl⟩) .nil,q Ss Ts hS (by lia)<|by lia⟩
def wo1 (ws xs:List Int):Sp->Int
 | .num c=>c
 | .lt i=>xs.getD i 0
 | .pl i j=>ws.getD i 0+ws.getD j 0
 | .mi i j=>ws.getD i 0 - ws.getD j 0
 | .ti i j=>ws.getD i 0*ws.getD j 0
def LR (xs:List Int)(Ss:List Sp):List Int:=Ss.foldl (fun ws s=>ws++[wo1 ws xs s]) []
theorem nR (xs:List Int)(Ss:List Sp)(s:Sp):LR xs (Ss++[s])=LR xs Ss++[wo1 (LR xs Ss) xs s]:=by unfold LR;rw [Vb];rfl
theorem take_snoc {α : Type}{l:List α}{x:α}(e:l[i]?=FN x):l.take (i+1)=l.take i++[x]:=by rw [Lz,e];rfl
theorem yR (xs:List Int)(Ss:List Sp):∀ i,i<=Ss.length->(LR xs (Ss.take i)).length=i
 | 0,_=>rfl
 | i+1,h=>by rw [take_snoc (GK h),nR,JC,yR xs Ss i (by lia)];rfl
abbrev wl (L:Nat)(xs:List Int)(us:List Tm):Int:=lin (fun k=>mo k xs L) us
theorem jH {α : Type}{l:List α}{x d:α}(e:l[i]?=FN x):l.getD i d=x:=by rw [Hy,e];rfl
abbrev bT (T:R4):Nat:=10*T.2.2.2 / 3
structure Ve (L:Nat) (Ss:List Sp) (Ts:List R4) (us:List (List Tm)):Prop where
 len:us.length=Ss.length
 hs:∀ (j:Nat) u T,us[j]?=FN u->Ts[j]?=FN T->Hs L (bT T) (hg T) u
 wo:∀ xs,us.map (wl L xs)=LR xs Ss
theorem Ve.snoc {us:List (List Tm)}{s:Sp}{T:R4}{u:List Tm}(h:Ve L (Ss.take i) Ts us)(es:Ss[i]?=FN s)(eT:Ts[i]?=FN T)(hu:Hs L (bT T) (hg T) u)(hw:∀ xs,wl L xs u=wo1 (us.map (wl L xs)) xs s):Ve L (Ss.take (i+1)) Ts (us++[u]):=by
 have li:us.length=i:=by rw [h.len,Lr];have:=(Le.mp es).1;lia
 rw [take_snoc es];refine ⟨by rw [JC,h.len,JC];rfl,fun j v V ev eV=>?_,fun xs=>?_⟩
 ·rcases nT ev with ⟨_,e⟩ | ⟨rfl,rfl⟩
  ·exact h.hs j v V e eV
  ·rw [li,eT] at eV;cases eV;exact hu
 ·rw [Iu,nR,<-h.wo];show _++[wl L xs u]=_;rw [hw]
theorem aaL {c:Int}(h:Sm b c):Hs L b T (nsT c L):=by
 unfold nsT;split
 ·refine ⟨List.pairwise_singleton _ _,fun t ht=>?_⟩;rw [K5.mp ht];refine ⟨by simp,by assumption,h,fun j=>?_⟩;have:(Gv L (0:Int)).getD j 0=0:=by
   rw [Hy,W0];split <;> rfl
  show 0<=(Gv L (0:Int)).getD j 0/\(Gv L (0:Int)).getD j 0<=_;rw [this];lia
 ·exact ⟨.nil,fun t ht=>(nomatch ht)⟩
theorem abK {c:Int}:wl L xs (nsT c L)=c:=by
 unfold nsT;split
 ·show lin _ [(Gv L 0,c)]=c;rw [aQ,yw fun j _=>by rw [Hy,W0];split <;> rfl,Int.one_mul];exact Nu c
 ·rename_i h;have:c=0:=MJ h
  rw [this];rfl
theorem O9 (l L j:Nat):(NP l L).getD j 0=if j=l/\j<L then 1 else 0:=by
 unfold NP;rw [Hy,Gy];by_cases h:j<L
 ·rw [Yr h];by_cases e:j=l
  ·rw [if_pos ⟨e,h⟩,Option.map_some,if_pos e];rfl
  ·rw [if_neg (fun c=>e c.1),Option.map_some,if_neg e];rfl
 ·rw [if_neg (fun c=>h c.2),Yd (by rw [Y8];lia)];rfl
theorem Ol {l L:Nat}{xs:List Int}(h:l<L):∀ i,mo (NP l L) xs i=if l<i then xs.getD l 0 else 1
 | 0=>by rw [if_neg (by lia)];rfl
 | i+1=>by
  show mo (NP l L) xs i*_^((NP l L).getD i 0).toNat=_;rw [Ol h i,O9];by_cases e:i=l
  ·subst e;rw [if_neg (by lia),if_pos ⟨rfl,h⟩,if_pos (by lia),Int.one_mul];exact Int.pow_succ (xs.getD i 0) 0 |>.trans (by simp)
  ·rw [show (if i=l/\i<L then (1:Int) else 0)=0 from if_neg (fun c=>e c.1)];have:(if l<i then xs.getD l 0 else 1)=if l<i+1 then xs.getD l 0 else 1:=by
    by_cases c:l<i
    ·rw [if_pos c,if_pos (by lia)]
    ·rw [if_neg c,if_neg (by lia)]
   rw [<-this];show _*xs.getD i 0^0=_;rw [Int.pow_zero,XJ]
theorem abZ (hb:1<=b)(hT:1<=T l):Hs L b T [(NP l L,1)]:=by
 refine ⟨List.pairwise_singleton _ _,fun t ht=>?_⟩;rw [K5.mp ht];refine ⟨by show (NP l L).length=L;unfold NP;simp,by show (1:Int)≠0;decide,Hl (show (1:Int).natAbs<2^1 by decide)<|Ub (by decide) hb,fun j=>?_⟩;show 0<=(NP l L).getD j 0/\(NP l L).getD j 0<=_;rw [O9];split
 ·rename_i h;rw [h.1];lia
 ·lia
theorem abF (h:l<L):wl L xs [(NP l L,1)]=xs.getD l 0:=by
 show lin _ [(NP l L,1)]=_;rw [aQ,Ol h,if_pos h,XJ];exact Nu _
variable {s0 s1 s2 s3 : Option W}
theorem Sd {s5:Option W}{a b c:W}(x:N [s0,s1,s2,FN a,FN b,FN c] h):g8 3 (cT (kI 3) (cT (kI 4) (cT (kI 5) zE))) (.tup [a,b,c]) [s0,s1,s2,s3,s4,s5] h N:=x
theorem MP {s t:Str}{A B:MS}{D:bK}{s5:Option W}(e:decide (s=t)=false)(k:B D [s0,s1,s2,FN (.str s),s4,s5] h):gk (bO (DR Jg (aB 3) (mC (.str t)))) A B D [s0,s1,s2,FN (.str s),s4,s5] h:=bL (aW (aF (aj rfl (aU (yW (jc (rH e k)))))))
theorem Uu {s t:Str}{A B:MS}{D:bK}{s5:Option W}(e:decide (s=t)=true)(k:A D [s0,s1,s2,FN (.str s),s4,s5] h):gk (bO (DR Jg (aB 3) (mC (.str t)))) A B D [s0,s1,s2,FN (.str s),s4,s5] h:=bL (aW (aF (aj rfl (aU (yW (jc (abT e k)))))))
theorem Um {op:M2}{D:bK}{a:Nat}{x y:W}{g:Gh}(e:g.c n=FN (.lst ws))(ea:J7 ws (a:Int)=FN x)(eb:J7 ws (b:Int)=FN y)(k:op x y g fun w h1=>bB (.loc n) [w] h1 fun _ h2=>D.nx [s0,s1,FN (.loc n),s3,FN (.int a),FN (.int b)] h2):dO (pP bB (aB 2) (ao (DR op (DR Fi (aB 2) (aB 4)) (DR Fi (aB 2) (aB 5))) aN)) D [s0,s1,FN (.loc n),s3,FN (.int a),FN (.int b)] g:=
 cM (gJ (aj rfl (dM e (ak (aF (aF (aj rfl (aj rfl (kZ e ea (aF (aj rfl (aj rfl (kZ e eb k)))))))))))))
theorem Rt {D:bK}{a:Nat}{x y:W}{g:Gh}(e:g.c n=FN (.lst ws))(ea:J7 ws (a:Int)=FN x)(eb:J7 ws (b:Int)=FN y)(k:c0 [x,y] g (fun w h1=>bB (.loc n) [w] h1 fun _ h2=>D.nx [s0,s1,FN (.loc n),s3,FN (.int a),FN (.int b)] h2) E):dO (pP bB (aB 2) (ao (bf c0 E (ao (DR Fi (aB 2) (aB 4)) (ao (DR Fi (aB 2) (aB 5)) aN))) aN)) D [s0,s1,FN (.loc n),s3,FN (.int a),FN (.int b)] g:=
 cM (gJ (aj rfl (dM e (ak (aL (ak (aF (aj rfl (aj rfl (kZ e ea (ak (aF (aj rfl (aj rfl (kZ e eb (aA k))))))))))))))))
def acQ (c0:Dr):Prop:=∀ {L:Nat} {Ss:List Sp} {Ts:List R4} {h:Gh} {Q:WK} {E:FQ},1<=L->L<=3->RW L Ss Ts->Ts.length<=12->(∀ us,Ve L Ss Ts us->Q (.lst (us.map Du)) h)->c0 [.lst (Ss.map MN),.int L] h Q E
theorem ahz {nsu lsu pl mi ti:Dr}(hn:NsX nsu)(hl:LsX lsu)(hp:SX 1 pl)(hm:SX (-1) mi)(ht:VG ti):acQ (Dh nsu lsu pl mi ti):=by
 intro L Ss Ts h Q E l1 l3 hS l12 q;refine jR rfl (Z:=[FN<|.lst<|Ss.map MN,FN<|.int L,FX,FX,FX,FX]) rfl ?_;refine aG<|aM<|iy (ws:=[]) (fun R=>rfl) rfl fun g1 a1 b1 c1=>?_
 refine nV<|aZ ?_
 have z:=yd l3 l1;refine aG<|uV (v:=MN) (xs:=Ss) rfl (.inl rfl) (fun i Z g=>∃ us s3 s4 s5,Ve L (Ss.take i) Ts us/\Z = [FN<|.lst<|Ss.map MN,FN<|.int L,FN<|.loc h.nx,s3,s4,s5]/\g.c h.nx=FN (.lst<|us.map Du)/\g.nx=h.nx+1/\∀ m,m<h.nx->g.c m=h.c m) (fun _ _ _ _=>.inl rfl) ?_ ?_ ⟨[],FX,FX,FX,⟨rfl,fun j u T e=>by simp at e,fun xs=>rfl⟩,rfl,a1,c1,fun m hm=>b1 m<|by lia⟩
 ·rintro i s Z g N hN es ⟨us,s3,s4,s5,hU,rfl,e1,enx,kp⟩;have hi:=(Le.mp es).1;have hiT:i<Ts.length:=by rw [<-hS.len];exact hi
  have li:us.length=i:=by rw [hU.len,Lr];lia
  obtain ⟨T,eT⟩:∃ T,Ts[i]?=FN T:=⟨_,GK hiT⟩
  obtain ⟨gd,rk⟩:=hS.ok i s T es eT;have don:∀ (rs:List Tm) (t3 t4 t5:Option W),Hs L (bT T) (hg T) rs->(∀ xs,wl L xs rs=wo1 (us.map (wl L xs)) xs s)->bB (.loc h.nx) [Du rs] g fun _ h1=>N [FN (.lst (Ss.map MN)),FN (.int L),FN (.loc h.nx),t3,t4,t5] h1:=fun rs t3 t4 t5 h1 h2=>by
   refine yc e1 (by rw [Ec];lia) fun g2 a2 b2 c2=>hN _ _ ⟨us++[rs],t3,t4,t5,hU.snoc es eT h1 h2,rfl,by rw [a2,Iu];rfl,by lia,fun m hm=>by rw [b2 _<|by lia];exact kp m hm⟩
  have two:∀ {a:Nat} {U:R4},(Ts.take i)[a]?=FN U->∃ u,us[a]?=FN u/\Hs L (bT U) (hg U) u/\J7 (us.map Du) (a:Int)=FN (Du u)/\∀ xs,(us.map (wl L xs)).getD a 0=wl L xs u:=fun {a U} e=>by
   have la:=(Le.mp e).1;rw [Lr] at la;rw [List.getElem?_take_of_lt (by lia)] at e;obtain ⟨u,eu⟩:∃ u,us[a]?=FN u:=⟨_,GK (by lia)⟩
   exact ⟨u,eu,hU.hs a u U eu e,dh (by rw [Gy,eu];rfl),fun xs=>jH (by rw [Gy,eu];rfl)⟩
  have rp:∀ j,j<L->hg T j<=pL L:=fun j _=>rk.1 j
  cases s with
  | num c=>
   refine Sd <| Uu rfl ?_
   refine cM<|gJ<|aj rfl<|dM e1<|ak<|aL<|ak<|aj rfl<|ak<|aj rfl<|aA<|hn (by lia)<|aA ?_
   exact don _ _ _ _ (aaL<|gd.1.mono (by have:=gd.2;unfold bT;lia)) fun xs=>abK
  | lt l=>
   refine Sd <| MP rfl <| Uu rfl ?_
   refine cM<|gJ<|aj rfl<|dM e1<|ak<|aL<|ak<|aj rfl<|ak<|aj rfl<|aA<|hl (by lia)<|aA ?_
   exact don _ _ _ _ (abZ (by have:=gd.2.2;unfold bT;lia) gd.2.1) fun xs=>abF gd.1
  | pl a b=>
   obtain ⟨U,V,eU',eV,hx,d1,d2⟩:=gd.ex;obtain ⟨u,eu,hu,au,wu⟩:=two eU';obtain ⟨v,ev,hv,av,wv⟩:=two eV;refine Sd <| MP rfl <| MP rfl <| Uu rfl ?_
   refine Rt e1 au av ?_;refine Hv (b:=10*(T.2.2.2 - 1) / 3) (T:=hg T) (.inl rfl) hp rp (Eb z.one<|by decide) (hu.mono (by unfold bT;lia) fun j=>(hx j).1) (hv.mono (by unfold bT;lia) fun j=>(hx j).2) (by have:=rk.2;lia) fun rs _ hr hw=>?_;exact don rs _ _ _ (hr.mono (by unfold bT;lia) fun _=>Ea _) fun xs=>by show _=_+_;rw [wu,wv,wl,hw,Int.one_mul]
  | mi a b=>
   obtain ⟨U,V,eU',eV,hx,d1,d2⟩:=gd.ex;obtain ⟨u,eu,hu,au,wu⟩:=two eU';obtain ⟨v,ev,hv,av,wv⟩:=two eV;refine Sd <| MP rfl <| MP rfl <| MP rfl <| Uu rfl ?_
   refine Rt e1 au av ?_;refine Hv (b:=10*(T.2.2.2 - 1) / 3) (T:=hg T) (.inr rfl) hm rp (Eb z.one<|by decide) (hu.mono (by unfold bT;lia) fun j=>(hx j).1) (hv.mono (by unfold bT;lia) fun j=>(hx j).2) (by have:=rk.2;lia) fun rs _ hr hw=>?_;exact don rs _ _ _ (hr.mono (by unfold bT;lia) fun _=>Ea _) fun xs=>(hw xs).trans (by show wl L xs u + -1*wl L xs v=_ - _;rw [wu,wv];lia)
  | ti a b=>
   obtain ⟨U,V,eU',eV,hx,d1⟩:=gd;obtain ⟨u,eu,hu,au,wu⟩:=two eU';obtain ⟨v,ev,hv,av,wv⟩:=two eV;refine Sd <| MP rfl <| MP rfl <| MP rfl <| MP rfl ?_
   refine Rt e1 au av ?_;have r2:=rk.2;refine HB ht z hu hv (by unfold bT;lia) (by unfold bT;lia) (fun j hj=>Eb (Eb (Wo _ _)<|hx j)<|rp j hj) (fun j hj=>Eb (Eb (Nat.le_add_left _ _)<|hx j)<|rp j hj) fun rs _ hr hw=>?_;exact don rs _ _ _ (hr.mono (by unfold bT;lia) hx) fun xs=>by show _=_*_;rw [wu,wv,wl,hw]
 ·rintro Z g ⟨us,s3,s4,s5,hU,rfl,e1,enx,kp⟩;rw [LK] at hU;refine aZ<|bC<|aj rfl<|jK ?_
  exact ⟨fun n c hn e=>by rw [kp n hn];exact e,.inr ⟨_,_,rfl,Ea _,e1,Qk _ _,q us hU⟩⟩
theorem Pr {L:Nat}{Ss:List Sp}{Ts:List R4}{xs:List Int}(hS:RW L Ss Ts)(hx:Bd xs):∀ i,i<=Ss.length->∀ (j:Nat) w,(LR xs (Ss.take i))[j]?=FN w->Sm (102*2^j) w
 | 0,_,j,w,e=>by simp [LR] at e
 | i+1,hi,j,w,e=>by
  have ih:=Pr hS hx i (by lia);obtain ⟨s,es⟩:∃ s,Ss[i]?=FN s:=⟨_,GK hi⟩
  obtain ⟨T,eT⟩:∃ T,Ts[i]?=FN T:=⟨_,GK (by rw [<-hS.len];exact hi)⟩
  have wl:=yR xs Ss i (by lia);rw [take_snoc es,nR] at e;rcases nT e with ⟨_,e⟩ | ⟨rfl,rfl⟩
  ·exact ih j w e
  rw [wl];have gd:=(hS.ok i s T es eT).1;have two:∀ {a:Nat} {U:R4},(Ts.take i)[a]?=FN U->Sm (102*2^a) ((LR xs (Ss.take i)).getD a 0)/\2*2^a<=2^i/\1<=2^a:=fun {a U} e=>by
   have la:=(Le.mp e).1;rw [Lr] at la;have q:=GK (l:=LR xs (Ss.take i)) (i:=a) (by lia);refine ⟨by rw [jH q];exact ih a _ q,?_,Nat.pos_of_neZero _⟩;have:=Ub (n:=2) (by decide) (show a+1<=i by lia)
   rw [XO] at this;lia
  have p1:1<=2^i:=Nat.pos_of_neZero _;cases s with
  | num c=>exact gd.1.mono (by lia)
  | lt l=>exact (hx.get l).mono (by lia)
  | pl a b=>
   obtain ⟨U,V,eU',eV,_⟩:=gd.ex;obtain ⟨u1,u2,u3⟩:=two eU';obtain ⟨v1,v2,v3⟩:=two eV;exact (u1.add v1).mono (by lia)
  | mi a b=>
   obtain ⟨U,V,eU',eV,_⟩:=gd.ex;obtain ⟨u1,u2,u3⟩:=two eU';obtain ⟨v1,v2,v3⟩:=two eV;exact (u1.sub v1).mono (by lia)
  | ti a b=>
   obtain ⟨U,V,eU',eV,_⟩:=gd;obtain ⟨u1,u2,u3⟩:=two eU';obtain ⟨v1,v2,v3⟩:=two eV;exact (u1.mul v1).mono (by lia)
def abU (c0:Dr):Prop:=∀ {L:Nat} {Ss:List Sp} {Ts:List R4} {xs:List Int} {h:Gh} {Q:WK} {E:FQ},RW L Ss Ts->Ts.length<=12->xs.length=L->Bd xs->Q (.lst ((LR xs Ss).map .int)) h->c0 [.lst (Ss.map MN),.tup (xs.map .int)] h Q E
theorem YT (k:Nat):∀ xs:List Int,Jc k (xs.map .int)
 | []=>by simp [Jc]
 | x::xs=>by rw [Ed,Jc];exact ⟨by simp [Lo],YT k xs⟩
theorem ajr:abU rF:=by
 intro L Ss Ts xs h Q E hS l12 hl hx q;refine jR rfl (Z:=[FN<|.lst<|Ss.map MN,FN<|.tup<|xs.map .int,FX,FX,FX,FX]) rfl ?_;refine aG<|aM<|iy (ws:=[]) (fun R=>rfl) rfl fun g1 a1 b1 c1=>?_
 refine nV<|aZ ?_
 refine aG<|uV (v:=MN) (xs:=Ss) rfl (.inl rfl) (fun i Z g=>∃ s3 s4 s5,Z = [FN<|.lst<|Ss.map MN,FN<|.tup<|xs.map .int,FN<|.loc h.nx,s3,s4,s5]/\g.c h.nx=FN (.lst<|(LR xs<|Ss.take i).map .int)/\g.nx=h.nx+1/\∀ m,m<h.nx->g.c m=h.c m) (fun _ _ _ _=>.inl rfl) ?_ ?_ ⟨FX,FX,FX,rfl,a1,c1,fun m hm=>b1 m<|by lia⟩
 ·rintro i s Z g N hN es ⟨s3,s4,s5,rfl,e1,enx,kp⟩;have hi:=(Le.mp es).1;have hiT:i<Ts.length:=by rw [<-hS.len];exact hi
  have wl:=yR xs Ss i (by lia);have bd:=Pr hS hx i (by lia);obtain ⟨T,eT⟩:∃ T,Ts[i]?=FN T:=⟨_,GK hiT⟩
  have gd:=(hS.ok i s T es eT).1;have don:∀ (r:Int) (t3 t4 t5:Option W),r=wo1 (LR xs (Ss.take i)) xs s->bB (.loc h.nx) [.int r] g fun _ h1=>N [FN (.lst (Ss.map MN)),FN (.tup (xs.map .int)),FN (.loc h.nx),t3,t4,t5] h1:=fun r t3 t4 t5 e=>by
   refine yc e1 (by rw [Ec];lia) fun g2 a2 b2 c2=>hN _ _ ⟨t3,t4,t5,rfl,?_,by lia,fun m hm=>by rw [b2 _<|by lia];exact kp m hm⟩;rw [a2,take_snoc es,nR,Iu,e];rfl
  have two:∀ {a:Nat} {U:R4},(Ts.take i)[a]?=FN U->Sm 500000 ((LR xs (Ss.take i)).getD a 0)/\J7 ((LR xs (Ss.take i)).map W.int) (a:Int)=FN (.int ((LR xs (Ss.take i)).getD a 0)):=fun {a U} e=>by
   have la:=(Le.mp e).1;rw [Lr] at la;have q:=GK (l:=LR xs (Ss.take i)) (i:=a) (by lia);have p:=Ub (n:=2) (by decide) (show a<=12 by lia);exact ⟨by rw [jH q];exact (bd a _ q).mono (by lia),dh (by rw [Gy,jH q,q];rfl)⟩
  cases s with
  | num c=>
   refine Sd <| Uu rfl ?_
   exact cM<|gJ<|aj rfl<|dM e1<|ak<|aj rfl<|aA<|don _ _ _ _ rfl
  | lt l=>
   refine Sd <| MP rfl <| Uu rfl ?_
   have q:=GK (l:=xs) (i:=l) (by rw [hl];exact gd.1);exact cM<|gJ<|aj rfl<|dM e1<|ak<|aF<|aj rfl<|aj rfl<|bM (ws:=xs.map .int) rfl (dh (by rw [Gy,q];rfl))<|aA<|don _ _ _ _ (jH q).symm
  | pl a b=>
   obtain ⟨U,V,eU',eV,_⟩:=gd.ex;refine Sd <| MP rfl <| MP rfl <| Uu rfl ?_
   exact Um e1 (two eU').2 (two eV).2 (cB<|don _ _ _ _ rfl)
  | mi a b=>
   obtain ⟨U,V,eU',eV,_⟩:=gd.ex;refine Sd <| MP rfl <| MP rfl <| MP rfl <| Uu rfl ?_
   exact Um e1 (two eU').2 (two eV).2 (jQ<|don _ _ _ _ rfl)
  | ti a b=>
   obtain ⟨U,V,eU',eV,_⟩:=gd;refine Sd <| MP rfl <| MP rfl <| MP rfl <| MP rfl ?_
   exact Um e1 (two eU').2 (two eV).2 (iU (.of (two eU').1 (two eV).1 (by decide) (by decide))<|don _ _ _ _ rfl)
 ·rintro Z g ⟨s3,s4,s5,rfl,e1,enx,kp⟩;rw [LK] at e1;refine aZ<|bC<|aj rfl<|jK ?_
  exact ⟨fun n c hn e=>by rw [kp n hn];exact e,.inr ⟨_,_,rfl,Ea _,e1,YT _ _,q⟩⟩
def fld (M:Nat->Nat):Nat->List (List Int)
 | 0=>[[]]
 | k+1=>(fld M k).flatMap fun xs=>(LC (M k+1)).map fun x:Nat=>xs++[(x:Int)]
def Te (xs:List Int):W:=.tup (xs.map .int)
theorem qy {M:Nat->Nat}:∀ {k:Nat} {xs:List Int},xs∈fld M k↔xs.length=k/\∀ j,j<k->0<=xs.getD j 0/\xs.getD j 0<=(M j:Int)
 | 0,xs=>by
  show xs∈[[]]↔_;rw [K5];exact ⟨fun e=>⟨by rw [e];rfl,fun j hj=>by lia⟩,fun e=>RT e.1⟩
 | k+1,xs=>by
  show xs∈List.flatMap _ _↔_;rw [List.mem_flatMap];constructor
  ·rintro ⟨ys,hy,hx⟩;obtain ⟨x,hx,rfl⟩:=Gs.mp hx;obtain ⟨ly,by'⟩:=qy.mp hy;have hx:=Tz.mp (by assumption:x∈LC (M k+1));refine ⟨by rw [JC,ly];rfl,fun j hj=>?_⟩;rw [Hy];by_cases c:j<k
   ·rw [RQ (by lia),<-Hy];exact by' j c
   ·have:j=ys.length:=by lia
    rw [this,Ob (Ea _),Nat.sub_self,ly];show 0<=(x:Int)/\(x:Int)<=M k;lia
  ·rintro ⟨lx,hx⟩;have hk:=hx k (by lia);refine ⟨xs.take k,qy.mpr ⟨by rw [Lr];lia,fun j hj=>?_⟩,Gs.mpr ⟨(xs.getD k 0).toNat,Tz.mpr<|by lia,?_⟩⟩
   ·have:=hx j (by lia)
    rw [Hy,List.getElem?_take_of_lt hj,<-Hy];exact this
   ·rw [show (((xs.getD k 0).toNat:Nat):Int)=xs.getD k 0 by lia];have q:=GK (l:=xs) (i:=k) (by lia);rw [jH q,<-take_snoc q,Vz (by lia)]
theorem vg {α : Type}{M:Nat}(f:α->List (List Int))(hf:∀ x,(f x).length=M)(l:List α):(l.flatMap f).length=l.length*M:=by
 induction l with
 | nil=>simp
 | cons x l ih=>rw [List.flatMap_cons,JC,hf,ih,K9,Nat.succ_mul];lia
theorem z8 {M:Nat->Nat}{p:Nat}:∀ {k:Nat},(∀ j,j<k->M j<=p)->(fld M k).length<=(p+1)^k
 | 0,_=>Ea _
 | k+1,h=>by
  show (List.flatMap _ _).length<=_;rw [vg (M:=M k+1) _ fun x=>by simp,XO];exact Ww (z8 fun j hj=>h j<|by lia) (by have:=h k (by lia);lia)
def aaV (c0:Dr):Prop:=∀ {L:Nat} {T:R4} {h:Gh} {Q:WK} {E:FQ},1<=L->L<=3->(∀ x,hg T x<=pL L)->Q (.lst ((fld (hg T) L).map Te)) h->c0 [.int L,.lst (rW T)] h Q E
theorem w_field:aaV xQ:=by
 intro L T h Q E l1 l3 hT q;have z:=yd l3 l1;refine dY rfl (Z:=[FN<|.int L,FN<|.lst<|rW T,FX,FX,FX,FX]) rfl ?_;refine aG<|aM<|jU<|ak<|cI<|aA<|bH rfl<|aA<|bH rfl ?_
 refine nV<|aZ ?_
 refine aG<|kh<|mL<|ak<|aj rfl<|aA<|Mf (by lia)<|kW ?_
 have p64:∀ k,k<=L->(pL L+1)^k<=64:=fun k hk=>Eb (Ub (by lia) hk) z.one
 refine cV (fun k Z g=>g=h/\∃ s3 s4 s5,Z = [FN<|.int L,FN<|.lst<|rW T,FN<|.lst<|(fld (hg T) k).map Te,s3,s4,s5]) ?_ ?_ ⟨rfl,FX,FX,FX,rfl⟩
 ·rintro k w Z g N hN e ⟨rfl,s3,s4,s5,rfl⟩;obtain ⟨lx,rfl⟩:=Aj e;refine nV ?_;refine aG<|aM<|jU<|aA<|bH rfl ?_
  refine nV<|aZ ?_
  have lf:=Eb (z8 (k:=k) fun j _=>hT j) (p64 k (by lia));have lf1:=Eb (z8 (k:=k+1) fun j _=>hT j) (p64 (k+1) (by lia));have hk:=hT k;have p4:pL L<=4:=z.p4;let f:List Int->List (List Int):=fun xs=>(LC (hg T k+1)).map fun x:Nat=>xs++[(x:Int)]
  have fl:∀ x,(f x).length=hg T k+1:=fun x=>by simp [f]
  have e1:(fld (hg T) k).length*(hg T k+1)<=64:=by rw [<-vg f fl];exact lf1
  refine aG<|uV (v:=Te) (xs:=fld (hg T) k) rfl (.inl rfl) (fun i Z g'=>g'=g/\∃ s5,Z = [FN<|.int L,FN<|.lst<|rW T,FN<|.lst<|(fld (hg T) k).map Te,FN<|.int (k:Int),FN<|.lst<|(((fld (hg T) k).take i).flatMap f).map Te,s5]) (fun _ _ _ _=>.inl rfl) ?_ ?_ ⟨rfl,_,rfl⟩
  ·rintro i xs Z g' N' hN' es ⟨rfl,s5,rfl⟩;have hi:=(Le.mp es).1;have hx:=qy.mp (Lx es);refine nV ?_;refine aM<|aF<|aj rfl<|fZ<|mL<|ak<|aF<|aF<|aj rfl<|aj rfl<|bM (ws:=rW T) (w:=.int (hg T k:Nat)) rfl ?_<|aU<|cB<|aA ?_
   ·have:k=0\/k=1\/k=2:=by lia
    rcases this with rfl | rfl | rfl <;> rfl
   rw [show ((hg T k:Nat):Int)+1=((hg T k+1:Nat):Int) by lia];refine Mf (by lia)<|R8 (by simp [rng];lia) ?_
   refine dW (fun j acc g2=>g2=g'/\acc=((LC j).map fun x:Nat=>xs++[(x:Int)]).map Te) ?_ ?_ ⟨rfl,rfl⟩
   ·rintro j w acc g2 N2 hN2 e ⟨rfl,rfl⟩;obtain ⟨lx,rfl⟩:=Aj e;refine ⟨[.int (j:Int)],rfl,cJ<|cL<|aF<|aj (w:=.tup (xs.map .int)) rfl<|cI<|ak<|aj rfl<|aA<|bH rfl<|ahf<|hN2 _ _ ⟨rfl,?_⟩⟩;rw [YL];simp only [Iu,Ed,Mw,Te]
   ·rintro acc g2 ⟨rfl,rfl⟩;have t1:=take_snoc es;have l2:(((fld (hg T) k).take (i+1)).flatMap f).length<=64:=by
     rw [vg f fl,Lr];exact Eb (Xh _<|Nat.min_le_right _ _) e1
    have t2:(((fld (hg T) k).take (i+1)).flatMap f)=(((fld (hg T) k).take i).flatMap f)++f xs:=by rw [t1,List.flatMap_append,List.flatMap_singleton]
    rw [t2,JC] at l2;have lr:(List.map (fun x:Nat=>W.int (x:Int)) (rng 0 (hg T k+1))).length=hg T k+1:=by rw [Ec];simp [rng]
    rw [lr];refine fV.mk (Eb (m:=1000) (by rw [Ec,Ec];show _+(f xs).length<=_;lia)<|by decide) ?_;rw [<-Iu];refine nV ?_;refine hN' _ _ ⟨rfl,FN<|Te xs,?_⟩;rw [t2]
  ·rintro Z g' ⟨rfl,s5,rfl⟩;rw [LK];refine aZ<|aM<|aj rfl ?_
   refine nV ?_;exact hN _ _ ⟨rfl,_,_,_,rfl⟩
 ·rintro Z g ⟨rfl,s3,s4,s5,rfl⟩;have:(List.map (fun x:Nat=>W.int (x:Int)) (rng 0 L)).length=L:=by rw [Ec];simp [rng]
  rw [this];exact aZ<|bC<|aj rfl<|jK q
def HgX (c0:Dr):Prop:=∀ {L:Nat} {Ss:List Sp} {Ts:List R4} {us:List (List Tm)} {h:Gh} {Q:WK} {E:FQ},1<=L->L<=3->RW L Ss Ts->Ts.length<=12->Ve L Ss Ts us->Q (.bl true) h->c0 [.lst (us.map Du),.lst (Ts.map MK),.int L] h Q E
theorem Hs.small (h:Hs L b T us)(z:Sz L p)(hp:∀ j,T j<=p):us.length<=64:=Eb (h.box fun j _=>hp j) z.one
theorem Hs.pw4 (h:Hs L b T us)(p4:p<=4)(hp:∀ j,T j<=p)(ht:t∈us):Pw t.1:=fun q hq=>by have:=h.pw (fun j _=>hp j) ht q hq;lia
theorem Hs.ts (h:Hs L b T us)(z:Sz L p)(hp:∀ j,T j<=p)(hb:b<=1000):Wi L us:=⟨Eb (h.small z hp) (by decide),fun t ht=>⟨(h.ok t ht).1,(h.ok t ht).2.2.1.mono hb,h.pw4 z.p4 hp ht⟩⟩
theorem RW.rk {j:Nat}{T:R4}(h:RW L Ss Ts)(e:Ts[j]?=FN T):Rok (pL L) j T:=by
 have hj:=(Le.mp e).1;exact (h.ok j _ T (GK (by rw [h.len];exact hj)) e).2
theorem aaw (q:Q (.bl false) h):QS [.lst (Gv n (.bl false))] h Q:=by
 have e:∀ n,Ek (Gv n (.bl false))=FN (Gv n false):=fun n=>by
  induction n with
  | zero=>rfl
  | succ n ih=>rw [RB,Ek,ih];rfl
 have a:∀ n,(Gv n false).any id=false:=fun n=>by simp
 refine BL rfl (e n) ?_;rw [a];exact q
theorem zbT {is ht:Dr}(his:IsG is)(hht:Wx ht):HgX (gQ is ht):=by
 intro L Ss Ts us h Q E l1 l3 hS l12 hU q;have z:Sz L (pL L):=yd l3 l1;refine dY rfl (Z:=[FN<|.lst<|us.map Du,FN<|.lst<|Ts.map MK,FN<|.int L,FX,FX]) rfl ?_;refine aG<|kh<|pO<|ak<|aj rfl<|ak<|aj rfl<|aA<|Jb rfl rfl rfl<|kW ?_
 refine cV (fun i Z g=>g=h/\∃ s3 s4,Z = [FN<|.lst<|us.map Du,FN<|.lst<|Ts.map MK,FN<|.int L,s3,s4]) ?_ ?_ ⟨rfl,FX,FX,rfl⟩
 ·rintro i w Z g N hN e ⟨rfl,s3,s4,rfl⟩;obtain ⟨a,b,ea,eb,rfl⟩:=kY e;rw [Gy] at ea eb;cases qu:us[i]? with
  | none=>rw [qu] at ea;cases ea
  | some u=>
  cases qT:Ts[i]? with
  | none=>rw [qT] at eb;cases eb
  | some T=>
  rw [qu] at ea;rw [qT] at eb;cases ea;cases eb;have hu:=hU.hs i u T qu qT;have rk:=hS.rk qT;have hi:=(Le.mp qT).1;have hT:=rk.1;have d:=rk.2;refine d9 (ws:=[Du u,MK T]) rfl rfl<|bW ?_
  refine nV<|bW ?_
  refine nV<|iu ?_
  refine aG<|bL<|aW<|aF<|aL<|ak<|aj rfl<|ak<|aj rfl<|aA ?_
  refine his (by lia) (Eb (hu.small z hT)<|by decide) hu.srt (fun t ht=>⟨(hu.ok t ht).1,hu.pw4 z.p4 hT ht,(hu.ok t ht).2.1⟩)<|aU<|Km<|jc<|rH rfl<|bA<|aZ ?_
  refine bL<|fu<|cj<|ak<|fZ<|mL<|ak<|aj rfl<|aA<|Mf (by lia)<|R8 (by simp [rng];lia) ?_
  refine dW (fun j acc g2=>g2=g/\acc=Gv j (.bl false)) ?_ ?_ ⟨rfl,rfl⟩
  ·rintro j w acc g2 N2 hN2 e ⟨rfl,rfl⟩;obtain ⟨lx,rfl⟩:=Aj e;refine ⟨[.int (j:Int)],rfl,cJ<|cL<|aF<|aL<|ak<|aj rfl<|ak<|aj rfl<|aA ?_ ⟩;refine hht (hu.ts z hT (by unfold bT;lia)) lx fun M _ _ hM=>?_;have hM:=hM (hg T j) fun t ht=>((hu.ok t ht).2.2.2 j).2
   refine aF<|aj rfl<|aj rfl<|bM (ws:=rW T) (w:=.int (hg T j:Nat)) rfl ?_<|xu<|hN2 _ _ ⟨rfl,?_⟩
   ·have:j=0\/j=1\/j=2:=by lia
    rcases this with rfl | rfl | rfl <;> rfl
   ·rw [decide_eq_false (by lia),Yt]
  ·rintro acc g2 ⟨rfl,rfl⟩;refine aA<|aaw<|Cr rfl<|rH rfl<|bA ?_
   exact hN _ _ ⟨rfl,_,_,rfl⟩
 ·rintro Z g ⟨rfl,s3,s4,rfl⟩;exact aZ<|bC<|aU<|jK q
theorem Yc:∀ k l:List Int,kJ (k.map .int) (l.map .int)=decide (k=l)
 | [],[]=>rfl
 | [],_::_=>rfl
 | _::_,[]=>rfl
 | a::k,b::l=>by
  rw [Ed,Ed,kJ,Yc k l,Gg];by_cases h1:a=b <;> by_cases h2:k=l <;> simp [h1,h2]
theorem S5:∀ s t:List Tm,kJ (s.map GJ) (t.map GJ)=decide (s=t)
 | [],[]=>rfl
 | [],_::_=>rfl
 | _::_,[]=>rfl
 | (a,x)::s,(b,y)::t=>by
  rw [Ed,Ed,kJ,S5 s t];have:Gg (GJ (a,x)) (GJ (b,y))=(decide (a=b)&&(x==y)):=by
   show (kJ (a.map .int) (b.map .int)&&((x==y)&&true))=_;rw [Yc,Bool.and_true]
  rw [this];by_cases h1:a=b <;> by_cases h2:x=y <;> by_cases h3:s=t <;> simp [h1,h2,h3]
theorem Px {t:List Tm}(k:Q (.bl (decide (s=t))) h):Jg (Du s) (Du t) h Q:=by
 show Jw (HD 30 (Du s)&&HD 30 (Du t)) (Q (.bl (kJ (s.map GJ) (t.map GJ))) h) False;rw [EY 26,EY 26,S5];exact k
theorem eq_nil (k:Q (.bl (decide (s=[]))) h):Jg (Du s) (.tup []) h Q:=Px (t:=[]) k
theorem ne_nil (k:Q (.bl (decide (s≠[]))) h):Lh (Du s) (.tup []) h Q:=by
 show Jw (HD 30 (Du s)&&HD 30 (Du [])) (Q (.bl (!kJ (s.map GJ) (List.map GJ []))) h) False;rw [EY 26,EY 26,S5,<-decide_not];exact k
theorem lE {α : Type}{xs:List α}{j:Nat}{v:α}(h0:0<j)(h:j<=xs.length)(e:xs[xs.length - j]?=FN v):J7 xs (-(j:Int))=FN v:=by
 have e1:NQ xs.length (-(j:Int))=FN (xs.length - j):=by
  unfold NQ;repeat' split
  all_goals first | (exfalso;lia) | (congr 1;lia)
 unfold J7;rw [e1];exact e
theorem Hs.dc {c:Nat}{U:Nat->Nat}(z:Sz L p)(hu:Hs L b T us)(hv:Hs L c U vs)(hp:∀ j,T j<=p)(hq:∀ j,U j<=p)(hr:Hs L (b+c+13) (fun j=>T j+U j) rs):Dc L rs/\rs.length<=1000/\(∀ t∈us,∀ u∈vs,Kb L (bJ t.1 u.1))/\∀ t∈us,Kb L t.1:=by
 have p4:=z.p4;have p2:∀ j,j<L->T j+U j<=p+p:=fun j _=>XM (hp j) (hq j)
 refine ⟨⟨fun j hj=>?_,hr.nd,fun t ht=>(hr.ok t ht).2.1⟩,Eb (Eb (hr.box p2) z.two)<|by decide,fun t ht u hu'=>?_,fun t ht=>⟨(hu.ok t ht).1,fun q hq=>by have:=hu.pw (fun j _=>hp j) ht q hq;lia⟩⟩
 ·obtain ⟨t,ht,rfl⟩:=Gs.mp hj;exact ⟨(hr.ok t ht).1,fun q hq=>by have:=hr.pw p2 ht q hq;lia⟩
 ·have a:=(hu.ok t ht).1;have b:=(hv.ok u hu').1;have lz:(bJ t.1 u.1).length=L:=by simp [bJ,a,b]
  refine ⟨lz,fun q hq'=>?_⟩;obtain ⟨j,hj,e⟩:=RD.mp hq';have x:=vI (k:=t.1) (l:=u.1) (i:=j) (by lia);rw [Hy,GK hj] at x;have x:q=_:=e.symm.trans x;have h1:=(hu.ok t ht).2.2.2 j;have h2:=(hv.ok u hu').2.2.2 j;have h3:=hp j;have h4:=hq j;lia
theorem zby (us vs:List Tm)(r:List Int):getM (gF us vs) r=pr us vs r:=by
 refine Dq (P:=fun us=>getM (gF us vs) r=pr us vs r) rfl (fun us t ih=>?_) us;rw [dH,CN,ih,zM];rfl
section
variable {pl mi ti pa aw ce st su wo fi hgo:Dr}(hpl:SX 1 pl)(hmi:SX (-1) mi)(hti:VG ti)(hpa:aam pa)(hwt:ab3 wt)(haw:AwX aw)(hwo:abU wo)(hfi:aaV fi)
variable {us:List (List Tm)}{T:R4}{u v:List Tm}(l1:1<=L)(l3:L<=3)(hS:RW L Ss Ts)(n3:3<=Ts.length)(n12:Ts.length<=12)(hU:Ve L Ss Ts us)(eu:us[us.length - 2]?=FN u)(ev':us[us.length - 1]?=FN v)(hu:Hs L 840 (hg T) u)(hv:Hs L 840 (hg T) v)(hT:∀ j,hg T j<=pL L)
include hpl hmi hti hpa hwt haw hwo hfi l1 l3 hS n3 n12 hU eu ev' hu hv hT
abbrev DL:bK:={ nx:=fun _ _=>False,rt:=fun w _=>w=.bl true }
omit hpa hwt haw hwo hfi hS n3 n12 hU eu ev' in
theorem Ke {w:List Tm}(ow:iR (jF (-1) u v) w)(hw:Hs L 841 (hg T) w):
  uf pl mi ti pa wt aw ce st su wo fi hgo E DL [s0,s1,s2,s3,s4,FN (Du u),FN (Du v),s7,s8,s9,FN (Du w)] h:=by
 have z:Sz L (pL L):=yd l3 l1;unfold uf;refine bC<|aF<|aL<|ak<|aL<|ak<|aj rfl<|ak<|aj rfl<|aA ?_
 refine Hv (.inl rfl) hpl (fun j _=>hT j) (Eb z.one<|by decide) hu hv (by decide) fun ps op hps _=>ak<|aj rfl<|aA ?_
 refine HB hti z hps hw (by decide) (by decide) (fun j _=>hT j) (fun j _=>hT j) fun rs or hrs _=>?_;refine aL<|ak<|aL<|ak<|aj rfl<|ak<|aj rfl<|aA ?_
 refine HB hti z hu hu (by decide) (by decide) (fun j _=>hT j) (fun j _=>hT j) fun uu ouu huu _=>?_;refine ak<|aL<|ak<|aj rfl<|ak<|aj rfl<|aA ?_
 refine HB hti z hv hv (by decide) (by decide) (fun j _=>hT j) (fun j _=>hT j) fun vv ovv hvv _=>aA ?_;refine Hv (p:=pL L+pL L) (.inr rfl) hmi (fun j _=>XM (hT j)<|hT j) z.two huu hvv (by decide) fun qs oq _ _=>?_;have:=aiz hu.nd op ow ouu ovv or oq
 subst this;exact zbI<|jK rfl
omit hwt haw hwo hfi hS n3 n12 hU eu ev' in
theorem Je {w:List Tm}(ow:iR (jF (-1) u v) w)(hw:Hs L 841 (hg T) w):
  u6 pl mi ti pa wt aw ce st su wo fi hgo E DL [s0,s1,s2,s3,s4,FN (Du u),FN (Du v),s7,s8,s9,FN (Du w)] h:=by
 have z:Sz L (pL L):=yd l3 l1;unfold u6;refine aG<|bL<|Bg<|aW<|aF<|aj rfl<|cI<|aA<|bH rfl<|ne_nil<|jc ?_
 refine pA (fun c=>?_) fun _=>qU<|bA<|aZ<|Ke hpl hmi hti l1 l3 hu hv hT ow hw
 refine aW<|aF<|aL<|ak<|aL<|ak<|aj rfl<|ak<|aj rfl<|aA ?_
 refine HB hti z hu hv (by decide) (by decide) (fun j _=>hT j) (fun j _=>hT j) fun rs or hrs _=>ak<|aj rfl<|aA ?_
 obtain ⟨dc,lr,kz,ku⟩:=Hs.dc z hu hv hT hT hrs;obtain ⟨_,_,_,kv⟩:=Hs.dc (rs:=[]) z hv hv hT hT ⟨.nil,fun t ht=>(nomatch ht)⟩;obtain ⟨vi,ld,rfl⟩:∃ vi ld,v=vi++[ld]:=by
  rcases List.eq_nil_or_concat v with e | ⟨vi,ld,e⟩
  ·exact absurd e c
  ·exact ⟨vi,ld,by rw [e,List.concat_eq_append]⟩
 have lu:=hu.small z hT;have lv:=hv.small z hT;refine aht hpa (q:=u) (fun _=>0) (by lia) ⟨fun t ht=>⟨ku t ht,(hu.ok t ht).2.1,(hu.ok t ht).2.2.1.mono (by decide)⟩,hu.srt,by lia⟩ ⟨⟨vi,rfl⟩,fun t ht=>⟨kv t ht,(hv.ok t ht).2.1,(hv.ok t ht).2.2.1.mono (by decide)⟩,hv.srt,by lia⟩ (Eb (Ww lu lv)<|by decide) ((hv.ok ld<|by simp).2.2.1.mono (by decide)) dc lr kz (fun r=>by rw [or.get<|fU _ _,zby,Nu]) (fun r c=>absurd rfl c) (fun _=>?_) fun ⟨_,c⟩=>absurd rfl c;exact aj rfl<|ajp<|jc<|rH rfl<|bA<|aZ<|Ke hpl hmi hti l1 l3 hu hv hT ow hw
omit hpl hmi hti hpa hwt haw hwo hfi l1 l3 hS hu hv hT in
theorem Hz (hl:Ss.length=Ts.length):J7 ((LR xs Ss).map W.int) (-2)=FN (.int (wl L xs u))/\J7 ((LR xs Ss).map W.int) (-1)=FN (.int (wl L xs v)):=by
 have lU:=hU.len;have lw:(List.map W.int (List.map (wl L xs) us)).length=us.length:=by rw [Ec,Ec]
 rw [<-hU.wo];refine ⟨lE (j:=2) (by decide) (by lia) ?_,lE (j:=1) (by decide) (by lia) ?_⟩
 ·rw [lw,Gy,Gy,eu];rfl
 ·rw [lw,Gy,Gy,ev'];rfl
omit hwt hfi in
theorem zbA {w:List Tm}(ow:iR (jF (-1) u v) w)(hw:Hs L 841 (hg T) w)(ww:∀ xs,wl L xs w=wl L xs u + -1*wl L xs v):
  tW pl mi ti pa wt aw ce st su wo fi hgo E DL [s0,FN (.int L),FN (.lst (Ss.map MN)),s3,s4,FN (Du u),FN (Du v),s7,s8,s9,FN (Du w)] h:=by
 have z:Sz L (pL L):=yd l3 l1;have p4:=z.p4;unfold tW;refine aG<|bL<|aW<|aF<|aj rfl<|cI<|aA<|bH rfl<|ne_nil<|jc ?_
 refine pA (fun c=>?_) fun _=>bA<|aZ<|Je hpl hmi hti hpa l1 l3 hu hv hT ow hw
 refine aG<|aM<|aL<|ak<|aj rfl<|ak<|aL<|ak<|aj rfl<|ak<|aj rfl<|aA ?_
 refine haw (m:=841) ⟨hw.small z hT,hw.srt,fun t ht=>⟨(hw.ok t ht).1,(hw.ok t ht).2.1,(hw.ok t ht).2.2.1,fun q hq=>by have:=hw.pw (fun j _=>hT j) ht q hq;lia⟩⟩ c (by lia) (by lia) fun xs lx bx ne=>aA ?_;refine hwo hS n12 lx (fun x hx=>(jr (n:=34) (by have:=bx x hx;lia) (by have:=bx x hx;lia))) ?_;refine nV<|aZ ?_
 obtain ⟨e2,e1⟩:=Hz n3 n12 hU eu ev' (xs:=xs) hS.len;refine bL<|aW<|aF<|aF<|aj rfl<|lB<|aU<|gU<|bM (ws:=(LR xs Ss).map .int) rfl e2 ?_
 refine aF<|aj rfl<|lB<|aU<|gU<|bM (ws:=(LR xs Ss).map .int) rfl e1<|qP<|jc<|rH (decide_eq_false fun e=>?_)<|bA<|aZ ?_
 ·have:=ww xs
  have ne:wl L xs w≠0:=ne;lia
 ·exact Je hpl hmi hti hpa l1 l3 hu hv hT ow hw
omit hwt hfi in
theorem Ze {b:Bool}(hb:b=true↔∀ xs∈fld (hg T) L,wl L xs u=wl L xs v):
  yS pl mi ti pa wt aw ce st su wo fi hgo E DL [s0,FN (.int L),FN (.lst (Ss.map MN)),s3,s4,FN (Du u),FN (Du v),FN (.bl b),s8,s9,s10] h:=by
 have z:Sz L (pL L):=yd l3 l1;unfold yS;refine aG<|aM<|aL<|ak<|aj rfl<|ak<|aj rfl<|aA ?_
 refine Hv (.inr rfl) hmi (fun j _=>hT j) (Eb z.one<|by decide) hu hv (by decide) fun w ow hw ww=>?_;refine nV<|aZ ?_
 have k1:w=[]->u=v:=fun e=>by
  subst e;refine iR.same (fun r=>?_) hu.self hv.self;have:=ow.get (fP hu.nd) r
  rw [agv,show lin (fun k=>if k=r then 1 else 0) v=getM v r from IK hv.nd] at this;have:(0:Int)=_:=this
  lia
 have k2:b=true->w=[]:=fun e=>MJ fun c=>by
  obtain ⟨xs,lx,bx,ne⟩:=acv (M:=hg T) L 0 w (by lia) c hw.nd (fun t ht=>⟨(hw.ok t ht).1,(hw.ok t ht).2.1,(hw.ok t ht).2.2.2⟩) fun t _ j hj=>by lia
  have:=hb.mp e xs (qy.mpr ⟨lx,bx⟩)
  have w2:=ww xs;have ne:lin (fun k=>mo k xs L) w≠0:=ne;have this:lin (fun k=>mo k xs L) u=lin (fun k=>mo k xs L) v:=this;lia
 have k3:u=v->b=true:=fun e=>hb.mpr fun xs _=>by rw [e]
 refine aG<|bL<|xW<|aW<|aF<|aF<|aj rfl<|aj rfl<|Px<|aj rfl<|Uh<|jc<|rH ?_ ?_
 ·refine decide_eq_false fun c=>c ?_;rw [V3,decide_eq_true_iff];exact ⟨k3,fun e=>k1<|k2 e⟩
 refine aW<|aF<|aF<|aj rfl<|cI<|aA<|bH rfl<|eq_nil<|aj rfl<|Uh<|jc<|rH ?_<|bA<|aZ ?_
 ·refine decide_eq_false fun c=>c ?_;rw [V3,decide_eq_true_iff];exact ⟨fun e=>k3<|k1 e,k2⟩
 exact zbA hpl hmi hti hpa haw hwo l1 l3 hS n3 n12 hU eu ev' hu hv hT ow hw ww
end
section
variable {pl mi ti pa aw ce st su wo fi hgo:Dr}(hpl:SX 1 pl)(hmi:SX (-1) mi)(hti:VG ti)(hpa:aam pa)(hwt:ab3 wt)(haw:AwX aw)(hce:uE ce)(hst:ac2 st)(hsu:acQ su)(hwo:abU wo)(hfi:aaV fi)(hhg:HgX hgo)
include hpl hmi hti hpa hwt haw hwo hfi
theorem ahr {us:List (List Tm)}(l1:1<=L)(l3:L<=3)(hS:RW L Ss Ts)(n3:3<=Ts.length)(n12:Ts.length<=12)(hU:Ve L Ss Ts us){s5:Option W}:
  zZ pl mi ti pa wt aw ce st su wo fi hgo E DL [s0,FN (.int L),FN (.lst (Ss.map MN)),FN (.lst (Ts.map MK)),FN (.lst (us.map Du)),s5,s6,s7,s8,s9,s10] h:=by
 have z:Sz L (pL L):=yd l3 l1;have lU:us.length=Ts.length:=by rw [hU.len,hS.len]
 obtain ⟨u,eu⟩:∃ u,us[us.length - 2]?=FN u:=⟨_,GK (by lia)⟩
 obtain ⟨v,ev'⟩:∃ v,us[us.length - 1]?=FN v:=⟨_,GK (by lia)⟩
 obtain ⟨U,eU'⟩:∃ U,Ts[Ts.length - 2]?=FN U:=⟨_,GK (by lia)⟩
 obtain ⟨V,eV⟩:∃ V,Ts[Ts.length - 1]?=FN V:=⟨_,GK (by lia)⟩
 have rU:=hS.rk eU';have rV:=hS.rk eV;have u2:=rU.2;have v2:=rV.2;have hT:∀ j,hg (zf max U V) j<=pL L:=fun j=>by rw [BJ];exact Nat.max_le.mpr ⟨rU.1 j,rV.1 j⟩
 have hu:Hs L 840 (hg (zf max U V)) u:=(hU.hs _ u U (by rw [<-lU];exact eu) eU').mono (by unfold bT;lia) fun j=>by rw [BJ];exact Nat.le_max_left _ _
 have hv:Hs L 840 (hg (zf max U V)) v:=(hU.hs _ v V (by rw [<-lU];exact ev') eV).mono (by unfold bT;lia) fun j=>by rw [BJ];exact YM _ _
 have a2:J7 (us.map Du) (-2)=FN (Du u):=lE (j:=2) (by decide) (by rw [Ec];lia) (by rw [Ec,Gy,eu];rfl);have a1:J7 (us.map Du) (-1)=FN (Du v):=lE (j:=1) (by decide) (by rw [Ec];lia) (by rw [Ec,Gy,ev'];rfl);have t2:J7 (Ts.map MK) (-2)=FN (MK U):=lE (j:=2) (by decide) (by rw [Ec];lia) (by rw [Ec,Gy,eU'];rfl);have t1:J7 (Ts.map MK) (-1)=FN (MK V):=lE (j:=1) (by decide) (by rw [Ec];lia) (by rw [Ec,Gy,eV];rfl);unfold zZ;refine aG<|aM<|aF<|aj rfl<|lB<|aU<|gU<|bM (ws:=us.map Du) rfl a2 ?_
 refine nV<|aZ ?_
 refine aG<|aM<|aF<|aj rfl<|lB<|aU<|gU<|bM (ws:=us.map Du) rfl a1 ?_
 refine nV<|aZ ?_
 refine aG<|aM<|aU ?_
 refine nV<|aZ ?_
 refine aG<|kh<|jM<|aL<|ak<|aj rfl<|ak<|fZ<|pO<|ak<|aF<|aj rfl<|lB<|aU<|gU<|bM (ws:=Ts.map MK) rfl t2 ?_
 refine ak<|aF<|aj rfl<|lB<|aU<|gU<|bM (ws:=Ts.map MK) rfl t1<|aA ?_
 refine ab1 (f:=max) (fun a b Q q=>cj<|ak<|aj rfl<|ak<|aj rfl<|aA<|Yk q)<|aA ?_
 refine hfi l1 l3 hT<|yq (ws:=(fld (hg<|zf max U V) L).map Te) (o:=FX) rfl<|kW ?_
 refine cV (fun i Z g=>g=h/\∃ b s8 s9,Z = [s0,FN<|.int L,FN<|.lst<|Ss.map MN,FN<|.lst<|Ts.map MK,FN<|.lst<|us.map Du,FN<|Du u,FN<|Du v,FN<|.bl b,s8,s9,s10]/\(b=true↔∀ xs∈(fld (hg<|zf max U V) L).take i,wl L xs u=wl L xs v)) ?_ ?_ ⟨rfl,true,s8,s9,rfl,by simp⟩
 ·rintro i w Z g N hN e ⟨rfl,b,s8,s9,rfl,hb⟩;rw [Gy] at e;cases qe:(fld (hg (zf max U V)) L)[i]? with
  | none=>rw [qe] at e;cases e
  | some xs=>
  rw [qe] at e;cases e;obtain ⟨lx,bx⟩:=qy.mp (Lx qe);have bd:Bd xs:=fun x hx=>by
   obtain ⟨j,hj,e⟩:=RD.mp hx;have h1:=bx j (by lia);rw [jH (GK hj),e] at h1;have h2:hg (zf max U V) j<=pL L:=hT j;have h3:pL L<=4:=z.p4;exact jr (by lia)<|by lia
  obtain ⟨e2,e1⟩:=Hz n3 n12 hU eu ev' (xs:=xs) hS.len;refine nV ?_;refine aG<|aM<|aL<|ak<|aj rfl<|ak<|aj rfl<|aA ?_
  refine hwo hS n12 lx bd ?_;refine nV<|aZ ?_
  refine aG<|bL<|xW<|aW<|aF<|aL<|ak<|aj rfl<|ak<|aj rfl<|aA ?_
  refine hwt (by lia) (hu.ts z hT<|by decide) lx bd ?_;refine aF<|aj rfl<|lB<|aU<|gU<|bM (ws:=(LR xs Ss).map .int) rfl e2<|qR<|jc<|rH (decide_eq_false fun c=>c QG) ?_
  refine aW<|aF<|aL<|ak<|aj rfl<|ak<|aj rfl<|aA ?_
  refine hwt (by lia) (hv.ts z hT<|by decide) lx bd ?_;refine aF<|aj rfl<|lB<|aU<|gU<|bM (ws:=(LR xs Ss).map .int) rfl e1<|qR<|jc<|rH (decide_eq_false fun c=>c QG)<|bA<|aZ ?_
  refine aM<|mH<|aj rfl<|V1 ?_
  cases b with
  | false=>
   refine qU ?_;refine nV ?_;refine hN _ _ ⟨rfl,false,_,_,rfl,?_⟩;constructor
   ·intro c;cases c
   ·intro c;refine hb.mpr fun x hx=>c x ?_;rw [take_snoc qe];exact N7 _ hx
  | true=>
   refine nH<|aF<|aF<|aj rfl<|lB<|aU<|gU<|bM (ws:=(LR xs Ss).map .int) rfl e2 ?_
   refine aF<|aj rfl<|lB<|aU<|gU<|bM (ws:=(LR xs Ss).map .int) rfl e1<|qP ?_
   refine nV ?_;refine hN _ _ ⟨rfl,_,_,_,rfl,?_⟩;rw [decide_eq_true_iff,take_snoc qe];constructor
   ·intro c x hx;rcases Mr.mp hx with m | m
    ·exact hb.mp rfl x m
    ·rw [K5.mp m];exact c
   ·exact fun c=>c xs<|by simp
 ·rintro Z g ⟨rfl,b,s8,s9,rfl,hb⟩;rw [Ec,LK] at hb;exact aZ<|Ze hpl hmi hti hpa haw hwo l1 l3 hS n3 n12 hU eu ev' hu hv hT hb
include hce hst hsu hhg
theorem abo:Q0 pl mi ti pa wt aw ce st su wo fi hgo [.kls (ns.map .int)] h (fun w _=>w=.bl true) EF:=by
 unfold Q0;refine dY rfl (Z:=[FN<|.kls<|ns.map .int,FX,FX,FX,FX,FX,FX,FX,FX,FX,FX]) rfl ?_;refine aG<|aM<|aF<|aU<|aF<|aL<|ak<|aj rfl<|ak<|aU<|aA<|hce (by decide) ?_
 refine aU<|gW (by decide)<|cB ?_
 obtain ⟨m,em,lm⟩:=jJ (ns.getD (0:Int).toNat 0) 3 (by decide);have em:(ns.getD (0:Int).toNat 0).fmod 3=(m:Int):=em;rw [em,show (1:Int)+(m:Int)=((1+m:Nat):Int) by lia];generalize eL:1+m=L;have l1:1<=L:=by lia
 have l3:L<=3:=by lia
 refine nV<|aZ ?_
 refine aG<|aM<|aL<|ak<|aj rfl<|ak<|aj rfl<|aA ?_
 refine hst l1 l3 fun Ss Ts hS n3 n12=>?_;refine d9 (ws:=[.lst<|Ss.map MN,.lst<|Ts.map MK]) rfl rfl<|bW ?_
 refine nV<|bW ?_
 refine nV<|iu<|aZ ?_
 refine aG<|aM<|aL<|ak<|aj rfl<|ak<|aj rfl<|aA ?_
 refine hsu l1 l3 hS n12 fun us hU=>?_;refine nV<|aZ ?_
 refine aG<|bL<|j8<|fu<|aL<|ak<|aj rfl<|ak<|aj rfl<|ak<|aj rfl<|aA ?_
 refine hhg l1 l3 hS n12 hU<|Cr rfl<|rH rfl<|bA<|aZ ?_
 exact ahr (ce:=ce) (st:=st) (su:=su) (hgo:=hgo) hpl hmi hti hpa hwt haw hwo hfi l1 l3 hS n3 n12 hU
end
theorem YB (ns:List Int)(_:ns.length<=63):Sx [.kls (ns.map W.int)] g0 (fun w _=>w=.bl true) EF:=by
 have dr:zJ pJ:=zbN Gk;have so:aau cF:=aiL;have pt:PtX dD:=adT Ov;have wt:WhX fj:=adb so;have pl:SX 1 Bu:=Zh wt;have mi:SX (-1) tU:=zbS wt;have ti:VG vK:=agQ zbs YC pt adC;have ht:Wx j5:=zal;have pu:aag Oc:=abY so Qe ht;exact abo pl mi ti (zaQ Ov YC pt Zk afQ) (aeX Qe ht) (afW pu<|zbR pu) Gk (aiU Gk<|aiZ dr) (ahz adF ado pl mi ti) ajr w_field<|zbT (zbG<|agp Kp<|zbU Kp) ht
end My
namespace PySem.W.Fast
def tw8632880289359128106:=()
def tw8142071649658675046:=()
def tw8752626008493041839:=()
def tw12162428068681554564:=()
def tw10768987384009979062:=()
def tw8632970640762313229:=()
def tw6865228226280859357:=()
def tw7615106321441053008:=()
def tw4294042066563803114:=()
def tw10230556308228354785:=()
def tw1859105571181063007:=()
def tw7511474011546514844:=()
def tw12179738743382196146:=()
def tw14746830915950159280:=()
def tw3111918374230184512:=()
def tw17858637941155781676:=()
def tw17015516894296827028:=()
def tw17832320762412429137:=()
def tw12188750253944425920:=()
def tw2723086347961885044:=()
def tw229215296193285779:=()
def tw7120789006913547828:=()
def tw4115616784509683986:=()
def tw10509863492298463053:=()
def tw10274744011426445341:=()
def tw11558473022793854265:=()
def tw12735934608480402654:=()
def tw6603306678927769543:=()
def tw2506091057911859354:=()
def tw4746333317498244406:=()
def tw10985274187431696819:=()
def tw2528015338022795801:=()
def tw17258278834132400988:=()
def tw13166257647053469791:=()
def tw5658486476717918741:=()
def tw18088706673318978023:=()
def tw6255318563955876646:=()
def tw10905809383731321908:=()
def tw2141624824306720633:=()
def tw3983530915573566868:=()
def tw15255395391750434490:=()
def tw2341578998760623676:=()
def tw17940102811825020605:=()
def tw2037555970607981577:=()
def tw5778095780339881299:=()
def tw10846050866911102148:=()
def tw1638571656561506198:=()
def tw16240188218141396193:=()
def tw4286309531666991230:=()
def tw9506523215597710265:=()
def tw4387135625143951519:=()
def tw14111197536154180205:=()
def tw8655045268838744425:=()
def tw11025516192580562657:=()
def tw18378466541298986889:=()
def tw18181813215841665093:=()
def tw17618760233226246067:=()
def tw14369724830846392148:=()
def tw7437269234501980901:=()
def tw7906566375033376525:=()
def tw10694882836196364025:=()
def tw1486960949581101597:=()
def tw13866323256197982940:=()
def tw15023452658464339561:=()
def tw10380762854846048337:=()
def tw16723553937238728980:=()
def tw8266712175061687697:=()
def tw8638092085274408118:=()
def tw16415944901525015753:=()
def tw1095101362613283925:=()
def tw9409636519922402540:=()
def tw1658123092500092750:=()
def tw17557568757428108707:=()
def tw15969871250419546763:=()
def tw3072304154185630885:=()
def tw1729898978728307811:=()
def tw6856257101546935667:=()
def tw12027753163076370890:=()
def tw1286920331687607419:=()
def tw3215686586602430814:=()
def tw9910202701451154834:=()
def tw1720596101810511525:=()
def tw12827121030074460809:=()
def tw6947592764959005460:=()
def tw18090285474923246889:=()
def tw8859739534654495135:=()
def tw2240639515152835445:=()
end PySem.W.Fast
open PySem PySem.W PyProof.Rows
theorem PySem.Challenge.cw_easelroom_k59_whole_alike_where_worths_a_holds : PySem.Challenge.rw_easelroom_k59_whole_alike_where_worths_a.Holds := by
 w_on;o_law;k_head;(case hw=>w_witness2)
 k_fill
 refine My.walk (l:=PySem.Challenge.rw_easelroom_k59_whole_alike_where_worths_a) rfl rfl (fun w h Y=>PySem.W.kIn_of Y) ?F
 case F=>
  intro w mg fa h KX G hmg;refine' My.all_mk My.YB KX G hmg ?h0 ?h1 ?h2 ?h3 ?h4 ?h5 ?h6 ?h7 ?h8 ?h9 ?h10 ?h11 ?h12 ?h13 ?h14 ?h15 ?h16 ?h17 ?h18 ?h19 ?h20 ?h21 ?h22 ?h23 ?h24 ?h25 ?h26 ?h27 ?h28 ?h29 ?h30 ?h31 ?h32 ?z_all ?z_any ?z_bool ?z_dict ?z_enumerate ?z_int ?z_isinstance ?z_len ?z_max ?z_range ?z_reversed ?z_sorted ?z_tuple ?z_zip ?g_MOST_TERMS ?g_MOST_POWER ?g_MOST_PAIRS ?g_FIELD
  (case h0 | h1 | h2 | h3 | h4 | h5 | h6 | h7 | h8 | h9 | h10 | h11 | h12 | h13 | h14=>(apply My.RL <;> k_is))
  (case h15 | h16 | h17 | h18 | h19 | h20 | h21 | h22 | h23 | h24 | h25 | h26 | h27 | h28 | h29=>(apply My.RL <;> k_is))
  (case h30 | h31 | h32=>(apply My.RL <;> k_is))
  (case z_all | z_any | z_bool | z_dict | z_enumerate | z_int | z_isinstance | z_len | z_max | z_range | z_reversed | z_sorted | z_tuple | z_zip=>k_is)
  (case g_MOST_TERMS | g_MOST_POWER | g_MOST_PAIRS | g_FIELD=>(apply Exists.intro <;> k_is))
