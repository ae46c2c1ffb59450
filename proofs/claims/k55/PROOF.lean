import PyProof.Rows.All
import Wide.All
import OpenK.AllK
import Wide.FinOn
import Lean
import PyProof.EqAt
import PyProof.EqKinds
import PyProof.TupleCall
import PySem.Challenge.RW_easelroom_k55_parted
set_option Elab.async false
set_option linter.all false
set_option maxRecDepth 100000
set_option maxHeartbeats 0
local macro_rules | `(tactic| lia) => `(tactic| first | lia (splits := 9) | omega)
open Option renaming some→Mk,none→YK
open PySem renaming wpAny_bind→Zi,Value→Yk,Shared→ZG,wpAny_pure→BP,Spec→aan,starEach→Bo,mainGlobals→DK,wpAny→Al,model→Am,Program→Bs,sizeLine→CR,Builtin→O6,Around→Bx,NameKind→Ia,wpAny_newObj_type→Js,World→Bh,FuncData→Ei,wpAny_holding→Im,wpAny_field→Ig,cellsFrom→HS,wpAny_mono→Hx,wpAny_callSpecial?_slot→QC,mem_of_lookup→Ot,assignEach→Ik,wpAny_call_entry→Nq,Paired→JB,backTo→En,wpAny_rule→LR,sysModules→LQ,wpAny_typeOf→Mf,codeAny_builtin→Ov,compareOp→Jq,wpAny_seqItems→Od,PassesOwn→Ud,binaryOp→Iu,wpAny_Call_Name_kw→R7,plainId_quiet→Ob,wpAny_truthy_bool→RM,wpAny_pyIter_list→RL,wpAny_typeNameOfWhole_keyiter→Uh,wpAny_setField_rec→Sg,wpAny_passesOwn→RG,bootBuiltins→Pu,boot_len→R8,wpAny_attempt→QG,attributeBase→QF,wpAny_setField→Qm,DictEntry→Nk,SetTable→Tp,Keyword→Jx,wpAny_typeNameOf_keyiter→Ti,wpAny_ite_split→S7,codeAny→Li,cLine→HF,wpAny_Call_method_late→U8,keywordEach→QJ,firstArgMember→Ru,rawInt→JT,builtinLookup_eq_fast→Tz,pyNext→Jo,behindInMarks→Rr,wpAny_execs_nil→Sy,sliceBounds→Qz,codeAny_mono→Ri,IsPair→Lf,typeLookup→Qj,holding→Ni,merged→Lx,Result→TY
open PySem.W renaming Frag→Ar,mg_of→HW,mg_none_of→M5,nsIn→JD,Looks→TX,findIn→Ls,mroIn→Nt,keepIn→QL,excIn→Qc,clsIn→QX,fnOf→Ql
open List renaming replicate→BK,map_cons→Bf,length_map→Cm,getElem?_eq_getElem→Gg,mem_singleton→Fd,mem_map→Cr,map_append→Em,length_append→HB,size_toArray→Gm,mem_cons_of_mem→Hs,mem_cons→El,getElem?_map→Hi,mem_append_left→Jc,getD_eq_getElem?_getD→M9,eq_nil_of_length_eq_zero→N5,mem_cons_self→JK,length_cons→Il,lookup_cons→Ip,take_length→Jb,not_mem_nil→Ja,length_take→JV,getElem?_append_right→Nx,map_nil→Hq,map_map→Ho,getElem?_append_left→Nv,cons_lt_cons_iff→Mg,take_succ→JC,mem_append→Jr,mem_append_right→Mv,getElem?_eq_some_iff→PJ,pairwise_append→Mz,exists_cons_of_ne_nil→QD,length_singleton→O4,mem_of_getElem?→O2,append_assoc→Mh,range→Hz,find?_cons→M7,replicate_succ→Oj,map_congr_left→Oi,drop_eq_getElem_cons→RQ,append_nil→Np,getElem_mem→PB,any_eq_true→P0,pairwise_map→Q8,mem_range→Nu,nodup_cons→Ox,getElem?_eq_none→Ra,mem_iff_getElem→RX,sum_cons→Nr,foldl_append→Qg,flatten_cons→Qf,zipWith_cons_cons→SM,take_of_length_le→SJ,filter_cons→QV,cons_append→QT,all_eq_true→QS,Pairwise→adp,nodup_nil→Pr,forIn_cons→RJ,nodup_append→SX,length_range→SN,mem_of_mem_take→T7,pairwise_iff_getElem→Tt,forIn_nil→Qp,extract_eq_drop_take→Tq,nil_append→Rn,mem_filter→Rm,getElem?_replicate→Tj,reverse_cons→Sv,take_append_drop→UL,length_zipWith→Tv,length_nil→T3,length→Rg
open PySem.Heap renaming get?_push_of_some→CT,lt_size→CK,get?_push_size→Ej,get?_update_other→Ln,get?_update_self→PN,size_push→Mr,SameBut→QB,get?_none_of_le→RW,DictOfH→R0,ExtBut→Rf
open Nat renaming le_refl→Bp,le_trans→Cg,lt_of_lt_of_le→Ep,ne_of_lt→Fw,ne_of_gt→IW,zero_le→IK,lt_of_le_of_ne→Mi,lt_of_le_of_lt→Mw,le_of_lt→Lk,lt_irrefl→M4,eq_zero_of_not_pos→S9,beq→Iw,eq_of_beq_eq_true→T9,le_add_right→Ro,sub_le→Pq,le_succ→QK,pow_le_pow_right→U3
open Option.some renaming inj→Eb
open PyProof.Rows renaming wpS_pure→Bj,wpS_bind→Bm,SortSt→Bw,Keyed→BW,arrOf→BR,pendingOf→Gf,slot_tuple_getitem→Sq,wpS_forRange→Lj,callWith_type1→TK,boot_tuple→Ma,kindOf→HY,wpS_mono→LC,SortKind→QW,setArr→Ht,boot_isinstance→R9,wpS_modify→OJ,pairsOf→Ly,wpS_get→Nj,AllBare→Nh,seqObj→MP
open Bool renaming false_ne_true→Hu,and_eq_true→Lw,false_eq_true→Ny,eq_iff_iff→QM,not_eq_true→Rp
open Decidable renaming byContradiction→Ld
open PySem.Builtin.SmallTypes renaming nextOf→PL,ownedTupleIsFree→Um
open PySem.SeqAt renaming EqAt→Rb,ne_of_list_tuple→Tg
open List.cons renaming inj→Lb
open PySem.Builtin.Tuple renaming tupleExact→Qi
open Array renaming getElem?_eq_getElem→Qh,toList_append→Oq,getElem?_toList→Qe,length_toList→RT,toList_extract→U4
open PySem.Around renaming under_plainId→Q7
open PySem.PassesOwn renaming never→Ms
open PySem.Obj renaming data_mapFields→Og,isFreed_of_fields→Qd
open Lean renaming maxHeartbeats→acv,maxRecDepth→afh
open Ne renaming symm→Hf
open PySem.Builtin.Int renaming intBits→RZ
open PySem.F renaming slot_dict_keyiterator_next→TJ,slot_tuple_iterator_next→UW,slot_zip_next→Tf,slot_dict_get→Te
open False renaming elim→Lz
open Int renaming add_zero→Nm,one_ne_zero→Rj,toNat_natCast→T6,mul_fdiv_add_fmod→UJ
open PySem.Str renaming ofString→Oa
open Option renaming bind_some→R6,getD_some→T4
open PySem.Builtin.List renaming listExtendWith→Uk
open PySem.Calls renaming callWith_builtin→TF,evalArgs_plain→T8
open PySem.Builtin.Slice renaming slicePlaces→Uj
open PySem.Builtin.Dict renaming updateFrom→Ug
open PySem.SetTable renaming bits→Qo
open PySem.Heap.SameBut renaming update→Td
open Function renaming comp→Rx
open PySem.Paired renaming length→Rv
namespace L2
open PySem PySem.Spec PyProof.Rows
abbrev Key:=Sum Int Str
def Ce:Key->Yk->Bool
 | .inl k,v=>Value.isInt k v
 | .inr x,v=>Value.isStrOf x v
def Zy (w:Bh):Key->Int
 | .inl k=>hashInt k
 | .inr x=>hashStr w x
theorem bQ:∀ {k:Key} {v:Yk},Ce k v=true->(∃ i t,k=Sum.inl i/\v=Value.int i t)\/(∃ x t,k=Sum.inr x/\v=Value.str x t)
 | .inl i,v,h=>by
  obtain ⟨t,e⟩:=Value.isInt_shape (k:=i) (v:=v) h;exact .inl ⟨i,t,rfl,e⟩
 | .inr x,v,h=>by
  obtain ⟨t,e⟩:=Value.isStrOf_shape (x:=x) (v:=v) h;exact .inr ⟨x,t,rfl,e⟩
theorem aar (i:Int)(t:Tok):Ce (.inl i) (.int i t)=true:=by simp [Ce,Value.isInt]
theorem aav (x:Str)(t:Tok):Ce (.inr x) (.str x t)=true:=by simp [Ce,Value.isStrOf]
theorem adz (a b:Int):decide ((Sum.inl a:Key)=Sum.inl b)=(a==b):=by
 by_cases e:a=b
 ·subst e;simp
 ·have h:¬ (Sum.inl a:Key)=Sum.inl b:=fun q=>e (Sum.inl.inj q)
  rw [decide_eq_false h];exact (beq_eq_false_iff_ne.mpr e).symm
theorem adB (a b:Str):decide ((Sum.inr a:Key)=Sum.inr b)=decide (a=b):=by
 by_cases e:a=b
 ·subst e;simp
 ·have h:¬ (Sum.inr a:Key)=Sum.inr b:=fun q=>e (Sum.inr.inj q)
  rw [decide_eq_false h,decide_eq_false e]
theorem Uw (a:Int)(b:Str):decide ((Sum.inl a:Key)=Sum.inr b)=false:=decide_eq_false (fun q=>nomatch q)
theorem ada (a:Str)(b:Int):decide ((Sum.inr a:Key)=Sum.inl b)=false:=decide_eq_false (fun q=>nomatch q)
def bM (prog:Bs)(w:Bh):PySem.KeyKind prog w Key where
 is:=Ce
 hash:=Zy w
 inj:=fun v a b ha hb=>by
  rcases bQ ha with ⟨i,t,rfl,rfl⟩ | ⟨x,t,rfl,rfl⟩
  ·rcases bQ hb with ⟨j,u,rfl,e⟩ | ⟨y,u,rfl,e⟩
   ·injection e with e1 _;rw [e1]
   ·exact nomatch e
  ·rcases bQ hb with ⟨j,u,rfl,e⟩ | ⟨y,u,rfl,e⟩
   ·exact nomatch e
   ·injection e with e1 _;rw [e1]
 byValue:=fun k v h=>by
  rcases bQ h with ⟨i,t,rfl,rfl⟩ | ⟨x,t,rfl,rfl⟩ <;> rfl
 pyHash:=fun hv h=>by
  rcases bQ hv with ⟨i,t,rfl,rfl⟩ | ⟨x,t,rfl,rfl⟩
  ·exact wpAny_pyHash_int h
  ·exact wpAny_pyHash_str h
 eqBool:=fun hu hv h=>by
  rcases bQ hu with ⟨i,t,rfl,rfl⟩ | ⟨x,t,rfl,rfl⟩
  ·rcases bQ hv with ⟨j,u,rfl,rfl⟩ | ⟨y,u,rfl,rfl⟩
   ·rw [adz] at h;exact wpAny_eqBool_int h
   ·rw [Uw] at h;exact SeqAt.EqAt.int_str i t y u _ _ _ _ h
  ·rcases bQ hv with ⟨j,u,rfl,rfl⟩ | ⟨y,u,rfl,rfl⟩
   ·rw [ada] at h;exact SeqAt.EqAt.str_int x t j u _ _ _ _ h
   ·rw [adB] at h;exact wpAny_eqBool_str h
 «strs»:=fun k x t v h=>by
  rcases bQ h with ⟨i,u,rfl,e⟩ | ⟨y,u,rfl,e⟩
  ·exact nomatch e
  ·injection e with e1 _
   subst e1;cases v <;> rfl
theorem wW (prog:Bs)(w:Bh)(i:Int)(t:Tok):(bM prog w).is (.inl i) (.int i t)=true:=aar i t
theorem wL (prog:Bs)(w:Bh)(x:Str)(t:Tok):(bM prog w).is (.inr x) (.str x t)=true:=aav x t
inductive V where
 | non | bl (b:Bool) | int (i:Int) | str (x:Str) | byt (b:Array UInt8) | flt (b:UInt64) | ref (a:Addr) | ty (n:String)
 deriving DecidableEq
def RelV:V->Yk->Prop
 | .non,u=>u=Value.none
 | .bl b,u=>u=Value.bool b
 | .int i,u=>∃ t,u=Value.int i t
 | .str x,u=>∃ t,u=Value.str x t
 | .byt b,u=>∃ t,u=Value.bytes b t
 | .flt b,u=>∃ t,u=Value.float b t
 | .ref a,u=>u=Value.ref a
 | .ty n,u=>u=Value.type n
abbrev Az:List V->List Yk->Prop:=JB RelV
variable {xs : List V}{us : List Yk}
theorem Az.length {xs:List V}{us:List Yk}(r:Az xs us):xs.length=us.length:=Rv r
theorem Az.get:∀ {xs:List V} {us:List Yk} {i:Nat} {x:V},Az xs us->xs[i]?=Mk x->∃ u,us[i]?=Mk u/\RelV x u
 | _,_,_,_,.nil,e=>by simp at e
 | _,_,0,_,.cons r _,e=>by simp at e;subst e;exact ⟨_,rfl,r⟩
 | _,_,i+1,x,.cons _ t,e=>by
  obtain ⟨u,h1,h2⟩:=Az.get (i:=i) (x:=x) t (by simpa using e);exact ⟨u,by simpa using h1,h2⟩
theorem Az.append:∀ {xs ys:List V} {us ws:List Yk},Az xs us->Az ys ws->Az (xs++ys) (us++ws)
 | _,_,_,_,.nil,s=>s
 | _,_,_,_,.cons r t,s=>.cons r (Az.append t s)
theorem Az.take:∀ {xs:List V} {us:List Yk} (n:Nat),Az xs us->Az (xs.take n) (us.take n)
 | _,_,0,_=>.nil
 | _,_,_+1,.nil=>.nil
 | _,_,n+1,.cons r t=>.cons r (Az.take n t)
theorem Az.drop:∀ {xs:List V} {us:List Yk} (n:Nat),Az xs us->Az (xs.drop n) (us.drop n)
 | _,_,0,r=>r
 | _,_,_+1,.nil=>.nil
 | _,_,n+1,.cons _ t=>Az.drop n t
def Hy:Option V->Option Yk->Prop
 | some v,Mk u=>RelV v u
 | none,YK=>True
 | _,_=>False
variable {κ : Type}
def KV:List (κ×V)->List (κ×Yk)->Prop:=JB fun (p:κ×V) (q:κ×Yk)=>p.1=q.1/\RelV p.2 q.2
def kV:Key->V
 | .inl i=>.int i
 | .inr x=>.str x
inductive HO where
 | lst (xs:List V)
 | tup (xs:List V)
 | dK (kvs:List (Key×V)) | dT (kvs:List (List Key×V))
 | set (S:Int->Bool) (n:Nat)
 | ins (C dx:Addr) (fs:List (Str×V))
 | own (x:Addr)
 | xd (fs:List (Str×V))
 | met (f x:Addr)
 | rng (lo hi:Int)
 | frz (o:Obj) (u:HO)
 | tbl (ps:Array Yk)
 | ext (φ : Heap->Prop)
abbrev Hp:=Addr->Option HO
def CJ (H:Hp)(a:Addr)(o:HO):Hp:=fun b=>if b=a then Mk o else H b
variable {H : Hp}
theorem bf {a:Addr}{o:HO}:CJ H a o a=Mk o:=by unfold CJ;rw [if_pos rfl]
theorem aJ {a b:Addr}{o:HO}(h:b≠a):CJ H a o b=H b:=by unfold CJ;rw [if_neg h]
theorem aP {a b:Addr}{o:HO}(h:H a=Mk o)(h':H b=YK):a≠b:=by
 intro e;subst e;rw [h] at h';cases h'
section
variable (P:Bs)(w:Bh)
def GD (h:Heap)(a:Addr)(afH:Array Yk):Prop:=∃ o,h.get? a=Mk o/\o.cls=.type "tuple"/\(∃ n,o.data=.seq afH n)/\o.dict=YK
theorem GD.tup {h:Heap}{a:Addr}{afH:Array Yk}(x:GD h a afH):IsTup h a afH:=let ⟨o,ho,hc,hd,_⟩:=x;⟨o,ho,hc,hd⟩
theorem GD.new (h:Heap)(afH:Array Yk):GD (h.push { cls:=.type "tuple",data:=.seq afH }) h.objs.size afH:=⟨_,Ej _ rfl,rfl,⟨_,rfl⟩,rfl⟩
def dX (H:Hp)(h:Heap)(a:Addr):HO->Prop
 | .lst xs=>xs.length<=CR/\∃ (its:List Yk) (n:Nat),Az xs its/\h.get? a=Mk { cls:=.type "list",data:=.seq its.toArray n }
 | .tup xs=>xs.length<=CR/\∃ its:List Yk,Az xs its/\GD h a its.toArray
 | .dK kvs=>kvs.length<=CR/\(a==LQ)=false/\∃ vs,KV kvs vs/\h.DictOf (bM P w) a vs
 | .dT kvs=>kvs.length<=CR/\(a==LQ)=false/\∃ xs:List (List Key×Addr×Yk),
   JB (fun (p:List Key×V) (q:List Key×Addr×Yk)=>p.1=q.1/\H q.2.1=Mk (.tup (p.1.map kV))/\RelV p.2 q.2.2) kvs xs /\
   ∃ o es ep,h.get? a=Mk o/\o.ExactDict/\o.data=.dict es ep/\es.toList=xs.map (entryOfKey (tupleKind (bM P w)))/\(xs.map (·.1)).Nodup
 | .set S n=>h.SetOf (intKind P w) a S n
 | .ins C dx fs=>H dx=Mk (.own a)/\fs.length<=1000/\dx≠a/\h.get? a=Mk (PySem.W.instObj C dx) /\
   ∃ mA,h.Ns1 dx mA/\(∀ f,Hy (fs.lookup f) (mA f))/\PySem.Within mA (fs.map (·.1))
 | .own _=>∃ o,h.get? a=Mk o
 | .xd fs=>∃ mA,h.Ns1 a mA/\∀ f,Hy (fs.lookup f) (mA f)
 | .rng lo hi=>∃ t u v,h.get? a=Mk { cls:=.type "range",data:=.fields #[.int lo t,.int hi u,.int 1 v] }
 | .frz o u=>h.get? a=Mk o/\dX H h a u
 | .tbl ps=>h.get? a=Mk { cls:=.none,data:=.fields ps }
 | .met f x=>h.get? a=Mk (PySem.W.methodObj (.ref f) (.ref x))
 | .ext φ=>φ h/\(∃ o,h.get? a=Mk o)/\∀ h1 h2:Heap,φ h1->(∀ o,h1.get? a=Mk o->h2.get? a=Mk o)->φ h2
def HN (H:Hp)(h:Heap):Prop:=∀ a o,H a=Mk o->dX P w H h a o
end
variable {h : Heap}
section
variable {P:Bs}{w:Bh}{H':Hp}{h':Heap}{a:Addr}{o:HO}
theorem dX.lt (x:dX P w H h a o):a<h.objs.size:=by
 cases o with
 | lst xs=>obtain ⟨_,_,_,_,e⟩:=x;exact CK e
 | tup xs=>obtain ⟨_,_,_,p⟩:=x;exact p.tup.lt
 | dK kvs=>obtain ⟨_,_,_,_,o,_,_,e,_⟩:=x;exact CK e
 | dT kvs=>obtain ⟨_,_,_,_,o,_,_,e,_⟩:=x;exact CK e
 | set S n=>obtain ⟨o,_,_,_,e,_⟩:=x;exact CK e
 | ins C dx fs=>obtain ⟨_,_,_,e,_⟩:=x;exact CK e
 | own y=>obtain ⟨_,e⟩:=x;exact CK e
 | xd fs=>obtain ⟨_,⟨_,_,_,e,_⟩,_⟩:=x;exact CK e
 | rng lo hi=>obtain ⟨_,_,_,e⟩:=x;exact CK e
 | frz ob u=>obtain ⟨e,_⟩:=x;exact CK e
 | tbl ps=>exact CK (show h.get? a=Mk _ from x)
 | met f y=>exact CK (show h.get? a=Mk _ from x)
 | ext φ=>obtain ⟨_,⟨_,e⟩,_⟩:=x;exact CK e
theorem Paired.mapP {α β : Type}{F G:α->β->Prop}:∀ {l₁ : List α} {l₂ : List β},JB F l₁ l₂->(∀ a b,F a b->G a b)->JB G l₁ l₂
 | _,_,.nil,_=>.nil
 | _,_,.cons r t,f=>.cons (f _ _ r) (Paired.mapP t f)
theorem dX.stay (x:dX P w H h a o)(k:∀ b u,(b=a\/H b=Mk (.own a))->h.get? b=Mk u->h'.get? b=Mk u)
  (ho:∀ b,H b=Mk (.own a)->H' b=Mk (.own a)) (ht:∀ b xs,H b=Mk (.tup xs)->H' b=Mk (.tup xs)):dX P w H' h' a o:=by
 induction o with
 | lst xs=>obtain ⟨z,its,n,r,e⟩:=x;exact ⟨z,its,n,r,k _ _ (.inl rfl) e⟩
 | tup xs=>obtain ⟨z,its,r,ob,e,c⟩:=x;exact ⟨z,its,r,ob,k _ _ (.inl rfl) e,c⟩
 | dK kvs=>obtain ⟨z,y,vs,r,ob,es,ep,e,c⟩:=x;exact ⟨z,y,vs,r,ob,es,ep,k _ _ (.inl rfl) e,c⟩
 | dT kvs=>
  obtain ⟨z,y,xs,r,ob,es,ep,e,c⟩:=x;exact ⟨z,y,xs,Paired.mapP r fun p q z=>⟨z.1,ht _ _ z.2.1,z.2.2⟩,ob,es,ep,k _ _ (.inl rfl) e,c⟩
 | set S n=>obtain ⟨ob,es,ep,t,e,c⟩:=x;exact ⟨ob,es,ep,t,k _ _ (.inl rfl) e,c⟩
 | ins C dx fs=>
  obtain ⟨d,z,ne,e,mA,⟨od,es,ep,e2,c⟩,r⟩:=x;exact ⟨ho _ d,z,ne,k _ _ (.inl rfl) e,mA,⟨od,es,ep,k _ _ (.inr d) e2,c⟩,r⟩
 | own y=>obtain ⟨ob,e⟩:=x;exact ⟨ob,k _ _ (.inl rfl) e⟩
 | xd fs=>obtain ⟨mA,⟨od,es,ep,e,c⟩,r⟩:=x;exact ⟨mA,⟨od,es,ep,k _ _ (.inl rfl) e,c⟩,r⟩
 | rng lo hi=>obtain ⟨t,u,v,e⟩:=x;exact ⟨t,u,v,k _ _ (.inl rfl) e⟩
 | frz ob u ih=>obtain ⟨e,q⟩:=x;exact ⟨k _ _ (.inl rfl) e,ih q⟩
 | tbl ps=>
  have e:h.get? a=Mk { cls:=.none,data:=.fields ps }:=x;show h'.get? a=Mk { cls:=.none,data:=.fields ps };exact k a _ (.inl rfl) e
 | met f y=>
  have e:h.get? a=Mk (PySem.W.methodObj (.ref f) (.ref y)):=x;show h'.get? a=Mk (PySem.W.methodObj (.ref f) (.ref y));exact k a _ (.inl rfl) e
 | ext φ=>obtain ⟨p,⟨o,e⟩,st⟩:=x;exact ⟨st _ _ p fun o q=>k _ _ (.inl rfl) q,⟨o,k _ _ (.inl rfl) e⟩,st⟩
theorem HN.lt (x:HN P w H h)(e:H a=Mk o):a<h.objs.size:=(x a o e).lt
theorem HN.fresh (x:HN P w H h)(e:h.objs.size<=a):H a=YK:=by
 cases q:H a with
 | none=>rfl
 | some u=>exact absurd (Ep (x.lt q) e) (M4 _)
theorem HN.kept (x:HN P w H h)(k:∀ b u,h.get? b=Mk u->h'.get? b=Mk u):HN P w H h':=fun a o e=>
 (x a o e).stay (fun b u _ q=>k b u q) (fun _ q=>q) fun _ _ q=>q
theorem HN.laid (x:HN P w H h)(k:∀ b u,h.get? b=Mk u->h'.get? b=Mk u)(hp:h.objs.size<=a)(new:dX P w (CJ H a o) h' a o):HN P w (CJ H a o) h':=fun b u e=>by
 have hn:=x.fresh hp;by_cases hb:b=a
 ·subst hb;rw [bf] at e;cases e;exact new
 ·rw [aJ hb] at e;exact (x b u e).stay (fun c v _ q=>k c v q) (fun c q=>by rw [aJ (aP q hn)];exact q) fun c xs q=>by rw [aJ (aP q hn)];exact q
end
variable {h' : Heap}{H' : Hp}{P : Bs}{w : Bh}
def Rd (H:Hp)(a:Addr)(u:HO):Prop:=H a=Mk u\/∃ o,H a=Mk (.frz o u)
theorem Rd.ok {a:Addr}{u:HO}(r:Rd H a u)(x:HN P w H h):dX P w H h a u:=by
 rcases r with r | ⟨o,r⟩
 ·exact x a u r
 ·obtain ⟨_,q⟩:=x a _ r;exact q
def Mut:Option HO->Prop
 | some (.lst _)=>True
 | some (.dK _)=>True
 | some (.dT _)=>True
 | some (.set _ _)=>True
 | some (.ins _ _ _)=>True
 | some (.ext _)=>True
 | _=>False
section
variable {x e:Addr}{o':HO}
theorem HN.write (ok:HN P w H h)(mu:Mut (H x))(he:e=x\/H e=Mk (.own x))(k:∀ b u,b≠e->h.get? b=Mk u->h'.get? b=Mk u)(heo:∃ u,h'.get? e=Mk u)
  (new:dX P w (CJ H x o') h' x o'):HN P w (CJ H x o') h':=fun b u q=>by
 have nown:∀ c y,H c=Mk (.own y)->c≠x:=fun c y r z=>by subst z;rw [r] at mu;exact mu
 have ntup:∀ c xs,H c=Mk (.tup xs)->c≠x:=fun c xs r z=>by subst z;rw [r] at mu;exact mu
 by_cases hb:b=x
 ·subst hb;rw [bf] at q;cases q;exact new
 ·rw [aJ hb] at q;by_cases hbe:b=e
  ·have q':H b=Mk (.own x):=by
    rcases he with z | z
    ·exact absurd (hbe.trans z) hb
    ·rw [hbe];exact z
   rw [q] at q';cases q';obtain ⟨v,hv⟩:=heo;exact ⟨v,by rw [hbe];exact hv⟩
  ·refine (ok b u q).stay (fun c v hc r=>k c v ?_ r) (fun c r=>by rw [aJ (nown c b r)];exact r) fun c xs r=>by rw [aJ (ntup c xs r)];exact r
   rcases hc with rfl | hc
   ·exact hbe
   ·rintro rfl;rcases he with z | z
    ·exact nown c b hc z
    ·rw [hc] at z;cases z;exact hb rfl
end
structure Un (fs ex:List Addr) (H H':Hp) (h h':Heap):Prop where
 keep:∀ b o,h.get? b=Mk o->H b=YK->b∉fs->b∉ex->h'.get? b=Mk o
 slot:∀ b o,h.get? b=Mk o->H b=YK->b∈fs->b∉ex->∃ sl,h'.get? b=Mk { o with slots:=sl }
 free:∀ b o,h.get? b=Mk o->H b=YK->b∉ex->H' b=YK
 there:∀ b o,h.get? b=Mk o->b∉ex->∃ o',h'.get? b=Mk o'
 tups:∀ b xs,H b=Mk (.tup xs)->H' b=Mk (.tup xs)
 frzs:∀ b o u,H b=Mk (.frz o u)->H' b=Mk (.frz o u)
 tbls:∀ b ps,H b=Mk (.tbl ps)->∃ more,H' b=Mk (.tbl (ps++more))
section
variable {fs fs' ex ex':List Addr}{H1 H2:Hp}{h1 h2:Heap}{a x e:Addr}{o:HO}
theorem Un.any (u:Un fs ex H H1 h h1){b:Addr}{ob:Obj}(q:h.get? b=Mk ob)(n:H b=YK)(hx:b∉ex):∃ sl,h1.get? b=Mk { ob with slots:=sl }:=by
 by_cases hb:b∈fs
 ·exact u.slot b ob q n hb hx
 ·exact ⟨ob.slots,u.keep b ob q n hb hx⟩
theorem Un.kept (k:∀ b u,h.get? b=Mk u->h'.get? b=Mk u):Un fs ex H H h h':=
 ⟨fun b ob q _ _ _=>k b ob q,fun b ob q _ _ _=>⟨ob.slots,k b ob q⟩,fun _ _ _ n _=>n,fun b ob q _=>⟨ob,k b ob q⟩,fun _ _ q=>q,fun _ _ _ q=>q,fun _ ps q=>⟨#[],by rw [q];simp⟩⟩
theorem Un.refl:Un fs ex H H h h:=Un.kept fun _ _ q=>q
theorem Un.laid (k:∀ b u,h.get? b=Mk u->h'.get? b=Mk u)(hp:h.objs.size<=a)(hn:H a=YK):Un fs ex H (CJ H a o) h h' where
 keep:=fun b u q _ _ _=>k b u q
 slot:=fun b u q _ _ _=>⟨u.slots,k b u q⟩
 free:=fun b u q n _=>by rw [aJ (Fw (Ep (CK q) hp))];exact n
 there:=fun b u q _=>⟨u,k b u q⟩
 tups:=fun b xs q=>by rw [aJ (aP q hn)];exact q
 frzs:=fun b u xs q=>by rw [aJ (aP q hn)];exact q
 tbls:=fun b ps q=>⟨#[],by rw [aJ (aP q hn),q];simp⟩
theorem Un.write (mu:Mut (H x))(he:e=x\/H e=Mk (.own x))(k:∀ b u,b≠e->h.get? b=Mk u->h'.get? b=Mk u)(heo:∃ u,h'.get? e=Mk u):Un fs ex H (CJ H x o) h h':=by
 have hx:∀ b,H b=YK->b≠x:=fun b n z=>by subst z;rw [n] at mu;exact mu
 have hb:∀ b,H b=YK->b≠e:=fun b n z=>by
  subst z;rcases he with r | r
  ·exact hx b n r
  ·rw [n] at r;cases r
 have hm:∀ b u,H b=Mk u->¬ Mut (Mk u)->b≠x:=fun b u q nm z=>by subst z;rw [q] at mu;exact nm mu
 refine ⟨fun b u q n _ _=>k b u (hb b n) q,fun b u q n _ _=>⟨u.slots,k b u (hb b n) q⟩,fun b u q n _=>by rw [aJ (hx b n)];exact n,fun b u q _=>?_,
  fun b xs q=>by rw [aJ (hm b _ q fun z=>z)];exact q,fun b u xs q=>by rw [aJ (hm b _ q fun z=>z)];exact q,fun b ps q=>⟨#[],by rw [aJ (hm b _ q fun z=>z),q];simp⟩⟩
 by_cases hbe:b=e
 ·subst hbe;exact heo
 ·exact ⟨u,k b u hbe q⟩
end
def trk (h:Heap)(H:Hp):List Addr:=(Hz h.objs.size).filter fun a=>(H a).isSome
def JH (h:Heap)(H:Hp):Heap:=PySem.W.hideAll h (trk h H)
theorem abt (h:Heap)(H:Hp):(JH h H).objs.size=h.objs.size:=PySem.W.hideAll_size _ _
theorem zaH {b:Addr}{o:Obj}(e:h.get? b=Mk o)(n:H b=YK):(JH h H).get? b=Mk o:=
 PySem.W.hideAll_get _ e fun hm=>by
  have q:(H b).isSome=true:=(Rm.mp hm).2;rw [n] at q;simp at q
theorem zbj {b:Addr}{o:Obj}(e:(JH h H).get? b=Mk o):h.get? b=Mk o/\H b=YK:=by
 have e':h.get? b=Mk o:=PySem.W.of_hideAll (trk h H) e;refine ⟨e',?_⟩;cases q:H b with
 | none=>rfl
 | some x=>
  have hm:b∈trk h H:=Rm.mpr ⟨Nu.mpr (CK e'),by simp [q]⟩;have z:(JH h H).get? b=YK:=PySem.W.hideAll_none (trk h H) hm;rw [z] at e;cases e
def afl (g h:Heap)(L:Addr):List (Addr×Obj):=(Hz h.objs.size).filterMap fun a=>if a=L\/(g.get? a).isSome=true then YK else (h.get? a).map fun o=>(a,o)
def rest (g h:Heap)(L d:Addr):List (Addr×Obj):=(afl g h L).filter fun p=>decide (p.1≠d)
structure Mod (K:Ar) (mg:Str->Option Yk) (base:Heap):Prop where
 kin:K.In base
 glob:base.Ns DK mg
 blt:∃ mb,base.Ns builtinsNs mb/\∀ x:Str,x ≠ "__name__"->mb x=Pu x
 nolimit:base.NoLimit
structure Cx where
 prog:Bs
 w:Bh
 K:Ar
 mg:Str->Option Yk
 base:Heap
 A:Bx
 N:List Str
 s₀ : ZG
 H₀ : Hp
 env:Env
 outer:List Env
 stack:List Env
 ex:List Addr
 fn:Str->Bool
 calm:Bool
 pn:List (Addr×Obj)
 xe:Yk->ZG->Prop
def frs (l:List Env):List Addr:=l.filterMap (·.frame)
abbrev Cx.fs (X:Cx):List Addr:=frs X.outer
def Vis (sc:Scope)(x:Str):Prop:=sc.names.lookup x=Mk .local\/sc.names.lookup x=Mk .cell\/sc.names.lookup x=Mk .free
def Loc (sc:Scope)(x:Str):Prop:=sc.names.lookup x=Mk .local\/sc.names.lookup x=Mk .cell
def Look (env:Env)(h:Heap)(m:Str->Option Yk)(x:Str)(u:Yk):Prop:=
 (env.kindOf x=Mk .local/\m x=Mk u)\/((env.kindOf x=Mk .cell\/env.kindOf x=Mk .free)/\∃ c,env.cells.lookup x=Mk c/\h.IsCell c (Mk u))
def Still (H:Hp)(v:Yk):Prop:=∃ (a:Addr) (o:Obj) (u:HO) (vs:Array Yk),v=.ref a/\H a=Mk (.frz o u)/\o.data=.fields vs/\vs[2]?=Mk .none
def Quiet (A:Bx)(H:Hp):Prop:=∀ v,A.handled=Mk v->Still H v
structure Cx.Ok (X:Cx):Prop where
 mod:Mod X.K X.mg X.base
 kind:X.env.scope.kind=.function
 glob:X.env.globals=DK
 blt:X.env.builtins=builtinsNs
 above:X.s₀.heap.objs.size<=X.env.locals
 inj:∀ x y c,X.env.cells.lookup x=Mk c->X.env.cells.lookup y=Mk c->x=y
 has:∀ x,(X.env.kindOf x=Mk .cell\/X.env.kindOf x=Mk .free)->∃ c,X.env.cells.lookup x=Mk c
 cab:∀ x c,X.fn x=true->X.env.cells.lookup x=Mk c->X.s₀.heap.objs.size<=c
 hd:X.calm=true->X.A.handled=YK
 qt:Quiet X.A X.H₀
 frames:X.A.frames=Mk X.stack
 stk:X.stack=X.outer\/(X.stack=X.env::X.outer/\X.env.frame=Mk X.env.locals)
 exf:∀ b∈X.ex,b≠X.env.locals/\∀ x c,X.env.cells.lookup x=Mk c->c≠b
 bs:∀ b o,X.base.get? b=Mk o->X.s₀.heap.get? b=Mk o/\X.H₀ b=YK
 bsz:X.base.objs.size<=X.s₀.heap.objs.size
 noex:∀ b o,X.base.get? b=Mk o->b∉X.ex
 exfs:∀ b∈X.ex,b∉X.fs
 funs:X.s₀.heap.FunFrames X.base X.outer
 frf:∀ b∈X.fs,X.H₀ b=YK
structure AP (X:Cx) (afG:List (Addr×Obj)) (Z : List (Option V)) (H:Hp) (s:ZG):Prop where
 ok:X.Ok
 os:s.os=X.s₀.os
 bare:Nh s.gens
 base:Un X.fs X.ex X.H₀ H X.s₀.heap s.heap
 loc:∃ m,s.heap.Ns X.env.locals m/\∀ (i:Nat) (x:Str) (v:V),X.N[i]?=Mk x->Z[i]?=Mk (Mk v)->Vis X.env.scope x->∃ u,RelV v u/\Look X.env s.heap m x u
 cell:∀ x c,X.env.cells.lookup x=Mk c->∃ v,s.heap.IsCell c v
 free:H X.env.locals=YK
 freeC:∀ x c,X.env.cells.lookup x=Mk c->H c=YK
 pin:∀ p∈X.pn++afG,s.heap.get? p.1=Mk p.2/\H p.1=YK/\p.1≠X.env.locals/\p.1∉X.fs/\∀ v,p.2.data≠.cell v
 hok:HN X.prog X.w H s.heap
 len:Z.length=X.N.length
section
variable {X:Cx}{afG:List (Addr×Obj)}{Z : List (Option V)}{s:ZG}
theorem Cx.Ok.nofr (ok:X.Ok){b:Addr}{o:Obj}(e:X.base.get? b=Mk o):b∉X.fs:=fun hb=>by
 have:=(ok.funs.mem hb).1
 rw [e] at this;cases this
theorem AP.bs (I:AP X afG Z H s):∀ b o,X.base.get? b=Mk o->s.heap.get? b=Mk o/\H b=YK:=fun b o e=>
 ⟨I.base.keep b o (I.ok.bs b o e).1 (I.ok.bs b o e).2 (I.ok.nofr e) (I.ok.noex b o e),I.base.free b o (I.ok.bs b o e).1 (I.ok.bs b o e).2 (I.ok.noex b o e)⟩
theorem AP.qt0 (I:AP X afG Z H s):Quiet X.A H:=fun v e=>let ⟨a,o,u,vs,h1,h2,h3⟩:=I.ok.qt v e;⟨a,o,u,vs,h1,I.base.frzs a o u h2,h3⟩
theorem AP.bk (I:AP X afG Z H s):∀ b o,X.base.get? b=Mk o->s.heap.get? b=Mk o:=fun b o e=>(I.bs b o e).1
theorem AP.mod (I:AP X afG Z H s):Mod X.K X.mg X.base:=I.ok.mod
theorem AP.kIn (I:AP X afG Z H s):X.K.In s.heap:=I.ok.mod.kin.keeps I.bk
theorem AP.lt (I:AP X afG Z H s):X.env.locals<s.heap.objs.size:=let ⟨_,hn,_⟩:=I.loc;hn.lt
theorem AP.sz (I:AP X afG Z H s):X.s₀.heap.objs.size<=s.heap.objs.size:=Cg I.ok.above (Lk I.lt)
theorem AP.nofs (I:AP X afG Z H s){a:Addr}(h:s.heap.objs.size<=a):a∉X.fs:=fun hb=>by
 obtain ⟨_,o,ho,_⟩:=I.ok.funs.mem hb;exact absurd (Ep (CK ho)<|Cg I.sz h)<|M4 _
theorem AP.cne (I:AP X afG Z H s):∀ x c,X.env.cells.lookup x=Mk c->c≠X.env.locals:=fun x c e z=>by
 obtain ⟨v,o,ho,hd⟩:=I.cell x c e;obtain ⟨m,⟨o',es,ep,ho',hd',_⟩,_⟩:=I.loc;rw [z,ho'] at ho;cases ho;rw [hd'] at hd;cases hd
theorem AP.funs (I:AP X afG Z H s):s.heap.FunFrames X.base X.outer:=by
 have all:∀ (l:List Env),(∀ b∈frs l,b∈X.fs)->X.s₀.heap.FunFrames X.base l->s.heap.FunFrames X.base l:=by
  intro l;induction l with
  | nil=>intro _ _;trivial
  | cons env r ih=>
   intro hs hl;obtain ⟨hk,⟨L,o,hf,hn,ho,hd⟩,hr⟩:=hl;have hL:L∈X.fs:=hs L (by unfold frs;rw [List.filterMap_cons,hf];exact JK);obtain ⟨sl,e⟩:=I.base.slot L o ho (I.ok.frf L hL) hL fun z=>I.ok.exfs L z hL
   exact ⟨hk,⟨L,_,hf,hn,e,hd⟩,ih (fun b hb=>hs b (by unfold frs;rw [List.filterMap_cons,hf];exact Hs _ hb)) hr⟩
 exact all X.outer (fun _ hb=>hb) I.ok.funs
theorem AP.stack (I:AP X afG Z H s):s.heap.FunFrames X.base X.stack:=by
 rcases I.ok.stk with e | ⟨e,hf⟩
 ·rw [e];exact I.funs
 ·rw [e];obtain ⟨m,hn,_⟩:=I.loc;refine .cons (by rw [I.ok.kind];decide) hf hn ?_ I.funs;exact RW<|Cg I.ok.bsz I.ok.above
theorem AP.stkSub (I:AP X afG Z H s):∀ b∈frs X.stack,b∈X.env.locals::X.fs:=fun b hb=>by
 rcases I.ok.stk with e | ⟨e,hf⟩
 ·rw [e] at hb;exact Hs _ hb
 ·rw [e] at hb;unfold frs at hb;rw [List.filterMap_cons,hf] at hb;exact hb
theorem AP.stkFree (I:AP X afG Z H s):∀ b∈frs X.stack,H b=YK:=fun b hb=>by
 rcases El.mp (I.stkSub b hb) with e | hb
 ·rw [e];exact I.free
 ·obtain ⟨_,o,ho,_⟩:=I.ok.funs.mem hb;exact I.base.free b o ho (I.ok.frf b hb) fun z=>I.ok.exfs b z hb
theorem AP.stepG {g':Array GenState}{t':Nat}{d':Drawn}{ch:List Addr}(I:AP X afG Z H s)
  (hch:∀ b∈ch,(b∈X.ex\/X.s₀.heap.get? b=YK)/\b≠X.env.locals/\(∀ x c,X.env.cells.lookup x=Mk c->c≠b)/\∀ p∈X.pn++afG,p.1≠b)
  (keep:∀ b o,b≠X.env.locals->b∉X.fs->b∉ch->s.heap.get? b=Mk o->H b=YK->h'.get? b=Mk o)
  (slot:∀ b o,b≠X.env.locals->b∈X.fs->b∉ch->s.heap.get? b=Mk o->H b=YK->∃ sl,h'.get? b=Mk { o with slots:=sl }) (free:∀ b o,b∉ch->s.heap.get? b=Mk o->H b=YK->H' b=YK)
  (there:∀ b o,b∉ch->s.heap.get? b=Mk o->∃ o',h'.get? b=Mk o')
  (tups:∀ b xs,H b=Mk (.tup xs)->H' b=Mk (.tup xs)) (frzs:∀ b o u,H b=Mk (.frz o u)->H' b=Mk (.frz o u)) (tbls:∀ b ps,H b=Mk (.tbl ps)->∃ more,H' b=Mk (.tbl (ps++more)))
  (ns:∀ m,s.heap.Ns X.env.locals m->h'.Ns X.env.locals m) (hok:HN X.prog X.w H' h') (hg:Nh g') :
  AP X afG Z H' { s with heap:=h',gens:=g',drawn:=d',toks:=t' }:=by
 have neL:∀ b o,X.s₀.heap.get? b=Mk o->b≠X.env.locals:=fun b o e=>Fw (Ep (CK e) I.ok.above)
 have neC:∀ b o,X.s₀.heap.get? b=Mk o->b∉X.ex->b∉ch:=fun b o e hx hb=>by
  rcases (hch b hb).1 with z | z
  ·exact hx z
  ·rw [z] at e;cases e
 have cellK:∀ x c,X.env.cells.lookup x=Mk c->∀ v,s.heap.IsCell c v->h'.IsCell c v:=fun x c e v ⟨o,ho,hd⟩=>by
  have nch:c∉ch:=fun z=>(hch c z).2.2.1 x c e rfl
  by_cases hc:c∈X.fs
  ·obtain ⟨sl,q⟩:=slot c o (I.cne x c e) hc nch ho (I.freeC x c e);exact ⟨_,q,hd⟩
  ·exact ⟨o,keep c o (I.cne x c e) hc nch ho<|I.freeC x c e,hd⟩
 refine ⟨I.ok,I.os,hg,⟨fun b o e n hb hx=>?_,fun b o e n hb hx=>?_,fun b o e n hx=>?_,fun b o e hx=>?_,fun b xs e=>tups b xs<|I.base.tups b xs e,fun b o xs e=>frzs b o xs<|I.base.frzs b o xs e,fun b ps e=>?_⟩,?_,fun x c e=>?_,?_,fun x c e=>?_,fun p hp=>?_,hok,I.len⟩
 ·exact keep b o (neL b o e) hb (neC b o e hx) (I.base.keep b o e n hb hx)<|I.base.free b o e n hx
 ·obtain ⟨sl,e1⟩:=I.base.slot b o e n hb hx;obtain ⟨sl',e2⟩:=slot b _ (neL b o e) hb (neC b o e hx) e1 (I.base.free b o e n hx);exact ⟨sl',e2⟩
 ·obtain ⟨o',e1⟩:=I.base.there b o e hx;exact free b o' (neC b o e hx) e1<|I.base.free b o e n hx
 ·obtain ⟨o',e1⟩:=I.base.there b o e hx;exact there b o' (neC b o e hx) e1
 ·obtain ⟨m1,e1⟩:=I.base.tbls b ps e;obtain ⟨m2,e2⟩:=tbls b _ e1;exact ⟨m1++m2,by rw [e2,Array.append_assoc]⟩
 ·obtain ⟨m,hn,hl⟩:=I.loc;refine ⟨m,ns m hn,fun i x v e1 e2 e3=>?_⟩;obtain ⟨u,r,l⟩:=hl i x v e1 e2 e3;refine ⟨u,r,?_⟩;rcases l with l | ⟨k,c,e,z⟩
  ·exact .inl l
  ·exact .inr ⟨k,c,e,cellK x c e _ z⟩
 ·obtain ⟨v,z⟩:=I.cell x c e;exact ⟨v,cellK x c e v z⟩
 ·obtain ⟨m,⟨o,_,_,ho,_⟩,_⟩:=I.loc;exact free _ o (fun z=>(hch _ z).2.1 rfl) ho I.free
 ·obtain ⟨v,o,ho,hd⟩:=I.cell x c e;exact free c o (fun z=>(hch c z).2.2.1 x c e rfl) ho<|I.freeC x c e
 ·obtain ⟨e,n,ne,nf,d⟩:=I.pin p hp;have nch:p.1∉ch:=fun z=>(hch p.1 z).2.2.2 p hp rfl
  exact ⟨keep p.1 p.2 ne nf nch e n,free p.1 p.2 nch e n,ne,nf,d⟩
theorem AP.step {g':Array GenState}{t':Nat}{d':Drawn}{ch:List Addr}(I:AP X afG Z H s)
  (hch:∀ b∈ch,(b∈X.ex\/X.s₀.heap.objs.size<=b)/\b≠X.env.locals/\(∀ x c,X.env.cells.lookup x=Mk c->c≠b)/\∀ p∈X.pn++afG,p.1≠b)
  (keep:∀ b o,b≠X.env.locals->b∉X.fs->b∉ch->s.heap.get? b=Mk o->H b=YK->h'.get? b=Mk o)
  (slot:∀ b o,b≠X.env.locals->b∈X.fs->b∉ch->s.heap.get? b=Mk o->H b=YK->∃ sl,h'.get? b=Mk { o with slots:=sl }) (free:∀ b o,b∉ch->s.heap.get? b=Mk o->H b=YK->H' b=YK)
  (there:∀ b o,b∉ch->s.heap.get? b=Mk o->∃ o',h'.get? b=Mk o')
  (tups:∀ b xs,H b=Mk (.tup xs)->H' b=Mk (.tup xs)) (frzs:∀ b o u,H b=Mk (.frz o u)->H' b=Mk (.frz o u)) (tbls:∀ b ps,H b=Mk (.tbl ps)->∃ more,H' b=Mk (.tbl (ps++more)))
  (ns:∀ m,s.heap.Ns X.env.locals m->h'.Ns X.env.locals m) (hok:HN X.prog X.w H' h') (hg:Nh g') :
  AP X afG Z H' { s with heap:=h',gens:=g',drawn:=d',toks:=t' }:=
 I.stepG (ch:=ch) (fun b z=>⟨(hch b z).1.imp id fun q=>RW q,(hch b z).2⟩) keep slot free there tups frzs tbls ns hok hg
theorem AP.un {t':Nat}(I:AP X afG Z H s)(u:Un X.fs [] H H' s.heap h')(hok:HN X.prog X.w H' h'):AP X afG Z H' { s with heap:=h',toks:=t' }:=by
 obtain ⟨m,⟨o,es,ep,ho,r⟩,_⟩:=id I.loc;obtain ⟨sl,hL⟩:=u.any ho I.free (by simp);exact I.step (g':=s.gens) (d':=s.drawn) (ch:=[]) (fun _ z=>nomatch z) (fun b o _ hb _ e n=>u.keep b o e n hb (by simp)) (fun b o _ hb _ e n=>u.slot b o e n hb (by simp)) (fun b o _ e n=>u.free b o e n (by simp)) (fun b o _ e=>u.there b o e (by simp)) u.tups u.frzs u.tbls (fun m' hm=>by
  obtain ⟨o',es',ep',ho',r'⟩:=hm;rw [ho] at ho';cases ho';exact ⟨_,es',ep',hL,r'⟩) hok I.bare
theorem AP.call {g':Array GenState}{t':Nat}{d':Drawn}{ch:List Addr}(I:AP X afG Z H s)(u:Un (frs X.stack) ch H H' s.heap h')(hok:HN X.prog X.w H' h')(hg:Nh g')
  (hch:∀ b∈ch,(b∈X.ex\/X.s₀.heap.objs.size<=b)/\b≠X.env.locals/\(∀ x c,X.env.cells.lookup x=Mk c->c≠b)/\∀ p∈X.pn++afG,p.1≠b) :
  AP X afG Z H' { s with heap:=h',gens:=g',drawn:=d',toks:=t' }:=by
 obtain ⟨m,⟨o,es,ep,ho,r⟩,_⟩:=id I.loc;obtain ⟨sl,hL⟩:=u.any ho I.free fun z=>(hch _ z).2.1 rfl
 exact I.step (ch:=ch) hch (fun b o hL hb hc e n=>u.keep b o e n (fun z=>(El.mp (I.stkSub b z)).elim hL hb) hc) (fun b o _ _ hc e n=>u.any e n hc) (fun b o hc e n=>u.free b o e n hc) (fun b o hc e=>u.there b o e hc) u.tups u.frzs u.tbls (fun m' hm=>by
  obtain ⟨o',es',ep',ho',r'⟩:=hm;rw [ho] at ho';cases ho';exact ⟨_,es',ep',hL,r'⟩) hok hg
theorem AP.turned {t':Nat}{it:Addr}(I:AP X afG Z H s)(k:∀ b o,b≠it->s.heap.get? b=Mk o->h'.get? b=Mk o)(hn:H it=YK)(hL:it≠X.env.locals)
  (h1:it∈X.ex\/X.s₀.heap.objs.size<=it) (h2:∀ x c,X.env.cells.lookup x=Mk c->c≠it) (h3:∀ p∈X.pn++afG,p.1≠it):AP X afG Z H { s with heap:=h',toks:=t' }:=by
 have nit:∀ b u,H b=Mk u->b≠it:=fun b u e z=>by rw [z,hn] at e;cases e
 refine I.step (g':=s.gens) (d':=s.drawn) (ch:=[it]) (fun b hb=>?_) (fun b o _ _ hc e _=>k b o (fun z=>hc<|by simp [z]) e) (fun b o _ _ hc e _=>⟨o.slots,k b o (fun z=>hc<|by simp [z]) e⟩) (fun _ _ _ _ n=>n)
  (fun b o hc e=>⟨o,k b o (fun z=>hc (by simp [z])) e⟩) (fun _ _ e=>e) (fun _ _ _ e=>e) (fun b ps e=>⟨#[],by rw [e];simp⟩) (fun m hm=>?_) (fun b u e=>?_) I.bare
 ·have e:b=it:=by simpa using hb
  subst e;exact ⟨h1,hL,h2,h3⟩
 ·obtain ⟨o,es,ep,ho,r⟩:=hm;exact ⟨o,es,ep,k _ o (Hf hL) ho,r⟩
 ·refine (I.hok b u e).stay (fun c v hc q=>k c v ?_ q) (fun _ q=>q) fun _ _ q=>q;rcases hc with z | z
  ·rw [z];exact nit b u e
  ·exact nit c _ z
theorem AP.tok (I:AP X afG Z H s)(t:Nat):AP X afG Z H { s with toks:=t }:=I.un (h':=s.heap) (t':=t) Un.refl I.hok
theorem AP.kept {t':Nat}(I:AP X afG Z H s)(k:∀ b u,s.heap.get? b=Mk u->h'.get? b=Mk u):AP X afG Z H { s with heap:=h',toks:=t' }:=I.un (Un.kept k) (I.hok.kept k)
theorem AP.laid {a:Addr}{o:HO}{t':Nat}(I:AP X afG Z H s)(k:∀ b u,s.heap.get? b=Mk u->h'.get? b=Mk u)(hp:s.heap.objs.size<=a)(new:dX X.prog X.w (CJ H a o) h' a o) :
  AP X afG Z (CJ H a o) { s with heap:=h',toks:=t' }:=I.un (Un.laid k hp (I.hok.fresh hp)) (I.hok.laid k hp new)
theorem AP.write {x e:Addr}{o:HO}{t':Nat}(I:AP X afG Z H s)(mu:Mut (H x))(he:e=x\/H e=Mk (.own x))(k:∀ b u,b≠e->s.heap.get? b=Mk u->h'.get? b=Mk u)(heo:∃ u,h'.get? e=Mk u)
  (new:dX X.prog X.w (CJ H x o) h' x o):AP X afG Z (CJ H x o) { s with heap:=h',toks:=t' }:=I.un (Un.write mu he k heo) (I.hok.write mu he k heo new)
theorem AP.weak {Z':List (Option V)}(I:AP X afG Z H s)(hl:Z'.length = Z.length)(w:∀ (i:Nat) v,Z'[i]?=Mk (Mk v)->Z[i]?=Mk (Mk v)):AP X afG Z' H s:=
 ⟨I.ok,I.os,I.bare,I.base,let ⟨m,hn,hl'⟩:=I.loc;⟨m,hn,fun i x v e1 e2 e3=>hl' i x v e1 (w i v e2) e3⟩,I.cell,I.free,I.freeC,I.pin,I.hok,hl.trans I.len⟩
theorem AP.pins_of {pins':List (Addr×Obj)}(I:AP X afG Z H s)(h:∀ p∈pins',s.heap.get? p.1=Mk p.2/\H p.1=YK/\p.1≠X.env.locals/\p.1∉X.fs/\∀ v,p.2.data≠.cell v):AP X pins' Z H s:=
 ⟨I.ok,I.os,I.bare,I.base,I.loc,I.cell,I.free,I.freeC,fun p hp=>(Jr.mp hp).elim (fun z=>I.pin p (Jc _ z)) (h p),I.hok,I.len⟩
theorem yO {N:List Str}(hN:N.Nodup){i j:Nat}{x:Str}(a:N[i]?=Mk x)(b:N[j]?=Mk x):i=j:=by
 obtain ⟨h1,e1⟩:=PJ.mp a;obtain ⟨h2,e2⟩:=PJ.mp b;exact (List.getElem_inj hN).mp (e1.trans e2.symm)
theorem acH {M:Model}{A:Bx}{E:Yk->ZG->Prop}{i:Nat}{x:Str}{v:V}{u:Yk}{Q:Unit->ZG->Prop}(I:AP X afG Z H s)(hN:X.N.Nodup)(hi:X.N[i]?=Mk x)(hx:Loc X.env.scope x)(r:RelV v u)
  (h:∀ s',AP X afG (Z.set i (Mk v)) H s'->(∃ a,QB a s.heap s'.heap/\(a=X.env.locals\/X.env.cells.lookup x=Mk a))->Q () s') (hf:X.fn x=true\/X.env.scope.names.lookup x=Mk .local:=by first | exact .inl rfl | exact .inr rfl | assumption):Al M A (storeName X.env x u) Q E s:=by
 obtain ⟨m,hn,hl⟩:=id I.loc;have hcls:(X.env.scope.kind==.class||(X.env.scope.kind==.module&&X.env.locals != X.env.globals))=false:=by rw [I.ok.kind];rfl
 have hiZ : i < Z.length:=by rw [I.len];exact (PJ.mp hi).1
 have cne:=I.cne;have tracked:∀ {a:Addr} {h':Heap},(∃ o,s.heap.get? a=Mk o/\H a=YK)->QB a s.heap h'->HN X.prog X.w H h':=fun {a h'} ha hs b ob e=>by
  obtain ⟨_,_,hfree⟩:=ha;refine (I.hok b ob e).stay (fun c w' hc q=>(hs.2 c ?_).trans q) (fun _ q=>q) fun _ _ q=>q;rintro rfl;rcases hc with rfl | hc
  ·rw [hfree] at e;cases e
  ·rw [hfree] at hc;cases hc
 rcases hx with hk | hk
 ·refine wpAny_storeName_local hk hn (fun h' hn' hs=>?_) hcls;obtain ⟨oL,_,_,hoL,_⟩:=id hn;refine h _ ⟨I.ok,I.os,I.bare,⟨fun b o e n hb hx=>?_,fun b o e n hb hx=>?_,I.base.free,fun b o e hx=>?_,I.base.tups,I.base.frzs,I.base.tbls⟩,⟨_,hn',fun j y v' e1 e2 e3=>?_⟩,fun y c e=>?_,I.free,I.freeC,fun p hp=>?_,tracked ⟨oL,hoL,I.free⟩ hs,by simpa using I.len⟩ ⟨_,hs,.inl rfl⟩
  ·exact (hs.2 b<|Fw<|Ep (CK e) I.ok.above).trans (I.base.keep b o e n hb hx)
  ·obtain ⟨sl,e1⟩:=I.base.slot b o e n hb hx;exact ⟨sl,(hs.2 b<|Fw<|Ep (CK e) I.ok.above).trans e1⟩
  ·obtain ⟨o',e1⟩:=I.base.there b o e hx;exact ⟨o',(hs.2 b<|Fw<|Ep (CK e) I.ok.above).trans e1⟩
  ·by_cases hj:j=i
   ·subst hj;rw [hi] at e1;cases e1;rw [List.getElem?_set_self hiZ] at e2;cases e2;exact ⟨u,r,.inl ⟨hk,by simp⟩⟩
   ·rw [List.getElem?_set_ne (Hf hj)] at e2;obtain ⟨u',r',q⟩:=hl j y v' e1 e2 e3;refine ⟨u',r',?_⟩;rcases q with ⟨k,e⟩ | ⟨k,c,e,z⟩
    ·refine .inl ⟨k,?_⟩;have:y≠x:=fun e=>hj (yO hN e1 (e ▸ hi))
     simp [this,e]
    ·exact .inr ⟨k,c,e,z.sameBut hs<|cne y c e⟩
  ·obtain ⟨w',z⟩:=I.cell y c e;exact ⟨w',z.sameBut hs<|cne y c e⟩
  ·obtain ⟨e,n,ne,nf,d⟩:=I.pin p hp;exact ⟨(hs.2 p.1 ne).trans e,n,ne,nf,d⟩
 ·have hfn:X.fn x=true:=by
   rcases hf with z | z
   ·exact z
   ·rw [z] at hk;cases hk
  obtain ⟨c,hc⟩:=I.ok.has x (.inl hk);obtain ⟨w',z⟩:=I.cell x c hc;refine wpAny_storeName_cell I.ok.kind hk hc z<|fun h' hc' hs=>?_
  obtain ⟨oc,hoc,hocd⟩:=id z;refine h { s with heap:=h' } ⟨I.ok,I.os,I.bare,⟨fun b o e n hb hx=>?_,fun b o e n hb hx=>?_,I.base.free,fun b o e hx=>?_,I.base.tups,I.base.frzs,I.base.tbls⟩,⟨m,hn.sameBut hs<|Hf<|cne x c hc,fun j y v' e1 e2 e3=>?_⟩,fun y c' e=>?_,I.free,I.freeC,fun p hp=>?_,tracked ⟨oc,hoc,I.freeC x c hc⟩ hs,by simpa using I.len⟩ ⟨c,hs,.inr hc⟩
  ·exact (hs.2 b<|Fw<|Ep (CK e)<|I.ok.cab x c hfn hc).trans (I.base.keep b o e n hb hx)
  ·obtain ⟨sl,e1⟩:=I.base.slot b o e n hb hx;exact ⟨sl,(hs.2 b<|Fw<|Ep (CK e)<|I.ok.cab x c hfn hc).trans e1⟩
  ·obtain ⟨o',e1⟩:=I.base.there b o e hx;exact ⟨o',(hs.2 b<|Fw<|Ep (CK e)<|I.ok.cab x c hfn hc).trans e1⟩
  ·by_cases hj:j=i
   ·subst hj;rw [hi] at e1;cases e1;rw [List.getElem?_set_self hiZ] at e2;cases e2;exact ⟨u,r,.inr ⟨.inl hk,c,hc,hc'⟩⟩
   ·rw [List.getElem?_set_ne (Hf hj)] at e2;obtain ⟨u',r',q⟩:=hl j y v' e1 e2 e3;refine ⟨u',r',?_⟩;rcases q with q | ⟨k,c',e,z'⟩
    ·exact .inl q
    ·refine .inr ⟨k,c',e,z'.sameBut hs ?_⟩;rintro rfl;exact hj<|yO hN e1<|I.ok.inj _ _ _ e hc ▸ hi
  ·by_cases hcc:c'=c
   ·subst hcc;exact ⟨_,hc'⟩
   ·obtain ⟨w2,z2⟩:=I.cell y c' e;exact ⟨w2,z2.sameBut hs hcc⟩
  ·obtain ⟨e,n,ne,nf,d⟩:=I.pin p hp;refine ⟨(hs.2 p.1 ?_).trans e,n,ne,nf,d⟩;intro q;rw [q,hoc] at e;have q':oc=p.2:=Eb e;exact d w' (by rw [<-q'];exact hocd)
theorem rN {M:Model}{A:Bx}{E:Yk->ZG->Prop}{i:Nat}{x:Str}{v:V}{u:Yk}{Q:Unit->ZG->Prop}(I:AP X afG Z H s)(hN:X.N.Nodup)(hi:X.N[i]?=Mk x)(hx:Loc X.env.scope x)(r:RelV v u)
  (h:∀ s',AP X afG (Z.set i (Mk v)) H s'->Q () s') (hf:X.fn x=true\/X.env.scope.names.lookup x=Mk .local:=by first | exact .inl rfl | exact .inr rfl | assumption):Al M A (storeName X.env x u) Q E s:=
 acH I hN hi hx r (fun s' I' _=>h s' I') hf
theorem AP.call' {s':ZG}{ch:List Addr}(I:AP X afG Z H s)(ho:s'.os=s.os)(u:Un (frs X.stack) ch H H' s.heap s'.heap)(hok:HN X.prog X.w H' s'.heap)(hg:Nh s'.gens)
  (hch:∀ b∈ch,(b∈X.ex\/X.s₀.heap.objs.size<=b)/\b≠X.env.locals/\(∀ x c,X.env.cells.lookup x=Mk c->c≠b)/\∀ p∈X.pn++afG,p.1≠b):AP X afG Z H' s':=by
 obtain ⟨h',g',d',t',o'⟩:=s';have e:o'=s.os:=ho;subst e;exact I.call (g':=g') (t':=t') (d':=d') u hok hg hch
end
variable {X : Cx}{afG : List (Addr×Obj)}{N : List Str}{M : Model}{i j : Nat}{A : Bx}{u : Yk}{E : Yk->ZG->Prop}{s' : ZG}
abbrev XK:=Yk->Option Addr->Hp->Prop
abbrev St:=List (Option V)
abbrev VK:=V->Hp->Prop
abbrev TE:=St->Hp->VK->Prop
abbrev TT:=St->Hp->(Bool->Hp->Prop)->Prop
abbrev TA:=St->Hp->(List V->Hp->Prop)->Prop
structure Ends where
 nx:St->Hp->Prop
 rt:VK
 bk:St->Hp->Prop:=fun _ _=>False
 ct:St->Hp->Prop:=fun _ _=>False
abbrev TS:=Ends->St->Hp->Prop
def EP (X:Cx)(afG:List (Addr×Obj))(Z : St)(Q:VK)(u:Yk)(s':ZG):Prop:=∃ v H',AP X afG Z H' s'/\RelV v u/\Q v H'
def TP (X:Cx)(afG:List (Addr×Obj))(Z : St)(Q:Bool->Hp->Prop)(b:Bool)(s':ZG):Prop:=∃ H',AP X afG Z H' s'/\Q b H'
def zad (X:Cx)(afG:List (Addr×Obj))(Z : St)(Q:List V->Hp->Prop)(us:List Yk)(s':ZG):Prop:=∃ vs H',AP X afG Z H' s'/\Az vs us/\Q vs H'
def SP (X:Cx)(afG:List (Addr×Obj))(D:Ends)(f:Flow)(s':ZG):Prop:=
 match f with
 | .next=>∃ Z' H',AP X afG Z' H' s'/\D.nx Z' H'
 | .brk=>∃ Z' H',AP X afG Z' H' s'/\D.bk Z' H'
 | .cont=>∃ Z' H',AP X afG Z' H' s'/\D.ct Z' H'
 | .ret u=>∃ v Z' H',AP X afG Z' H' s'/\RelV v u/\D.rt v H'
def PE (X:Cx)(e:Expr)(t:TE):Prop:=
 ∀ (afG:List (Addr×Obj)) (s:ZG) (Z : St) (H:Hp) (Q:VK),AP X afG Z H s->t Z H Q->Al (Am X.prog X.w) X.A (eval e X.env) (EP X afG Z Q) X.xe s
def PT (X:Cx)(e:Expr)(t:TT):Prop:=
 ∀ (afG:List (Addr×Obj)) (s:ZG) (Z : St) (H:Hp) (Q:Bool->Hp->Prop),AP X afG Z H s->t Z H Q->Al (Am X.prog X.w) X.A (isTrue e X.env (eval e X.env)) (TP X afG Z Q) X.xe s
def PW (X:Cx)(e:Expr)(t:TT):Prop:=
 ∀ (whole:Sem Yk) (afG:List (Addr×Obj)) (s:ZG) (Z : St) (H:Hp) (Q:Bool->Hp->Prop),AP X afG Z H s->t Z H Q->Al (Am X.prog X.w) X.A (isTrue e X.env whole) (TP X afG Z Q) X.xe s
variable {e : Expr}
theorem PW.pt {t:TT}(h:PW X e t):PT X e t:=h _
def PA (X:Cx)(es:List Expr)(t:TA):Prop:=
 ∀ (pos:Pos) (afG:List (Addr×Obj)) (s:ZG) (Z : St) (H:Hp) (Q:List V->Hp->Prop),AP X afG Z H s->t Z H Q->Al (Am X.prog X.w) X.A (spliced (En pos (Bo es X.env))) (zad X afG Z Q) X.xe s
def PS (X:Cx)(st:Stmt)(t:TS):Prop:=
 ∀ (afG:List (Addr×Obj)) (s:ZG) (Z : St) (H:Hp) (D:Ends),AP X afG Z H s->t D Z H->Al (Am X.prog X.w) X.A (exec st X.env) (SP X afG D) X.xe s
def Jd (X:Cx)(st:List Stmt)(t:TS):Prop:=
 ∀ (afG:List (Addr×Obj)) (s:ZG) (Z : St) (H:Hp) (D:Ends),AP X afG Z H s->t D Z H->Al (Am X.prog X.w) X.A (execs st X.env) (SP X afG D) X.xe s
theorem CV {α : Type}{t:Sem α}{Q Q':α->ZG->Prop}{s:ZG}(h:Al M A t Q E s)(hQ:∀ a s,Q a s->Q' a s):Al M A t Q' E s:=Hx h hQ fun _ _ x=>x
section
def Xj (i:Nat):TE:=fun Z H Q=>∃ v,Z[i]?=Mk (Mk v)/\Q v H
def tC (v:V):TE:=fun _ H Q=>Q v H
theorem aen {x:Str}{pos:Pos}(hN:X.N[i]?=Mk x)(hv:Vis X.env.scope x)(hd:(x==("__debug__" : Str))=false:=by decide)(hcd:(x==("__classdict__" : Str))=false:=by decide):PE X (.Name x pos) (Xj i):=by
 intro afG s Z H Q I h;obtain ⟨v,e,h⟩:=h;obtain ⟨m,hn,hl⟩:=I.loc;obtain ⟨u,r,l⟩:=hl i x v hN e hv;have fin:EP X afG Z Q u s:=⟨v,H,I,r,h⟩
 rcases l with ⟨hk,hm⟩ | ⟨hk,c,hc,hcell⟩
 ·exact wpAny_Name (wpAny_loadName_local I.ok.kind hk hn hm fin) hd
 ·rcases hk with hk | hk
  ·exact wpAny_Name (wpAny_loadName_cell I.ok.kind hk hc hcell fin) hd
  ·exact wpAny_Name (wpAny_loadName_free I.ok.kind hk hc hcell fin hcd) hd
theorem adJ {i j pos}:PE X (.Constant (.int i) j pos) (tC (.int i)):=fun _ _ _ H _ I h=>wpAny_Constant_int ⟨.int i,H,I.tok _,⟨_,rfl⟩,h⟩
theorem Yd {b j pos}:PE X (.Constant (.bool b) j pos) (tC (.bl b)):=fun _ _ _ H _ I h=>Constant_bool ⟨.bl b,H,I,rfl,h⟩
theorem adM {j pos}:PE X (.Constant .none j pos) (tC .non):=fun _ _ _ H _ I h=>Constant_none ⟨.non,H,I,rfl,h⟩
theorem aec {x j pos}:PE X (.Constant (.str x) j pos) (tC (.str x)):=fun _ _ _ H _ I h=>Calls.Constant_str ⟨.str x,H,I.tok _,⟨_,rfl⟩,h⟩
def Gl (X:Cx)(x:Str):Prop:=X.env.kindOf x=Mk .globalImplicit
theorem sY {s:ZG}{Z : St}{x:Str}{pos:Pos}{Q:Yk->ZG->Prop}(I:AP X afG Z H s)(hg:Gl X x)(hm:X.mg x=Mk u)(h:Q u s)
  (hd:(x==("__debug__" : Str))=false:=by decide):Al (Am X.prog X.w) X.A (eval (.Name x pos) X.env) Q E s:=
 Calls.Name_function_global I.ok.kind hg (Calls.loadGlobal_global (by rw [I.ok.glob];exact I.mod.glob.keeps I.bk) hm h) hd
theorem pN {s:ZG}{Z : St}{x:Str}{pos:Pos}{Q:Yk->ZG->Prop}(I:AP X afG Z H s)(hg:Gl X x)(hm:X.mg x=YK)(hv:Pu x=Mk u)(h:Q u s)
  (hn:x ≠ "__name__":=by decide) (hd:(x==("__debug__" : Str))=false:=by decide):Al (Am X.prog X.w) X.A (eval (.Name x pos) X.env) Q E s:=by
 obtain ⟨mb,h1,h2⟩:=I.mod.blt;exact Calls.Name_function_global I.ok.kind hg (Calls.loadGlobal_builtin (by rw [I.ok.glob];exact I.mod.glob.keeps I.bk) hm (by rw [I.ok.blt];exact h1.keeps I.bk) ((h2 x hn).trans hv) h) hd
theorem gk {x:Str}{v:V}{pos:Pos}(hg:Gl X x)(hm:X.mg x=Mk u)(r:RelV v u)(hd:(x==("__debug__" : Str))=false:=by decide):PE X (.Name x pos) (tC v):=
 fun _ _ _ H _ I h=>sY I hg hm ⟨v,H,I,r,h⟩ hd
theorem kj {x:Str}{v:V}{pos:Pos}(hg:Gl X x)(hm:X.mg x=YK)(hv:Pu x=Mk u)(r:RelV v u)(hn:x ≠ "__name__":=by decide)(hd:(x==("__debug__" : Str))=false:=by decide):PE X (.Name x pos) (tC v):=
 fun _ _ _ H _ I h=>pN I hg hm hv ⟨v,H,I,r,h⟩ hn hd
variable {a b:Expr}{ta tb:TE}{pos:Pos}
variable {tA tB':TT}{rest:List Expr}
def Zv (t u:TT):TT:=fun Z H Q=>t Z H fun c H1=>if c=true then u Z H1 Q else Q false H1
def tOr (t u:TT):TT:=fun Z H Q=>t Z H fun c H1=>if c=true then Q true H1 else u Z H1 Q
def Zo (t:TT):TT:=fun Z H Q=>t Z H fun c H1=>Q (!c) H1
theorem acA (ha:PT X a tA):PW X (.BoolOp .And [a] pos) tA:=by
 intro wh afG s Z H Q I h;refine isTrue_and<|CV (ha afG s Z H Q I h) fun c s1 e=>?_
 cases c with
 | true=>exact isTrue_and_nil e
 | false=>exact e
theorem afa (ha:PT X a tA):PW X (.BoolOp .Or [a] pos) tA:=by
 intro wh afG s Z H Q I h;refine isTrue_or<|CV (ha afG s Z H Q I h) fun c s1 e=>?_
 cases c with
 | false=>exact isTrue_or_nil e
 | true=>exact e
theorem aeU (ha:PT X a tA)(hb:PW X (.BoolOp .And (b::rest) pos) tB'):PW X (.BoolOp .And (a::b::rest) pos) (Zv tA tB'):=by
 intro wh afG s Z H Q I h;refine isTrue_and<|CV (ha afG s Z H _ I h) fun c s1 ⟨H1,I1,q1⟩=>?_
 cases c with
 | true=>exact hb wh afG s1 Z H1 Q I1 q1
 | false=>exact ⟨H1,I1,q1⟩
theorem XH (ha:PT X a tA)(hb:PW X (.BoolOp .Or (b::rest) pos) tB'):PW X (.BoolOp .Or (a::b::rest) pos) (tOr tA tB'):=by
 intro wh afG s Z H Q I h;refine isTrue_or<|CV (ha afG s Z H _ I h) fun c s1 ⟨H1,I1,q1⟩=>?_
 cases c with
 | true=>exact ⟨H1,I1,q1⟩
 | false=>exact hb wh afG s1 Z H1 Q I1 q1
theorem aeX (ha:PT X a tA):PT X (.UnaryOp .Not a pos) (Zo tA):=by
 intro afG s Z H Q I h;exact isTrue_not<|ha afG s Z H (fun c H1=>Q (!c) H1) I h
def Xc (ta tb:TE):TE:=fun Z H Q=>ta Z H fun x H1=>∃ c,x=.bl c/\if c=true then tb Z H1 Q else Q (.bl false) H1
def WD (ta:TE):TE:=fun Z H Q=>ta Z H fun x H1=>∃ c,x=.bl c/\Q (.bl (!c)) H1
theorem adu {op}{t:TE}(h:PE X a t):PE X (.BoolOp op [a] pos) t:=fun afG s Z H Q I hw=>BoolOp_one (h afG s Z H Q I hw)
theorem adU (ha:PE X a ta)(hb:PE X (.BoolOp .And (b::rest) pos) tb):PE X (.BoolOp .And (a::b::rest) pos) (Xc ta tb):=by
 intro afG s Z H Q I h;refine BoolOp_and<|CV (ha afG s Z H _ I h) fun v s1 ⟨x,H1,I1,r1,q1⟩=>?_
 obtain ⟨c,rfl,q1⟩:=q1;cases r1;refine RM ?_;cases c with
 | true=>exact hb afG s1 Z H1 Q I1 q1
 | false=>exact ⟨.bl false,H1,I1,rfl,q1⟩
theorem adw (ha:PE X a ta):PE X (.UnaryOp .Not a pos) (WD ta):=by
 intro afG s Z H Q I h;refine UnaryOp_<|CV (ha afG s Z H _ I h) fun v s1 ⟨x,H1,I1,r1,q1⟩=>?_
 obtain ⟨c,rfl,q1⟩:=q1;cases r1;exact not_of<|RM ⟨.bl<|!c,H1,I1,rfl,q1⟩
end
variable {pos : Pos}{Z : St}{ta : TE}{Q : Yk->ZG->Prop}
def GK (K:Ar)(H:Hp)(a:Addr)(xs:List V):Prop:=
 Rd H a (.lst xs) \/
  ∃ (o:Obj) (its:Array Yk) (n:Nat),K.lookup a=Mk o/\o.cls=.type "list"/\o.dict=YK/\o.data=.seq its n/\its.size<=CR/\Az xs its.toList
def Ed (K:Ar)(H:Hp)(a:Addr)(xs:List V):Prop:=
 Rd H a (.tup xs) \/
  ∃ (o:Obj) (its:Array Yk) (n:Nat),K.lookup a=Mk o/\o.cls=.type "tuple"/\o.data=.seq its n/\its.size<=CR/\Az xs its.toList/\o.dict=YK
def Zn:Yk->Option V
 | .none=>Mk .non
 | .bool b=>Mk (.bl b)
 | .int i _=>Mk (.int i)
 | .str x _=>Mk (.str x)
 | .bytes b _=>Mk (.byt b)
 | .float b _=>Mk (.flt b)
 | .ref a=>Mk (.ref a)
 | .type n=>Mk (.ty n)
 | _=>YK
theorem RelV.abs {x:V}(r:RelV x u):Zn u=Mk x:=by
 cases x with
 | non=>cases r;rfl
 | bl _=>cases r;rfl
 | int _=>obtain ⟨t,rfl⟩:=r;rfl
 | str _=>obtain ⟨t,rfl⟩:=r;rfl
 | byt _=>obtain ⟨t,rfl⟩:=r;rfl
 | flt _=>obtain ⟨t,rfl⟩:=r;rfl
 | ref _=>cases r;rfl
 | ty _=>cases r;rfl
theorem RelV.inj {x y:V}(r:RelV x u)(q:RelV y u):x=y:=Eb (r.abs.symm.trans q.abs)
theorem Az.inj:∀ {xs ys:List V} {us:List Yk},Az xs us->Az ys us->xs=ys
 | _,_,_,.nil,.nil=>rfl
 | _,_,_,.cons r t,.cons r' t'=>by rw [r.inj r',Az.inj t t']
section
variable {s:ZG}{a:Addr}{ys:List V}
theorem GK.of {K:Ar}(h:H a=Mk (.lst xs)):GK K H a xs:=.inl (.inl h)
theorem Ed.of {K:Ar}(h:H a=Mk (.tup xs)):Ed K H a xs:=.inl (.inl h)
theorem AP.list (I:AP X afG Z H s)(h:GK X.K H a xs):∃ its:List Yk,Az xs its/\PlainL s.heap a its.toArray/\xs.length<=CR:=by
 rcases h with h | ⟨o,its,n,hk,hc,hd,hs,hz,r⟩
 ·obtain ⟨z,its,n,r,e⟩:=h.ok I.hok;exact ⟨its,r,⟨_,n,e,rfl,rfl,rfl⟩,z⟩
 ·refine ⟨its.toList,r,⟨o,n,I.kIn a o hk,hc,hd,by simpa using hs⟩,?_⟩;have e:=r.length;simp only [RT] at e;lia
theorem AP.tupO (I:AP X afG Z H s)(h:Ed X.K H a xs):∃ its:List Yk,Az xs its/\GD s.heap a its.toArray/\xs.length<=CR:=by
 rcases h with h | ⟨o,its,n,hk,hc,hs,hz,r,hd⟩
 ·obtain ⟨z,its,r,p⟩:=h.ok I.hok;exact ⟨its,r,p,z⟩
 ·refine ⟨its.toList,r,⟨o,I.kIn a o hk,hc,⟨n,by simpa using hs⟩,hd⟩,?_⟩;have e:=r.length;simp only [RT] at e;lia
theorem AP.tuple (I:AP X afG Z H s)(h:Ed X.K H a xs):∃ its:List Yk,Az xs its/\IsTup s.heap a its.toArray/\xs.length<=CR:=let ⟨its,r,p,z⟩:=I.tupO h;⟨its,r,p.tup,z⟩
theorem AP.list_inj (I:AP X afG Z H s)(h:GK X.K H a xs)(h':GK X.K H a ys):xs=ys:=by
 obtain ⟨its,r,⟨o,n,e,_,_,d⟩,_⟩:=I.list h;obtain ⟨its',r',⟨o',n',e',_,_,d'⟩,_⟩:=I.list h';rw [e] at e';cases e';rw [d] at d';injection d' with d1 _
 have:its=its':=by simpa using congrArg Array.toList d1
 subst this;exact r.inj r'
theorem AP.tuple_inj (I:AP X afG Z H s)(h:Ed X.K H a xs)(h':Ed X.K H a ys):xs=ys:=by
 obtain ⟨its,r,⟨o,e,_,n,d⟩,_⟩:=I.tuple h;obtain ⟨its',r',⟨o',e',_,n',d'⟩,_⟩:=I.tuple h';rw [e] at e';cases e';rw [d] at d';injection d' with d1 _
 have:its=its':=by simpa using congrArg Array.toList d1
 subst this;exact r.inj r'
end
variable {K : Ar}
abbrev Cx.wish (X:Cx)(E:Yk->ZG->Prop):Cx:={ X with xe:=E }
abbrev Cx.nox (X:Cx):Cx:=X.wish fun _ _=>False
theorem Cx.Ok.wish {X:Cx}(ok:X.Ok)(E:Yk->ZG->Prop):(X.wish E).Ok:=
 ⟨ok.mod,ok.kind,ok.glob,ok.blt,ok.above,ok.inj,ok.has,ok.cab,ok.hd,ok.qt,ok.frames,ok.stk,ok.exf,ok.bs,ok.bsz,ok.noex,ok.exfs,ok.funs,ok.frf⟩
theorem Cx.Ok.unwish (ok:(X.wish E).Ok):X.Ok:=
 ⟨ok.mod,ok.kind,ok.glob,ok.blt,ok.above,ok.inj,ok.has,ok.cab,ok.hd,ok.qt,ok.frames,ok.stk,ok.exf,ok.bs,ok.bsz,ok.noex,ok.exfs,ok.funs,ok.frf⟩
section
variable {s:ZG}
theorem AP.wish (I:AP X afG Z H s)(E:Yk->ZG->Prop):AP (X.wish E) afG Z H s:=⟨I.ok.wish E,I.os,I.bare,I.base,I.loc,I.cell,I.free,I.freeC,I.pin,I.hok,I.len⟩
theorem AP.unwish (I:AP (X.wish E) afG Z H s):AP X afG Z H s:=⟨I.ok.unwish,I.os,I.bare,I.base,I.loc,I.cell,I.free,I.freeC,I.pin,I.hok,I.len⟩
theorem SP.unwish {D:Ends}{f:Flow}{s':ZG}(h:SP (X.wish E) afG D f s'):SP X afG D f s':=by
 cases f with
 | next=>obtain ⟨Z',H',I,q⟩:=h;exact ⟨Z',H',I.unwish,q⟩
 | brk=>obtain ⟨Z',H',I,q⟩:=h;exact ⟨Z',H',I.unwish,q⟩
 | cont=>obtain ⟨Z',H',I,q⟩:=h;exact ⟨Z',H',I.unwish,q⟩
 | ret u=>obtain ⟨v,Z',H',I,r,q⟩:=h;exact ⟨v,Z',H',I.unwish,r,q⟩
theorem Jd.nox {st:List Stmt}{t:TS}(h:Jd X.nox st t):Jd X st t:=fun afG s Z H D I hw=>
 Hx (h afG s Z H D (I.wish _) hw) (fun _ _ q=>q.unwish) fun _ _ z=>Lz z
end
variable {D : Ends}
section
variable {st:Stmt}{rest:List Stmt}{t u:TS}{te:TE}
def Xi:TS:=fun D Z H=>D.nx Z H
def ZM (t u:TS):TS:=fun D Z H=>t { D with nx:=u D } Z H
theorem zbx:Jd X [] Xi:=fun _ _ Z H _ I h=>Sy ⟨Z,H,I,h⟩
theorem zm (h1:PS X st t)(h2:Jd X rest u):Jd X (st::rest) (ZM t u):=by
 intro afG s Z H D I h;refine wpAny_execs_cons<|CV (h1 afG s Z H { D with nx:=u D } I h) fun f s1 q=>?_
 cases f with
 | next=>
  obtain ⟨Z',H',I',q⟩:=q;exact h2 afG s1 Z' H' D I' q
 | ret v=>exact q
 | brk=>exact q
 | cont=>exact q
theorem Ez (h1:PS X st t):Jd X [st] t:=by
 intro afG s Z H D I h;refine wpAny_execs_cons<|CV (h1 afG s Z H D I h) fun f s1 q=>?_
 cases f with
 | next=>exact Sy q
 | ret v=>exact q
 | brk=>exact q
 | cont=>exact q
theorem AP.quiet {s:ZG}(I:AP X afG Z H s):interactive X.env=false:=by simp [interactive,I.ok.kind]
def Xh (te:TE):TS:=fun D Z H=>te Z H fun _ H1=>D.nx Z H1
theorem Cu (he:PE X e te)(hs:swapsWith e YK pos.line X.env=pure false:=by rfl):PS X (.Expr e pos) (Xh te):=by
 intro afG s Z H D I h;exact wpAny_Expr_any (CV (he afG s Z H _ I h) fun v s1 ⟨x,H1,I1,r1,q1⟩=>⟨Z,H1,I1,q1⟩) I.quiet hs
def Zt (te:TE):TS:=fun D Z H=>te Z H D.rt
theorem acC (he:PE X e te):PS X (.Return (Mk e) pos) (Zt te):=by
 intro afG s Z H D I h;exact wpAny_Return_some<|CV (he afG s Z H _ I h) fun v s1 ⟨x,H1,I1,r1,q1⟩=>⟨x,Z,H1,I1,r1,q1⟩
def ZQ (c:TT)(t u:TS):TS:=fun D Z H=>c Z H fun b H1=>if b=true then t D Z H1 else u D Z H1
theorem Uv {c:Expr}{a b:List Stmt}{tc:TT}(hc:PT X c tc)(ha:Jd X a t)(hb:Jd X b u):PS X (.If c a b pos) (ZQ tc t u):=by
 intro afG s Z H D I h;refine wpAny_If<|CV (hc afG s Z H _ I h) fun d s1 ⟨H1,I1,q1⟩=>?_
 cases d with
 | true=>exact ha afG s1 Z H1 D I1 q1
 | false=>exact hb afG s1 Z H1 D I1 q1
end
variable {te : TE}
abbrev TG:=V->St->Hp->(St->Hp->Prop)->Prop
abbrev O7:=List V->St->Hp->(St->Hp->Prop)->Prop
def PG (X:Cx)(target:Expr)(t:TG):Prop:=
 ∀ (afG:List (Addr×Obj)) (s:ZG) (Z : St) (H:Hp) (v:V) (u:Yk) (Q:St->Hp->Prop),AP X afG Z H s->RelV v u->t v Z H Q ->
  Al (Am X.prog X.w) X.A (assign target X.env u) (fun _ s'=>∃ Z' H',AP X afG Z' H' s'/\Q Z' H') X.xe s
def PX (X:Cx)(ts:List Expr)(t:O7):Prop:=
 ∀ (afG:List (Addr×Obj)) (s:ZG) (Z : St) (H:Hp) (vs:List V) (us:List Yk) (Q:St->Hp->Prop),AP X afG Z H s->Az vs us->t vs Z H Q ->
  Al (Am X.prog X.w) X.A (assignInOrder ((Ik ts X.env).map (·.2)) us) (fun _ s'=>∃ Z' H',AP X afG Z' H' s'/\Q Z' H') X.xe s
abbrev Om:=V->V->V->Hp->(Hp->Prop)->Prop
def VL (X:Cx)(t:Om):Prop:=
 ∀ (afG:List (Addr×Obj)) (s:ZG) (Z : St) (H:Hp) (o i v:V) (ov iv u:Yk) (Q:Hp->Prop),AP X afG Z H s->RelV o ov->RelV i iv->RelV v u->t o i v H Q ->
  Al (Am X.prog X.w) X.A (setItem ov iv u) (fun _ s'=>∃ H',AP X afG Z H' s'/\Q H') X.xe s
section
def Jy (i:Nat):TG:=fun v Z H Q=>Q (Z.set i (Mk v)) H
theorem bV {x:Str}(hN:X.N.Nodup)(hi:X.N[i]?=Mk x)(hx:Loc X.env.scope x)(hf:X.fn x=true\/X.env.scope.names.lookup x=Mk .local:=by first | exact .inl rfl | exact .inr rfl | assumption):PG X (.Name x pos) (Jy i):=by
 intro afG s Z H v u Q I r h;exact wpAny_assign_Name<|rN I hN hi hx r (fun s' I'=>⟨_,H,I',h⟩) hf
def Zf:O7:=fun vs Z H Q=>vs=[]/\Q Z H
def Yh (t:TG)(u:O7):O7:=fun vs Z H Q=>∃ v r,vs=v::r/\t v Z H fun Z' H'=>u r Z' H' Q
theorem Fo:PX X [] Zf:=by
 intro afG s Z H vs us Q I r h;obtain ⟨e,h⟩:=h;subst e;cases r;exact assignInOrder_nil ⟨Z,H,I,h⟩
theorem uo {es:List Expr}{t:TG}{u:O7}(h1:PG X e t)(h2:PX X es u)
  (hs:(Ik (e::es) X.env).map (·.2)=assign e X.env::(Ik es X.env).map (·.2):=by rfl):PX X (e::es) (Yh t u):=by
 intro afG s Z H vs us Q I r h;obtain ⟨v,vr,e1,h⟩:=h;subst e1;cases r with
 | cons r rr=>
  rw [hs];refine assignInOrder_cons<|CV (h1 afG s Z H _ _ _ I r h) fun _ s1 ⟨Z1,H1,I1,q1⟩=>?_
  exact h2 afG s1 Z1 H1 _ _ Q I1 rr q1
def ZX (K:Ar)(n:Nat)(t:O7):TG:=fun v Z H Q=>∃ a xs,v=.ref a/\Ed K H a xs/\xs.length=n/\t xs Z H Q
theorem aep {es:List Expr}{k:Nat}{t:O7}{n:Nat}(hc:X.calm=true)(h:PX X es t)
  (hn:(Ik es X.env).length=n:=by rfl) (hst:(Ik es X.env).findIdx? (·.1)=YK:=by rfl):PG X (.Tuple es k pos) (ZX X.K n t):=by
 intro afG s Z H v u Q I r hw;obtain ⟨a,xs,e1,hq,hl,hw⟩:=hw;subst e1;cases r;obtain ⟨its,rv,ht,hz⟩:=I.tuple hq;refine assign_Tuple_tuple (I.ok.hd hc) ht (by simp [hn,<-hl,rv.length]) hst fun h' hx=>?_;have I1:AP X afG Z H { s with heap:=h' }:=I.kept (t':=s.toks) fun b o e=>hx b o (Fw (CK e)) e
 exact h afG _ Z H xs _ Q I1 (by simpa using rv) hw
def aad (to ti:TE)(t:Om):TG:=fun v Z H Q=>to Z H fun o H1=>ti Z H1 fun i H2=>t o i v H2 fun H3=>Q Z H3
theorem Vf {o i:Expr}{to ti:TE}{t:Om}(ho:PE X o to)(hi:PE X i ti)(hs:VL X t)
  (ha:∀ v,assign (.Subscript o i pos) X.env v=(do
   let ov <-Ni [v] (eval o X.env)
   let iv <-Ni [v,ov] (eval i X.env)
   standAt pos
   Ni [v,ov,iv] (setItem ov iv v)
   release [v,ov,iv] []):=by intro _;rfl):PG X (.Subscript o i pos) (aad to ti t):=by
 intro afG s Z H v u Q I r h;rw [ha];refine Zi<|Im<|CV (ho afG s Z H _ I h) fun ov s1 ⟨x,H1,I1,r1,q1⟩=>?_
 refine Zi<|Im<|CV (hi afG s1 Z H1 _ I1 q1) fun iv s2 ⟨y,H2,I2,r2,q2⟩=>?_
 refine Zi<|wpAny_standAt<|Zi<|Im<|CV (hs afG s2 Z H2 x y v ov iv u _ I2 r1 r2 r q2) fun _ s3 ⟨H3,I3,q3⟩=>?_
 exact wpAny_release ⟨Z,H3,I3,q3⟩
def VF (te:TE)(g:TG):TS:=fun D Z H=>te Z H fun x H1=>g x Z H1 D.nx
theorem aeZ {tg:Expr}{g:TG}(he:PE X e te)(hg:PG X tg g)(hs:swapsWithSole [tg] e pos.line X.env=pure false:=by rfl)(hw:swappedStores [tg] e X.env=pure YK:=by rfl)
  (h1:(Ik [tg] X.env).map (·.2)=[assign tg X.env]:=by rfl):PS X (.Assign [tg] e pos) (VF te g):=by
 intro afG s Z H D I h;refine wpAny_Assign_stores (CV (he afG s Z H _ I h) fun v s1 ⟨x,H1,I1,r1,q1⟩=>?_) hs hw;rw [h1];exact CV (hg afG s1 Z H1 x v _ I1 r1 q1) fun _ s2 q=>q
theorem adL {x:Str}{pos':Pos}(hN:X.N.Nodup)(hi:X.N[i]?=Mk x)(hx:Loc X.env.scope x)(he:PE X e te)(hs:swapsWith e (Mk (.Name x pos')) pos.line X.env=pure false:=by rfl)(hf:X.fn x=true\/X.env.scope.names.lookup x=Mk .local:=by first | exact .inl rfl | exact .inr rfl | assumption):
  PS X (.Assign [.Name x pos'] e pos) (VF te (Jy i)):=by
 intro afG s Z H D I h;refine wpAny_Assign_Name (CV (he afG s Z H _ I h) fun v s1 ⟨y,H1,I1,r1,q1⟩=>?_) hs;exact rN I1 hN hi hx r1 (fun s2 I2=>⟨_,H1,I2,q1⟩) hf
end
variable {o tg : Expr}{es : List Expr}{k n : Nat}{pos' : Pos}
section
def Va (c:TT)(tb:TS):TS:=fun D Z H=>∃ W:Nat->St->Hp->Prop,(∃ m,W m Z H)/\∀ m Z H,W m Z H ->
 c Z H fun b H1=>if b=true then ∃ N:St->Hp->Prop,(∀ Z' H',N Z' H'->∃ m',m'<m/\W m' Z' H')/\tb { D with nx:=N,ct:=N,bk:=D.nx } Z H1 else D.nx Z H1
theorem abJ {c:Expr}{body:List Stmt}{tc:TT}{tb:TS}(hp:Ud (Am X.prog X.w) X.A X.env X.xe)(hc:PT X c tc)(hb:Jd X body tb):PS X (.While c body [] pos) (Va tc tb):=by
 intro afG s Z H D I h;obtain ⟨W,⟨m0,w0⟩,turn⟩:=h;refine wpAny_While<|codeAny_whileLoop (fun n s'=>∃ Z' H',AP X afG Z' H' s'/\W n Z' H') ?_ m0 ⟨Z,H,I,w0⟩
 rintro n s1 ⟨Z1,H1,I1,w1⟩;refine RG hp<|CV (hc afG s1 Z1 H1 _ I1<|turn n Z1 H1 w1) fun b s2 ⟨H2,I2,q2⟩=>?_
 cases b with
 | true=>
  obtain ⟨N,hN,q2⟩:=q2;rw [if_pos rfl];refine RG hp<|CV (hb afG s2 Z1 H2 _ I2 q2) fun f s3 q3=>?_
  cases f with
  | next=>
   obtain ⟨Z3,H3,I3,n3⟩:=q3;obtain ⟨m',hm,w3⟩:=hN Z3 H3 n3;exact ⟨m',hm,Z3,H3,I3,w3⟩
  | cont=>
   obtain ⟨Z3,H3,I3,n3⟩:=q3;obtain ⟨m',hm,w3⟩:=hN Z3 H3 n3;exact ⟨m',hm,Z3,H3,I3,w3⟩
  | brk=>exact q3
  | ret v=>exact q3
 | false=>
  rw [if_neg Hu];exact Sy ⟨Z1,H2,I2,q2⟩
end
variable {body : List Stmt}
theorem tH:entryFor table "proto.unchain" = Mk O6.«proto.unchain»:=entryFor_of_tree (by kernel_rfl)
def xX (A:Bx)(h:Heap):Prop:=∀ v,A.handled=Mk v->∃ (a:Addr) (o:Obj) (vs:Array Yk),v=.ref a/\h.get? a=Mk o/\o.data=.fields vs/\vs[2]?=Mk .none
theorem zak (q:Quiet A H)(x:HN P w H h):xX A h:=fun v e=>by
 obtain ⟨a,o,u,vs,h1,h2,h3,h4⟩:=q v e;exact ⟨a,o,vs,h1,(x a _ h2).1,h3,h4⟩
variable {prog : Bs}
theorem aaT {α : Type}{s:ZG}{e:Addr}{oe:Obj}{ws:Array Yk}{Q:α->ZG->Prop}(hq:xX A s.heap)(he:s.heap.get? e=Mk oe)(hd:oe.data=.fields ws)(hz:2<ws.size)(hne:∀ v,A.handled=Mk v->v≠.ref e)
  (h:∀ h',(∀ b,b≠e->h'.get? b=s.heap.get? b)->(∃ o',h'.get? e=Mk o'/\o'.cls=oe.cls)->E (.ref e) { s with heap:=h' }):Al (Am prog w) A (raiseNew (.ref e):Sem α) Q E s:=by
 unfold raiseNew;refine Zi<|wpAny_handled ?_
 cases hh:A.handled with
 | none=>
  dsimp only;refine Zi<|BP<|wpAny_throw ?_
  exact h s.heap (fun _ _=>rfl) ⟨oe,he,rfl⟩
 | some v=>
  obtain ⟨a,o,vs,rfl,ho,hdo,h2⟩:=hq v hh;dsimp only;have ne:(Value.ref a != Value.ref e)=true:=by
   have:=hne _ hh
   simp only [bne_iff_ne,ne_eq];exact this
  rw [if_pos ne];refine Zi<|Im<|wpAny_runValue<|Ov tH ?_
  unfold O6.«proto.unchain»;dsimp only;refine Zi<|Ig ho hdo h2 ?_
  rw [if_pos (show (Value.none==Value.none)=true from rfl)];refine Zi<|BP<|BP ?_
  dsimp only;refine Zi ?_;unfold updateField;refine Zi<|wpAny_load he ?_
  rw [hd];dsimp only;rw [if_pos hz];refine wpAny_update he<|wpAny_throw ?_
  have hd3:=Og hd (·.setIfInBounds 2 (Value.ref a));exact h _ (fun b hb=>Ln _ _<|Hf hb) ⟨_,PN _ he<|Qd hd3,Obj.cls_mapFields _ _⟩
theorem zam {s:ZG}{it:Addr}{x left step:Int}{Q:Option Yk->ZG->Prop}(hh:xX A s.heap)(hit:IsRangeIter s.heap it x left step)(hleft:left<=0)
  (hQ:∀ h',Rf it s.heap h'->Q YK { s with heap:=h' }):Al (Am prog w) A (Jo (.ref it)) Q E s:=by
 have hT:s.TypeIs (.ref it) "range_iterator":=⟨_,hit,rfl⟩
 unfold Jo;refine Zi (QG (QC (name:=Oa "__next__") hT F.slot_range_iterator_next
  (Nq F.slot_range_iterator_next hT F.entry_range_iterator_next ?_ (F.args_range_iterator_next_1 _))))
 show Al _ _ (field (.ref it) 0 >>= _) _ _ s;refine Zi<|Ig hit rfl (x:=JT x) rfl ?_
 show Al _ _ (field (.ref it) 1 >>= _) _ _ s;refine Zi<|Ig hit rfl (x:=JT left) rfl ?_
 show Al _ _ (field (.ref it) 2 >>= _) _ _ s;refine Zi<|Ig hit rfl (x:=JT step) rfl ?_
 show Al _ _ (if left<=0 then _ else _) _ _ s;rw [if_pos hleft];refine Zi<|LR ?_
 refine Zi ?_;show Al _ _ (newExc (.type "StopIteration") [] >>= _) _ _ _;refine Zi ?_;simp only [newExc,newTuple];refine Zi<|Js ?_<|by size_fits
 refine Zi (m:=Ru _ _)<|wpAny_of_eq (a:=Value.none) (by first | rfl | (simp only [Ru];rfl)) ?_
 refine Js ?_<|by size_fits
 refine aaT (A:=A.in1) (fun v e=>?_) (Ej _ rfl) rfl (by simp;lia) (fun v e=>?_) fun h' h1 ⟨o',h2,h3⟩=>?_
 ·obtain ⟨a,o,vs,r1,r2,r3⟩:=hh v e;exact ⟨a,o,vs,r1,CT _<|CT _ r2,r3⟩
 ·obtain ⟨a,o,vs,r1,r2,r3⟩:=hh v e;rw [r1];intro q;have q:a=_:=Value.ref.inj q;have:=CK r2
  rw [q] at this;exact absurd this<|Nat.not_lt.mpr<|by simp [Heap.push]
 refine Zi<|wpAny_isInstance (T := "StopIteration") (b:=true) ⟨_,h2,h3⟩ isSubtype_stop ?_
 refine BP<|hQ _ fun b o hb e=>?_
 rw [h1 b ?_]
 ·exact CT _<|CT _ e
 ·have:=CK e
  exact Fw<|Ep this<|by simp [Heap.push]
structure It where
 go:Nat->Hp->Prop
 yld:Nat->Hp->V->Hp->Prop
 stop:Nat->Hp->Prop
 cm:Bool
def Cj (X:Cx)(afG:List (Addr×Obj))(H:Hp)(b:Addr):Prop:=
 H b=YK/\b≠X.env.locals/\b∉X.fs/\(b∈X.ex\/X.s₀.heap.objs.size<=b)/\(∀ x c,X.env.cells.lookup x=Mk c->c≠b)/\∀ p∈X.pn++afG,p.1≠b
theorem AP.fpOk {s:ZG}{b:Addr}(I:AP X afG Z H s)(hb:s.heap.objs.size<=b)(hn:H' b=YK):Cj X afG H' b:=by
 refine ⟨hn,IW<|Ep I.lt hb,I.nofs hb,.inr<|Cg I.sz hb,fun x c e z=>?_,fun p hp z=>?_⟩
 ·obtain ⟨v,q⟩:=I.cell x c e;exact absurd (Ep q.lt (by rw [z];exact hb))<|M4 _
 ·exact absurd (Ep (CK (I.pin p hp).1) (by rw [z];exact hb))<|M4 _
structure Turn (P:Bs) (w:Bh) (K:Ar) (tg:Expr) (J:It) (fp:List Addr) (it:Addr) (tn:Nat->Heap->Prop):Prop where
 mem:it∈fp
 obj:∀ i h,tn i h->∀ b∈fp,∃ o,h.get? b=Mk o/\∀ v,o.data≠.cell v
 keep:∀ i h h',tn i h->(∀ b∈fp,∀ o,h.get? b=Mk o->h'.get? b=Mk o)->tn i h'
 item:∀ (X:Cx),X.prog=P->X.w=w->X.K=K->(J.cm=true->X.calm=true)->∀ (i:Nat) (afG:List (Addr×Obj)) (s:ZG) (Z : St) (H:Hp) (E:Yk->ZG->Prop),AP X afG Z H s->(∀ b∈fp,Cj X afG H b)->tn i s.heap->J.go i H ->
  Al (Am P w) X.A (Jo (.ref it)) (fun r s1=>∃ u,r=Mk u /\
   Al (Am P w) X.A (letOwnedTupleGo tg (.ref it) u) (fun _ s2=>∃ x H',AP X afG Z H' s2/\RelV x u/\J.yld i H x H'/\tn (i+1) s2.heap/\∀ b∈fp,H' b=YK) E s1) E s
 done:∀ (X:Cx),X.prog=P->X.w=w->X.K=K->(J.cm=true->X.calm=true)->∀ (i:Nat) (afG:List (Addr×Obj)) (s:ZG) (Z : St) (H:Hp) (E:Yk->ZG->Prop),AP X afG Z H s->(∀ b∈fp,Cj X afG H b)->tn i s.heap->J.stop i H ->
  Al (Am P w) X.A (Jo (.ref it)) (fun r s1=>r=YK/\AP X afG Z H s1) E s
 self:∀ (A:Bx) (i:Nat) (s:ZG) (Q:Yk->ZG->Prop) (E:Yk->ZG->Prop),tn i s.heap->Q (.ref it) s->Al (Am P w) A (pyIter (.ref it)) Q E s
abbrev TI:=St->Hp->(It->Hp->Prop)->Prop
def PIE (X:Cx)(afG:List (Addr×Obj))(Z : St)(tg:Expr)(R:It->Hp->Prop)(itv:Yk)(s2:ZG):Prop:=
 ∃ (it:Addr) (fp:List Addr) (tn:Nat->Heap->Prop) (J:It) (H':Hp),itv=.ref it/\AP X afG Z H' s2/\Turn X.prog X.w X.K tg J fp it tn/\tn 0 s2.heap/\(∀ b∈fp,Cj X afG H' b)/\R J H'
def PI (X:Cx)(tg iter:Expr)(wi:TI):Prop:=
 ∀ (afG:List (Addr×Obj)) (s:ZG) (Z : St) (H:Hp) (R:It->Hp->Prop),AP X afG Z H s->wi Z H R ->
  Al (Am X.prog X.w) X.A (eval iter X.env) (fun v s1=>Al (Am X.prog X.w) X.A (pyIter v) (PIE X afG Z tg R) X.xe s1) X.xe s
theorem Mj {s:ZG}{it:Addr}{o:Obj}{n:String}{vs:Array Yk}{Q:Unit->ZG->Prop}(ho:s.heap.get? it=Mk o)(hc:o.cls=.type n)(hd:o.data=.fields vs)
    (hn:["enumerate", "zip", "dict_itemiterator", "dict_reverseitemiterator", "odict_iterator", "itertools.zip_longest", "itertools.pairwise"].contains n=false) (hQ:Q () s):Al M A (letOwnedTupleGo tg (.ref it) u) Q E s:=by
  unfold letOwnedTupleGo;cases tg <;> first
    | exact BP hQ
    | (cases u <;> first
        | exact BP hQ
        | (refine Zi (wpAny_load ho ?_)
           rw [hc,hd];show Al M A (if (["enumerate", "zip", "dict_itemiterator", "dict_reverseitemiterator", "odict_iterator", "itertools.zip_longest", "itertools.pairwise"].contains n&&vs[0]?==Mk (JT _))=true then _ else _) Q E s;rw [if_neg (by intro h;rw [hn,Bool.false_and] at h;cases h)];exact BP hQ))
def Itl (K:Ar)(a:Addr):It:=
 ⟨fun i H=>∃ xs x,GK K H a xs/\xs[i]?=Mk x,fun i H x H'=>H'=H/\∀ xs,GK K H a xs->xs[i]?=Mk x,fun i H=>∃ xs,GK K H a xs/\xs.length<=i,true⟩
def Itt (K:Ar)(a:Addr):It:=
 ⟨fun i H=>∃ xs x,Ed K H a xs/\xs[i]?=Mk x,fun i H x H'=>H'=H/\∀ xs,Ed K H a xs->xs[i]?=Mk x,fun i H=>∃ xs,Ed K H a xs/\xs.length<=i,true⟩
def Itr (lo:Int)(n:Nat):It:=⟨fun i _=>i<n,fun i H x H'=>H'=H/\x=.int (lo+i),fun i _=>n<=i,false⟩
theorem zan (a it:Addr):Turn P w K tg (Itl K a) [it] it (fun i h=>h.IsListIter it a i) where
 mem:=by simp
 obj:=fun i h st b hb=>by
  have e:b=it:=by simpa using hb
  subst e;obtain ⟨o,e,c,d⟩:=st;exact ⟨o,e,fun v z=>by rw [d] at z;cases z⟩
 keep:=fun i h h' st k=>st.at fun o e=>k it (by simp) o e
 item:=by
  intro X hP hw hK hc i afG s Z H E I hf st hg;subst hP hw hK;obtain ⟨xs,x,hq,hx⟩:=hg;obtain ⟨its,rv,p,hz⟩:=I.list hq;obtain ⟨u,hu,ru⟩:=rv.get hx;obtain ⟨f0,f1,f2,f3,f4,f5⟩:=hf it (by simp);refine wpAny_pyNext_list_item st p.isList (x:=u) (by simpa using hu) fun h' st' sb=>?_;have I1:AP X afG Z H { s with heap:=h' }:=I.turned (t':=s.toks) (fun b o hb e=>(sb.2 b hb).trans e) f0 f1 f3 f4 f5;obtain ⟨o,e,c,d⟩:=id st';exact ⟨u,rfl,Mj (s:={ s with heap:=h' }) e c d (by decide) ⟨x,H,I1,ru,⟨rfl,fun ys hy=>by rw [I.list_inj hy hq];exact hx⟩,st',fun b hb=>(hf b hb).1⟩⟩
 done:=by
  intro X hP hw hK hc i afG s Z H E I hf st hg;subst hP hw hK;obtain ⟨xs,hq,hx⟩:=hg;obtain ⟨its,rv,p,hz⟩:=I.list hq;obtain ⟨f0,f1,f2,f3,f4,f5⟩:=hf it (by simp);have hl:=rv.length;exact wpAny_pyNext_list_end (I.ok.hd<|hc rfl) st p.isList (by simp;lia) fun h' eb=>⟨rfl,I.turned (t':=s.toks) (fun b o hb e=>eb b o hb e) f0 f1 f3 f4 f5⟩
 self:=fun _ _ _ _ _ st h=>wpAny_pyIter_listiter st h
theorem zai (a it:Addr):Turn P w K tg (Itt K a) [it] it (fun i h=>h.IsTupleIter it a i) where
 mem:=by simp
 obj:=fun i h st b hb=>by
  have e:b=it:=by simpa using hb
  subst e;obtain ⟨o,e,c,d⟩:=st;exact ⟨o,e,fun v z=>by rw [d] at z;cases z⟩
 keep:=fun i h h' st k=>st.at fun o e=>k it (by simp) o e
 item:=by
  intro X hP hw hK hc i afG s Z H E I hf st hg;subst hP hw hK;obtain ⟨xs,x,hq,hx⟩:=hg;obtain ⟨its,rv,p,hz⟩:=I.tuple hq;obtain ⟨u,hu,ru⟩:=rv.get hx;obtain ⟨f0,f1,f2,f3,f4,f5⟩:=hf it (by simp);refine wpAny_pyNext_tuple_item st (show s.heap.IsTuple a its.toArray from p) (x:=u) (by simpa using hu) fun h' st' sb=>?_;have I1:AP X afG Z H { s with heap:=h' }:=I.turned (t':=s.toks) (fun b o hb e=>(sb.2 b hb).trans e) f0 f1 f3 f4 f5;obtain ⟨o,e,c,d⟩:=id st';exact ⟨u,rfl,Mj (s:={ s with heap:=h' }) e c d (by decide) ⟨x,H,I1,ru,⟨rfl,fun ys hy=>by rw [I.tuple_inj hy hq];exact hx⟩,st',fun b hb=>(hf b hb).1⟩⟩
 done:=by
  intro X hP hw hK hc i afG s Z H E I hf st hg;subst hP hw hK;obtain ⟨xs,hq,hx⟩:=hg;obtain ⟨its,rv,p,hz⟩:=I.tuple hq;obtain ⟨f0,f1,f2,f3,f4,f5⟩:=hf it (by simp);have hl:=rv.length;exact wpAny_pyNext_tuple_end (I.ok.hd<|hc rfl) st (show s.heap.IsTuple a its.toArray from p) (by simp;lia) fun h' eb=>⟨rfl,I.turned (t':=s.toks) (fun b o hb e=>eb b o hb e) f0 f1 f3 f4 f5⟩
 self:=fun _ _ _ _ _ st h=>wpAny_pyIter_tupleiter st h
theorem aag (it:Addr)(lo:Int)(n:Nat):Turn P w K tg (Itr lo n) [it] it (fun i h=>IsRangeIter h it (lo+(i:Nat)*1) ((n:Int) - (i:Nat)) 1) where
 mem:=by simp
 obj:=fun i h st b hb=>by
  have e:b=it:=by simpa using hb
  subst e;exact ⟨_,st,fun v z=>by
   have z':Data.fields _=Data.cell v:=z;cases z'⟩
 keep:=fun i h h' st k=>k it (by simp) _ st
 item:=by
  intro X hP hw hK hc i afG s Z H E I hf st hg;subst hP hw hK;obtain ⟨f0,f1,f2,f3,f4,f5⟩:=hf it (by simp);refine wpAny_pyNext_range_item st (by have:i<n:=hg;lia) fun h' st' kk=>?_;have I1:AP X afG Z H { s with heap:=h',toks:=s.toks+1 }:=I.turned (fun b o hb e=>(kk.2 b hb).trans e) f0 f1 f3 f4 f5;have st2:IsRangeIter h' it (lo+((i+1:Nat):Int)*1) ((n:Int) - ((i+1:Nat):Int)) 1:=by
   have e1:lo+((i+1:Nat):Int)*1=lo+((i:Nat):Int)*1+1:=by lia
   have e2:(n:Int) - ((i+1:Nat):Int)=(n:Int) - ((i:Nat):Int) - 1:=by lia
   rw [e1,e2];exact st'
  refine ⟨_,rfl,Mj (s:={ s with heap:=h',toks:=s.toks+1 }) (n := "range_iterator") st' rfl rfl (by decide) ⟨.int<|lo+i,H,I1,⟨s.toks,?_⟩,⟨rfl,rfl⟩,st2,fun b hb=>(hf b hb).1⟩⟩;rw [Int.mul_one]
 done:=by
  intro X hP hw hK hc i afG s Z H E I hf st hg;subst hP hw hK;obtain ⟨f0,f1,f2,f3,f4,f5⟩:=hf it (by simp);exact zam (zak I.qt0 I.hok) st (by have:n<=i:=hg;lia) fun h' eb=>⟨rfl,I.turned (t':=s.toks) (fun b o hb e=>eb b o hb e) f0 f1 f3 f4 f5⟩
 self:=fun _ _ _ _ _ st h=>wpAny_pyIter_rangeiter st h
section
theorem zaJ {s:ZG}{R:It->Hp->Prop}{lo hi:Int}{t u v:Tok}{tk:Nat}(I:AP X afG Z H s)(h1:-(2^62)<=lo)(h2:lo<2^62)(h3:-(2^62)<=hi)(h4:hi<2^62)
  (q:R (Itr lo (hi - lo).toNat) H):Al (Am X.prog X.w) X.A (pyIter (.ref s.heap.objs.size)) (PIE X afG Z tg R) E { s with heap:=s.heap.push { cls:=.type "range",data:=.fields #[.int lo t,.int hi u,.int 1 v] },toks:=tk }:=by
 refine wpAny_pyIter_range (IsRange.new ..) (small_one h1 h2 h3 h4) ?_;have I1:AP X afG Z H { s with heap:=s.heap.push { cls:=.type "range",data:=.fields #[.int lo t,.int hi u,.int 1 v] },toks:=tk }:=I.kept fun b o e=>CT _ e
 refine ⟨(s.heap.push { cls:=.type "range",data:=.fields #[.int lo t,.int hi u,.int 1 v] }).objs.size,[(s.heap.push { cls:=.type "range",data:=.fields #[.int lo t,.int hi u,.int 1 v] }).objs.size],_,_,H,rfl,
  I1.kept (t':=tk) fun b o e=>CT _ e,aag _ lo (hi - lo).toNat,?_,fun b hb=>?_,q⟩
 ·have e1:lo+((0:Nat):Int)*1=lo:=by simp
  have e2:(((hi - lo).toNat:Nat):Int) - ((0:Nat):Int)=Builtin.Range.rangeSize lo hi 1:=by rw [rangeSize_one];split <;> lia
  show IsRangeIter _ _ (lo+((0:Nat):Int)*1) ((((hi - lo).toNat:Nat):Int) - ((0:Nat):Int)) 1;rw [e1,e2];exact Ej _ rfl
 ·have e:b=(s.heap.push { cls:=.type "range",data:=.fields #[.int lo t,.int hi u,.int 1 v] }).objs.size:=by simpa using hb
  subst e;exact I1.fpOk (Bp _)<|I1.hok.fresh<|Bp _
def W8 (ta:TA):TI:=fun Z H R=>ta Z H fun vs H1=>∃ j:Int,vs=[.int j]/\-(2^62)<=j/\j<2^62/\R (Itr 0 j.toNat) H1
theorem aaj {a:Expr}{ta:TA}{p:Pos}(hg:Gl X "range")(hm:X.mg "range" = YK)(ha:PA X [a] ta)(hs:Bo [a] X.env=[(false,eval a X.env)]:=by rfl):PI X tg (.Call (.Name "range" p) [a] [] pos) (W8 ta):=by
 intro afG s Z H R I h;refine Call_<|pN I hg hm boot_range<|TK (CV (ha pos afG s Z H _ I h) fun us s1 ⟨vs,H1,I1,r1,q1⟩=>?_) hs rfl
 obtain ⟨j,e,q1,q2,q⟩:=q1;subst e;cases r1 with
 | cons r rr=>
  cases rr;obtain ⟨t,rfl⟩:=r;exact call_range_1<|zaJ I1 (by lia) (by lia) q1 q2<|by simpa using q
def ZP (wi:TI)(g:TG)(tb:TS):TS:=fun D Z H=>wi Z H fun J H1=>∃ W:Nat->Nat->St->Hp->Prop,(∃ m,W 0 m Z H1)/\∀ i m Z H,W i m Z H ->
 (J.stop i H/\D.nx Z H)\/(J.go i H/\∃ N:St->Hp->Prop,(∀ Z' H',N Z' H'->∃ m',m'<m/\W (i+1) m' Z' H')/\∀ x H',J.yld i H x H'->g x Z H' fun Z2 H2=>tb { D with nx:=N,ct:=N,bk:=D.nx } Z2 H2)
def vH (fp:List Addr)(h:Heap):List (Addr×Obj):=fp.filterMap fun b=>(h.get? b).map fun o=>(b,o)
theorem iQ {fp:List Addr}{b:Addr}{o:Obj}(hb:b∈fp)(e:h.get? b=Mk o):(b,o)∈vH fp h:=List.mem_filterMap.mpr ⟨b,hb,by rw [e];rfl⟩
theorem zax {fp:List Addr}{p:Addr×Obj}(hp:p∈vH fp h):p.1∈fp/\h.get? p.1=Mk p.2:=by
 obtain ⟨b,hb,e⟩:=List.mem_filterMap.mp hp;cases q:h.get? b with
 | none=>rw [q] at e;cases e
 | some o=>
  rw [q] at e;have e':(b,o)=p:=Eb e;subst e';exact ⟨hb,q⟩
theorem AP.pinned {s:ZG}{fp:List Addr}(I:AP X afG Z H s)(hf:∀ b∈fp,Cj X afG H b)(ho:∀ b∈fp,∃ o,s.heap.get? b=Mk o/\∀ v,o.data≠.cell v):AP X (afG++vH fp s.heap) Z H s:=
 I.pins_of fun p hp=>(Jr.mp hp).elim (fun z=>I.pin p (Mv _ z)) fun z=>by
  obtain ⟨hb,e⟩:=zax z;obtain ⟨f0,f1,f2,_⟩:=hf p.1 hb;obtain ⟨o,e',d⟩:=ho p.1 hb;rw [e] at e';cases e';exact ⟨e,f0,f1,f2,d⟩
theorem AP.unpinned {pl:List (Addr×Obj)}{s:ZG}(I:AP X (afG++pl) Z H s):AP X afG Z H s:=I.pins_of fun p hp=>I.pin p (Mv _ (Jc _ hp))
theorem adS {iter:Expr}{wi:TI}{g:TG}{tb:TS}(hp:Ud (Am X.prog X.w) X.A X.env X.xe)(hc:X.calm=true)(hi:PI X tg iter wi)(hg:PG X tg g)(hb:Jd X body tb)
  (hs:∀ x,foldedSetIterable iter X.env x=pure x:=by intro _;rfl):PS X (.For tg iter body [] pos) (ZP wi g tb):=by
 intro afG s Z H D I h;refine wpAny_For (CV (hi afG s Z H _ I h) fun v s1 h1=>CV h1 fun itv s2 h2=>?_) hs;obtain ⟨it,fp,tn,J,H2,e,I2,T,st2,f2,W,⟨m0,w0⟩,turn⟩:=h2;subst e
 -- what stays true of the iterator's objects through the loop
 have stat:∀ {H':Hp},(∀ b∈fp,H' b=YK)->∀ b∈fp,Cj X afG H' b:=fun hn b hb=>⟨hn b hb,(f2 b hb).2⟩
 refine codeAny_forLoop_any (fun n s'=>∃ i Z' H',AP X afG Z' H' s'/\tn i s'.heap/\(∀ b∈fp,H' b=YK)/\W i n Z' H') ?_ m0 ⟨0,Z,H2,I2,st2,fun b hb=>(f2 b hb).1,w0⟩;rintro n s3 ⟨i,Z3,H3,I3,st3,fr3,w3⟩;rcases turn i n Z3 H3 w3 with ⟨stop,qn⟩ | ⟨go,N,hN,step⟩
 ·refine RG hp<|CV (T.done X rfl rfl rfl (fun _=>hc) i afG s3 Z3 H3 X.xe I3 (stat fr3) st3 stop) fun r s4 ⟨hr,I4⟩=>?_
  subst hr;exact Sy ⟨Z3,H3,I4,qn⟩
 ·refine RG hp<|CV (T.item X rfl rfl rfl (fun _=>hc) i afG s3 Z3 H3 X.xe I3 (stat fr3) st3 go) fun r s4 ⟨u,hr,h4⟩=>?_
  subst hr;refine RG hp<|CV h4 fun _ s5 ⟨x,H5,I5,r5,y5,st5,fr5⟩=>?_
  have I5':=I5.pinned (stat fr5) (T.obj _ _ st5);refine RG hp<|CV (hg _ s5 Z3 H5 x u _ I5' r5<|step x H5 y5) fun _ s6 ⟨Z6,H6,I6,q6⟩=>?_
  refine RG hp<|CV (hb _ s6 Z6 H6 _ I6 q6) fun f s7 q7=>?_
  have again:∀ {Z7:St} {H7:Hp},AP X (afG++vH fp s5.heap) Z7 H7 s7->N Z7 H7->∃ m,m<n/\∃ i Z' H',AP X afG Z' H' s7/\tn i s7.heap/\(∀ b∈fp,H' b=YK)/\W i m Z' H':=fun {Z7 H7} I7 n7=>by
   obtain ⟨m',hm,w7⟩:=hN Z7 H7 n7;refine ⟨m',hm,i+1,Z7,H7,I7.unpinned,T.keep _ _ _ st5 fun b hb o e=>(I7.pin (b,o)<|Mv _<|Mv _<|iQ hb e).1,fun b hb=>?_,w7⟩;obtain ⟨o,e,d⟩:=T.obj _ _ st5 b hb;exact (I7.pin (b,o)<|Mv _<|Mv _<|iQ hb e).2.1
  cases f with
  | next=>obtain ⟨Z7,H7,I7,n7⟩:=q7;exact again I7 n7
  | cont=>obtain ⟨Z7,H7,I7,n7⟩:=q7;exact again I7 n7
  | brk=>obtain ⟨Z7,H7,I7,q7⟩:=q7;exact ⟨Z7,H7,I7.unpinned,q7⟩
  | ret v=>obtain ⟨x7,Z7,H7,I7,r7,q7⟩:=q7;exact ⟨x7,Z7,H7,I7.unpinned,r7,q7⟩
end
theorem pC {a:Addr}{g:TG}{tb:TS}(Pv:Nat->St->Hp->Prop)(h0:Pv 0 Z H)(hl:∀ i Z H,i<=xs.length->Pv i Z H->Ed K H a xs)
  (hs:∀ i x Z H,xs[i]?=Mk x->Pv i Z H->g x Z H fun Z2 H2=>tb { D with nx:=Pv (i+1),ct:=Pv (i+1),bk:=D.nx } Z2 H2) (hd:∀ Z H,Pv xs.length Z H->D.nx Z H) :
  ∃ W:Nat->Nat->St->Hp->Prop,(∃ m,W 0 m Z H)/\∀ i m Z H,W i m Z H ->
   ((Itt K a).stop i H/\D.nx Z H)\/((Itt K a).go i H/\∃ N:St->Hp->Prop,(∀ Z' H',N Z' H'->∃ m',m'<m/\W (i+1) m' Z' H')/\∀ x H',(Itt K a).yld i H x H'->g x Z H' fun Z2 H2=>tb { D with nx:=N,ct:=N,bk:=D.nx } Z2 H2):=by
 refine ⟨fun i m Z H=>m=xs.length - i/\i<=xs.length/\Pv i Z H,⟨xs.length,by simp,IK _,h0⟩,?_⟩;rintro i m Z H ⟨rfl,hi,p⟩;have q:=hl i Z H hi p;by_cases hlt:i<xs.length
 ·refine .inr ⟨⟨xs,xs[i],q,by simp [hlt]⟩,Pv<|i+1,fun Z' H' p'=>⟨xs.length - (i+1),by lia,rfl,hlt,p'⟩,fun x H' y=>?_⟩;obtain ⟨e,y⟩:=y;subst e;exact hs i x Z _ (y xs q) p
 ·have e:i=xs.length:=by lia
  subst e;exact .inl ⟨⟨xs,q,Bp _⟩,hd Z H p⟩
abbrev R2:=V->V->Hp->VK->Prop
def HJ (X:Cx)(f:Yk->Yk->Sem Yk)(r:R2):Prop:=
 ∀ (afG:List (Addr×Obj)) (s:ZG) (Z : St) (H:Hp) (x y:V) (v u:Yk) (Q:VK),AP X afG Z H s->RelV x v->RelV y u->r x y H Q ->
  Al (Am X.prog X.w) X.A (f v u) (EP X afG Z Q) X.xe s
def UnR (X:Cx)(f:Yk->Sem Yk)(r:V->Hp->VK->Prop):Prop:=
 ∀ (afG:List (Addr×Obj)) (s:ZG) (Z : St) (H:Hp) (x:V) (v:Yk) (Q:VK),AP X afG Z H s->RelV x v->r x H Q ->
  Al (Am X.prog X.w) X.A (f v) (EP X afG Z Q) X.xe s
def jo (X:Cx)(f:Yk)(r:List V->Hp->VK->Prop):Prop:=
 ∀ (afG:List (Addr×Obj)) (s:ZG) (Z : St) (H:Hp) (xs:List V) (us:List Yk) (Q:VK),AP X afG Z H s->Az xs us->r xs H Q ->
  Al (Am X.prog X.w) X.A (call f us) (EP X afG Z Q) X.xe s
def ZW (X:Cx)(r:V->Hp->(Bool->Hp->Prop)->Prop):Prop:=
 ∀ (afG:List (Addr×Obj)) (s:ZG) (Z : St) (H:Hp) (x:V) (v:Yk) (Q:Bool->Hp->Prop),AP X afG Z H s->RelV x v->r x H Q ->
  Al (Am X.prog X.w) X.A (truthy v) (TP X afG Z Q) X.xe s
def tOp (r:R2)(ta tb:TE):TE:=fun Z H Q=>ta Z H fun x H1=>tb Z H1 fun y H2=>r x y H2 Q
def tUn (r:V->Hp->VK->Prop)(ta:TE):TE:=fun Z H Q=>ta Z H fun x H1=>r x H1 Q
def rI (C:Int->Int->Prop)(g:Int->Int->V):R2:=fun x y H Q=>∃ i j,x=.int i/\y=.int j/\C i j/\Q (g i j) H
def rI0 (g:Int->Int->V):R2:=fun x y H Q=>∃ i j,x=.int i/\y=.int j/\Q (g i j) H
def rU (g:Int->V):V->Hp->VK->Prop:=fun x H Q=>∃ i,x=.int i/\Q (g i) H
section
variable {a b c:Expr}{tb tc:TE}
theorem W2 (ha:PE X a ta)(hb:PE X b tb){s:ZG}{R:V->V->Hp->Prop}(I:AP X afG Z H s)
  (h:ta Z H fun x H1=>tb Z H1 fun y H2=>R x y H2) {Q:Yk->ZG->Prop} {f:Yk->Yk->Sem Yk}
  (hf:∀ v u s2 x y H2,AP X afG Z H2 s2->RelV x v->RelV y u->R x y H2->Al (Am X.prog X.w) X.A (f v u) Q X.xe s2) :
  Al (Am X.prog X.w) X.A (eval a X.env) (fun v s₁=>Al (Am X.prog X.w) X.A (eval b X.env) (fun u s₂=>Al (Am X.prog X.w) X.A (f v u) Q X.xe s₂) X.xe s₁) X.xe s:=by
 refine CV (ha afG s Z H _ I h) fun v s1 ⟨x,H1,I1,r1,q1⟩=>?_;refine CV (hb afG s1 Z H1 _ I1 q1) fun u s2 ⟨y,H2,I2,r2,q2⟩=>?_;exact hf v u s2 x y H2 I2 r1 r2 q2
theorem Xq {op:Operator}{r:R2}(ho:HJ X (Iu op) r)(ha:PE X a ta)(hb:PE X b tb):PE X (.BinOp a op b pos) (tOp r ta tb):=by
 intro afG s Z H Q I h;exact wpAny_BinOp<|W2 ha hb I h fun v u s2 x y H2 I2 rx ry q=>ho afG s2 Z H2 x y v u Q I2 rx ry q
theorem V4 {op:UnaryOp}{r:V->Hp->VK->Prop}(ho:UnR X (unaryOp op) r)(ha:PE X a ta):PE X (.UnaryOp op a pos) (tUn r ta):=by
 intro afG s Z H Q I h;exact UnaryOp_<|CV (ha afG s Z H _ I h) fun v s1 ⟨x,H1,I1,r1,q1⟩=>ho afG s1 Z H1 x v Q I1 r1 q1
theorem opI {f:Yk->Yk->Sem Yk}{C:Int->Int->Prop}{g:Int->Int->Int}
  (rule:∀ (i j:Int) (t u:Tok) (s:ZG) (Q:Yk->ZG->Prop) (E:Yk->ZG->Prop),C i j->Q (.int (g i j) s.toks) { s with toks:=s.toks+1 }->Al (Am X.prog X.w) X.A (f (.int i t) (.int j u)) Q E s) :
  HJ X f (rI C fun i j=>.int (g i j)):=by
 intro afG s Z H x y v u Q I rx ry h;obtain ⟨i,j,rfl,rfl,hc,q⟩:=h;obtain ⟨t,rfl⟩:=rx;obtain ⟨t',rfl⟩:=ry;exact rule i j t t' s _ _ hc ⟨.int<|g i j,H,I.tok _,⟨_,rfl⟩,q⟩
theorem YX {f:Yk->Yk->Sem Yk}{g:Int->Int->Int}
  (rule:∀ (i j:Int) (t u:Tok) (s:ZG) (Q:Yk->ZG->Prop) (E:Yk->ZG->Prop),Q (.int (g i j) s.toks) { s with toks:=s.toks+1 }->Al (Am X.prog X.w) X.A (f (.int i t) (.int j u)) Q E s) :
  HJ X f (rI0 fun i j=>.int (g i j)):=by
 intro afG s Z H x y v u Q I rx ry h;obtain ⟨i,j,rfl,rfl,q⟩:=h;obtain ⟨t,rfl⟩:=rx;obtain ⟨t',rfl⟩:=ry;exact rule i j t t' s _ _ ⟨.int<|g i j,H,I.tok _,⟨_,rfl⟩,q⟩
theorem YF {f:Yk->Yk->Sem Yk}{g:Int->Int->Bool}
  (rule:∀ (i j:Int) (t u:Tok) (s:ZG) (Q:Yk->ZG->Prop) (E:Yk->ZG->Prop),Q (.bool (g i j)) s->Al (Am X.prog X.w) X.A (f (.int i t) (.int j u)) Q E s) :
  HJ X f (rI0 fun i j=>.bl (g i j)):=by
 intro afG s Z H x y v u Q I rx ry h;obtain ⟨i,j,rfl,rfl,q⟩:=h;obtain ⟨t,rfl⟩:=rx;obtain ⟨t',rfl⟩:=ry;exact rule i j t t' s _ _ ⟨.bl<|g i j,H,I,rfl,q⟩
def Xa (i j:Int):Prop:=0<=j/\j<=1000000/\i.natAbs<2^64
theorem Vn:HJ X (Iu .Add) (rI0 fun i j=>.int (i+j)):=YX fun _ _ _ _ _ _ _ q=>add_int q
theorem aeS:HJ X (Iu .Sub) (rI0 fun i j=>.int (i - j)):=YX fun _ _ _ _ _ _ _ q=>sub_int q
theorem acy:HJ X (Iu .Mod) (rI (fun _ j=>j≠0) fun i j=>.int (i.fmod j)):=opI fun _ _ _ _ _ _ _ hc q=>mod_int' hc q
theorem Uu:HJ X (Iu .Pow) (rI Xa fun i j=>.int (i^j.toNat)):=opI fun _ _ _ _ _ _ _ hc q=>pow_int_small hc.1 hc.2.1 hc.2.2 q
theorem unI {f:Yk->Sem Yk}{g:Int->Int}
  (rule:∀ (i:Int) (t:Tok) (s:ZG) (Q:Yk->ZG->Prop) (E:Yk->ZG->Prop),Q (.int (g i) s.toks) { s with toks:=s.toks+1 }->Al (Am X.prog X.w) X.A (f (.int i t)) Q E s) :
  UnR X f (rU fun i=>.int (g i)):=by
 intro afG s Z H x v Q I rx h;obtain ⟨i,rfl,q⟩:=h;obtain ⟨t,rfl⟩:=rx;exact rule i t s _ _ ⟨.int<|g i,H,I.tok _,⟨_,rfl⟩,q⟩
theorem aeL:UnR X (unaryOp .USub) (rU fun i=>.int (-i)):=unI fun _ _ _ _ _ q=>neg_int q
theorem qY {s:ZG}{Q:VK}{k k':Bool}(I:AP X afG Z H s)(q:Q (.bl k) H)(e:k=k'):EP X afG Z Q (.bool k') s:=by
 subst e;exact ⟨.bl k,H,I,rfl,q⟩
theorem XR:HJ X (Jq .Lt) (rI0 fun i j=>.bl (decide (i<j))):=YF fun _ _ _ _ _ _ _ q=>lt_int q
theorem Wr:HJ X (Jq .Gt) (rI0 fun i j=>.bl (decide (j<i))):=YF fun _ _ _ _ _ _ _ q=>gt_int q
theorem aed:HJ X (Jq .Is) (fun x y H Q=>y=.non/\Q (.bl (decide (x=.non))) H):=by
 intro afG s Z H x y v u Q I rx ry h;obtain ⟨rfl,q⟩:=h;cases ry;refine is_none_gen<|qY I q ?_
 cases x <;> first
  | (cases rx;rfl)
  | (obtain ⟨t,rfl⟩:=rx;rfl)
theorem abV:HJ X (Jq .IsNot) (fun x y H Q=>y=.non/\Q (.bl (!decide (x=.non))) H):=by
 intro afG s Z H x y v u Q I rx ry h;obtain ⟨rfl,q⟩:=h;cases ry;refine isnot_none_gen<|qY I q ?_
 cases x <;> first
  | (cases rx;rfl)
  | (obtain ⟨t,rfl⟩:=rx;rfl)
theorem HJ.or {f:Yk->Yk->Sem Yk}{r r':R2}(h:HJ X f r)(h':HJ X f r'):HJ X f (fun x y H Q=>r x y H Q\/r' x y H Q):=by
 intro afG s Z H x y v u Q I rx ry q;rcases q with q | q
 ·exact h afG s Z H x y v u Q I rx ry q
 ·exact h' afG s Z H x y v u Q I rx ry q
theorem cj (b:Expr){op:CmpOp}(h:op≠.In:=by decide)(h2:op≠.NotIn:=by decide):Rr op b=false:=by
 have e1:(op==CmpOp.In)=false:=by cases op <;> first | rfl | exact absurd rfl h
 have e2:(op==CmpOp.NotIn)=false:=by cases op <;> first | rfl | exact absurd rfl h2
 cases b <;> simp [Rr,e1,e2]
theorem acO {op:CmpOp}{r:R2}(ho:HJ X (Jq op) r)(ha:PE X a ta)(hb:PE X b tb)(hm:Rr op b=false):PE X (.Compare a [op] [b] pos) (tOp r ta tb):=by
 intro afG s Z H Q I h;exact wpAny_Compare1 (W2 ha hb I h fun v u s2 x y H2 I2 rx ry q=>ho afG s2 Z H2 x y v u Q I2 rx ry q) hm
def Wd (t:TE):TT:=fun Z H Q=>t Z H fun x H'=>∃ k,x=.bl k/\Q k H'
theorem afc {op:CmpOp}{r:R2}(ho:HJ X (Jq op) r)(ha:PE X a ta)(hb:PE X b tb)(hm:Rr op b=false):PT X (.Compare a [op] [b] pos) (Wd (tOp r ta tb)):=by
 intro afG s Z H Q I h;refine wpAny_isTrue_Compare1 (CV (ha afG s Z H _ I h) fun v s1 ⟨x,H1,I1,r1,q1⟩=>CV (hb afG s1 Z H1 _ I1 q1) fun u s2 ⟨y,H2,I2,r2,q2⟩=>
  CV (ho afG s2 Z H2 x y v u _ I2 r1 r2 q2) fun c s3 ⟨z,H3,I3,r3,k,e,q3⟩=>?_) hm
 subst e;cases r3;exact RM ⟨H3,I3,q3⟩
def Yy (K:Ar)(x:V)(H:Hp)(k:Bool):Prop:=
 match x with
 | .non=>k=false
 | .bl b=>k=b
 | .int i=>k=(i != 0)
 | .str y=>y.length<=CR/\k=((y.length:Int) != 0)
 | .byt y=>y.size<=CR/\k=((y.size:Int) != 0)
 | .ref p=>(∃ xs,GK K H p xs/\k = !xs.isEmpty)\/(∃ xs,Ed K H p xs/\k = !xs.isEmpty)\/∃ kvs,H p=Mk (.dK kvs)/\k = !kvs.isEmpty
 | _=>False
theorem abo {kvs:List (κ×V)}{vs:List (κ×Yk)}(r:KV kvs vs):(!vs.isEmpty) = !kvs.isEmpty:=by
 cases r <;> rfl
theorem qQ {its:List Yk}(r:Az xs its):(!its.toArray.isEmpty) = !xs.isEmpty:=by
 cases r <;> simp
theorem vG:(CR:Nat)<2^63:=by rw [sizeLine_eq];decide
theorem abA:ZW X (fun x H Q=>∃ k,Yy X.K x H k/\Q k H):=by
 intro afG s Z H x v Q I rx h;obtain ⟨k,e,q⟩:=h;have hl:=vG;have hs:CR=16777216:=sizeLine_eq;cases x with
 | non=>
  cases rx;have e':k=false:=e;subst e';exact truthy_none ⟨H,I,q⟩
 | bl b=>
  cases rx;have e':k=b:=e;subst e';exact RM ⟨H,I,q⟩
 | int i=>
  obtain ⟨t,rfl⟩:=rx;have e':k=(i != 0):=e;subst e';exact PySem.P.truthy_int ⟨H,I,q⟩
 | str y=>
  obtain ⟨t,rfl⟩:=rx;obtain ⟨hy,e'⟩:y.length<=CR/\k=((y.length:Int) != 0):=e;subst e';exact PySem.P.truthy_str (by lia) ⟨H,I.tok _,q⟩
 | byt y=>
  obtain ⟨t,rfl⟩:=rx;obtain ⟨hy,e'⟩:y.size<=CR/\k=((y.size:Int) != 0):=e;subst e';exact PySem.W.truthy_bytes (by lia) ⟨H,I.tok _,q⟩
 | ref p=>
  cases rx;have e':(∃ xs,GK X.K H p xs/\k = !xs.isEmpty)\/(∃ xs,Ed X.K H p xs/\k = !xs.isEmpty)\/∃ kvs,H p=Mk (.dK kvs)/\k = !kvs.isEmpty:=e
  rcases e' with ⟨xs,hx,e'⟩ | ⟨xs,hx,e'⟩ | ⟨kvs,hx,e'⟩
  ·subst e';obtain ⟨its,r,pl,hz⟩:=I.list hx;have afI:=r.length;exact wpAny_truthy_list pl.isList (by simp only [Gm];lia) ⟨H,I.tok _,by rw [qQ r];exact q⟩
  ·subst e';obtain ⟨its,r,pl,hz⟩:=I.tuple hx;have afI:=r.length;exact truthy_tuple pl (by simp only [Gm];lia) ⟨H,I.tok _,by rw [qQ r];exact q⟩
  ·subst e';obtain ⟨hz,hS,vs,r,m⟩:kvs.length<=CR/\(p==LQ)=false/\∃ vs,KV kvs vs/\s.heap.DictOf (bM X.prog X.w) p vs:=I.hok p _ hx
   have afI:kvs.length=vs.length:=Rv r;exact wpAny_truthy_dict hS m (by lia) ⟨H,I.tok _,by rw [abo r];exact q⟩
 | _=>exact (show False from e).elim
theorem yX (ha:PE X a ta)(he:∀ whole,isTrue a X.env whole=(do let v <-whole;standAt a.pos;Ni [v] (truthy v))):
  PT X a (fun Z H Q=>ta Z H fun x H'=>∃ k,Yy X.K x H' k/\Q k H'):=by
 intro afG s Z H Q I h;exact isTrue_plain (CV (ha afG s Z H _ I h) fun v s1 ⟨x,H1,I1,r1,q1⟩=>abA afG s1 Z H1 x v Q I1 r1 q1)<|he _
theorem vals1 {x:V}(r:Az [x] us):∃ u,us=[u]/\RelV x u:=by
 cases r with
 | cons r1 r2=>cases r2;exact ⟨_,rfl,r1⟩
theorem vals2 {x y:V}(r:Az [x,y] us):∃ u w',us=[u,w']/\RelV x u/\RelV y w':=by
 cases r with
 | cons r1 r2=>
  cases r2 with
  | cons r3 r4=>cases r4;exact ⟨_,_,rfl,r1,r3⟩
theorem aaw:jo X (.type "int") (fun xs H Q=>(∃ i,xs=[.int i]/\Q (.int i) H)\/∃ k,xs=[.bl k]/\Q (.int (if k then 1 else 0)) H):=by
 intro afG s Z H xs us Q I r h;rcases h with ⟨i,rfl,q⟩ | ⟨k,rfl,q⟩
 ·obtain ⟨u,rfl,t,rfl⟩:=vals1 r;exact call_int_int ⟨.int i,H,I,⟨_,rfl⟩,q⟩
 ·obtain ⟨u,rfl,r1⟩:=vals1 r;cases r1;exact call_int_bool ⟨.int<|if k then 1 else 0,H,I.tok _,⟨_,rfl⟩,q⟩
end
structure V9 (h:Heap) (x dx C:Addr) (mA:Str->Option Yk):Prop where
 obj:h.get? x=Mk (PySem.W.instObj C dx)
 ns:h.Ns1 dx mA
 ne:dx≠x
variable {dx : Addr}{mA : Str->Option Yk}
theorem zaD (n:h.Ns1 dx mA):∃ od,h.get? dx=Mk od/\∀ name,PySem.W.lookIn name od=Mk (mA name):=by
 obtain ⟨o,es,ep,ho,hd,hk,_,hm⟩:=n;refine ⟨o,ho,fun name=>?_⟩;have e:=hm name;unfold nsFind findBy at e;rw [<-Array.find?_toList] at e;unfold PySem.W.lookIn;rw [hd];dsimp only;split
 ·rename_i y q;rw [q] at e;exact congrArg Mk e
 ·rename_i q;rw [q] at e;have a:es.toList.any (·.refKey)=false:=by
   rw [List.any_eq_false];intro y hy;obtain ⟨z,t,hkey⟩:=hk y (Array.mem_toList_iff.mp hy);simp [DictEntry.refKey,hkey]
  have a':¬ es.toList.any (·.refKey)=true:=by rw [a];exact Hu
  rw [if_neg a'];exact congrArg Mk e
variable {C : Addr}
theorem V9.look {x:Addr}(I:V9 h x dx C mA):∃ od,PySem.W.InstAt h x (PySem.W.instObj C dx) C (Mk od)/\∀ name,PySem.W.lookIn name od=Mk (mA name):=
 let ⟨od,ho,hl⟩:=zaD I.ns
 ⟨od,⟨I.obj,rfl,rfl,ho⟩,hl⟩
section
variable {s:ZG}{x f:Addr}{name:Str}{v:Yk}
theorem get_map {expr:Bool}(X:K.In s.heap)(I:V9 s.heap x dx C mA)(hg:PySem.W.plainGet K C name=true)(hh:PySem.W.hasDictIn K C=true)
  (ha:Ls K (.ref C) name=Mk YK) (hv:mA name=Mk v) (hv':PySem.W.handedIn v=true) (h:Q v { s with toks:=s.toks+1 }) :
  Al (Am prog w) A (getAttr (.ref x) name expr) Q E s:=by
 obtain ⟨od,J,hl⟩:=I.look;exact PySem.W.get_value X J (PySem.W.plainGet_of hg).1 (PySem.W.findObj_own hh ha rfl<|by rw [hl,hv]) hv' h
end
variable {name : Str}
theorem Hy.some_of {v:V}{o:Option Yk}(r:Hy (Mk v) o):∃ u,o=Mk u/\RelV v u:=by
 cases o with
 | none=>exact (show False from r).elim
 | some u=>exact ⟨u,rfl,r⟩
section
variable {a:Addr}{fs fs':List (Str×V)}
end
structure Cls (K:Ar) (C:Addr):Prop where
 pg:PySem.W.plainGet K C Str.empty=true
 hd:PySem.W.hasDictIn K C=true
 po:PySem.W.plainOver K C=true
 sa:Ls K (.ref C) "__setattr__" = Mk (Mk (.builtin "object.__setattr__"))
structure Con (K:Ar) (C:Addr) (f:Str) (v:V) (u:Yk):Prop where
 at_:Ls K (.ref C) f=Mk (Mk u)
 rel:RelV v u
 get:PySem.W.specialIn K u "__get__" = Mk YK
 cp:PySem.W.copiedNames.contains f=false
structure Meth (K:Ar) (C:Addr) (m:Str) (f:Addr):Prop where
 at_:Ls K (.ref C) m=Mk (Mk (.ref f))
 fn:PySem.W.isFn K (.ref f)=true
 kp:QL K (.ref f)=true
section
variable {s:ZG}{a:Addr}{fs:List (Str×V)}{f:Str}{v:V}
end
section
variable {value:Expr}{f:Str}{tpos:Pos}{tv:TE}
end
section
variable {s:ZG}{c:Yk}{b:Bool}
inductive Ek (K:Ar) (H:Hp):V->Yk->Prop where
 | non:Ek K H .non (.type "NoneType")
 | bl (x:Bool):Ek K H (.bl x) (.type "bool")
 | int (i:Int):Ek K H (.int i) (.type "int")
 | str (x:Str):Ek K H (.str x) (.type "str")
 | flt (x:UInt64):Ek K H (.flt x) (.type "float")
 | lst {a:Addr} {xs:List V} (e:H a=Mk (.lst xs)):Ek K H (.ref a) (.type "list")
 | frz {a:Addr} {o:Obj} {xs:List V} (e:H a=Mk (.frz o (.lst xs))):Ek K H (.ref a) (.type "list")
 | tup {a:Addr} {xs:List V} (e:H a=Mk (.tup xs)):Ek K H (.ref a) (.type "tuple")
 | dK {a:Addr} {kvs:List (Key×V)} (e:H a=Mk (.dK kvs)):Ek K H (.ref a) (.type "dict")
 | dT {a:Addr} {kvs:List (List Key×V)} (e:H a=Mk (.dT kvs)):Ek K H (.ref a) (.type "dict")
 | ins {a C dx:Addr} {fs:List (Str×V)} (e:H a=Mk (.ins C dx fs)) (cl:Cls K C) (ha:Ls K (.ref C) "__class__" = Mk (Mk (.builtin "object.__class__")))
   (hn:PySem.W.specialIn K (.builtin "object.__class__") "__get__" = Mk (Mk (.builtin "getset_descriptor.__get__"))) (htk:PySem.W.takesIn K (.builtin "object.__class__")=Mk true)
   (hm:Nt K C (.type "object")=Mk true):Ek K H (.ref a) (.ref C)
end
structure mQ (k:Nat) (A:Bx):Prop where
 hd:9<=k->A.handled=YK
 dp:A.depth+3*k+5<recursionLimit
 un:A.units+16*k+200<HF
theorem mQ.mono (r:mQ k A)(h:j<=k):mQ j A:=⟨fun z=>r.hd (Cg z h),by have:=r.dp;lia,by have:=r.un;lia⟩
theorem mQ.deeper {k:Nat}{A:Bx}(r:mQ (k+1) A)(env:Env):mQ k (A.deeper env):=
 ⟨fun z=>r.hd (Nat.le_succ_of_le z),by have:=r.dp;show A.depth+1+3*k+5<_;lia,by have:=r.un;show A.units+3+16*k+200<_;lia⟩
theorem mQ.calm (r:mQ k A)(h:9<=k):A.handled.isNone=true:=by rw [r.hd h];rfl
theorem mQ.depth {k:Nat}{A:Bx}(r:mQ k A):A.depth<recursionLimit:=by have:=r.dp;lia
theorem mQ.units {k:Nat}{A:Bx}(r:mQ k A):A.units+64<HF:=by have:=r.un;lia
def ZD:TA:=fun _ H Q=>Q [] H
def WX (ta:TE)(tr:TA):TA:=fun Z H Q=>ta Z H fun x H1=>tr Z H1 fun xs H2=>Q (x::xs) H2
section
variable {t:TA}
theorem yt:PA X [] ZD:=fun _ _ _ _ H Q I h=>Calls.spliced_nil ⟨[],H,I,.nil,h⟩
theorem lE (ha:PE X e te)(hr:PA X es t)(hs:Bo (e::es) X.env=(false,eval e X.env)::Bo es X.env:=by rfl):PA X (e::es) (WX te t):=by
 intro pos afG s Z H Q I h;rw [hs];show Al _ _ (spliced ((false,eval e X.env)::En pos (Bo es X.env))) _ _ s;refine Calls.spliced_cons<|CV (ha afG s Z H _ I h) fun u s1 ⟨x,H1,I1,r1,q1⟩=>?_
 exact CV (hr pos afG s1 Z H1 _ I1 q1) fun us s2 ⟨xs,H2,I2,r2,q2⟩=>⟨x::xs,H2,I2,.cons r1 r2,q2⟩
def Zm (t:TA):TE:=fun Z H Q=>t Z H fun xs H1=>xs.length<=CR/\∀ p,H1 p=YK->Q (.ref p) (CJ H1 p (.tup xs))
def aac (t:TA):TE:=fun Z H Q=>t Z H fun xs H1=>xs.length<=CR/\∀ p,H1 p=YK->Q (.ref p) (CJ H1 p (.lst xs))
theorem KR {x1}(h:PA X es t):PE X (.Tuple es x1 pos) (Zm t):=by
 intro afG s Z H Q I hq;refine wpAny_Tuple_spliced<|CV (h pos afG s Z H _ I hq) fun us s1 ⟨xs,H1,I1,r,z,q⟩=>⟨by rw [<-r.length];exact z,?_⟩
 have hf:H1 s1.heap.objs.size=YK:=I1.hok.fresh (Bp _);refine ⟨.ref s1.heap.objs.size,CJ H1 s1.heap.objs.size<|.tup xs,I1.laid (t':=s1.toks) (fun b u e=>CT _ e) (Bp _) ?_,rfl,q _ hf⟩;exact ⟨z,us,r,⟨_,Ej _ rfl,rfl,⟨_,rfl⟩,rfl⟩⟩
theorem KC (h:PA X es t):PE X (.List es pos) (aac t):=by
 intro afG s Z H Q I hq;refine wpAny_List_spliced<|CV (h pos afG s Z H _ I hq) fun us s1 ⟨xs,H1,I1,r,z,q⟩=>⟨by rw [<-r.length];exact z,?_⟩
 have hf:H1 s1.heap.objs.size=YK:=I1.hok.fresh (Bp _);refine ⟨.ref s1.heap.objs.size,CJ H1 s1.heap.objs.size<|.lst xs,I1.laid (t':=s1.toks) (fun b u e=>CT _ e) (Bp _) ?_,rfl,q _ hf⟩;exact ⟨z,us,0,r,Ej _ rfl⟩
end
abbrev Sp:=List V->Hp->VK->XK->Prop
abbrev OD:=List Env->Hp->ZG->XK->Yk->ZG->Prop
structure Vw (P:Bs) (w:Bh) (K:Ar) (mg:Str->Option Yk) (base:Heap) (A:Bx) (outer:List Env) (s:ZG) (H:Hp):Prop where
 frames:A.frames=Mk outer
 mod:Mod K mg base
 bs:∀ b o,base.get? b=Mk o->s.heap.get? b=Mk o/\H b=YK
 bsz:base.objs.size<=s.heap.objs.size
 funs:s.heap.FunFrames base outer
 frf:∀ b∈frs outer,H b=YK
 hok:HN P w H s.heap
 bare:Nh s.gens
 qt:Quiet A H
def CE (outer:List Env)(P:Bs)(w:Bh)(H:Hp)(s:ZG)(Q:VK)(u:Yk)(s':ZG):Prop:=
 ∃ v H',s'.os=s.os/\Nh s'.gens/\Un (frs outer) [] H H' s.heap s'.heap/\HN P w H' s'.heap/\RelV v u/\Q v H'
def aaN (CX:OD)(outer:List Env)(P:Bs)(w:Bh)(H:Hp)(s:ZG)(Q:VK)(E:XK)(r:TY)(s':ZG):Prop:=
 match r with
 | .ok (.ret u)=>CE outer P w H s Q u s'
 | .ok _=>False
 | .error e=>CX outer H s E e s'
structure eU (P:Bs) (w:Bh) (K:Ar) (mg:Str->Option Yk) (base:Heap) (CX:OD) (k:Nat) (f:Addr) (fd:Ei) (ps:List Str) (sp:Sp):Prop where
 len:∀ vs H Q E,sp vs H Q E->vs.length=ps.length
 run:∀ (A:Bx) (outer:List Env) (s:ZG) (H:Hp) (args:Args) (us:List Yk) (vs:List V) (Q:VK) (E:XK),mQ k A->Vw P w K mg base A outer s H->BindsTo s fd args (ps.zip us)->Az vs us->sp vs H Q E ->
  Li (Am P w) A (.call (.ref f) args) (aaN CX outer P w H s Q E) s
variable {CX : OD}{base : Heap}{sp : Sp}{mg : Str->Option Yk}
theorem eU.mono {P:Bs}{w:Bh}{K:Ar}{mg:Str->Option Yk}{base:Heap}{CX:OD}{j k:Nat}{f:Addr}{fd:Ei}{ps:List Str}{sp:Sp}(F:eU P w K mg base CX j f fd ps sp)(h:j<=k) :
  eU P w K mg base CX k f fd ps sp:=⟨F.len,fun A outer s H args us vs Q E hr=>F.run A outer s H args us vs Q E (hr.mono h)⟩
theorem eU.imp {f:Addr}{fd:Ei}{ps:List Str}{sp':Sp}(F:eU P w K mg base CX k f fd ps sp)
  (h:∀ vs H Q E,sp' vs H Q E->sp vs H Q E):eU P w K mg base CX k f fd ps sp':=
 ⟨fun vs H Q E q=>F.len vs H Q E (h _ _ _ _ q),fun A outer s H args us vs Q E hr he hb hv hs=>F.run A outer s H args us vs Q E hr he hb hv (h _ _ _ _ hs)⟩
section
variable {s:ZG}
theorem AP.env0 (I:AP X afG Z H s):Vw X.prog X.w X.K X.mg X.base X.A X.stack s H:=
 ⟨I.ok.frames,I.ok.mod,I.bs,Cg I.ok.bsz I.sz,I.stack,I.stkFree,I.hok,I.bare,I.qt0⟩
theorem AP.after {Q:VK}(I:AP X afG Z H s)(h:CE X.stack X.prog X.w H s Q u s'):EP X afG Z Q u s':=by
 obtain ⟨v,H',os,bare,un,hok,r,q⟩:=h;obtain ⟨hh,g,d,t,os'⟩:=s';obtain rfl:os'=s.os:=os;exact ⟨v,H',I.call (h':=hh) (g':=g) (d':=d) (t':=t) (ch:=[]) un hok bare<|fun b z=>absurd z<|by simp,r,q⟩
end
def Rh (sp:Sp)(dvs:List V)(E:XK)(t:TA):TE:=fun Z H Q=>t Z H fun vs H1=>sp (vs++dvs) H1 Q E
def Binds (K:Ar)(fd:Ei)(ps:List Str)(ds:List Yk):Prop:=
 ∀ (s:ZG) (us:List Yk),K.In s.heap->(us++ds).length=ps.length->BindsTo s fd ⟨us,[]⟩ (ps.zip (us++ds))
theorem Binds.all {fd:Ei}{ps:List Str}(h:∀ us:List Yk,us.length=ps.length->bindArgs fd ⟨us,[]⟩=pure (ps.zip us)):Binds K fd ps []:=fun s us _ hl=>by
 rw [Np] at hl |-
 exact .of_eq<|h us hl
def Passes (CX:OD)(X:Cx)(E:XK):Prop:=∀ (afG:List (Addr×Obj)) (Z : St) (H:Hp) (s:ZG) (e:Yk) (s':ZG),AP X afG Z H s->CX X.stack H s E e s'->X.xe e s'
section
variable {f:Addr}{fd:Ei}{ps:List Str}{dvs:List V}{ds:List Yk}{E:XK}{x m:Str}{p apos:Pos}{t:TA}
theorem acp {s:ZG}{Q:VK}{vs:List V}(F:eU X.prog X.w X.K X.mg X.base CX k f fd ps sp)(hr:mQ k X.A)(hb:Binds X.K fd ps ds)(hd:Az dvs ds)(hx:Passes CX X E)
  (I:AP X afG Z H s) (r:Az vs us) (h:sp (vs++dvs) H Q E):Al (Am X.prog X.w) X.A (call (.ref f) us) (EP X afG Z Q) X.xe s:=by
 have r2:Az (vs++dvs) (us++ds):=r.append hd;have hl:(us++ds).length=ps.length:=by rw [<-r2.length];exact F.len _ _ _ _ h
 refine wpAny_call<|Ri (F.run X.A X.stack s H ⟨us,[]⟩ (us++ds) (vs++dvs) Q E hr I.env0 (hb s us I.kIn hl) r2 h) fun r s' hq=>?_
 cases r with
 | error e=>exact hx afG Z H s e s' I hq
 | ok fl=>
  cases fl with
  | ret u=>exact I.after hq
  | next=>exact Lz hq
  | brk=>exact Lz hq
  | cont=>exact Lz hq
theorem adx (F:eU X.prog X.w X.K X.mg X.base CX k f fd ps sp)(hr:mQ k X.A)(hg:Gl X x)(hm:X.mg x=Mk (.ref f))(hk:QL X.K (.ref f)=true)(hb:Binds X.K fd ps ds)(hd:Az dvs ds)(hx:Passes CX X E)
  (ha:PA X (e::es) t) (hdb:(x==("__debug__" : Str))=false:=by decide) (he:Bo (e::es) X.env=(false,eval e X.env)::Bo es X.env:=by rfl) (hpl:(En pos (Bo es X.env)).any (·.1)=false:=by rfl) :
  PE X (.Call (.Name x p) (e::es) [] pos) (Rh sp dvs E t):=by
 intro afG s Z H Q I h;refine R7<|sY I hg hm ?_ hdb
 refine PySem.W.callWith_K (h₀:=X.base) I.ok.mod.kin hk (CV (ha pos afG s Z H _ I h) fun us s1 ⟨vs,H1,I1,r,q⟩=>⟨I1.kIn,?_⟩) he hpl;exact acp F hr hb hd hx I1 r q
structure zaa (K:Ar) (C f:Addr):Prop where
 makes:PySem.W.makesIn K C=true
 init:Ls K (.ref C) "__init__" = Mk (Mk (.ref f))
 fn:PySem.W.isFn K (.ref f)=true
 kp:QL K (.ref C)=true
end
variable {apos : Pos}
section
variable {f:Addr}{fd:Ei}{ps ks:List Str}{E:XK}{x m:Str}{p kpos:Pos}{kws:List Jx}{t tk:TA}{nm:Option Str}
structure aai (K:Ar) (fd:Ei) (ps ks:List Str) (g:List Yk->List Yk->List Yk) (gV:List V->List V->List V):Prop where
 to:∀ (s:ZG) (us ws:List Yk),K.In s.heap->(g us ws).length=ps.length->BindsTo s fd ⟨us,ks.zip ws⟩ (ps.zip (g us ws))
 rel:∀ {vs:List V} {us:List Yk} {zs:List V} {ws:List Yk},Az vs us->Az zs ws->Az (gV vs zs) (g us ws)
variable {g:List Yk->List Yk->List Yk}{gV:List V->List V->List V}
end
structure bI (N P:List Str) (sc:Scope):Prop where
 kind:sc.kind=.function
 co:sc.isCoroutine=false
 gen:sc.isGenerator=false
 nd:N.Nodup
 pre:N.take P.length=P
 par:∀ x∈P,sc.names.lookup x=Mk .local\/sc.names.lookup x=Mk .cell
 nofree:∀ y∈sc.names,y.2≠.free
theorem vN {HY:Str->Option Ia}{x:Str}:∀ {binds:List (Str×Yk)} {m:Str->Option Yk},(∀ v,(x,v)∉binds)->bindL HY binds m x=m x
 | [],_,_=>rfl
 | (n,v)::r,m,h=>by
  unfold bindL;rw [vN fun w hw=>h w (Hs _ hw)];split
  ·have:x≠n:=by rintro rfl;exact h v JK
   simp [this]
  ·rfl
theorem uT {HY:Str->Option Ia}{x:Str}:∀ {binds:List (Str×Yk)} {m:Str->Option Yk},(∀ v,(x,v)∉binds)->bindC HY binds m x=m x
 | [],_,_=>rfl
 | (n,v)::r,m,h=>by
  unfold bindC;rw [uT fun w hw=>h w (Hs _ hw)];split
  ·rfl
  ·have:x≠n:=by rintro rfl;exact h v JK
   simp [this]
theorem uO {HY:Str->Option Ia}{x:Str}{v:Yk}:∀ {P:List Str} {vs:List Yk} {i:Nat} {m:Str->Option Yk},P.Nodup->P[i]?=Mk x->vs[i]?=Mk v->HY x=Mk .local ->
  bindL HY (P.zip vs) m x=Mk v
 | [],_,_,_,_,h,_,_=>by simp at h
 | _::_,[],_,_,_,_,h,_=>by simp at h
 | p::P,w::vs,0,m,nd,h1,h2,hk=>by
  simp at h1 h2;subst h1;subst h2;show bindL HY ((p,w)::P.zip vs) m p=_;unfold bindL;rw [vN fun v hv=>(Ox.mp nd).1 (List.of_mem_zip hv).1,if_pos hk];simp
 | p::P,w::vs,i+1,m,nd,h1,h2,hk=>by
  show bindL HY ((p,w)::P.zip vs) m x=_;unfold bindL;exact uO (i:=i) (Ox.mp nd).2 (by simpa using h1) (by simpa using h2) hk
theorem uU {HY:Str->Option Ia}{x:Str}{v:Yk}:∀ {P:List Str} {vs:List Yk} {i:Nat} {m:Str->Option Yk},P.Nodup->P[i]?=Mk x->vs[i]?=Mk v->HY x≠Mk .local ->
  bindC HY (P.zip vs) m x=Mk v
 | [],_,_,_,_,h,_,_=>by simp at h
 | _::_,[],_,_,_,_,h,_=>by simp at h
 | p::P,w::vs,0,m,nd,h1,h2,hk=>by
  simp at h1 h2;subst h1;subst h2;show bindC HY ((p,w)::P.zip vs) m p=_;unfold bindC;rw [uT fun v hv=>(Ox.mp nd).1 (List.of_mem_zip hv).1,if_neg hk];simp
 | p::P,w::vs,i+1,m,nd,h1,h2,hk=>by
  show bindC HY ((p,w)::P.zip vs) m x=_;unfold bindC;exact uU (i:=i) (Ox.mp nd).2 (by simpa using h1) (by simpa using h2) hk
def start (N:List Str)(vs:List V):St:=vs.map Mk++BK (N.length - vs.length) YK
def K3 (CX:OD)(P:Bs)(w:Bh)(K:Ar)(mg:Str->Option Yk)(base:Heap)(N:List Str)(qual:Str)(scope:Scope)(f:Addr)(cd:Yk)(A:Bx)(outer:List Env)(s:ZG)(H:Hp)(E:XK):Cx where
 prog:=P
 w:=w
 K:=K
 mg:=mg
 base:=base
 A:=A.deeper (envOfC qual scope s.heap.objs.size f cd)
 N:=N
 s₀:=s
 H₀:=H
 env:=envOfC qual scope s.heap.objs.size f cd
 outer:=outer
 stack:=envOfC qual scope s.heap.objs.size f cd::outer
 ex:=[]
 calm:=A.handled.isNone
 fn:=fun _=>true
 pn:=[]
 xe:=fun e s'=>Al (Am P w) (A.deeper (envOfC qual scope s.heap.objs.size f cd)) (leaving (envOfC qual scope s.heap.objs.size f cd) e) (fun _ s''=>CX outer H s E e s'') (fun e' s''=>CX outer H s E e' s'') s'
theorem z6 {sc:Scope}{x:Str}(h:sc.names.lookup x=Mk .cell):∃ c,(HS n sc.names []).lookup x=Mk c:=by
 have q:=PySem.W.cellsFrom_some sc.names n [] (.inl h);exact Option.isSome_iff_exists.mp q
variable {outer : List Env}{scope : Scope}{qual : Str}
theorem zas {ps:List Str}{f:Addr}{cd:Yk}{s s1:ZG}{E:XK}{vs:List V}
  (S:bI N ps scope) (e0:Vw P w K mg base A outer s H) (hl:vs.length=ps.length) (r:Az vs us)
  (x:InCallC s s.heap.objs.size (bindL (envOfC qual scope s.heap.objs.size f cd).kindOf (ps.zip us) fun _=>YK) (HS (s.heap.objs.size+1) scope.names []) (bindC (envOfC qual scope s.heap.objs.size f cd).kindOf (ps.zip us) fun _=>YK) s1) :
  AP (K3 CX P w K mg base N qual scope f cd A outer s H E) [] (start N vs) H s1:=by
 have hpl:ps.length<=N.length:=by have:=congrArg Rg S.pre;rw [JV] at this;lia
 obtain ⟨h1,tk,rfl,hk⟩:=x.done;have noA:∀ b:Addr,b∉(K3 CX P w K mg base N qual scope f cd A outer s H E).ex:=fun b z=>absurd (show b∈([]:List Addr) from z) (by simp)
 refine ⟨⟨e0.mod,S.kind,rfl,rfl,Bp _,fun y z c h1 h2=>?_,fun y hy=>?_,fun y c _ h=>?_,fun z=>Option.isNone_iff_eq_none.mp (show A.handled.isNone=true from z),e0.qt,Around.frames_deeper e0.frames,.inr ⟨rfl,rfl⟩,fun b z=>absurd z (noA b),e0.bs,e0.bsz,fun b _ _=>noA b,fun b z=>absurd z (noA b),e0.funs,e0.frf⟩,
  rfl,e0.bare,Un.kept hk,⟨_,x.toInCall.ns,fun i y v h1 h2 h3=>?_⟩,fun y c h=>⟨_,x.cell y c h⟩,e0.hok.fresh (Bp _),fun y c h=>?_,fun p hp=>absurd (show p∈([]:List (Addr×Obj)) from hp) (by simp),e0.hok.kept hk,?_⟩
 ·exact name_of_addr x.apart (Ot h1)<|Ot h2
 ·have hy:scope.names.lookup y=Mk .cell\/scope.names.lookup y=Mk .free:=hy;rcases hy with hy | hy
  ·exact z6 hy
  ·exact absurd rfl<|S.nofree _<|Ot hy
 ·exact Lk<|x.above y c<|Ot h
 ·have hi:i<vs.length:=by
   unfold start at h2;by_cases hi:i<vs.length
   ·exact hi
   ·rw [Nx (by simpa using hi)] at h2;rw [Tj] at h2;split at h2 <;> cases h2
  have ha:vs[i]?=Mk v:=by
   unfold start at h2;rw [Nv (by simpa using hi),Hi] at h2;cases e:vs[i]? with
   | none=>rw [e] at h2;cases h2
   | some a=>rw [e] at h2;cases h2;rfl
  obtain ⟨u,hu,rv⟩:=r.get ha;have hp:ps[i]?=Mk y:=by
   rw [<-S.pre,List.getElem?_take_of_lt (by lia)];exact h1
  have ndP:ps.Nodup:=by rw [<-S.pre];exact S.nd.sublist (List.take_sublist _ _)
  refine ⟨u,rv,?_⟩;rcases S.par y (O2 hp) with k | k
  ·exact .inl ⟨k,uO ndP hp hu k⟩
  ·obtain ⟨c,e⟩:=z6 (n:=s.heap.objs.size+1) k;refine .inr ⟨.inl k,c,e,?_⟩;have q:=x.cell y c e;rw [uU ndP hp hu (by show scope.names.lookup y≠_;rw [k];decide)] at q;exact q
 ·exact e0.hok.fresh<|Lk<|x.above y c<|Ot h
 ·unfold start;show _=N.length;rw [HB,Cm,List.length_replicate];lia
variable {od : Option Addr}
theorem Ry {f:Addr}{params:Arguments}{dV kV doc pm cdv ct oc:Yk}{an:Option Addr}
  {osl:Array (Option Yk)} {N ps:List Str} {sp:Sp} (lk:K.lookup f=Mk ⟨oc,od,.func (Ql name qual params body scope dV kV doc pm an cdv ct),osl⟩) (hcd:PySem.W.codeIn K cdv qual=true) (S:bI N ps scope)
  (len:∀ vs H Q E,sp vs H Q E->vs.length=ps.length)
  (hbody:∀ (A:Bx) (outer:List Env) (s:ZG) (H:Hp) (vs:List V) (Q:VK) (E:XK),mQ k (A.deeper (envOfC qual scope s.heap.objs.size f cdv))->sp vs H Q E ->
   ∃ t,Jd (K3 CX P w K mg base N qual scope f cdv A outer s H E) body t/\t { nx:=fun _ H'=>Q .non H',rt:=Q } (start N vs) H) :
  eU P w K mg base CX (k+1) f (Ql name qual params body scope dV kV doc pm an cdv ct) ps sp:=by
 refine ⟨len,fun A outer s H args us vs Q E hr e0 hb r hsp=>?_⟩;have hl:=len _ _ _ _ hsp;have KX:K.In s.heap:=e0.mod.kin.keeps fun b o e=>(e0.bs b o e).1
 have lim:s.heap.NoLimit:=e0.mod.nolimit.keeps fun b o e=>(e0.bs b o e).1
 have hkind:∀ y∈ps.zip us,scope.names.lookup y.1=Mk .local\/(scope.names.lookup y.1=Mk .cell/\((HS (s.heap.objs.size+1) scope.names []).lookup y.1).isSome=true):=fun ⟨n,v⟩ hy=>by
  rcases S.par n (List.of_mem_zip hy).1 with q | q
  ·exact .inl q
  ·exact .inr ⟨q,PySem.W.cellsFrom_some _ _ _<|.inl q⟩
 refine codeAny_call_function hr.depth (KX _ _ lk) rfl S.co S.gen rfl (PySem.W.codeRec_of KX hcd)<|hb _ _ _ _ ?_
 refine wpAny_newFunctionEnv_cells S.kind hkind fun env he s1 x=>?_;subst he;refine ⟨lim.keeps x.toInCall.keep,codeAny_func ?_⟩;obtain ⟨t,ht,hq⟩:=hbody A outer s H vs Q E (hr.deeper _) hsp;have I:AP (K3 CX P w K mg base N qual scope f cdv A outer s H E) [] (start N vs) H s1:=zas S e0 hl r x;refine Hx (ht [] s1 (start N vs) H _ I hq) (fun fl s' hs=>?_) fun e s' hs=>hs;have fin:∀ {Z':St} {H':Hp} {v:V} {u:Yk},AP (K3 CX P w K mg base N qual scope f cdv A outer s H E) [] Z' H' s'->RelV v u->Q v H'->CE outer P w H s Q u s':=
  fun {Z' H' v u} J rv q=>⟨v,H',J.os,J.bare,J.base,J.hok,rv,q⟩
 cases fl with
 | ret u=>
  obtain ⟨v,Z',H',J,rv,q⟩:=hs;exact fin J rv q
 | next=>
  obtain ⟨Z',H',J,q⟩:=hs;exact fin (v:=V.non) (u:=Value.none) J rfl q
 | brk=>
  obtain ⟨_,_,_,q⟩:=hs;exact Lz q
 | cont=>
  obtain ⟨_,_,_,q⟩:=hs;exact Lz q
section
variable {x:Str}{p:Pos}{t:TA}{id T:String}{r:List V->Hp->VK->Prop}
def tCB (r:List V->Hp->VK->Prop)(t:TA):TE:=fun Z H Q=>t Z H fun vs H1=>r vs H1 Q
theorem rE (hc:jo X (.builtin id) r)(hg:Gl X x)(hm:X.mg x=YK)(hv:Pu x=Mk (.builtin id))(ha:PA X (e::es) t)(hn:x ≠ "__name__":=by decide)(hdb:(x==("__debug__" : Str))=false:=by decide)
  (he:Bo (e::es) X.env=(false,eval e X.env)::Bo es X.env:=by rfl) (hpl:(En pos (Bo es X.env)).any (·.1)=false:=by rfl):PE X (.Call (.Name x p) (e::es) [] pos) (tCB r t):=by
 intro afG s Z H Q I h;refine R7<|pN I hg hm hv ?_ hn hdb
 exact PyProof.Rows.callWith_builtin1 (CV (ha pos afG s Z H _ I h) fun us s1 ⟨vs,H1,I1,r1,q1⟩=>hc afG s1 Z H1 vs us Q I1 r1 q1) he hpl
theorem zaw (hc:jo X (.type T) r)(hg:Gl X x)(hm:X.mg x=YK)(hv:Pu x=Mk (.type T))(ha:PA X (e::es) t)(hn:x ≠ "__name__":=by decide)(hdb:(x==("__debug__" : Str))=false:=by decide)
  (he:Bo (e::es) X.env=(false,eval e X.env)::Bo es X.env:=by rfl) (hpl:(En pos (Bo es X.env)).any (·.1)=false:=by rfl):PE X (.Call (.Name x p) (e::es) [] pos) (tCB r t):=by
 intro afG s Z H Q I h;refine R7<|pN I hg hm hv ?_ hn hdb
 exact TK (CV (ha pos afG s Z H _ I h) fun us s1 ⟨vs,H1,I1,r1,q1⟩=>hc afG s1 Z H1 vs us Q I1 r1 q1) he hpl
end
end L2
namespace HT
open PySem PyProof.Rows
section
open PySem.SeqAt
open PySem.AutoSeq1 (wpAny_loadPart')
open PySem.MeetsSeq PySem.MeetsSeq2 PySem.MeetsSeq3
end
section
variable {prog:Bs}{w:Bh}{A:Bx}{E:Yk->ZG->Prop}{s:ZG}
theorem Py {t b:Addr}{vs ws:List Yk}{Q:Yk->ZG->Prop}(ht:IsTup s.heap t vs.toArray)(hb:IsTup s.heap b ws.toArray)(hv:vs≠[])
  (h1:ws=[]->Q (.ref t) s) (h2:ws≠[]->Q (.ref s.heap.objs.size) { s with heap:=s.heap.push { cls:=.type "tuple",data:=.seq (vs++ws).toArray } })
  (hsz:vs.length+ws.length<=CR):Al (Am prog w) A (Iu .Add (.ref t) (.ref b)) Q E s:=by
 obtain ⟨⟨cls,dd,data,sl⟩,ho,hc,n,hd⟩:=id ht;obtain ⟨⟨cls2,dd2,data2,sl2⟩,ho2,hc2,n2,hd2⟩:=id hb;simp only at hc hd hc2 hd2;subst hc hd hc2 hd2;have e:vs.toArray++ws.toArray=(vs++ws).toArray:=by simp
 by_cases hw:ws=[]
 ·exact concat_meets ⟨_,ho,rfl⟩ ⟨_,ho2,rfl⟩ noFill_tuple_add seq_tuple_add PySem.F.slot_tuple_add PySem.F.entry_tuple_add (PySem.F.args_tuple_add_2 _ _)
   (tuple_addW1 t b vs.toArray ws.toArray n n2 dd dd2 sl sl2 (by simpa using hv) (by simp [hw])) ⟨ho,ho2,h1 hw⟩
 ·refine concat_meets ⟨_,ho,rfl⟩ ⟨_,ho2,rfl⟩ noFill_tuple_add seq_tuple_add PySem.F.slot_tuple_add PySem.F.entry_tuple_add (PySem.F.args_tuple_add_2 _ _)
   (tuple_addW2 t b vs.toArray ws.toArray n n2 dd dd2 sl sl2 (by simpa using hv) (by simpa using hw) (by rw [Gm,Gm];exact hsz)) ⟨ho,ho2,?_⟩
  rw [e];exact h2 hw
def sIx (n d:Nat):Option Int->Nat
 | none=>d
 | some v=>if v<0 then (v+(n:Int)).toNat else min v.toNat n
theorem Ij (n d:Nat):sIx n d YK=d:=rfl
theorem Pz (n d k:Nat):sIx n d (Mk (k:Int))=min k n:=by
 show (if (k:Int)<0 then ((k:Int)+(n:Int)).toNat else min (k:Int).toNat n)=min k n;rw [if_neg (by lia),T6]
theorem Vu (n d:Nat)(hd:d<=n)(o:Option Int):sIx n d o<=n:=by
 cases o with
 | none=>exact hd
 | some v=>
  show (if v<0 then (v+(n:Int)).toNat else min v.toNat n)<=n;by_cases hv:v<0
  ·rw [if_pos hv];lia
  ·rw [if_neg hv];exact Nat.min_le_right _ _
theorem Gb (v:Int)(n d:Nat):(if v<0 then max (v+(n:Int)) 0 else min v (n:Int))=((sIx n d (Mk v):Nat):Int):=by
 show (if v<0 then max (v+(n:Int)) 0 else min v (n:Int))=(((if v<0 then (v+(n:Int)).toNat else min v.toNat n):Nat):Int);by_cases hv:v<0
 ·simp only [if_pos hv];lia
 ·simp only [if_neg hv];lia
theorem aah (lo hi:Option Int)(n:Nat):Builtin.Slice.sliceAdjust lo hi 1 (n:Int)=(((sIx n 0 lo:Nat):Int),((sIx n n hi:Nat):Int)):=by
 have h1:¬ ((1:Int)<0):=by lia
 unfold Builtin.Slice.sliceAdjust;simp only [h1,if_false];refine Prod.ext ?_ ?_
 ·cases lo with
  | none=>rfl
  | some v=>exact Gb v n 0
 ·cases hi with
  | none=>rfl
  | some v=>exact Gb v n n
theorem zag (i j:Nat):Uj (i:Int) (j:Int) 1=j - i:=by
 unfold Uj;have h1:(1:Int)>0:=by lia
 simp only [h1,if_true,Int.ediv_one];split <;> lia
theorem qZ {v:Yk}{o:Option Int}{Q:Option Int->ZG->Prop}(p:IsPart v o)(h:Q o s):Al (Am prog w) A (Builtin.Slice.slicePartIndex v) Q E s:=by
 cases p with
 | none=>exact slicePart_none h
 | int i t=>exact slicePart_int h
theorem gD {sl:Addr}{vl vu:Yk}{lo hi:Option Int}{n:Nat}{Q:Int×Int×Nat->ZG->Prop}(hs:s.heap.IsSliceOf sl vl vu .none)(pl:IsPart vl lo)(pu:IsPart vu hi)
  (h:Q (((sIx n 0 lo:Nat):Int),1,sIx n n hi - sIx n 0 lo) s):Al (Am prog w) A (Builtin.Slice.sliceApplied (.ref sl) (pure (n:Int))) Q E s:=by
 obtain ⟨os,hos,hcs,hds⟩:=id hs;unfold Builtin.Slice.sliceApplied Builtin.Slice.sliceFields;refine Zi<|Zi<|Ig hos hds (x:=vl) rfl<|Zi<|Ig hos hds (x:=vu) rfl<|Zi<|Ig hos hds (x:=.none) rfl<|BP ?_
 refine Zi<|slicePart_none ?_
 show Al _ _ (if ((1:Int)==0)=true then _ else _) _ _ s;rw [if_neg (by decide)];refine Zi<|qZ pl<|Zi<|qZ pu<|Zi<|BP ?_
 show Al _ _ (match Builtin.Slice.sliceAdjust lo hi 1 (n:Int) with | (lo,hi)=>pure (lo,(1:Int),Uj lo hi 1)) _ _ s;rw [aah lo hi n];show Al _ _ (pure (((sIx n 0 lo:Nat):Int),(1:Int),Uj ((sIx n 0 lo:Nat):Int) ((sIx n n hi:Nat):Int) 1)) _ _ s;rw [zag];exact BP h
theorem zaN (xs:Array Yk)(i k:Nat):((Hz k).filterMap fun (m:Nat)=>xs[((i:Int)+(m:Int)*1).toNat]?).toArray=((xs.toList.drop i).take k).toArray:=by
 have e:(fun (m:Nat)=>xs[((i:Int)+(m:Int)*1).toNat]?)=fun m=>xs[i+m]?:=by
  funext m;have:((i:Int)+(m:Int)*1).toNat=i+m:=by lia
  rw [this]
 rw [e];have:=pick_run xs i k
 rw [List.filterMap_map] at this;have e2:((fun x=>xs[x]?) ∘ fun x=>i+x)=fun m=>xs[i+m]?:=rfl
 rw [e2] at this;rw [this]
theorem lC {t sl:Addr}{afH:Array Yk}{vl vu:Yk}{lo hi:Option Int}{Q:Yk->ZG->Prop}(ht:IsTup s.heap t afH)(hs:s.heap.IsSliceOf sl vl vu .none)(pl:IsPart vl lo)(pu:IsPart vu hi)
  (hw:¬ (sIx afH.size 0 lo=0/\sIx afH.size afH.size hi=afH.size))
  (h:Q (.ref s.heap.objs.size) { s with heap:=s.heap.push { cls:=.type "tuple",data:=.seq ((afH.toList.drop (sIx afH.size 0 lo)).take (sIx afH.size afH.size hi - sIx afH.size 0 lo)).toArray } })
  (hsz:afH.size<=CR):Al (Am prog w) A (getItem (.ref t) (.ref sl)) Q E s:=by
 have htake:sizeOk (.seq ((afH.toList.drop (sIx afH.size 0 lo)).take (sIx afH.size afH.size hi - sIx afH.size 0 lo)).toArray):=by
  show ((afH.toList.drop (sIx afH.size 0 lo)).take (sIx afH.size afH.size hi - sIx afH.size 0 lo)).toArray.size<=CR;rw [Gm,JV,List.length_drop,RT];lia
 have hj:sIx afH.size afH.size hi<=afH.size:=Vu _ _ (Bp _) hi;obtain ⟨os,hos,hcs,hds⟩:=id hs;have hTs:s.TypeIs (.ref sl) "slice":=⟨os,hos,hcs⟩
 unfold getItem;try with_reducible refine Im ?_
 first | refine Zi (BP ?_) | skip
 refine Zi<|wpAny_sequenceKey ht.typeIs (by decide) ?_
 refine Zi (QC (name:=Oa "__getitem__") ht.typeIs Sq
  (Nq Sq ht.typeIs entry_tuple_getitem ?_ (args_tuple_getitem _ _)))
 show Al _ _ (Builtin.Tuple.tupleItemsOf (.ref t) >>= _) _ _ s;refine Zi<|tupleItemsOf_ ht ?_
 refine Zi<|Mf hTs ?_
 rw [if_pos (by decide)];refine Zi<|gD hs pl pu ?_
 have hno:¬ ((((sIx afH.size 0 lo:Nat):Int)==0&&(1:Int)==1&&(sIx afH.size afH.size hi - sIx afH.size 0 lo)==afH.size)=true):=by
  intro q;rw [Lw,Lw] at q;have q1:((sIx afH.size 0 lo:Nat):Int)=0:=eq_of_beq q.1.1;have q2:sIx afH.size afH.size hi - sIx afH.size 0 lo=afH.size:=eq_of_beq q.2;exact hw ⟨by lia,by lia⟩
 show Al _ _ (if (((sIx afH.size 0 lo:Nat):Int)==0&&(1:Int)==1&&(sIx afH.size afH.size hi - sIx afH.size 0 lo)==afH.size)=true then _ else _) _ _ s;rw [if_neg hno,zaN];first
  | exact Zi (m:=Qi _) (Js (BP ⟨_,rfl,BP h⟩) htake)
  | exact Zi (m:=Qi _) (Js (Zi (BP (BP ⟨_,rfl,BP h⟩))) htake)
  | exact Zi (Zi (m:=Qi _) (Js (BP (BP ⟨_,rfl,BP h⟩)) htake))
  | exact Zi (Zi (m:=Qi _) (Js (BP ⟨_,rfl,BP h⟩) htake))
end
end HT
namespace L2
open PySem PySem.Spec PyProof.Rows
abbrev TO:=St->Hp->(Option Int->Hp->Prop)->Prop
def PO (X:Cx)(e:Option Expr)(t:TO):Prop:=
 ∀ (afG:List (Addr×Obj)) (s:ZG) (Z : St) (H:Hp) (Q:Option Int->Hp->Prop),AP X afG Z H s->t Z H Q ->
  Al (Am X.prog X.w) X.A (evalPart e X.env) (fun u s'=>∃ o H',AP X afG Z H' s'/\IsPart u o/\Q o H') X.xe s
def zbo:TO:=fun _ H Q=>Q YK H
def Xb (t:TE):TO:=fun Z H Q=>t Z H fun x H1=>∃ i,x=.int i/\Q (Mk i) H1
section
variable {X:Cx}{e:Expr}{te:TE}{lo hi:Option Expr}{tl th:TO}{pos p2:Pos}
theorem abC:PO X YK zbo:=by
 intro afG s Z H Q I h;rw [evalPart_none];exact BP ⟨YK,H,I,.none,h⟩
theorem acQ (h:PE X e te):PO X (Mk e) (Xb te):=by
 intro afG s Z H Q I hw;rw [evalPart_some];refine CV (h afG s Z H _ I hw) fun u s1 ⟨x,H1,I1,r1,q1⟩=>?_;obtain ⟨i,rfl,q⟩:=q1;obtain ⟨t,rfl⟩:=r1;exact ⟨Mk i,H1,I1,.int i t,q⟩
def O8 (X:Cx)(r:V->Option Int->Option Int->Hp->VK->Prop):Prop:=
 ∀ (afG:List (Addr×Obj)) (s:ZG) (Z : St) (H:Hp) (x:V) (v vl vu:Yk) (lo hi:Option Int) (sl:Addr) (Q:VK),AP X afG Z H s->RelV x v->s.heap.IsSliceOf sl vl vu .none->IsPart vl lo->IsPart vu hi->r x lo hi H Q ->
  ∃ T id,Qj (.type T) "__getitem__" = pure (Mk (.builtin id))/\s.TypeIs v T/\Al (Am X.prog X.w) X.A (getItem v (.ref sl)) (EP X afG Z Q) X.xe s
theorem O8.or {r r':V->Option Int->Option Int->Hp->VK->Prop}(h:O8 X r)(h':O8 X r'):O8 X (fun x lo hi H Q=>r x lo hi H Q\/r' x lo hi H Q):=by
 intro afG s Z H x v vl vu lo hi sl Q I rx hs pl pu q;rcases q with q | q
 ·exact h afG s Z H x v vl vu lo hi sl Q I rx hs pl pu q
 ·exact h' afG s Z H x v vl vu lo hi sl Q I rx hs pl pu q
def tSl (r:V->Option Int->Option Int->Hp->VK->Prop)(te:TE)(tl th:TO):TE:=fun Z H Q=>te Z H fun x H1=>tl Z H1 fun l H2=>th Z H2 fun u H3=>r x l u H3 Q
theorem zaS {r:V->Option Int->Option Int->Hp->VK->Prop}(hr:O8 X r)(he:PE X e te)(hl:PO X lo tl)(hu:PO X hi th):PE X (.Subscript e (.Slice lo hi YK p2) pos) (tSl r te tl th):=by
 intro afG s Z H Q I h;refine Subscript_<|CV (he afG s Z H _ I h) fun v s1 ⟨x,H1,I1,r1,q1⟩=>?_
 refine wpAny_Slice<|CV (hl afG s1 Z H1 _ I1 q1) fun vl s2 ⟨l,H2,I2,pl,q2⟩=>CV (hu afG s2 Z H2 _ I2 q2) fun vu s3 ⟨u,H3,I3,pu,q3⟩=>?_
 rw [evalPart_none];refine BP ?_;have I4:AP X afG Z H3 { s3 with heap:=s3.heap.push { cls:=.type "slice",data:=.fields #[vl,vu,.none] } }:=I3.kept (t':=s3.toks) fun b ob q=>CT _ q
 obtain ⟨T,id,hT,ht,hg⟩:=hr afG { s3 with heap:=s3.heap.push { cls:=.type "slice",data:=.fields #[vl,vu,.none] } } Z H3 x v vl vu l u s3.heap.objs.size Q I4 r1 (Heap.IsSliceOf.new ..) pl pu q3;show Al (Am X.prog X.w) X.A (subscriptTail e (.Slice lo hi YK p2) v (.ref s3.heap.objs.size)) (EP X afG Z Q) X.xe { s3 with heap:=s3.heap.push { cls:=.type "slice",data:=.fields #[vl,vu,.none] } };exact tail_any (ops:=[.ref s3.heap.objs.size,v]) ht hT hg<|by with_unfolding_all rfl
def G8 (xs:List V)(lo hi:Option Int):List V:=(xs.drop (HT.sIx xs.length 0 lo)).take (HT.sIx xs.length xs.length hi - HT.sIx xs.length 0 lo)
theorem pW (xs:List V)(lo hi:Option Int):(G8 xs lo hi).length<=xs.length:=by
 unfold G8;rw [JV,List.length_drop];lia
def Za (K:Ar):V->Option Int->Option Int->Hp->VK->Prop:=fun x lo hi H Q=>∃ a xs,x=.ref a/\Ed K H a xs /\
 ¬ (HT.sIx xs.length 0 lo=0/\HT.sIx xs.length xs.length hi=xs.length)/\∀ p,H p=YK->Q (.ref p) (CJ H p (.tup (G8 xs lo hi)))
theorem adX:O8 X (Za X.K):=by
 intro afG s Z H x v vl vu lo hi sl Q I rx hs pl pu h;obtain ⟨a,xs,rfl,hx,hw,q⟩:=h;cases rx;obtain ⟨its,r,ht,hz⟩:=I.tuple hx;have afI:its.toArray.size=xs.length:=by rw [Gm];exact r.length.symm
 refine ⟨"tuple",_,Sq.lookup,ht.typeIs,?_⟩;refine HT.lC ht hs pl pu (by rw [afI];exact hw) ?_ (by rw [afI];exact hz);rw [afI];refine ⟨.ref s.heap.objs.size,_,I.laid (t':=s.toks) (o:=.tup (G8 xs lo hi)) (fun b ob q=>CT _ q) (Bp _) ?_,rfl,q _<|I.hok.fresh<|Bp _⟩;exact ⟨Cg (pW xs lo hi) hz,_,(r.drop<|HT.sIx xs.length 0 lo).take (HT.sIx xs.length xs.length hi - HT.sIx xs.length 0 lo),GD.new _ _⟩
def Xn (K:Ar):R2:=fun x y H Q=>∃ a b xs ys,x=.ref a/\y=.ref b/\Ed K H a xs/\Ed K H b ys/\xs≠[]/\xs.length+ys.length<=CR /\
 (ys=[]->Q (.ref a) H)/\(ys≠[]->∀ p,H p=YK->Q (.ref p) (CJ H p (.tup (xs++ys))))
theorem Az.nil_iff {xs:List V}{us:List Yk}(r:Az xs us):us=[]↔xs=[]:=by
 cases r with
 | nil=>simp
 | cons _ _=>simp
theorem zbr:HJ X (Iu .Add) (Xn X.K):=by
 intro afG s Z H x y v u Q I rx ry h;obtain ⟨a,b,xs,ys,rfl,rfl,ha,hb,hx,hz,q1,q2⟩:=h;cases rx;cases ry;obtain ⟨its,r1,p1,_⟩:=I.tuple ha;obtain ⟨its2,r2,p2,_⟩:=I.tuple hb;refine HT.Py p1 p2 (fun z=>hx<|r1.nil_iff.mp z) (fun z=>⟨.ref a,H,I,rfl,q1<|r2.nil_iff.mp z⟩) (fun z=>?_) (by rw [<-r1.length,<-r2.length];exact hz);refine ⟨.ref s.heap.objs.size,_,I.laid (t':=s.toks) (o:=.tup (xs++ys)) (fun b ob q=>CT _ q) (Bp _) ?_,rfl,q2 (fun w=>z<|r2.nil_iff.mpr w) _<|I.hok.fresh<|Bp _⟩;exact ⟨by rw [HB];exact hz,_,r1.append r2,GD.new _ _⟩
end
def Mq (n:Nat)(i:Int):Option Nat:=if 0<=i then (if i<n then Mk i.toNat else YK) else if -(n:Int)<=i then Mk (i+n).toNat else YK
def JQ {α : Type}(xs:List α)(i:Int):Option α:=(Mq xs.length i).bind fun j=>xs[j]?
theorem aei {n:Nat}{i:Int}{j:Nat}(h:Mq n i=Mk j):seqIndex? i n=Mk j/\j<n/\-(n:Int)<=i/\i<n:=by
 unfold Mq at h;by_cases h0:0<=i
 ·rw [if_pos h0] at h;by_cases h1:i<n
  ·rw [if_pos h1] at h;have e:i.toNat=j:=Eb h;exact ⟨by rw [seqIndex_of h0 h1,e],by lia,by lia,h1⟩
  ·rw [if_neg h1] at h;cases h
 ·rw [if_neg h0] at h;by_cases h1:-(n:Int)<=i
  ·rw [if_pos h1] at h;have e:(i+n).toNat=j:=Eb h;exact ⟨by rw [seqIndex_neg (by lia) h1,e],by lia,h1,by lia⟩
  ·rw [if_neg h1] at h;cases h
theorem wY {α : Type}{xs:List α}{i:Int}{v:α}(h:JQ xs i=Mk v):∃ j,seqIndex? i xs.length=Mk j/\xs[j]?=Mk v/\j<xs.length/\-(xs.length:Int)<=i/\i<xs.length:=by
 unfold JQ at h;cases e:Mq xs.length i with
 | none=>rw [e] at h;cases h
 | some j=>
  rw [e] at h;obtain ⟨h1,h2,h3,h4⟩:=aei e;exact ⟨j,h1,h,h2,h3,h4⟩
theorem Fx {α : Type}{xs:List α}{j:Nat}{v:α}(h:xs[j]?=Mk v):JQ xs (j:Int)=Mk v:=by
 have hj:j<xs.length:=(PJ.mp h).1;have e:Mq xs.length (j:Int)=Mk j:=by
  unfold Mq;rw [if_pos (by lia),if_pos (by lia)];simp
 unfold JQ;rw [e];exact h
def CQ (b:Expr):Prop:=∀ o i,subscripted b false o i=operate [o,i] (getItem o i)
def Pa (X:Cx)(r:R2):Prop:=
 ∀ (value slice:Expr) (afG:List (Addr×Obj)) (s:ZG) (Z : St) (H:Hp) (x y:V) (v u:Yk) (Q:VK),AP X afG Z H s->RelV x v->RelV y u->r x y H Q ->
  subscripted slice false v u=operate [v,u] (getItem v u)->Al (Am X.prog X.w) X.A (subscriptTail value slice v u) (EP X afG Z Q) X.xe s
def MtR (X:Cx)(id:String)(r:V->List V->Hp->VK->Prop):Prop:=
 ∀ (afG:List (Addr×Obj)) (s:ZG) (Z : St) (H:Hp) (x:V) (xs:List V) (v:Yk) (us:List Yk) (Q:VK),AP X afG Z H s->RelV x v->Az xs us->r x xs H Q ->
  Al (Am X.prog X.w) X.A (call (.builtin id) (v::us)) (EP X afG Z Q) X.xe s
section
variable {X:Cx}{a b:Expr}{ta tb:TE}{pos:Pos}
theorem Pa.or {r r':R2}(h:Pa X r)(h':Pa X r'):Pa X (fun x y H Q=>r x y H Q\/r' x y H Q):=by
 intro value slice afG s Z H x y v u Q I rx ry q hs;rcases q with q | q
 ·exact h value slice afG s Z H x y v u Q I rx ry q hs
 ·exact h' value slice afG s Z H x y v u Q I rx ry q hs
theorem V7 {r:R2}(hr:Pa X r)(ha:PE X a ta)(hb:PE X b tb)(hs:CQ b):PE X (.Subscript a b pos) (tOp r ta tb):=by
 intro afG s Z H Q I h;exact Subscript_<|W2 ha hb I h fun v u s2 x y H2 I2 rx ry q=>hr a b afG s2 Z H2 x y v u Q I2 rx ry q<|hs _ _
def Yw (K:Ar):R2:=fun x y H Q=>∃ p xs i v,x=.ref p/\y=.int i/\GK K H p xs/\JQ xs i=Mk v/\Q v H
def Y0 (K:Ar):R2:=fun x y H Q=>∃ p xs i v,x=.ref p/\y=.int i/\Ed K H p xs/\JQ xs i=Mk v/\Q v H
def Yt:R2:=fun x y H Q=>∃ z i c,x=.str z/\y=.int i/\z.length<=CR/\JQ z.cps.toList i=Mk c/\Q (.str ⟨#[c]⟩) H
theorem acf:Pa X (Yw X.K):=by
 intro value slice afG s Z H x y v u Q I rx ry h hs;obtain ⟨p,xs,i,z,rfl,rfl,hq,he,q⟩:=h;cases rx;obtain ⟨t,rfl⟩:=ry;obtain ⟨its,r,pl,hz⟩:=I.list hq;obtain ⟨j,h1,h2,h3,h4,h5⟩:=wY he;obtain ⟨w,ew,rw'⟩:=r.get h2;have hl:=r.length;have hn:=vG;have fin:EP X afG Z Q w s:=⟨z,H,I,rw',q⟩
 by_cases h0:0<=i
 ·have hj:i.toNat=j:=by
   rw [seqIndex_of h0 h5] at h1;exact Eb h1
  exact item_listR pl.isList h0 (by lia) (by rw [hj];simpa using ew) fin hs
 ·have hj:(i+(its.toArray.size:Int)).toNat=j:=by
   rw [seqIndex_neg (by lia) h4] at h1;rw [Gm,<-hl];exact Eb h1
  exact subscriptTail_builtinR (x:=w) pl.isList.typeIs slot_list_getitem.lookup
   (wpAny_getItem_list_neg (Q:=fun r s'=>r=w/\EP X afG Z Q r s') pl.isList (by lia) (by rw [Gm] <;> lia) (by lia) (by rw [hj];simpa using ew) ⟨rfl,fin⟩) hs
theorem acR:Pa X (Y0 X.K):=by
 intro value slice afG s Z H x y v u Q I rx ry h hs;obtain ⟨p,xs,i,z,rfl,rfl,hq,he,q⟩:=h;cases rx;obtain ⟨t,rfl⟩:=ry;obtain ⟨its,r,pl,hz⟩:=I.tuple hq;obtain ⟨j,h1,h2,h3,h4,h5⟩:=wY he;obtain ⟨w,ew,rw'⟩:=r.get h2;have hl:=r.length;have hn:=vG;have fin:EP X afG Z Q w s:=⟨z,H,I,rw',q⟩
 exact subscriptTail_builtinR (x:=w) pl.typeIs slot_tuple_getitem.lookup
  (getItem_tuple (j:=j) (Q:=fun r s'=>r=w/\EP X afG Z Q r s') pl (by lia) (by lia) (by rw [Gm,<-hl];exact h1) (by simpa using ew) ⟨rfl,fin⟩) hs
theorem aew:Pa X Yt:=by
 intro value slice afG s Z H x y v u Q I rx ry h hs;obtain ⟨z,i,c,rfl,rfl,hz,he,q⟩:=h;obtain ⟨t,rfl⟩:=rx;obtain ⟨t',rfl⟩:=ry;obtain ⟨j,h1,h2,h3,h4,h5⟩:=wY he;have hl:z.cps.toList.length=z.length:=by simp [Str.length]
 rw [hl] at h1 h4 h5;have hn:=vG;exact tail_any (typeIs_str s z t) slot_str_getitem.lookup (getItem_str (c:=c) (by
  have e1:decide (i < -(2^63:Int))=false:=decide_eq_false (by lia);have e2:decide (i>=2^63)=false:=decide_eq_false (by lia);rw [e1,e2,Bool.or_false]) (by rw [h1];simpa using h2) ⟨.str ⟨#[c]⟩,H,I.tok _,⟨_,rfl⟩,q⟩) hs
def rIx (K:Ar):R2:=fun x y H Q=>Yw K x y H Q\/Y0 K x y H Q\/Yt x y H Q
theorem Us:Pa X (rIx X.K):=acf.or (acR.or aew)
theorem vB (lo hi:Option Int)(n:Nat):(Qz lo hi YK n).1=((HT.sIx n 0 lo:Nat):Int)/\(Qz lo hi YK n).2.1=((HT.sIx n n hi:Nat):Int)/\(Qz lo hi YK n).2.2=1:=by
 refine ⟨?_,?_,rfl⟩
 ·cases lo with
  | none=>simp [Qz,HT.sIx]
  | some i=>
   simp only [Qz,HT.sIx,Option.getD_none,show (1:Int)>0 by decide,if_true];by_cases h:i<0
   ·simp only [h,if_true] <;> lia
   ·simp only [h,if_false] <;> lia
 ·cases hi with
  | none=>simp [Qz,HT.sIx]
  | some i=>
   simp only [Qz,HT.sIx,Option.getD_none,show (1:Int)>0 by decide,if_true];by_cases h:i<0
   ·simp only [h,if_true] <;> lia
   ·simp only [h,if_false] <;> lia
theorem tO (its:List Yk)(lo hi:Option Int):slicePick its.toArray lo hi YK=((its.drop (HT.sIx its.length 0 lo)).take (HT.sIx its.length its.length hi - HT.sIx its.length 0 lo)).toArray:=by
 obtain ⟨h1,h2,h3⟩:=vB lo hi its.toArray.size;unfold slicePick;rw [h1,h2,h3];simp only [sliceRange_one,pick_run,Gm] <;> rfl
def Zx (K:Ar):V->Option Int->Option Int->Hp->VK->Prop:=fun x lo hi H Q=>∃ a xs,x=.ref a/\GK K H a xs/\∀ p,H p=YK->Q (.ref p) (CJ H p (.lst (G8 xs lo hi)))
theorem acj:O8 X (Zx X.K):=by
 intro afG s Z H x v vl vu lo hi sl Q I rx hs pl pu h;obtain ⟨a,xs,rfl,hx,q⟩:=h;cases rx;obtain ⟨its,r,ht,hz⟩:=I.list hx;have afI:=r.length;refine ⟨"list",_,slot_list_getitem.lookup,ht.isList.typeIs,?_⟩;refine wpAny_getItem_list_slice ht.isList hs pl pu .none (by simp) ?_ (by rw [Gm] <;> lia);rw [tO,<-afI];refine ⟨.ref s.heap.objs.size,_,I.laid (t':=s.toks) (o:=.lst (G8 xs lo hi)) (fun b ob q=>CT _ q) (Bp _) ?_,rfl,q _<|I.hok.fresh<|Bp _⟩;exact ⟨Cg (pW xs lo hi) hz,_,0,(r.drop<|HT.sIx xs.length 0 lo).take (HT.sIx xs.length xs.length hi - HT.sIx xs.length 0 lo),Ej _ rfl⟩
def DX:V->Bool
 | .non=>true
 | .bl _=>true
 | .int _=>true
 | .str _=>true
 | _=>false
def eqV:V->V->Bool
 | .non,.non=>true
 | .bl a,.bl b=>a==b
 | .bl a,.int b=>(if a then 1 else 0)==b
 | .int a,.bl b=>a==(if b then 1 else 0)
 | .int a,.int b=>a==b
 | .str a,.str b=>a==b
 | _,_=>false
theorem aex {A:Bx}{s:ZG}{y x:V}{u v:Yk}(ry:RelV y u)(rx:RelV x v)(fy:DX y=true)(fx:DX x=true):Rb A s u v (eqV y x):=by
 cases y with
 | non=>
  cases ry;cases x with
  | non=>cases rx;exact SeqAt.EqAt.same _
  | bl b=>cases rx;exact SeqAt.EqAt.none_bool b
  | int b=>obtain ⟨t,rfl⟩:=rx;exact SeqAt.EqAt.none_int b t
  | str b=>obtain ⟨t,rfl⟩:=rx;exact SeqAt.EqAt.none_str b t
  | _=>exact absurd (show false=true from fx) Hu
 | bl a=>
  cases ry;cases x with
  | non=>cases rx;exact SeqAt.EqAt.bool_none a
  | bl b=>cases rx;exact SeqAt.EqAt.bool_bool a b
  | int b=>obtain ⟨t,rfl⟩:=rx;exact SeqAt.EqAt.bool_int a b t
  | str b=>obtain ⟨t,rfl⟩:=rx;exact SeqAt.EqAt.bool_str a b t
  | _=>exact absurd (show false=true from fx) Hu
 | int a=>
  obtain ⟨t',rfl⟩:=ry;cases x with
  | non=>cases rx;exact SeqAt.EqAt.int_none a t'
  | bl b=>cases rx;exact SeqAt.EqAt.int_bool a t' b
  | int b=>obtain ⟨t,rfl⟩:=rx;exact SeqAt.EqAt.int_int a t' b t
  | str b=>obtain ⟨t,rfl⟩:=rx;exact SeqAt.EqAt.int_str a t' b t
  | _=>exact absurd (show false=true from fx) Hu
 | str a=>
  obtain ⟨t',rfl⟩:=ry;cases x with
  | non=>cases rx;exact SeqAt.EqAt.str_none a t'
  | bl b=>cases rx;exact SeqAt.EqAt.str_bool a t' b
  | int b=>obtain ⟨t,rfl⟩:=rx;exact SeqAt.EqAt.str_int a t' b t
  | str b=>obtain ⟨t,rfl⟩:=rx;exact SeqAt.EqAt.str_str a t' b t
  | _=>exact absurd (show false=true from fx) Hu
 | _=>exact absurd (show false=true from fy) Hu
theorem vV:jo X (.builtin "len") (fun xs H Q=>∃ p ys,xs=[.ref p]/\(GK X.K H p ys\/Ed X.K H p ys)/\Q (.int ys.length) H):=by
 intro afG s Z H xs us Q I r h;obtain ⟨p,ys,rfl,hq,q⟩:=h;obtain ⟨u,rfl,rx⟩:=vals1 r;cases rx;have hn:=vG;rcases hq with hq | hq
 ·obtain ⟨its,r',pl,hz⟩:=I.list hq;have afI:=r'.length;exact Calls.call_len_list pl.isList (by simp only [Gm] <;> lia) ⟨.int ys.length,H,I.tok _,⟨s.toks+1,by rw [Gm,afI]⟩,q⟩
 ·obtain ⟨its,r',pl,hz⟩:=I.tuple hq;have afI:=r'.length;exact len_tuple pl (by simp only [Gm] <;> lia) ⟨.int ys.length,H,I.tok _,⟨s.toks+1,by rw [Gm,afI]⟩,q⟩
theorem rT:jo X (.type "tuple") (fun xs H Q=>∃ p ys,xs=[.ref p]/\((GK X.K H p ys/\∀ l,H l=YK->Q (.ref l) (CJ H l (.tup ys)))\/(Ed X.K H p ys/\Q (.ref p) H))):=by
 intro afG s Z H xs us Q I r h;obtain ⟨p,ys,rfl,h⟩:=h;obtain ⟨u,rfl,rx⟩:=vals1 r;cases rx;rcases h with ⟨hq,q⟩ | ⟨hq,q⟩
 ·obtain ⟨its,r',pl,hz⟩:=I.list hq;have afI:=r'.length;refine call_tuple_list pl.isList (fun h' kp=>?_) (by simp only [Gm] <;> lia);have I1:AP X afG Z H { s with heap:=h' }:=I.kept (t':=s.toks) kp;have I2:AP X afG Z (CJ H h'.objs.size (.tup ys)) { s with heap:=h'.push { cls:=.type "tuple",data:=.seq its.toArray } }:=
   I1.laid (t':=s.toks) (fun b o e=>CT _ e) (Bp _) (show dX X.prog X.w _ _ _ (.tup ys) from ⟨hz,its,r',GD.new _ _⟩)
  exact ⟨.ref h'.objs.size,_,I2,rfl,q _<|I1.hok.fresh<|Bp _⟩
 ·obtain ⟨its,r',pl,hz⟩:=I.tuple hq;exact call_tuple_same pl ⟨.ref p,H,I,rfl,q⟩
def tyV (K:Ar)(T:String)(x:V)(H:Hp):Prop:=match x with
 | .str _=>T = "str"
 | .int _=>T = "int"
 | .ref p=>(T = "list"/\∃ xs,GK K H p xs)\/(T = "tuple"/\∃ o,K.lookup p=Mk o/\o.cls=.type "tuple"/\o.dict=YK) \/
   (T = "dict"/\((∃ kvs,H p=Mk (.dK kvs))\/∃ kvs,H p=Mk (.dT kvs)))\/(T = "set"/\∃ S n,H p=Mk (.set S n))
 | _=>False
theorem Kg {afG:List (Addr×Obj)}{Z : St}{H:Hp}{s:ZG}{T:String}{x:V}{v:Yk}(I:AP X afG Z H s)(r:RelV x v)(ty:tyV X.K T x H):
  s.TypeIs v T/\∀ a,v=.ref a->∃ ob,s.heap.get? a=Mk ob/\ob.dict=YK:=by
 cases x with
 | str z=>
  obtain ⟨t,rfl⟩:=r;cases (show T = "str" from ty)
  exact ⟨typeIs_str s z t,fun _ e=>nomatch e⟩
 | int i=>
  obtain ⟨t,rfl⟩:=r;cases (show T = "int" from ty)
  exact ⟨typeIs_int s i t,fun _ e=>nomatch e⟩
 | ref p=>
  cases r;rcases ty with ⟨rfl,xs,hq⟩ | ⟨rfl,o,hk,hc,hd⟩ | ⟨rfl,hk⟩ | ⟨rfl,S,n,hk⟩
  ·obtain ⟨its,_,pl,_⟩:=I.list hq;refine ⟨pl.isList.typeIs,fun a e=>?_⟩;cases e;obtain ⟨o,n,e,c,hd,_⟩:=pl;exact ⟨o,e,hd⟩
  ·refine ⟨⟨o,I.kIn p o hk,hc⟩,fun a e=>?_⟩;cases e;exact ⟨o,I.kIn _ o hk,hd⟩
  ·have z:∃ o,s.heap.get? p=Mk o/\o.ExactDict:=by
    rcases hk with ⟨kvs,hk⟩ | ⟨kvs,hk⟩
    ·obtain ⟨_,_,_,_,o,_,_,e,ex,_⟩:=I.hok p _ hk;exact ⟨o,e,ex⟩
    ·obtain ⟨_,_,_,_,o,_,_,e,ex,_⟩:=I.hok p _ hk;exact ⟨o,e,ex⟩
   obtain ⟨o,e,ex⟩:=z;refine ⟨⟨o,e,ex.1⟩,fun a e2=>?_⟩;cases e2;exact ⟨o,e,ex.2.1⟩
  ·obtain ⟨o,_,_,_,e,ex,_⟩:=I.hok p _ hk;refine ⟨⟨o,e,ex.1⟩,fun a e2=>?_⟩;cases e2;exact ⟨o,e,ex.2.1⟩
 | _=>exact Lz ty
def Zk (K:Ar)(T:String)(r:V->List V->Hp->VK->Prop)(to:TE):TE:=fun Z H Q=>to Z H fun x H1=>tyV K T x H1/\r x [] H1 Q
def tBM (K:Ar)(T:String)(r:V->List V->Hp->VK->Prop)(to:TE)(t:TA):TE:=fun Z H Q=>to Z H fun x H1=>tyV K T x H1/\t Z H1 fun xs H2=>r x xs H2 Q
variable {o e:Expr}{es:List Expr}{to:TE}{t:TA}{name:Str}{apos afJ:Pos}{T id:String}{r:V->List V->Hp->VK->Prop}
theorem aeG (pa:PlainAttrs T)(slot:Slot T name id)(hty:typeOf (.builtin id)=pure (.type "method_descriptor"))(hm:MtR X id r)(ho:PE X o to)
  (hbase:QF o name X.env (eval o X.env)=eval o X.env:=by rfl) (hline:(apos.endLine==afJ.line)=true:=by rfl):PE X (.Call (.Attribute o name apos) [] [] afJ) (Zk X.K T r to):=by
 intro afG s Z H Q I h;refine wpAny_Call_method0_late hbase hline<|CV (ho afG s Z H _ I h) fun v s1 ⟨x,H1,I1,r1,ty,q1⟩=>?_
 obtain ⟨h1,h2⟩:=Kg I1 r1 ty;exact ⟨T,id,pa,slot,hty,h1,h2,TF rfl<|PySem.evalArgs_none<|hm afG s1 Z H1 x [] v [] Q I1 r1 .nil q1⟩
theorem Yb (pa:PlainAttrs T)(slot:Slot T name id)(hty:typeOf (.builtin id)=pure (.type "method_descriptor"))(hm:MtR X id r)(ho:PE X o to)(ha:PA X (e::es) t)
  (hbase:QF o name X.env (eval o X.env)=eval o X.env:=by rfl)
  (hfew:((En afJ (Bo (e::es) X.env)).all (fun x=>!x.1)&&(backToKw afJ (QJ [] X.env)).all (fun x=>x.1.isSome)
   && decide ((e::es).length+([]:List Jx).length+(if ([]:List Jx).isEmpty then 0 else 1)<30))=true:=by rfl)
  (hline:(apos.endLine==afJ.line)=true:=by rfl) (hs:Bo (e::es) X.env=(false,eval e X.env)::Bo es X.env:=by rfl) (hplain:(En afJ (Bo es X.env)).any (·.1)=false:=by rfl) :
  PE X (.Call (.Attribute o name apos) (e::es) [] afJ) (tBM X.K T r to t):=by
 intro afG s Z H Q I h;refine U8 hbase hfew hline rfl<|CV (ho afG s Z H _ I h) fun v s1 ⟨x,H1,I1,r1,ty,q1⟩=>?_
 obtain ⟨h1,h2⟩:=Kg I1 r1 ty;refine ⟨T,id,pa,slot,hty,h1,h2,?_⟩;have hA:=ha afJ afG s1 Z H1 _ I1 q1;rw [hs] at hA |-
 refine TF (by show (false||(En afJ<|Bo es X.env).any (·.1))=false;rw [hplain] <;> rfl)<|T8 ?_
 exact CV hA fun us s2 ⟨vs,H2,I2,r2,q2⟩=>hm afG s2 Z H2 x vs v us Q I2 r1 r2 q2
/- xs.append(e), list.index on a module's tuple .. are MtR facts of 06m -/
end
def MtM (X:Cx)(id:String)(r:V->List V->Hp->VK->Prop):Prop:=
 ∀ (afG:List (Addr×Obj)) (s:ZG) (Z : St) (H:Hp) (x:V) (xs:List V) (v:Yk) (us:List Yk) (Q:VK),AP X afG Z H s->RelV x v->Az xs us->r x xs H Q ->
  Al (Am X.prog X.w) X.A (call (.builtin id) (v::us)) (EP X afG Z Q) X.xe s
theorem Az.one:∀ {x:V} {us:List Yk},Az [x] us->∃ u,us=[u]/\RelV x u
 | _,_,.cons r .nil=>⟨_,rfl,r⟩
theorem Az.zero:∀ {us:List Yk},Az [] us->us=[]
 | _,.nil=>rfl
theorem Az.rep {xs:List V}{us:List Yk}(h:Az xs us):∀ k:Nat,Az (BK k xs).flatten (BK k us).flatten
 | 0=>.nil
 | k+1=>by
  rw [Oj,Oj,Qf,Qf];exact Az.append h<|Az.rep h k
theorem foldl_rep (its:List Yk):∀ (k:Nat) (acc:List Yk),
  List.foldl (fun x1 x2=>x1++x2) acc.toArray (BK k its.toArray)=(acc++(BK k its).flatten).toArray
 | 0,acc=>by simp
 | k+1,acc=>by
  have e:acc.toArray++its.toArray=(acc++its).toArray:=by simp
  have e2:(acc++its)++(BK k its).flatten=acc++(BK (k+1) its).flatten:=by
   rw [Oj,Qf,Mh]
  rw [<-e2,<-foldl_rep its k (acc++its),<-e,Oj,List.foldl_cons]
section
variable {X:Cx}{afG:List (Addr×Obj)}{Z : St}{H:Hp}{s:ZG}{l b:Addr}{xs ys zs:List V}
theorem AP.lset {its its':List Yk}{n:Nat}{f:Array Yk->Array Yk}{t':Nat}(I:AP X afG Z H s)(hH:H l=Mk (.lst xs))
  (e:s.heap.get? l=Mk { cls:=.type "list",data:=.seq its.toArray n }) (hf:f its.toArray=its'.toArray) (hv:Az ys its') (hz:ys.length<=CR) :
  AP X afG Z (CJ H l (.lst ys)) { s with heap:=s.heap.update l (Obj.mapSeq f),toks:=t' }:=by
 have q:=PySem.IsL.update e f;rw [hf] at q;refine I.write (x:=l) (e:=l) (by rw [hH];exact trivial) (.inl rfl) (fun b' u hb hu=>(Ln s.heap (Obj.mapSeq f)<|Hf hb).trans hu) ⟨_,q⟩ ?_;exact ⟨hz,its',_,hv,q⟩
theorem AP.lnew {its:List Yk}{t':Nat}(I:AP X afG Z H s)(hv:Az ys its)(hz:ys.length<=CR):
  AP X afG Z (CJ H s.heap.objs.size (.lst ys)) { s with heap:=s.heap.push { cls:=.type "list",data:=.seq its.toArray },toks:=t' }:=
 I.laid (fun _ _ q=>CT _ q) (Bp _) ⟨hz,its,0,hv,Ej _ rfl⟩
theorem AP.fresh (I:AP X afG Z H s):H s.heap.objs.size=YK:=I.hok.fresh (Bp _)
theorem AP.lstM (I:AP X afG Z H s)(hH:H l=Mk (.lst xs)):xs.length<=CR/\∃ (its:List Yk) (n:Nat),Az xs its/\xs.length=its.length/\s.heap.get? l=Mk { cls:=.type "list",data:=.seq its.toArray n }:=by
 obtain ⟨z,its,n,r,e⟩:=I.hok l _ hH;exact ⟨z,its,n,r,r.length,e⟩
end
section
variable {X:Cx}
def Dp:V->List V->Hp->VK->Prop:=fun x vs H Q=>∃ l xs y,x=.ref l/\vs=[y]/\H l=Mk (.lst xs)/\xs.length<CR/\Q .non (CJ H l (.lst (xs++[y])))
theorem vo:MtM X "list.append" Dp:=by
 intro afG s Z H x vs v us Q I rx rv h;obtain ⟨l,xs,y,rfl,rfl,hH,hz,q⟩:=h;cases rx;obtain ⟨u,rfl,ru⟩:=rv.one;obtain ⟨z,its,n,r,hl,e⟩:=I.lstM hH;refine call_meets F.slot_list_append ⟨_,e,rfl⟩ F.entry_list_append (F.args_list_append_2 _ _) (PySem.list_append l its.toArray n u (by rw [Gm];lia)) ⟨e,?_⟩;refine ⟨.non,_,I.lset (its':=its++[u]) hH e (by simp) (r.append<|.cons ru .nil) ?_,rfl,q⟩;rw [HB,O4];lia
def Y7:R2:=fun x y H Q=>∃ l b xs zs,x=.ref l/\y=.ref b/\H l=Mk (.lst xs)/\H b=Mk (.lst zs)/\xs.length+zs.length<=CR/\∀ p,H p=YK->Q (.ref p) (CJ H p (.lst (xs++zs)))
theorem ael:HJ X (Iu .Add) Y7:=by
 intro afG s Z H x y v u Q I rx ry h;obtain ⟨l,b,xs,zs,rfl,rfl,hH,hB,hz,q⟩:=h;cases rx;cases ry;obtain ⟨z,its,n,r,hl,e⟩:=I.lstM hH;obtain ⟨z2,its2,n2,r2,hl2,e2⟩:=I.lstM hB;refine PySem.P.add_list e e2 ?_ (by rw [Gm,Gm];lia);have ea:its.toArray++its2.toArray=(its++its2).toArray:=by simp
 rw [ea];exact ⟨.ref _,_,I.lnew (t':=s.toks) (r.append r2) (by rw [HB];lia),rfl,q _ I.fresh⟩
theorem len_rep {α : Type}(xs:List α)(k:Nat):(BK k xs).flatten.length=k*xs.length:=by
 induction k with
 | zero=>simp
 | succ k ih=>rw [Oj,Qf,HB,ih,Nat.succ_mul,Nat.add_comm]
end
section
variable {prog:Bs}{w:Bh}{A:Bx}{E:Yk->ZG->Prop}{s:ZG}
end
section
variable {X:Cx}
end
end L2
namespace Att
open PySem PySem.W PySem.Calls PyProof.Rows
theorem pO {P:Params}{h:Heap}:∀ (ns:List Int) (vs:List Yk),WellAll P h vs (ns.map WData.int)->IntsAre vs ns:=by
 intro ns;induction ns with
 | nil=>
  intro vs w;rw [Hq] at w;cases w;exact .nil
 | cons n ns ih=>
  intro vs w;rw [Bf] at w;cases w with
  | cons a b=>
   cases a;exact .cons _ _<|ih _ b
theorem zar {l:OpenLaw}{n:Nat}(hn:l.most=Mk n){P:Params}{h:Heap}{args:List WData}{vals:List Yk}
  (hpre:l.row.toRowW.claim.pre args=true) (hwl:WellAll P h vals args) :
  ∃ a vs ns,vals=[Value.ref a]/\args=[WData.list (ns.map WData.int)]/\h.get? a=Mk { cls:=.type "list",data:=.seq vs.toArray }/\IntsAre vs ns/\ns.length<=n:=by
 have hsh:WShape.hasAll [] args [.list .int]=true:=(pre_splitW hpre).1;have hc:l.pre.holds [] { args:=args }=true:=(pre_splitW hpre).2;obtain ⟨d,r,rfl,h1,h2⟩:=hasAllW_cons hsh;obtain rfl:=hasAllW_nil h2;obtain ⟨xs,rfl,h3⟩:=hasW_list h1;obtain ⟨ns,rfl⟩:=items_int h3;have afI:ns.length<=n:=by
  unfold OpenLaw.pre at hc;have h4:(WTm.not (.lt (.lit (.int (n:Int))) (.len (.arg 0)))).holds [] { args:=[.list (ns.map .int)] }=true:=by
   have h4:=(holds_andW hc).1;rw [hn] at h4;exact h4
  have h5:=condW_of h4 (w_not (w_lt w_lit (w_len_list (w_arg rfl))));rw [Cm] at h5;refine Nat.le_of_not_lt fun q=>?_;have q':(n:Int)<((ns.length:Nat):Int):=by lia
  first
   | (rw [decide_eq_true q'] at h5;exact absurd h5 (by decide))
   | (simp at h5;lia)
 cases hwl with
 | cons w1 w2=>
  cases w2;cases w1 with
  | list ho hall=>exact ⟨_,_,ns,rfl,rfl,ho,pO ns _ hall,afI⟩
theorem zaF (l:OpenLaw)(args:List WData):l.row.toRowW.claim.post args (.bool true) args=true:=
 postW_of (r:=l.row.toRowW) (X:=(true==true))
  (show WShape.has [] (.bool true) .bool=true by first | rfl | decide | simp [WShape.has,WShape.arms,WShape.armsAll])
  (show (WTm.eq .res (.lit (.bool true))).value [] { args:=args,res:=Mk (.bool true),after:=args }=Mk (.bool (true==true)) from w_eq_bool (w_res rfl) w_lit) rfl
theorem xr {l:OpenLaw}{n:Nat}{q:Bs}{loose:List Str}{XP:(Str->Option Yk)->Heap->Prop}{YP:Bh->Heap->Prop}{d:DefRec}
  (hn:l.most=Mk n) (hdf:d.params.defaults=[])
  (call:∀ (w:Bh) (s₀ s₁ : ZG) (mg mb:Str->Option Yk) (fa:Addr) (o:Obj) (pm cd doc:Yk) (a:Addr) (vs:List Yk) (ns:List Int),
   Ground q loose [] XP w s₀ mg mb s₁.heap->YP w s₁.heap ->
   s₁.heap.get? fa=Mk o->o.data=.func (docDef d.name d.params d.body d.scope pm cd doc)->s₁.heap.CodeRec cd d.name->mg d.name=Mk (.ref fa) ->
   s₁.heap.get? a=Mk { cls:=.type "list",data:=.seq vs.toArray }->IntsAre vs ns->ns.length<=n->s₁.gens = #[] ->
   Li (Am l.prog w) callerA (.call (.ref fa) ⟨[.ref a],[]⟩) (fun r s'=>r=.ok (.ret (.bool true))/\OldK s₁.heap s'.heap/\s'.os=s₁.os/\Nh s'.gens) s₁) :
  WalkO q loose XP YP l.row.toRowW d [] (fun f vs=>PySem.call f vs):=by
 intro w s₀ s₁ mg mb G Y fa o pm cd doc dV kV ho hd hcd hD hmg hg args vals as hpre hlay hrd hwl hlo;obtain rfl:dV=.none:=Dflts.none hD hdf;obtain rfl:kV=.none:=Dflts.noKw hD;obtain ⟨a,vs,ns,rfl,rfl,hobj,hints,afI⟩:=zar hn hpre hwl;refine enter_call<|Ri (call w s₀ s₁ mg mb fa o pm cd doc a vs ns G Y ho (fd_plain hd) hcd hmg hobj hints afI hg) fun r s' hq=>?_
 obtain ⟨rfl,h2,h3,h4⟩:=hq;exact ⟨.inl ⟨.bool true,.bool true,[],rfl,fun _=>rfl,.bool true,zaF l _,fun _=>⟨List.Pairwise.nil,fun _ hm=>(nomatch hm)⟩⟩,h2,h3,h4⟩
section
variable {prog:Bs}{w:Bh}{A:Bx}{E:Yk->ZG->Prop}{s:ZG}{K:Frag}
def ledger (h:Heap)(L d:Addr):List (Addr×Obj):=(Hz h.objs.size).filterMap fun a=>if a=L\/a=d then YK else (h.get? a).map fun o=>(a,o)
end
end Att
variable {XP : (Str->Option Yk)->Heap->Prop}{loose : List Str}{YP : Bh->Heap->Prop}
namespace L2
open PySem PySem.Spec PyProof.Rows
theorem uM:∀ {vs:List Yk} {ns:List Int},IntsAre vs ns->Az (ns.map V.int) vs
 | _,_,.nil=>.nil
 | _,_,.cons n t h=>.cons ⟨t,rfl⟩ (uM h)
def Only (H:Hp):Prop:=∀ b,H b=YK\/∃ o xs,H b=Mk (.frz o (.lst xs))
variable {ns : List Int}
theorem zaP {P:Bs}{w:Bh}{K:Ar}{mg mb:Str->Option Yk}{CX:OD}{k:Nat}{fa a:Addr}{fd:Ei}{x:Str}{sp:Sp}{s₁ : ZG}{vs:List Yk}
  (KX:K.In s₁.heap) (hns:s₁.heap.Ns DK mg) (hb:s₁.heap.Ns builtinsNs mb) (hbb:∀ x:Str,x ≠ "__name__"->mb x=Pu x) (hlim:s₁.heap.NoLimit) (hg:s₁.gens = #[])
  (ha:s₁.heap.get? a=Mk { cls:=.type "list",data:=.seq vs.toArray }) (hi:IntsAre vs ns) (hl:ns.length<=CR) (hr:mQ k callerA)
  (F:∀ base:Heap,K.In base->base.Ns DK mg->eU P w K mg base CX k fa fd [x] sp) (hbind:∀ (s:ZG) (u:Yk),BindsTo s fd ⟨[u],[]⟩ [(x,u)])
  (hsp:∀ H:Hp,Only H->GK K H a (ns.map V.int)->sp [.ref a] H (fun v _=>v=.bl true) fun _ _ _=>False)
  (hCX:∀ H e s',CX [] H s₁ (fun _ _ _=>False) e s'->False) :
  Li (Am P w) callerA (.call (.ref fa) ⟨[.ref a],[]⟩) (fun r s'=>r=.ok (.ret (.bool true))/\OldK s₁.heap s'.heap/\s'.os=s₁.os/\Nh s'.gens) s₁:=by
 have rv:=uM hi;have lenV:=hi.length
 -- from an abstract heap in which nothing but the script may be tracked
 have core:∀ H:Hp,Only H->GK K H a (ns.map V.int)->HN P w H s₁.heap->(∀ b,H b≠YK->b=a)->(H a≠YK->K.lookup a=YK) ->
   Li (Am P w) callerA (.call (.ref fa) ⟨[.ref a],[]⟩) (fun r s'=>r=.ok (.ret (.bool true))/\OldK s₁.heap s'.heap/\s'.os=s₁.os/\Nh s'.gens) s₁:=by
  intro H hO hS hok hA hK;have base_of:∀ {b:Addr} {o:Obj},s₁.heap.get? b=Mk o->H b=YK->(JH s₁.heap H).get? b=Mk o:=fun e n=>zaH e n
  have noA:∀ {b:Addr} {o:Obj} {es:Array Nk} {ep:Nat},s₁.heap.get? b=Mk o->o.data=.dict es ep->H b=YK:=fun {b o es ep} e d=>by
   cases q:H b with
   | none=>rfl
   | some u=>
    have e':b=a:=hA b (by rw [q];simp);subst e';rw [ha] at e;cases e;have d':Data.seq vs.toArray _=Data.dict es ep:=d;cases d'
  have nsK:∀ {b:Addr} {m:Str->Option Yk},s₁.heap.Ns b m->(JH s₁.heap H).Ns b m:=fun {b m} ⟨o,es,ep,e,d,r⟩=>⟨o,es,ep,base_of e (noA e d),d,r⟩
  have hKb:K.In (JH s₁.heap H):=fun b o e=>base_of (KX b o e) (by
   cases q:H b with
   | none=>rfl
   | some u=>
    have e':b=a:=hA b (by rw [q];simp);subst e';rw [hK (by rw [q];simp)] at e;cases e)
  have hM:Mod K mg (JH s₁.heap H):=⟨hKb,nsK hns,⟨mb,nsK hb,hbb⟩,let ⟨mc,h1,h2⟩:=hlim;⟨mc,nsK h1,h2⟩⟩
  have e0:Vw P w K mg (JH s₁.heap H) callerA [] s₁ H:=⟨rfl,hM,fun b o e=>zbj e,Nat.le_of_eq (abt _ _),trivial,fun b hb=>absurd (show b∈([]:List Addr) from hb) (by simp),hok,.of_eq hg,fun v e=>(nomatch e)⟩
  refine Ri ((F _ hKb<|nsK hns).run callerA [] s₁ H ⟨[.ref a],[]⟩ [.ref a] [.ref a] _ _ hr e0 (hbind s₁<|.ref a) (.cons rfl .nil) (hsp H hO hS)) fun r s' h=>?_;cases r with
  | error e=>exact (hCX H e s' h).elim
  | ok fl=>
   cases fl with
   | next=>exact Lz h
   | brk=>exact Lz h
   | cont=>exact Lz h
   | ret u=>
    obtain ⟨v,H',os,bare,un,hok',r',q⟩:=h;have q':v=.bl true:=q;subst q';obtain rfl:u=Value.bool true:=r';refine ⟨rfl,OldK.of_keep fun b o e=>?_,os,bare⟩;cases q:H b with
    | none=>exact un.keep b o e q (by intro z;exact absurd (show b∈([]:List Addr) from z) (by simp)) (by simp)
    | some u=>
     rcases hO b with z | ⟨ob,xs,z⟩
     ·rw [q] at z;cases z
     ·have z2:=un.frzs b ob _ z;obtain ⟨e1,_⟩:=hok b _ z;obtain ⟨e2,_⟩:=hok' b _ z2;rw [e] at e1;cases e1;exact e2
 cases hk:K.lookup a with
 | some o=>
  -- the script is one of the module's own objects
  have e:=KX a o hk;rw [ha] at e;cases e;refine core (fun _=>YK) (fun _=>.inl rfl) (.inr ⟨_,vs.toArray,_,hk,rfl,rfl,rfl,by rw [Gm,lenV];exact hl,by simpa using rv⟩) (fun b u z=>by have z':(YK:Option HO)=Mk u:=z;cases z') (fun b z=>absurd rfl z) fun z=>absurd rfl z
 | none=>
  refine core (fun b=>if b=a then Mk (.frz { cls:=.type "list",data:=.seq vs.toArray } (.lst<|ns.map V.int)) else YK) (fun b=>?_) (.inl<|.inr ⟨{ cls:=.type "list",data:=.seq vs.toArray },if_pos rfl⟩) (fun b u z=>?_) (fun b z=>?_) fun _=>hk
  ·by_cases hb:b=a
   ·exact .inr ⟨_,_,if_pos hb⟩
   ·exact .inl<|if_neg hb
  ·by_cases hb:b=a
   ·have z':=(if_pos hb).symm.trans z;cases z'
    subst hb;exact ⟨ha,by rw [Cm];exact hl,vs,_,rv,ha⟩
   ·have z':=(if_neg hb).symm.trans z;cases z'
  ·by_cases hb:b=a
   ·exact hb
   ·exact absurd (if_neg hb) z
theorem Gw {l:PySem.W.OpenLaw}{n k:Nat}{q:Bs}{d:DefRec}{K:Params->Ar}{CX:Bh->OD}{sp:Bh->Sp}{x:Str}
  (hn:l.most=Mk n) (hn2:n<=CR) (hdf:d.params.defaults=[]) (hr:mQ k callerA)
  (hY:∀ (w:Bh) (h:Heap),YP w h->(K w.params).In h)
  (F:∀ (w:Bh) (mg:Str->Option Yk) (fa:Addr) (h:Heap),(K w.params).In h->h.Ns DK mg->mg d.name=Mk (.ref fa) ->
   ∃ fd:Ei,(∀ (s:ZG) (u:Yk),BindsTo s fd ⟨[u],[]⟩ [(x,u)]) /\
    ∀ base:Heap,(K w.params).In base->base.Ns DK mg->eU l.prog w (K w.params) mg base (CX w) k fa fd [x] (sp w))
  (hsp:∀ (w:Bh) (H:Hp) (a:Addr) (ns:List Int),ns.length<=n->Only H->GK (K w.params) H a (ns.map V.int)->sp w [.ref a] H (fun v _=>v=.bl true) fun _ _ _=>False)
  (hCX:∀ (w:Bh) (H:Hp) (s:ZG) (e:Yk) (s':ZG),CX w [] H s (fun _ _ _=>False) e s'->False) :
  PySem.W.WalkO q loose XP YP l.row.toRowW d [] (fun f vs=>PySem.call f vs):=by
 refine Att.xr hn hdf fun w s₀ s₁ mg mb fa o pm cd doc a vs ns G Y ho hd hcd hmg hobj hints afI hg=>?_;have KX:=hY w _ Y;obtain ⟨fd,hb,hF⟩:=F w mg fa _ KX G.T.g hmg;exact zaP KX G.T.g G.T.b G.T.builtins G.T.nolimit hg hobj hints (Cg afI hn2) hr hF hb (fun H hO hS=>hsp w H a ns afI hO hS) fun H e s'=>hCX w H s₁ e s'
end L2
/- THE LAST THEOREM (shape; LID, My.* are yours):
   My.Adr: a structure of the addresses that your layer names (classes,functions);My.Txt K t: a structure (Prop) of the equations over K;
   My.txt_mk:{K} {implicit addresses ..} (e1:nsIn K DK "law" = Mk (Mk (.ref f))) (e2:K.lookup f=Mk ⟨oc,od,.func (fnOf "law" "law" params body scope dV kV doc pm an cdv ct),sl⟩) (e3:codeIn K cdv "law" = true) .. : ∃ t,My.Txt K t
theorem PySem.Challenge.cw_LID_holds : PySem.Challenge.rw_LID.Holds := by
 w_on;o_law;k_head;(case hw=>w_witness2)
 k_fill
 refine L2.Gw (l:=PySem.Challenge.rw_LID) (n:=63) (k:=40) (x := "script") (CX:=fun w=>..) (sp:=fun _=>My.sp_law) rfl (by decide) rfl ⟨rfl,by decide,by decide⟩ (fun w h Y=>PySem.W.kIn_of Y) ?F ?S ?C
 case F=>
  intro w mg fa h KX G hmg;have T:∃ t,My.Txt (L2.KOf KX) t:=by
   dsimp only [L2.KOf]                          -- K must stand as «<heap const> w.params» for k_is;refine' My.txt_mk ?e1 ?e2 ?e3 ..
   (case e1=>PySem.W.k_is)                    -- in the order: a name -> its address -> its object -> its parts
   (case e2=>PySem.W.k_is)
   ..
  obtain ⟨t,T⟩:=T;have e0:=hmg.symm.trans (HW KX G T.law);cases e0                                       -- fa is the law's own address
  exact ⟨_,fun s u=>.of_eq rfl,fun base kb nb=>My.law_fn T kb nb⟩     -- if «.of_eq rfl» comes too early: refine' ⟨_,?b,fun base kb nb=>My.law_fn T kb nb⟩;exact fun s u=>.of_eq rfl
 case S=>exact fun w H a ns hl hO hS=>..
 case C=>exact ..
(the tactic k_is has no namespace: write k_is) -/
namespace L2
open PySem PySem.Spec PyProof.Rows
def pR (s:Stmt):Arguments:=match s with
 | .FunctionDef _ a _ _ _ _ _ _ _ _=>a
 | _=>{ posonlyargs:=[],args:=[],vararg:=YK,kwonlyargs:=[],kw_defaults:=[],kwarg:=YK,defaults:=[] }
def iu (s:Stmt):List Stmt:=match s with
 | .FunctionDef _ _ b _ _ _ _ _ _ _=>b
 | _=>[]
def aU (s:Stmt):Scope:=match s with
 | .FunctionDef _ _ _ _ _ _ sc _ _ _=>sc
 | _=>{ kind:=.function,names:=[],isGenerator:=false,isCoroutine:=false }
abbrev GZ:OD:=fun _ _ _ _ _ _=>False
abbrev E0:XK:=fun _ _ _=>False
theorem XM {X:Cx}:Passes GZ X E0:=fun _ _ _ _ _ _ _ h=>h.elim
structure Hg (K:Ar) (x qual:Str) (st:Stmt) (f:Addr) (fd:Ei):Prop where
 ex:∃ (oc:Yk) (od:Option Addr) (kV doc pm:Yk) (an:Option Addr) (cdv ct:Yk) (osl:Array (Option Yk)),
  fd=Ql x qual (pR st) (iu st) (aU st) .none kV doc pm an cdv ct/\K.lookup f=Mk ⟨oc,od,.func fd,osl⟩/\PySem.W.codeIn K cdv qual=true
 kp:QL K (.ref f)=true
section
variable {P:Bs}{w:Bh}{K:Ar}{mg:Str->Option Yk}{base:Heap}
theorem Hg.ok {x qual:Str}{st:Stmt}{f:Addr}{fd:Ei}{N ps:List Str}{k:Nat}{sp:Sp}(F:Hg K x qual st f fd)(S:bI N ps (aU st))(len:∀ vs H Q E,sp vs H Q E->vs.length=ps.length)
  (hbody:∀ (cdv:Yk) (A:Bx) (outer:List Env) (s:ZG) (H:Hp) (vs:List V) (Q:VK) (E:XK),mQ k (A.deeper (envOfC qual (aU st) s.heap.objs.size f cdv))->sp vs H Q E ->
   ∃ t,Jd (K3 GZ P w K mg base N qual (aU st) f cdv A outer s H E).nox (iu st) t/\t { nx:=fun _ H'=>Q .non H',rt:=Q } (start N vs) H):eU P w K mg base GZ (k+1) f fd ps sp:=by
 obtain ⟨oc,od,kV,doc,pm,an,cdv,ct,osl,rfl,lk,hcd⟩:=F.ex;refine Ry lk hcd S len fun A outer s H vs Q E hr hsp=>?_;obtain ⟨t,h,q⟩:=hbody cdv A outer s H vs Q E hr hsp;exact ⟨t,h.nox,q⟩
theorem Hg.binds {x qual:Str}{st:Stmt}{f:Addr}{fd:Ei}{ps:List Str}(F:Hg K x qual st f fd)
  (h:∀ (kV doc pm:Yk) (an:Option Addr) (cdv ct:Yk) (us:List Yk),us.length=ps.length->bindArgs (Ql x qual (pR st) (iu st) (aU st) .none kV doc pm an cdv ct) ⟨us,[]⟩=pure (ps.zip us)):Binds K fd ps []:=by
 obtain ⟨oc,od,kV,doc,pm,an,cdv,ct,osl,rfl,lk,hcd⟩:=F.ex;exact .all<|h kV doc pm an cdv ct
theorem cO {x qual:Str}{st:Stmt}{f:Addr}{oc:Yk}{od an:Option Addr}{osl:Array (Option Yk)}{kV doc pm cdv ct:Yk}(l:K.lookup f=Mk ⟨oc,od,.func (Ql x qual (pR st) (iu st) (aU st) .none kV doc pm an cdv ct),osl⟩)
  (c:PySem.W.codeIn K cdv qual=true) (k:QL K (.ref f)=true):Hg K x qual st f (Ql x qual (pR st) (iu st) (aU st) .none kV doc pm an cdv ct):=⟨⟨oc,od,kV,doc,pm,an,cdv,ct,osl,rfl,l,c⟩,k⟩
end
section
variable {X:Cx}
theorem pv (i:Nat){x:Str}{pos:Pos}(hN:X.N[i]?=Mk x:=by rfl)(hv:Vis X.env.scope x:=by first | exact Or.inl rfl | exact Or.inr (Or.inl rfl) | exact Or.inr (Or.inr rfl))(hd:(x==("__debug__" : Str))=false:=by decide)
  (hcd:(x==("__classdict__" : Str))=false:=by decide):PE X (.Name x pos) (Xj i):=aen hN hv hd hcd
end
def MF (env:Env):List (Str×Ia)->List (Str×Addr)->List (Str×Addr)
 | [],cs=>cs
 | (n,k)::r,cs=>MF env r (if (k==NameKind.free)=true then (n,(env.cells.lookup n).getD 0)::cs else cs)
def Kl (scope:Scope)(env:Env):List (Str×Addr):=MF env scope.names []
variable {env : Env}
theorem rW {env:Env}{p:Str×Addr}:∀ (l:List (Str×Ia)) (cs:List (Str×Addr)),p∈MF env l cs->p∈cs\/((p.1,NameKind.free)∈l/\p.2=(env.cells.lookup p.1).getD 0)
 | [],cs,h=>.inl h
 | (n,k)::r,cs,h=>by
  rcases rW r _ h with h | ⟨h1,h2⟩
  ·by_cases hk:(k==NameKind.free)=true
   ·rw [if_pos hk] at h;rcases El.mp h with rfl | h
    ·have e:k=NameKind.free:=by simpa using hk
     subst e;exact .inr ⟨JK,rfl⟩
    ·exact .inl h
   ·rw [if_neg hk] at h;exact .inl h
  ·exact .inr ⟨Hs _ h1,h2⟩
theorem yp {env:Env}{x:Str}:∀ (l:List (Str×Ia)) (cs:List (Str×Addr)),((x,NameKind.free)∈l\/∃ c,(x,c)∈cs)->∃ c,(x,c)∈MF env l cs
 | [],cs,h=>by
  rcases h with h | h
  ·exact absurd h<|by simp
  ·exact h
 | (n,k)::r,cs,h=>by
  refine yp r _ ?_;rcases h with h | ⟨c,h⟩
  ·rcases El.mp h with e | h
   ·injection e with e1 e2
    subst e1;subst e2;exact .inr ⟨_,by rw [if_pos<|by rfl];exact JK⟩
   ·exact .inl h
  ·refine .inr ⟨c,?_⟩;by_cases hk:(k==NameKind.free)=true
   ·rw [if_pos hk];exact Hs _ h
   ·rw [if_neg hk];exact h
theorem gj {x:Str}{c:Addr}:∀ {l:List (Str×Addr)},(x,c)∈l->∃ c',l.lookup x=Mk c'
 | [],h=>absurd h (by simp)
 | (n,d)::r,h=>by
  by_cases e:x=n
  ·subst e;exact ⟨d,by simp [Ip]⟩
  ·rcases El.mp h with q | q
   ·injection q with q1 _
    exact absurd q1 e
   ·obtain ⟨c',h'⟩:=gj q;refine ⟨c',?_⟩;have e':(x==n)=false:=beq_eq_false_iff_ne.mpr e;rw [Ip,e'];exact h'
theorem acB {scope:Scope}(h:∀ y∈scope.names,y.2=NameKind.free->∃ c,env.cells.lookup y.1=Mk c):closureFor scope env=pure (Kl scope env):=by
 unfold closureFor Kl;have key:∀ (l:List (Str×Ia)) (cs:List (Str×Addr)),(∀ y∈l,y.2=NameKind.free->∃ c,env.cells.lookup y.1=Mk c) ->
   (forIn l cs (fun (x:Str×Ia) (cs:List (Str×Addr))=>(if (x.2==NameKind.free)=true then cellOf env x.1 >>= fun c=>pure (ForInStep.yield ((x.1,c)::cs)) else pure (ForInStep.yield cs):Sem (ForInStep (List (Str×Addr))))))=pure (MF env l cs):=by
  intro l;induction l with
  | nil=>intro cs _;rfl
  | cons x r ih=>
   intro cs hl;obtain ⟨n,k⟩:=x;rw [RJ];have hr:∀ y∈r,y.2=NameKind.free->∃ c,env.cells.lookup y.1=Mk c:=fun y hy=>hl y (Hs _ hy)
   by_cases hk:(k==NameKind.free)=true
   ·obtain ⟨c,hc⟩:=hl (n,k) JK (by simpa using hk);have hc':env.cells.lookup n=Mk c:=hc;have e1:cellOf env n=pure c:=by unfold cellOf;rw [hc']
    simp only [hk,if_true,e1,pure_bind];rw [ih _ hr];simp only [MF,hk,if_true,hc',T4]
   ·simp only [hk,if_false,pure_bind,Ny];rw [ih _ hr];simp only [MF,hk,if_false,Ny]
 have q:=key scope.names [] h
 simpa using q
variable {y : Str}
theorem eV {y:Str}{c:Addr}:∀ {names:List (Str×Ia)} {n:Nat} {acc:List (Str×Addr)},(y,c)∈HS n names acc↔(y,c)∈acc\/(y,c)∈HS n names []
 | [],n,acc=>by simp [HS]
 | (name,kind)::r,n,acc=>by
  unfold HS;split
  ·rw [eV (acc:=(name,n)::acc),eV (acc:=[(name,n)])];simp only [El,Ja,or_false];exact ⟨fun h=>h.elim (fun h=>h.elim (fun h=>.inr<|.inl h) .inl) fun h=>.inr<|.inr h,fun h=>h.elim (fun h=>.inl<|.inr h) fun h=>h.elim (fun h=>.inl<|.inl h) .inr⟩
  ·exact eV
theorem wG {y:Str}{c:Addr}:∀ {names:List (Str×Ia)} {n:Nat},(y,c)∈HS n names []->(y,NameKind.cell)∈names
 | [],n,h=>by simp [HS] at h
 | (name,kind)::r,n,h=>by
  unfold HS at h;split at h
  ·rename_i hk;rcases eV.mp h with q | q
   ·have hk':kind=.cell:=by simpa using hk
    simp only [El,Ja,or_false,Prod.mk.injEq] at q;rw [q.1,hk'];exact JK
   ·exact Hs _<|wG q
  ·exact Hs _<|wG h
theorem Ea {y:Str}:∀ {names:List (Str×Ia)} {n:Nat},(y,NameKind.cell)∈names->∃ c,(y,c)∈HS n names []
 | [],n,h=>by simp at h
 | (name,kind)::r,n,h=>by
  unfold HS;rcases El.mp h with q | q
  ·cases q;rw [if_pos (by rfl)];exact ⟨n,eV.mpr<|.inl JK⟩
  ·split
   ·obtain ⟨c,hc⟩:=Ea (n:=n+1) q;exact ⟨c,eV.mpr<|.inr hc⟩
   ·exact Ea q
variable {names : List (Str×Ia)}
theorem aeK {h:Heap}{c:Addr}(e:(y,c)∈HS h.objs.size names []):(pushCells h names).IsCell c YK/\h.objs.size<=c:=
 (cellsFrom_ok names h h.objs.size [] ⟨fun _ _ z=>by simp at z,List.Pairwise.nil⟩ (Bp _)).empty y c e
theorem abd {n:Nat}{z:Str}{c:Addr}(e:(y,c)∈HS n names [])(e':(z,c)∈HS n names []):y=z:=by
 have key:∀ (k:Nat),∃ h:Heap,h.objs.size=k:=fun k=>by
  induction k with
  | zero=>exact ⟨{ (default:Heap) with objs:=#[] },rfl⟩
  | succ k ih=>
   obtain ⟨h,e⟩:=ih;exact ⟨h.push { cls:=.type "cell",data:=.cell YK },by rw [Mr,e]⟩
 obtain ⟨h,rfl⟩:=key n;exact name_of_addr (cellsFrom_ok names h h.objs.size [] ⟨fun _ _ z=>by simp at z,List.Pairwise.nil⟩<|Bp _).apart e e'
variable {closure : List (Str×Addr)}
theorem zat {M:Model}{A:Bx}{E:Yk->ZG->Prop}{s:ZG}{scope:Scope}{globals:Addr}{qual:Str}{func:Option Addr}{code:Yk}{ar:Env}{builtins:Addr}{Q:Env->ZG->Prop}
  (hQ:Q { scope:=scope,locals:=s.heap.objs.size,globals:=globals,cells:=HS (s.heap.objs.size+1) scope.names closure,qual:=qual,func:=func,code:=ar.code,frame:=ar.frame,builtins:=ar.builtins } { s with heap:=pushCells (s.heap.push { cls:=.type "dict",data:=.dict #[] }) scope.names }) :
  Al M A (newFunctionEnv scope globals closure [] qual func code (Mk ar) builtins) Q E s:=by
 simp only [newFunctionEnv,Option.isSome_some,if_true];refine Zi<|wpAny_alloc ?_
 refine Zi<|wpAny_layCells _ (fun name kind cells=>by cases hkc:kind==NameKind.cell <;> simp [hkc]) _ _ _ _ ?_
 rw [show ({ s with heap:=s.heap.push { cls:=.type "dict",data:=.dict #[] } }:ZG).heap.objs.size=s.heap.objs.size+1 from Mr ..];rw [Qp];exact Zi<|BP<|BP hQ
def blk (X:Cx)(scope:Scope)(N':List Str)(C:Addr)(s:ZG)(H:Hp)(ex:List Addr):Cx where
 prog:=X.prog
 w:=X.w
 K:=X.K
 mg:=X.mg
 base:=X.base
 A:=X.A
 N:=N'
 s₀:=s
 H₀:=H
 env:=compEnvC scope (HS (C+1) scope.names (Kl scope X.env)) C X.env
 outer:=X.stack
 stack:=X.stack
 ex:=ex
 fn:=fun y=>decide (scope.names.lookup y=Mk .cell)
 calm:=X.calm
 pn:=[]
 xe:=fun _ _=>False
structure kE (X:Cx) (scope:Scope) (x:List Str) (ix:List Nat):Prop where
 kind:scope.kind=.function
 own:∀ y∈x,scope.names.lookup y=Mk .local\/scope.names.lookup y=Mk .cell
 names:∀ y∈scope.names,scope.names.lookup y.1=Mk y.2
 free:∀ y∈scope.names,y.2=.free->X.env.scope.names.lookup y.1=Mk .cell\/X.env.scope.names.lookup y.1=Mk .free
 ixs:∀ i∈ix,scope.names.lookup (X.N.getD i "")=Mk .free
 nd:(x++ix.map fun i=>X.N.getD i "").Nodup
def yP:List Str->Bool
 | []=>true
 | x::r=>!(r.contains x)&&yP r
def Yu (sc:Scope)(N:List Str)(scope:Scope)(x:List Str)(ix:List Nat):Bool:=
 decide (scope.kind=.function)&&x.all (fun y=>decide (scope.names.lookup y=Mk .local)||decide (scope.names.lookup y=Mk .cell)) &&
 scope.names.all (fun y=>decide (scope.names.lookup y.1=Mk y.2)) &&
 scope.names.all (fun y=>!decide (y.2=.free)||decide (sc.names.lookup y.1=Mk .cell)||decide (sc.names.lookup y.1=Mk .free)) &&
 ix.all (fun i=>decide (scope.names.lookup (N.getD i "")=Mk .free))&&yP (x++ix.map fun i=>N.getD i "")
theorem u6:∀ {l:List Str},yP l=true->l.Nodup
 | [],_=>Pr
 | x::r,h=>by
  unfold yP at h;rw [Lw] at h;refine Ox.mpr ⟨fun hm=>?_,u6 h.2⟩;have:r.contains x=true:=List.contains_iff_mem.mpr hm
  rw [this] at h;exact absurd h.1<|by decide
variable {ix : List Nat}
theorem cI {X:Cx}{scope:Scope}{x:List Str}(h:Yu X.env.scope X.N scope x ix=true):kE X scope x ix:=by
 unfold Yu at h;simp only [Lw,QS,decide_eq_true_eq,Bool.or_eq_true,Bool.not_eq_true',decide_eq_false_iff_not] at h;obtain ⟨⟨⟨⟨⟨h1,h3⟩,h4⟩,h5⟩,h6⟩,h7⟩:=h;refine ⟨h1,fun y hy=>h3 y hy,fun y hy=>h4 y hy,fun y hy hk=>?_,fun i hi=>h6 i hi,u6 h7⟩
 ·rcases h5 y hy with (q | q) | q
  ·exact absurd hk q
  ·exact .inl q
  ·exact .inr q
def Bu (ix:List Nat)(Z : St):St:=ix.map fun i=>(Z[i]?).getD YK
abbrev jJ (X:Cx)(x:List Str)(ix:List Nat):List Str:=x++ix.map fun i=>X.N.getD i ""
theorem fu {scope:Scope}{env:Env}{x:Str}:∀ {names:List (Str×Ia)} {k:Ia},
  (names.map fun (p:Str×Ia)=>if (p.2==NameKind.free&&env.scope.kind==.function&&env.kindOf p.1==Mk .cell)=true then (p.1,NameKind.cell) else (p.1,p.2)).lookup x=Mk k ->
  names.lookup x=Mk k\/(k=.cell/\names.lookup x=Mk .free)
 | [],k,h=>by simp at h
 | (n,k')::r,k,h=>by
  rw [Bf] at h;cases hx:x==n with
  | true=>
   by_cases hc:(k'==NameKind.free&&env.scope.kind==.function&&env.kindOf n==Mk .cell)=true
   ·rw [if_pos hc] at h;simp only [Ip,hx] at h;have hk:k'=.free:=by
     have:=(Bool.and_eq_true_iff.mp (Bool.and_eq_true_iff.mp hc).1).1
     simpa using this
    subst hk;cases h;exact .inr ⟨rfl,by simp [Ip,hx]⟩
   ·rw [if_neg hc] at h;simp only [Ip,hx] at h;cases h;exact .inl<|by simp [Ip,hx]
  | false=>
   have h':(r.map fun (p:Str×Ia)=>if (p.2==NameKind.free&&env.scope.kind==.function&&env.kindOf p.1==Mk .cell)=true then (p.1,NameKind.cell) else (p.1,p.2)).lookup x=Mk k:=by
    by_cases hc:(k'==NameKind.free&&env.scope.kind==.function&&env.kindOf n==Mk .cell)=true
    ·rw [if_pos hc] at h;simpa only [Ip,hx] using h
    ·rw [if_neg hc] at h;simpa only [Ip,hx] using h
   rcases fu (scope:=scope) (env:=env) h' with q | ⟨q1,q2⟩
   ·exact .inl<|by simpa only [Ip,hx] using q
   ·exact .inr ⟨q1,by simpa only [Ip,hx] using q2⟩
theorem mD {env:Env}{x:Str}:∀ {names:List (Str×Ia)},names.lookup x=Mk .free ->
  (names.map fun (p:Str×Ia)=>if (p.2==NameKind.free&&env.scope.kind==.function&&env.kindOf p.1==Mk .cell)=true then (p.1,NameKind.cell) else (p.1,p.2)).lookup x=Mk .cell \/
  (names.map fun (p:Str×Ia)=>if (p.2==NameKind.free&&env.scope.kind==.function&&env.kindOf p.1==Mk .cell)=true then (p.1,NameKind.cell) else (p.1,p.2)).lookup x=Mk .free
 | [],h=>by simp at h
 | (n,k')::r,h=>by
  rw [Bf];cases hx:x==n with
  | true=>
   simp only [Ip,hx] at h;cases h;by_cases hc:(NameKind.free==NameKind.free&&env.scope.kind==.function&&env.kindOf n==Mk .cell)=true
   ·rw [if_pos hc];exact .inl (by simp [Ip,hx])
   ·rw [if_neg hc];exact .inr (by simp [Ip,hx])
  | false=>
   have h':r.lookup x=Mk .free:=by simpa only [Ip,hx] using h
   have ih:=mD (env:=env) h';by_cases hc:(k'==NameKind.free&&env.scope.kind==.function&&env.kindOf n==Mk .cell)=true
   ·rw [if_pos hc];simpa only [Ip,hx] using ih
   ·rw [if_neg hc];simpa only [Ip,hx] using ih
theorem mG {env:Env}{x:Str}:∀ {names:List (Str×Ia)},names.lookup x=Mk .cell ->
  (names.map fun (p:Str×Ia)=>if (p.2==NameKind.free&&env.scope.kind==.function&&env.kindOf p.1==Mk .cell)=true then (p.1,NameKind.cell) else (p.1,p.2)).lookup x=Mk .cell
 | [],h=>by simp at h
 | (n,k')::r,h=>by
  rw [Bf];cases hx:x==n with
  | true=>
   simp only [Ip,hx] at h;cases h;rw [if_neg (by simp)];simp [Ip,hx]
  | false=>
   have ih:=mG (env:=env) (show r.lookup x=Mk .cell by simpa only [Ip,hx] using h);split
   ·simpa only [Ip,hx] using ih
   ·simpa only [Ip,hx] using ih
section
variable {X:Cx}{afG:List (Addr×Obj)}{Z : St}{H:Hp}{s:ZG}{scope:Scope}{x:List Str}{C:Addr}{fp:List Addr}
theorem Gy (B:kE X scope x ix)(hy:y∈x):Loc (relabel scope X.env) y/\(decide (scope.names.lookup y=Mk .cell)=true\/(relabel scope X.env).names.lookup y=Mk .local):=by
 rcases B.own y hy with q | q
 ·have:=lookup_relabel_local (env:=X.env) q
  exact ⟨.inl this,.inr this⟩
 ·exact ⟨.inr<|mG (env:=X.env) q,.inl<|decide_eq_true q⟩
theorem yW (I:AP X afG Z H s)(B:kE X scope x ix):∀ y∈scope.names,y.2=NameKind.free->∃ c,X.env.cells.lookup y.1=Mk c:=fun y hy hk=>I.ok.has y.1 (B.free y hy hk)
theorem Uy (I:AP X afG Z H s)(B:kE X scope x ix){c:Addr}(h:(y,c)∈Kl scope X.env):X.env.cells.lookup y=Mk c:=by
 rcases rW scope.names [] h with q | ⟨q1,q2⟩
 ·exact absurd q<|by simp
 ·obtain ⟨c',e⟩:=yW I B _ q1 rfl;have e':X.env.cells.lookup y=Mk c':=e;have q2':c=(X.env.cells.lookup y).getD 0:=q2;rw [e',T4] at q2';rw [e',q2']
theorem lZ (I:AP X afG Z H s)(B:kE X scope x ix){c:Addr}(h:(HS (C+1) scope.names (Kl scope X.env)).lookup y=Mk c):X.env.cells.lookup y=Mk c\/(y,c)∈HS (C+1) scope.names []:=
 (eV.mp (Ot h)).imp_left (Uy I B)
theorem Cz {n:Nat}{c:Addr}(e:(y,c)∈HS n names []):n<=c:=by
 have key:∀ (names:List (Str×Ia)) (n:Nat),(y,c)∈HS n names []->n<=c:=by
  intro names;induction names with
  | nil=>intro n h;simp [HS] at h
  | cons a r ih=>
   intro n h;obtain ⟨name,kind⟩:=a;unfold HS at h;split at h
   ·rcases eV.mp h with q | q
    ·simp only [El,Ja,or_false,Prod.mk.injEq] at q;exact Nat.le_of_eq q.2.symm
    ·exact Cg (QK n)<|ih (n+1) q
   ·exact ih n h
 exact key names n e
theorem acs (B:kE X scope x ix){c:Addr}(hf:scope.names.lookup y=Mk .free)(h:(y,c)∈HS (C+1) scope.names []):False:=by
 have:=B.names _ (wG h)
 simp only at this;rw [hf] at this;cases this
theorem Af (h:scope.names.lookup y=Mk .free\/scope.names.lookup y=Mk .cell):∃ c,(HS (C+1) scope.names (Kl scope X.env)).lookup y=Mk c:=by
 rcases h with h | h
 ·obtain ⟨c,hc⟩:=yp (env:=X.env) scope.names [] (.inl (Ot h));exact gj<|eV.mpr<|.inl hc
 ·obtain ⟨c,hc⟩:=Ea (n:=C+1) (Ot h);exact gj<|eV.mpr<|.inr hc
theorem Vq (I:AP X afG Z H s)(B:kE X scope x ix)(hC:s.heap.objs.size<=C)(hf:∀ b∈fp,Cj X afG H b)(ho:∀ b∈fp,∃ o,s.heap.get? b=Mk o):
  (blk X scope (jJ X x ix) C s H fp).Ok where
 mod:=I.ok.mod
 kind:=B.kind
 glob:=I.ok.glob
 blt:=I.ok.blt
 above:=hC
 inj:=fun y z c h1 h2=>by
  have far:∀ {y z:Str},X.env.cells.lookup y=Mk c->(z,c)∈HS (C+1) scope.names []->False:=fun {y z} e q=>by
   obtain ⟨v,w⟩:=I.cell y c e;exact absurd (Ep w.lt<|Cg (Cg hC<|QK C)<|Cz q)<|M4 _
  rcases lZ I B h1 with q1 | q1
  ·rcases lZ I B h2 with q2 | q2
   ·exact I.ok.inj y z c q1 q2
   ·exact (far q1 q2).elim
  ·rcases lZ I B h2 with q2 | q2
   ·exact (far q2 q1).elim
   ·exact abd q1 q2
 has:=fun y hy=>by
  have hy':(relabel scope X.env).names.lookup y=Mk .cell\/(relabel scope X.env).names.lookup y=Mk .free:=hy;rcases hy' with q | q
  ·rcases fu (scope:=scope) (env:=X.env) q with r | ⟨_,r⟩
   ·exact Af<|.inr r
   ·exact Af<|.inl r
  ·rcases fu (scope:=scope) (env:=X.env) q with r | ⟨r,_⟩
   ·exact Af<|.inl r
   ·cases r
 cab:=fun y c hf h=>by
  have hf':scope.names.lookup y=Mk .cell:=of_decide_eq_true hf;rcases eV.mp (Ot h) with q | q
  ·rcases rW scope.names [] q with q | ⟨q1,_⟩
   ·exact absurd q<|by simp
   ·have:=B.names _ q1
    simp only at this;rw [hf'] at this;cases this
  ·exact Cg (Cg hC<|QK C)<|Cz q
 hd:=I.ok.hd
 qt:=I.qt0
 frames:=I.ok.frames
 stk:=.inl rfl
 exf:=fun b hb=>by
  obtain ⟨o,e⟩:=ho b hb;refine ⟨Fw<|Ep (CK e) hC,fun y c h=>?_⟩;rcases lZ I B h with q | q
  ·exact (hf b hb).2.2.2.2.1 y c q
  ·intro z;rw [z] at q;exact absurd (Ep (CK e)<|Cg (Cg hC<|QK C)<|Cz q)<|M4 _
 bs:=I.bs
 bsz:=Cg I.ok.bsz I.sz
 noex:=fun b o e hb=>by
  rcases (hf b hb).2.2.2.1 with q | q
  ·exact I.ok.noex b o e q
  ·exact absurd (Ep (CK e)<|Cg I.ok.bsz q)<|M4 _
 exfs:=fun b hb z=>by
  obtain ⟨_,h1,h2,_⟩:=hf b hb;rcases El.mp (I.stkSub b z) with e | e
  ·exact h1 e
  ·exact h2 e
 funs:=I.stack
 frf:=I.stkFree
theorem aaV {D:Addr}{h1:Heap}{tk:Nat}{m:Str->Option Yk}(I:AP X afG Z H s)(B:kE X scope x ix)(ok:(blk X scope (jJ X x ix) C s H fp).Ok)
  (hD:D=s.heap.objs.size) (k:∀ b o,s.heap.get? b=Mk o->h1.get? b=Mk o) (hl:h1.get? D=Mk { cls:=.type "list",data:=.seq #[] }) (hns:h1.Ns C m) (hCD:C≠D) (hC:s.heap.objs.size<=C) (hce:∀ y c,(y,c)∈HS (C+1) scope.names []->h1.IsCell c YK) :
  AP (blk X scope (jJ X x ix) C s H fp) [] (BK x.length YK++Bu ix Z) (CJ H D (.lst [])) { s with heap:=h1,toks:=tk } where
 ok:=ok
 os:=rfl
 bare:=I.bare
 base:=Un.laid k (by rw [hD];exact Bp _) (I.hok.fresh (by rw [hD];exact Bp _))
 loc:=by
  refine ⟨m,hns,fun i y v e1 e2 e3=>?_⟩;by_cases hix:i<x.length
  ·rw [Nv (by simpa using hix),Tj,if_pos hix] at e2;cases e2
  ·rw [Nx (by simpa using hix),List.length_replicate] at e2;have e1':(ix.map fun i=>X.N.getD i "")[i - x.length]?=Mk y:=by
    have z:(x++ix.map fun i=>X.N.getD i "")[i]?=Mk y:=e1
    rwa [Nx (by simpa using hix)] at z
   generalize i - x.length=j at e1' e2;unfold Bu at e2;rw [Hi] at e1' e2;cases hj:ix[j]? with
   | none=>rw [hj] at e2;cases e2
   | some i'=>
    rw [hj] at e1' e2;simp only [Option.map_some,Option.some.injEq] at e1' e2;have hi:Z[i']?=Mk (Mk v):=by
     cases q:Z[i']? with
     | none=>rw [q] at e2;cases e2
     | some z=>rw [q] at e2;exact congrArg Mk e2
    have hlt:i'<X.N.length:=by
     have:=(PJ.mp hi).1
     rw [I.len] at this;exact this
    have hn:X.N[i']?=Mk y:=by
     rw [M9,Gg hlt,T4] at e1';rw [Gg hlt,e1']
    have hfree:scope.names.lookup y=Mk .free:=by
     have:=B.ixs i' (O2 hj)
     rw [e1'] at this;exact this
    have kx:=B.free _ (Ot hfree) rfl;have vis:Vis X.env.scope y:=by
     rcases kx with q | q
     ·exact .inr<|.inl q
     ·exact .inr<|.inr q
    obtain ⟨m',_,hl'⟩:=I.loc;obtain ⟨u,r,lk⟩:=hl' i' y v hn hi vis;refine ⟨u,r,?_⟩;rcases lk with ⟨q,_⟩ | ⟨_,c,hc,hcell⟩
    ·have q':X.env.scope.names.lookup y=Mk .local:=q;rcases kx with z | z <;> (rw [q'] at z;cases z)
    ·obtain ⟨c',hc'⟩:=Af (X:=X) (C:=C) (.inl hfree);have e:=(lZ I B hc').resolve_right fun z=>acs B hfree z
     rw [hc] at e;cases e;refine .inr ⟨mD (env:=X.env) hfree,c,hc',?_⟩;obtain ⟨o,ho,hd⟩:=hcell;exact ⟨o,k c o ho,hd⟩
 cell:=fun y c h=>by
  rcases lZ I B h with q | q
  ·obtain ⟨v,o,ho,hd⟩:=I.cell y c q;exact ⟨v,o,k c o ho,hd⟩
  ·exact ⟨YK,hce y c q⟩
 free:=by
  show CJ H D (.lst []) C=YK;rw [aJ hCD];exact I.hok.fresh hC
 freeC:=fun y c h=>by
  show CJ H D (.lst []) c=YK;rcases lZ I B h with q | q
  ·obtain ⟨v,o,ho,hd⟩:=I.cell y c q;rw [aJ (by rw [hD];exact Fw (CK ho))];exact I.freeC y c q
  ·have g:s.heap.objs.size<c:=Ep (Nat.lt_succ_of_le hC) (Cz q);rw [aJ (by rw [hD];exact IW g)];exact I.hok.fresh<|Lk g
 pin:=fun p hp=>absurd (show p∈([]:List (Addr×Obj)) from hp) (by simp)
 hok:=I.hok.laid k (by rw [hD];exact Bp _) ⟨IK _,[],0,.nil,hl⟩
 len:=by
  show (BK x.length YK++Bu ix Z).length=(jJ X x ix).length;simp [Bu]
theorem aer {Z':St}{H':Hp}{s':ZG}{h':Heap}{p':List (Addr×Obj)}(I:AP X afG Z H s)(hC:s.heap.objs.size<=C)(hf:∀ b∈fp,Cj X afG H b)(J:AP (blk X scope (jJ X x ix) C s H fp) p' Z' H' s')
  (hs:QB C s'.heap h'):AP X afG Z H' { s' with heap:=h' }:=by
 have I1:AP X afG Z H' s':=I.call' (ch:=fp) J.os J.base J.hok J.bare fun b hb=>⟨(hf b hb).2.2.2.1,(hf b hb).2.1,(hf b hb).2.2.2.2.1,(hf b hb).2.2.2.2.2⟩
 refine I1.turned (it:=C) (t':=s'.toks) (fun b o hb e=>(hs.2 b hb).trans e) J.free (IW<|Ep I.lt hC) (.inr<|Cg I.sz hC) (fun y c e z=>?_)<|fun p hp z=>?_
 ·obtain ⟨v,q⟩:=I.cell y c e;exact absurd (Ep q.lt (by rw [z];exact hC))<|M4 _
 ·exact absurd (Ep (CK (I.pin p hp).1) (by rw [z];exact hC))<|M4 _
end
def Vi (X:Cx)(ifs:List Expr)(t:TT):Prop:=
 ∀ (afG:List (Addr×Obj)) (s:ZG) (Z : St) (H:Hp) (Q:Bool->Hp->Prop),AP X afG Z H s->t Z H Q ->
  Al (Am X.prog X.w) X.A (forIn ifs true fun c r=>if r=true then do let ok <-isTrue c X.env (eval c X.env);pure (ForInStep.yield ok) else pure (ForInStep.yield r)) (TP X afG Z Q) X.xe s
def Zh:TT:=fun _ H Q=>Q true H
theorem abn {X:Cx}:Vi X [] Zh:=fun _ _ _ H _ I h=>BP ⟨H,I,h⟩
theorem zbs {X:Cx}{c:Expr}{t:TT}(h:PT X c t):Vi X [c] t:=fun afG s Z H Q I hq=>by
 rw [RJ];refine Zi ?_;rw [if_pos rfl];refine Zi<|CV (h afG s Z H Q I hq) fun b s1 q=>BP ?_
 exact BP q
def Wu (n:Nat)(own:V->Hp->List V->Prop)(ix:List Nat)(tt:TT)(te:TE)(Z : St)(Q:VK)(J:It)(H1:Hp)(D:Addr):Prop:=∃ W:Nat->Nat->List V->Hp->Prop,(∃ m,W 0 m [] (CJ H1 D (.lst [])))/\∀ i m ys H,W i m ys H->H D=Mk (.lst ys) ->
 (J.stop i H/\Q (.ref D) H)\/(J.go i H/\ys.length<CR/\∀ x H',J.yld i H x H'->∃ vs,own x H' vs/\vs.length=n/\tt (vs.map Mk++Bu ix Z) H' fun b H2=>
  if b=true then te (vs.map Mk++Bu ix Z) H2 (fun v H3=>H3 D=Mk (.lst ys)/\∃ m',m'<m/\W (i+1) m' (ys++[v]) (CJ H3 D (.lst (ys++[v]))))
  else H2 D=Mk (.lst ys)/\∃ m',m'<m/\W (i+1) m' ys H2)
def wLC (n:Nat)(own:V->Hp->List V->Prop)(ix:List Nat)(tt:TT)(te:TE)(Z : St)(Q:VK)(J:It)(H1:Hp):Prop:=∀ D,H1 D=YK->Wu n own ix tt te Z Q J H1 D
def tLC (n:Nat)(own:V->Hp->List V->Prop)(ix:List Nat)(wi:TI)(tt:TT)(te:TE):TE:=fun Z H Q=>wi Z H fun J H1=>wLC n own ix tt te Z Q J H1
def Tc (n:Nat)(own:V->Hp->List V->Prop):TG:=fun v Z H N=>∃ vs,own v H vs/\vs.length=n/\N (vs.map Mk++Z.drop n) H
variable {elt : Expr}{ifs : List Expr}{R : TY->ZG->Prop}
theorem aaE {P:Bs}{w:Bh}{A:Bx}{s:ZG}{target iter:Expr}{scope:Scope}{pos:Pos}{it acc:Yk}(Iv:Nat->ZG->Prop)
  (turn:∀ n s,Iv n s->Al (Am P w) A (Jo it) (fun r s₁=>match r with
   | none=>R (.ok .next) s₁
   | some v=>Al (Am P w) A (letOwnedTupleGo target it v) (fun _ t₁=>Al (Am P w) A (assign target env v) (fun _ s₂=>
     Al (Am P w) A (forIn ifs true fun c r=>if r=true then do let ok <-isTrue c env (eval c env);pure (ForInStep.yield ok) else pure (ForInStep.yield r)) (fun ok s₃=>
      if ok=true then Al (Am P w) A (eval elt env) (fun x s₄=>
       Al (Am P w) A (call (.builtin "list.append") [acc,x]) (fun _ s₅=>∃ m,m<n/\Iv m s₅) (notedBy (Am P w) A env fun e s'=>R (.error e) s') s₄) (notedBy (Am P w) A env fun e s'=>R (.error e) s') s₃
      else ∃ m,m<n/\Iv m s₃) (notedBy (Am P w) A env fun e s'=>R (.error e) s') s₂) (notedBy (Am P w) A env fun e s'=>R (.error e) s') t₁) (notedBy (Am P w) A env fun e s'=>R (.error e) s') s₁) (notedBy (Am P w) A env fun e s'=>R (.error e) s') s)
  (n:Nat) (h:Iv n s):Li (Am P w) A (.compLoop (.ListComp elt [⟨target,iter,ifs,0⟩] scope pos) 0 it acc env) R s:=by
 refine codeAny_loop rfl Iv (fun n s hI=>?_) n h;show Al _ A ((compTurn (.ListComp elt [⟨target,iter,ifs,0⟩] scope pos) 0 it acc env).onRaise (fun x=>do noteFrame x env;theTreesLotGoes x)) _ _ s;refine wpAny_noted ?_;rw [compTurn_list];refine Zi<|wpAny_standAt<|Zi<|Hx (turn n s hI) (fun r s₁ k₁=>?_) fun _ _ z=>z
 cases r with
 | none=>exact BP k₁
 | some v=>
  refine Zi<|Hx k₁ (fun _ t₁ k₂=>Zi<|Hx k₂ (fun _ s₂ k₃=>Zi<|Hx k₃ (fun ok s₃ k₄=>?_) fun _ _ z=>z) fun _ _ z=>z) fun _ _ z=>z
  cases ok with
  | false=>exact BP ⟨rfl,k₄⟩
  | true=>exact Zi (Zi (Hx k₄ (fun x s₄ k₅=>Zi (Hx k₅ (fun _ s₅ k₆=>BP (BP ⟨rfl,k₆⟩)) fun _ _ z=>z)) fun _ _ z=>z))
section
variable {X:Cx}{scope:Scope}{x:List Str}{iter tg:Expr}{px pos:Pos}{wi:TI}{tt:TT}{te:TE}{own:V->Hp->List V->Prop}
theorem afk {afG:List (Addr×Obj)}{Z : St}{s₂ : ZG}{H2:Hp}{it:Addr}{fp:List Addr}{tn:Nat->Heap->Prop}{J:It}{Q:VK}{E:Yk->ZG->Prop}{RR:Yk->Addr->TY->ZG->Prop}
  (hc:J.cm=true->X.calm=true) (B:kE X scope x ix) (hg:∀ C s H fp,PG (blk X scope (jJ X x ix) C s H fp) tg (Tc x.length own)) (ht:∀ C s H fp,Vi (blk X scope (jJ X x ix) C s H fp) ifs tt) (he:∀ C s H fp,PE (blk X scope (jJ X x ix) C s H fp) elt te)
  (I2:AP X afG Z H2 s₂) (T:Turn X.prog X.w X.K tg J fp it tn) (st2:tn 0 s₂.heap) (f2:∀ b∈fp,Cj X afG H2 b) (hq:wLC x.length own ix tt te Z Q J H2)
  (hRR:∀ D C s' Z' H' p',s₂.heap.objs.size<=C->AP (blk X scope (jJ X x ix) C s₂ H2 fp) p' Z' H' s'->Q (.ref D) H'->RR (.ref D) C (.ok .next) s') :
  Al (Am X.prog X.w) X.A (newList []) (fun acc s₃=>Al (Am X.prog X.w) X.A (newFunctionEnv scope X.env.globals (Kl scope X.env) [] X.env.qual YK .none (Mk X.env)) (fun cenv s₄=>
   Li (Am X.prog X.w) X.A (.compStart (.ListComp elt [⟨tg,iter,ifs,0⟩] scope pos) 0 (.ref it) acc { cenv with scope:=relabel scope X.env }) (RR acc cenv.locals) s₄) E s₃) E s₂:=by
 refine Js<|zat ?_
 dsimp only;generalize hH2:s₂.heap.push { cls:=.type "list",dict:=YK,data:=.seq ([]:List Yk).toArray }=HH;generalize hh1:pushCells (HH.push { cls:=.type "dict",data:=.dict #[] }) scope.names=h₁;have hns₁ : h₁.Ns HH.objs.size (fun _=>YK):=by
  obtain ⟨o,es,ep,ho,r⟩:=Heap.Ns.new HH (.type "dict");exact ⟨o,es,ep,by rw [<-hh1];exact pushCells_keeps _ _ _ _ ho,r⟩
 have hkeep:∀ b o,HH.get? b=Mk o->h₁.get? b=Mk o:=fun b o e=>by rw [<-hh1];exact pushCells_keeps _ _ _ _ (CT _ e)
 have hce:∀ y c,(y,c)∈HS (HH.objs.size+1) scope.names []->h₁.IsCell c YK:=fun y c e=>by
  rw [<-hh1];exact (aeK (h:=HH.push { cls:=.type "dict",data:=.dict #[] }) (by rw [Mr];exact e)).1
 have hC:HH.objs.size=s₂.heap.objs.size+1:=by rw [<-hH2,Mr]
 have hDC:s₂.heap.objs.size≠HH.objs.size:=by rw [hC];exact Fw (Nat.lt_succ_self _)
 have hCle:s₂.heap.objs.size<=HH.objs.size:=by rw [hC];exact QK _
 have old:∀ b o,s₂.heap.get? b=Mk o->h₁.get? b=Mk o:=fun b o e=>hkeep b o (hH2 ▸ CT _ e)
 have hacc:h₁.get? s₂.heap.objs.size=Mk { cls:=.type "list",data:=.seq #[] }:=hkeep _ _ (hH2 ▸ Ej _ rfl);have hob:∀ b∈fp,∃ o,s₂.heap.get? b=Mk o:=fun b hb=>let ⟨o,e,_⟩:=T.obj 0 _ st2 b hb;⟨o,e⟩
 have ok:=Vq (C:=HH.objs.size) I2 B hCle f2 hob;obtain ⟨W,⟨m0,w0⟩,turn⟩:=hq s₂.heap.objs.size (I2.hok.fresh (Bp _))
 -- the iterator's records, in the block
 have stat:∀ {H':Hp},(∀ b∈fp,H' b=YK)->∀ b∈fp,Cj (blk X scope (jJ X x ix) HH.objs.size s₂ H2 fp) [] H' b:=fun {H'} hn b hb=>by
  obtain ⟨o,e⟩:=hob b hb;obtain ⟨_,g1,g2,g3,g4,g5⟩:=f2 b hb;refine ⟨hn b hb,Fw<|Ep (CK e) hCle,fun z=>?_,.inl hb,fun y c h=>?_,fun p hp=>absurd (show p∈([]:List (Addr×Obj)) from hp)<|by simp⟩
  ·rcases El.mp (I2.stkSub b z) with q | q
   ·exact g1 q
   ·exact g2 q
  ·rcases lZ I2 B h with q | q
   ·exact g4 y c q
   ·intro z;rw [z] at q;exact absurd (Ep (CK e)<|Cg (Cg hCle<|QK _)<|Cz q)<|M4 _
 have loop:∀ s₃ : ZG,s₃ = { s₂ with heap:=h₁ } ->
   Li (Am X.prog X.w) X.A (.compLoop (.ListComp elt [⟨tg,iter,ifs,0⟩] scope pos) 0 (.ref it) (.ref s₂.heap.objs.size) (compEnvC scope (HS (HH.objs.size+1) scope.names (Kl scope X.env)) HH.objs.size X.env))
    (RR (.ref s₂.heap.objs.size) HH.objs.size) s₃:=by
  rintro s₃ rfl;have J0:=aaV (fp:=fp) (C:=HH.objs.size) (tk:=s₂.toks) I2 B ok rfl old hacc hns₁ (Hf hDC) hCle hce;have fr0:∀ b∈fp,CJ H2 s₂.heap.objs.size (.lst []) b=YK:=fun b hb=>by
   obtain ⟨o,e⟩:=hob b hb;rw [aJ (Fw (CK e))];exact (f2 b hb).1
  refine aaE (fun k s'=>∃ i ys H',AP (blk X scope (jJ X x ix) HH.objs.size s₂ H2 fp) [] (BK x.length YK++Bu ix Z) H' s'/\tn i s'.heap/\(∀ b∈fp,H' b=YK)/\H' s₂.heap.objs.size=Mk (.lst ys)/\W i k ys H') ?_ m0
   ⟨0,[],_,J0,T.keep 0 _ _ st2 (fun b _ o e=>old b o e),fr0,bf,w0⟩
  rintro n s₄ ⟨i,ys,H4,I4,st4,fr4,hD4,w4⟩;rcases turn i n ys H4 w4 hD4 with ⟨stop,qn⟩ | ⟨go,hz,step⟩
  ·refine CV (T.done (blk X scope (jJ X x ix) HH.objs.size s₂ H2 fp) rfl rfl rfl hc i [] s₄ _ H4 _ I4 (stat fr4) st4 stop) fun r s5 ⟨hr,I5⟩=>?_;subst hr;exact hRR _ _ s5 _ H4 [] hCle I5 qn
  ·refine CV (T.item (blk X scope (jJ X x ix) HH.objs.size s₂ H2 fp) rfl rfl rfl hc i [] s₄ _ H4 _ I4 (stat fr4) st4 go) fun r s5 ⟨u,hr,h5⟩=>?_;subst hr;refine Hx h5 (fun _ s6 ⟨xv,H6,I6,r6,y6,st6,fr6⟩=>?_) fun _ _ z=>z;have I6':=I6.pinned (stat fr6) (T.obj _ _ st6);obtain ⟨vs,hov,hvl,q7⟩:=step xv H6 y6;have fgt:∀ {Z9:St} {H9:Hp} {s9:ZG} {p9:List (Addr×Obj)},Z9.length=x.length->AP (blk X scope (jJ X x ix) HH.objs.size s₂ H2 fp) p9 (Z9++Bu ix Z) H9 s9->AP (blk X scope (jJ X x ix) HH.objs.size s₂ H2 fp) p9 (BK x.length YK++Bu ix Z) H9 s9:=fun {Z9 H9 s9 p9} hl I9=>
    I9.weak (by simp [hl]) fun k v e=>by
     by_cases hk:k<x.length
     ·rw [Nv (by simpa using hk),Tj,if_pos hk] at e;cases e
     ·rw [Nx (by simpa using hk),List.length_replicate] at e;rw [Nx (by rw [hl];lia),hl];exact e
   refine Hx (hg _ _ _ _ _ s6 _ H6 xv u (fun Z9 H9=>Z9=vs.map Mk++(BK x.length (YK:Option V)++Bu ix Z).drop x.length/\H9=H6) I6' r6 ⟨vs,hov,hvl,rfl,rfl⟩) (fun _ s7 ⟨Z7,H7,I7,e7,e8⟩=>?_) fun _ _ z=>z.elim;subst e7 e8;rw [List.drop_left' (by simp)] at I7;have hml:(vs.map Mk).length=x.length:=by rw [Cm];exact hvl
   refine Hx (ht _ _ _ _ _ s7 _ H7 _ I7 q7) (fun b s8 ⟨H8,I8,q8⟩=>?_) fun _ _ z=>z.elim;have pinned:∀ {H9:Hp} {s9:ZG} {Z9:St},AP (blk X scope (jJ X x ix) HH.objs.size s₂ H2 fp) ([]++vH fp s6.heap) Z9 H9 s9->tn (i+1) s9.heap/\∀ b∈fp,H9 b=YK:=fun {H9 s9 Z9} I9=>by
    refine ⟨T.keep _ _ _ st6 fun b hb o e=>(I9.pin (b,o)<|Mv _<|Mv _<|iQ hb e).1,fun b hb=>?_⟩;obtain ⟨o,e,d⟩:=T.obj _ _ st6 b hb;exact (I9.pin (b,o)<|Mv _<|Mv _<|iQ hb e).2.1
   cases b with
   | false=>
    rw [if_neg Hu] at q8 |-
    obtain ⟨hD8,m',hm,w8⟩:=q8;obtain ⟨t8,f8⟩:=pinned I8;exact ⟨m',hm,i+1,ys,H8,fgt hml I8.unpinned,t8,f8,hD8,w8⟩
   | true=>
    rw [if_pos rfl] at q8 |-
    refine Hx (he _ _ _ _ _ s8 _ H8 _ I8 q8) (fun u9 s9 ⟨v9,H9,I9,r9,hD9,m',hm,w9⟩=>?_) fun _ _ z=>z.elim;refine Hx (vo (X:=blk X scope (jJ X x ix) HH.objs.size s₂ H2 fp) _ s9 _ H9 (.ref s₂.heap.objs.size) [v9] _ [u9] (fun _ H'=>H'=CJ H9 s₂.heap.objs.size (.lst<|ys++[v9])) I9 rfl (.cons r9 .nil) ⟨_,ys,v9,rfl,rfl,hD9,hz,rfl⟩) (fun _ s10 ⟨_,H10,I10,_,e10⟩=>?_) fun _ _ z=>z.elim;subst e10;obtain ⟨t10,f10⟩:=pinned I10;exact ⟨m',hm,i+1,ys++[v9],_,fgt hml I10.unpinned,t10,f10,bf,w9⟩
 exact codeAny_compStart_list (loop _ rfl)<|T.self _ 0 _ _ _ (T.keep 0 _ _ st2<|fun b _ o e=>old b o e)<|loop _ rfl
theorem XS (ix:List Nat)(hc:X.calm=true)(B:kE X scope x ix)(hg:∀ C s H fp,PG (blk X scope (jJ X x ix) C s H fp) tg (Tc x.length own))(hi:PI X tg iter wi)(ht:∀ C s H fp,Vi (blk X scope (jJ X x ix) C s H fp) ifs tt)(he:∀ C s H fp,PE (blk X scope (jJ X x ix) C s H fp) elt te)
  (hs:∀ v,foldedSetIterable iter X.env v=pure v:=by intro _;rfl):PE X (.ListComp elt [⟨tg,iter,ifs,0⟩] scope pos) (tLC x.length own ix wi tt te):=by
 intro afG s Z H Q I h;rw [eval_ListComp];refine wpAny_comprehension_free (use:=YK) rfl hs (acB<|yW I B) B.kind (fun y hy hk=>by rw [B.names y hy,hk]) ?_;refine CV (hi afG s Z H _ I h) fun v s1 h1=>CV h1 fun itv s2 h2=>?_;obtain ⟨it,fp,tn,J,H2,e,I2,T,st2,f2,hq⟩:=h2;subst e;refine afk (RR:=fun acc C=>compPost (Am X.prog X.w) X.A X.xe YK (EP X afG Z Q) acc C) (fun _=>hc) B hg ht he I2 T st2 f2 hq fun D C s' Z' H' p' hC I' q'=>?_;obtain ⟨m,hn,_⟩:=I'.loc;exact ⟨m,hn,fun h' hs'=>⟨.ref D,H',aer I2 hC f2 I' hs',rfl,q'⟩⟩
end
def Sm (n:Nat)(i:Int):Prop:=i.natAbs<2^n
theorem Sm.bits {n:Nat}{i:Int}(h:Sm n i):RZ i<=n:=by
 unfold RZ;by_cases e:i=0
 ·subst e;exact IK _
 ·have e':(i==0)=false:=beq_eq_false_iff_ne.mpr e;rw [e'];have h0:i.natAbs≠0:=by lia
  have:=(Nat.log2_lt h0).mpr h
  simp only [Ny,if_false];lia
variable {m : Nat}
theorem Sm.mono {n:Nat}{i:Int}(h:Sm m i)(hmn:m<=n):Sm n i:=Ep h (U3 (by decide) hmn)
theorem Sm.mul {n:Nat}{i j:Int}(h:Sm m i)(h':Sm n j):Sm (m+n) (i*j):=by
 unfold Sm at *;rw [Int.natAbs_mul,Nat.pow_add];by_cases e:j.natAbs=0
 ·rw [e,Nat.mul_zero];exact Nat.mul_pos (Nat.pow_pos<|by decide)<|Nat.pow_pos<|by decide
 ·exact Ep (Nat.mul_lt_mul_of_pos_right h<|Nat.pos_of_ne_zero e)<|Nat.mul_le_mul_left _<|Lk h'
theorem Sm.add {n:Nat}{i j:Int}(h:Sm m i)(h':Sm n j):Sm (max m n+1) (i+j):=by
 have h1:=h.mono (Nat.le_max_left m n);have h2:=h'.mono (Nat.le_max_right m n);unfold Sm at *;rw [Nat.pow_succ];lia
theorem Sm.neg {n:Nat}{i:Int}(h:Sm n i):Sm n (-i):=by unfold Sm at *;rw [Int.natAbs_neg];exact h
theorem Sm.sub {n:Nat}{i j:Int}(h:Sm m i)(h':Sm n j):Sm (max m n+1) (i - j):=by
 rw [Int.sub_eq_add_neg];exact h.add h'.neg
theorem Sm.zero {n:Nat}:Sm n 0:=Nat.pow_pos (by decide)
theorem iy {n:Nat}{i:Int}(h1:-(2^n:Int)<i)(h2:i<(2^n:Int)):Sm n i:=by
 unfold Sm;have e:((2^n:Nat):Int)=(2:Int)^n:=by simp
 lia
theorem Sm.le {n:Nat}{i j:Int}(h:Sm n i)(hj:j.natAbs<=i.natAbs):Sm n j:=Mw hj h
def p8 (i j:Int):Prop:=∃ m n,m<=1000000/\n<=1000000/\Sm m i/\Sm n j
theorem p8.ok {i j:Int}(h:p8 i j):IntMulOk i j:=by
 obtain ⟨m,n,hm,hn,h1,h2⟩:=h;have e:(2:Nat)^20=1048576:=by decide
 exact .of_bits (by have:=h1.bits;lia) (by have:=h2.bits;lia)
def yR (_ j:Int):Prop:=j≠0/\∃ n,n<=8000/\Sm n j
theorem adg {n:Nat}{j:Int}(hn:n<=8000)(h:Sm n j):j.natAbs.log2<9000:=by
 by_cases e:j.natAbs=0
 ·rw [e];decide
 ·have:=(Nat.log2_lt e).mpr h
  lia
section
variable {X:Cx}
theorem Fj:HJ X (Iu .Mult) (rI p8 fun i j=>.int (i*j)):=opI fun _ _ _ _ _ _ _ hc q=>mul_int q hc.ok
theorem aax:HJ X (Iu .FloorDiv) (rI yR fun i j=>.int (i.fdiv j)):=opI fun i j _ _ _ _ _ hc q=>by
 obtain ⟨h1,n,hn,h2⟩:=hc;exact floordiv_int h1 q<|.inl<|PyProof.noPylong_of_log2<|adg hn h2
theorem nO:∀ {bs:List Bool} {its:List Yk} {i:Nat} {v:Yk},Az (bs.map V.bl) its->its[i]?=Mk v->∃ b,bs[i]?=Mk b/\v=.bool b
 | [],_,_,_,.nil,e=>by simp at e
 | b::bs,_,0,_,.cons r _,e=>by simp at e;subst e;exact ⟨b,rfl,r⟩
 | _::bs,_,i+1,v,.cons _ t,e=>by
  obtain ⟨b,h1,h2⟩:=nO (i:=i) (v:=v) t (by simpa using e);exact ⟨b,by simpa using h1,h2⟩
theorem zae:∀ (bs:List Bool),((Hz bs.length).all fun i=>(bs[i]?).getD true)=bs.all id:=fun bs=>by
 rw [QM,QS,QS];constructor
 ·intro h b hb;obtain ⟨i,hi,rfl⟩:=RX.mp hb;have:=h i (Nu.mpr hi)
  simpa [hi] using this
 ·intro h i hi;have hi':=Nu.mp hi;have:=h bs[i] (PB hi')
  simpa [hi'] using this
theorem aao (hc:X.calm=true):jo X (.builtin "all") (fun xs H Q=>∃ (p:Addr) (bs:List Bool),xs=[.ref p]/\GK X.K H p (bs.map V.bl)/\Q (.bl (bs.all id)) H):=by
 intro afG s Z H xs us Q I r h;obtain ⟨p,bs,rfl,hS,q⟩:=h;obtain ⟨u,rfl,ru⟩:=vals1 r;cases ru;obtain ⟨its,rv,pl,hz⟩:=I.list hS;have afI:its.length=bs.length:=by rw [<-rv.length,Cm]
 have hl:=pl.isList;have hlt:p<s.heap.objs.size:=by obtain ⟨_,e,_⟩:=hl;exact CK e
 refine call_all_walk<|RL hl ?_
 refine ⟨s.heap.objs.size,[s.heap.objs.size,p],[s.heap.objs.size],its.toArray.size,_,_,fun i=>(bs[i]?).getD true,rfl,Walks.list (A:=X.A.in1) (I.ok.hd hc) _ p (Fw hlt) its.toArray,
  ⟨⟨_,Ej _ rfl,rfl,rfl⟩,hl.push _⟩,fun i v s' Q' E' hP hQ=>?_,fun h' tk hk=>?_⟩
 ·obtain ⟨b,e,rfl⟩:=nO rv (by simpa using hP);simp only [e,T4] at hQ;exact RM hQ
 ·have e:((Hz its.toArray.size).all fun i=>(bs[i]?).getD true)=bs.all id:=by
   rw [Gm,afI];exact zae bs
  rw [e];refine ⟨.bl<|bs.all id,H,I.kept (h':=h') (t':=tk)<|fun b x e=>?_,rfl,q⟩;exact hk b x (fun hm=>by rw [Fd.mp hm] at e;exact M4 _ (CK e))<|CT _ e
def YD (K:Ar)(H:Hp):V->String->Bool->Prop
 | .int _,T,b=>(T = "int"/\b=true)\/(T = "bool"/\b=false)\/(T = "tuple"/\b=false)\/(T = "list"/\b=false)
 | .bl _,T,b=>(T = "int"/\b=true)\/(T = "bool"/\b=true)\/(T = "tuple"/\b=false)\/(T = "list"/\b=false)
 | .str _,T,b=>(T = "int"/\b=false)\/(T = "bool"/\b=false)\/(T = "tuple"/\b=false)\/(T = "list"/\b=false)
 | .non,T,b=>(T = "int"/\b=false)\/(T = "bool"/\b=false)\/(T = "tuple"/\b=false)\/(T = "list"/\b=false)
 | .ref p,T,b=>(∃ xs,Ed K H p xs/\((T = "int"/\b=false)\/(T = "bool"/\b=false)\/(T = "tuple"/\b=true)\/(T = "list"/\b=false))) \/
   (∃ xs,GK K H p xs/\((T = "int"/\b=false)\/(T = "bool"/\b=false)\/(T = "tuple"/\b=false)\/(T = "list"/\b=true)))
 | _,_,_=>False
theorem aaK:jo X (.builtin "isinstance") (fun xs H Q=>∃ x T b,xs=[x,.ty T]/\YD X.K H x T b/\Q (.bl b) H):=by
 intro afG s Z H xs us Q I r h;obtain ⟨x,T,b,rfl,hi,q⟩:=h;obtain ⟨u,w',rfl,rx,ru⟩:=vals2 r;cases ru;have k0:EP X afG Z Q (.bool b) s:=⟨.bl b,H,I,rfl,q⟩
 have k1:EP X afG Z Q (.bool b) { s with toks:=s.toks+1 }:=⟨.bl b,H,I.tok _,rfl,q⟩
 cases x with
 | int i=>
  obtain ⟨t,rfl⟩:=rx;rcases hi with ⟨rfl,rfl⟩ | ⟨rfl,rfl⟩ | ⟨rfl,rfl⟩ | ⟨rfl,rfl⟩
  ·exact IsiPair.int_int k0
  ·exact IsiPair.int_bool k1
  ·exact IsiPair.int_tuple k1
  ·exact IsiPair.int_list k1
 | bl i=>
  cases rx;rcases hi with ⟨rfl,rfl⟩ | ⟨rfl,rfl⟩ | ⟨rfl,rfl⟩ | ⟨rfl,rfl⟩
  ·first | exact IsiPair.bool_int k0 | exact IsiPair.bool_int k1
  ·first | exact IsiPair.bool_bool k0 | exact IsiPair.bool_bool k1
  ·exact IsiPair.bool_tuple k1
  ·exact IsiPair.bool_list k1
 | str i=>
  obtain ⟨t,rfl⟩:=rx;rcases hi with ⟨rfl,rfl⟩ | ⟨rfl,rfl⟩ | ⟨rfl,rfl⟩ | ⟨rfl,rfl⟩
  ·exact IsiPair.str_int k1
  ·exact IsiPair.str_bool k1
  ·exact IsiPair.str_tuple k1
  ·exact IsiPair.str_list k1
 | non=>
  cases rx;rcases hi with ⟨rfl,rfl⟩ | ⟨rfl,rfl⟩ | ⟨rfl,rfl⟩ | ⟨rfl,rfl⟩
  ·exact IsiPair.NoneType_int k1
  ·exact IsiPair.NoneType_bool k1
  ·exact IsiPair.NoneType_tuple k1
  ·exact IsiPair.NoneType_list k1
 | ref p=>
  cases rx;rcases hi with ⟨xs,hS,hi⟩ | ⟨xs,hS,hi⟩
  ·obtain ⟨its,_,⟨o,e,c,_⟩,_⟩:=I.tuple hS;rcases hi with ⟨rfl,rfl⟩ | ⟨rfl,rfl⟩ | ⟨rfl,rfl⟩ | ⟨rfl,rfl⟩
   ·exact IsiPair.tuple_int e c k1
   ·exact IsiPair.tuple_bool e c k1
   ·exact IsiPair.tuple_tuple e c k0
   ·exact IsiPair.tuple_list e c k1
  ·obtain ⟨its,_,pl,_⟩:=I.list hS;obtain ⟨o,e,c,_⟩:=pl.isList;rcases hi with ⟨rfl,rfl⟩ | ⟨rfl,rfl⟩ | ⟨rfl,rfl⟩ | ⟨rfl,rfl⟩
   ·exact IsiPair.list_int e c k1
   ·exact IsiPair.list_bool e c k1
   ·exact IsiPair.list_tuple e c k1
   ·exact IsiPair.list_list e c k0
 | _=>exact (show False from hi).elim
end
inductive W where
 | non | bl (b:Bool) | int (i:Int) | str (x:Str) | ty (n:String) | tup (ws:List W) | lst (ws:List W) | loc (n:Nat) | kls (ws:List W) | exc (n:Str)
 | exa (n:Str) (ws:List W)
 | fnv (f:Addr) (i:Nat)
inductive Cell where
 | lst (ws:List W) | obj (C:Addr) (fs:List (Str×W)) | dct (kvs:List (Key×W))
 | dtt (kvs:List (List Int×W))
structure Gh where
 nx:Nat
 c:Nat->Option Cell
structure Mu where
 f:Nat->Option Addr
 hid:Addr->Prop
def ZV (K:Ar)(p:Addr)(xs:List V):Prop:=
 ∃ (o:Obj) (its:Array Yk) (n:Nat),K.lookup p=Mk o/\o.cls=.type "list"/\o.dict=YK/\o.data=.seq its n/\its.size<=CR/\Az xs its.toList
def Frz (H:Hp)(μ : Mu)(p:Addr)(xs:List V):Prop:=H p=Mk (.lst xs)/\(∀ n,μ.f n≠Mk p)/\¬ μ.hid p
def Frk (K:Ar)(H:Hp)(p:Addr)(xs:List V):Prop:=(∃ o,H p=Mk (.frz o (.lst xs)))\/ZV K p xs
variable {p : Addr}{μ : Mu}
theorem Frz.sq {K:Ar}{H:Hp}{xs:List V}(h:Frz H μ p xs):GK K H p xs:=.inl (.inl h.1)
theorem Frk.sq {K:Ar}{H:Hp}{xs:List V}(h:Frk K H p xs):GK K H p xs:=by
 rcases h with h | h
 ·exact .inl<|.inr h
 ·exact .inr h
def N8:List Yk:=[.type "ValueError",.type "Exception",.type "BaseException",.type "object"]
def tZ (K:Ar)(C:Addr)(n:Str):Bool:=JD K DK n==Mk (Mk (.ref C))&&PySem.W.typeIn K (.ref C)==Mk (.type "type")&&match QX K C with
 | some cd=>cd.name==n&&cd.mro.contains (.type "BaseException")
 | none=>false
def qu (K:Ar)(C:Addr)(n:Str):Bool:=tZ K C n&&(match QX K C with
 | some cd=>(match cd.mro with
  | [.ref C',.ref R,a,b,c,d]=>C'==C&&[a,b,c,d]==N8&&JD K DK "EaselError"==Mk (Mk (.ref R))&&(QX K R).any (fun c=>c.name==("EaselError" : Str))
  | _=>false)
 | none=>false)&&Ls K (.ref C) "__getattribute__"==Mk (Mk (.builtin "BaseException.__getattribute__"))&&Ls K (.ref C) "__getattr__"==Mk YK&&Ls K (.ref C) "__class__"==Mk (Mk (.builtin "object.__class__"))&&PySem.W.specialIn K (.builtin "object.__class__") "__get__"==Mk (Mk (.builtin "getset_descriptor.__get__"))
 && PySem.W.takesIn K (.builtin "object.__class__")==Mk true
def Dd (n:Str):List Str:=if n = "Apart" then ["word", "places"] else ["at"]
def X8 (K:Ar)(C:Addr)(n:Str):Bool:=qu K C n&&PySem.W.hasDictIn K C&&(Dd n).all fun f=>Ls K (.ref C) f==Mk YK
def Xoa (K:Ar)(o:Obj)(n:Str)(dd:Addr):Prop:=∃ C,o.cls=.ref C/\o.dict=Mk dd/\PySem.W.notCls o=true/\X8 K C n=true
def Xob (K:Ar)(o:Obj)(n:Str):Prop:=∃ C,o.cls=.ref C/\o.dict=YK/\PySem.W.notCls o=true/\qu K C n=true
mutual
def kI (K:Ar)(H:Hp)(μ : Mu):W->V->Prop
 | .non,v=>v=.non
 | .bl b,v=>v=.bl b
 | .int i,v=>v=.int i
 | .str x,v=>v=.str x
 | .ty n,v=>v=.ty n
 | .tup ws,v=>∃ p xs,v=.ref p/\Ed K H p xs/\aO K H μ ws xs
 | .lst ws,v=>∃ p xs,v=.ref p/\Frz H μ p xs/\aO K H μ ws xs
 | .kls ws,v=>∃ p xs,v=.ref p/\Frk K H p xs/\aO K H μ ws xs
 | .loc n,v=>∃ p,v=.ref p/\μ.f n=Mk p
 | .exc n,v=>∃ p o u,v=.ref p/\H p=Mk (.frz o u)/\Xob K o n
 | .exa n ws,v=>∃ p o u dd ns xs,v=.ref p/\H p=Mk (.frz o u)/\Xoa K o n dd/\H dd=Mk (.xd (List.zip ns xs))/\ns=Dd n/\ns.length=xs.length/\aO K H μ ws xs
 | .fnv f _,v=>v=.ref f
def aO (K:Ar)(H:Hp)(μ : Mu):List W->List V->Prop
 | [],xs=>xs=[]
 | w::ws,xs=>∃ v vs,xs=v::vs/\kI K H μ w v/\aO K H μ ws vs
end
section
variable {K:Ar}{H H' H1 H2:Hp}{μ' μ1 μ2 : Mu}{h h':Gh}{w:W}{ws:List W}{v:V}{xs:List V}
theorem aO.len:∀ {ws:List W} {xs:List V},aO K H μ ws xs->ws.length=xs.length
 | [],xs,h=>by
  have e:xs=[]:=by rw [aO] at h;exact h
  rw [e];rfl
 | w::ws,xs,h=>by
  rw [aO] at h;obtain ⟨v,vs,e,_,h⟩:=h;rw [e,Il,Il,aO.len h]
theorem aO.get:∀ {ws:List W} {xs:List V} {i:Nat} {w:W},aO K H μ ws xs->ws[i]?=Mk w->∃ v,xs[i]?=Mk v/\kI K H μ w v
 | [],_,_,_,_,e=>by simp at e
 | a::ws,xs,0,w,h,e=>by
  rw [aO] at h;obtain ⟨v,vs,e1,r,_⟩:=h;simp at e;subst e;subst e1;exact ⟨v,rfl,r⟩
 | a::ws,xs,i+1,w,h,e=>by
  rw [aO] at h;obtain ⟨v,vs,e1,_,h⟩:=h;subst e1;obtain ⟨u,h1,h2⟩:=aO.get (i:=i) (w:=w) h (by simpa using e);exact ⟨u,by simpa using h1,h2⟩
theorem aO.nil:aO K H μ [] []:=by rw [aO]
theorem aO.cons (r:kI K H μ w v)(h:aO K H μ ws xs):aO K H μ (w::ws) (v::xs):=by
 rw [aO];exact ⟨v,xs,rfl,r,h⟩
theorem aO.append:∀ {ws:List W} {xs:List V} {us:List W} {ys:List V},aO K H μ ws xs->aO K H μ us ys->aO K H μ (ws++us) (xs++ys)
 | [],xs,us,ys,h,g=>by
  rw [aO] at h;subst h;exact g
 | w::ws,xs,us,ys,h,g=>by
  rw [aO] at h;obtain ⟨v,vs,e,r,h⟩:=h;subst e;exact aO.cons r<|aO.append h g
theorem aO.one (r:kI K H μ w v):aO K H μ [w] [v]:=aO.cons r aO.nil
theorem aO.take:∀ {ws:List W} {xs:List V} (n:Nat),aO K H μ ws xs->aO K H μ (ws.take n) (xs.take n)
 | _,_,0,_=>by simp only [List.take_zero];exact aO.nil
 | [],xs,n+1,h=>by rw [aO] at h;subst h;exact aO.nil
 | a::ws,xs,n+1,h=>by
  rw [aO] at h;obtain ⟨u,vs,e,q,h⟩:=h;subst e;exact aO.cons q<|aO.take n h
theorem aO.drop:∀ {ws:List W} {xs:List V} (n:Nat),aO K H μ ws xs->aO K H μ (ws.drop n) (xs.drop n)
 | _,_,0,h=>h
 | [],xs,n+1,h=>by rw [aO] at h;subst h;exact aO.nil
 | a::ws,xs,n+1,h=>by
  rw [aO] at h;obtain ⟨u,vs,e,q,h⟩:=h;subst e;exact aO.drop n h
structure Ex0 (K:Ar) (H:Hp) (μ : Mu) (H':Hp) (μ':Mu):Prop where
 t:∀ p xs,Ed K H p xs->Ed K H' p xs
 l:∀ p xs,Frz H μ p xs->Frz H' μ' p xs
 k:∀ p xs,Frk K H p xs->Frk K H' p xs
 m:∀ n p,μ.f n=Mk p->μ'.f n=Mk p
 x:∀ p o u,H p=Mk (.frz o u)->H' p=Mk (.frz o u)
 y:∀ p fs,H p=Mk (.xd fs)->H' p=Mk (.xd fs)
structure Ex (K:Ar) (H:Hp) (μ : Mu) (H':Hp) (μ':Mu):Prop extends Ex0 K H μ H' μ' where
 o:∀ p u,μ.hid p->H p=Mk u->μ'.hid p/\H' p=Mk u
mutual
theorem kI.ex (e:Ex0 K H μ H' μ'):∀ {w:W} {v:V},kI K H μ w v->kI K H' μ' w v
 | .non,_,h=>by rw [kI] at h |-;exact h
 | .bl _,_,h=>by rw [kI] at h |-;exact h
 | .int _,_,h=>by rw [kI] at h |-;exact h
 | .str _,_,h=>by rw [kI] at h |-;exact h
 | .ty _,_,h=>by rw [kI] at h |-;exact h
 | .tup ws,_,h=>by
  rw [kI] at h |-
  obtain ⟨p,xs,e1,hs,hr⟩:=h;exact ⟨p,xs,e1,e.t _ _ hs,aO.ex e hr⟩
 | .lst ws,_,h=>by
  rw [kI] at h |-
  obtain ⟨p,xs,e1,hs,hr⟩:=h;exact ⟨p,xs,e1,e.l _ _ hs,aO.ex e hr⟩
 | .kls ws,_,h=>by
  rw [kI] at h |-
  obtain ⟨p,xs,e1,hs,hr⟩:=h;exact ⟨p,xs,e1,e.k _ _ hs,aO.ex e hr⟩
 | .loc n,_,h=>by
  rw [kI] at h |-
  obtain ⟨p,e1,hm⟩:=h;exact ⟨p,e1,e.m _ _ hm⟩
 | .exc n,_,h=>by
  rw [kI] at h |-
  obtain ⟨p,o,u,e1,hm,hx⟩:=h;exact ⟨p,o,u,e1,e.x _ _ _ hm,hx⟩
 | .exa n ws,_,h=>by
  rw [kI] at h |-
  obtain ⟨p,o,u,dd,ns,xs,e1,hm,hx,hd,e2,e3,hr⟩:=h;exact ⟨p,o,u,dd,ns,xs,e1,e.x _ _ _ hm,hx,e.y _ _ hd,e2,e3,aO.ex e hr⟩
 | .fnv _ _,_,h=>by rw [kI] at h |-;exact h
theorem aO.ex (e:Ex0 K H μ H' μ'):∀ {ws:List W} {xs:List V},aO K H μ ws xs->aO K H' μ' ws xs
 | [],_,h=>by rw [aO] at h |-;exact h
 | w::ws,_,h=>by
  rw [aO] at h |-
  obtain ⟨v,vs,e1,r,h⟩:=h;exact ⟨v,vs,e1,kI.ex e r,aO.ex e h⟩
end
structure Dr (K:Ar) (H:Hp) (μ : Mu) (H':Hp) (μ':Mu):Prop where
 r:∀ w v,kI K H μ w v->kI K H' μ' w v
 o:∀ p u,μ.hid p->H p=Mk u->μ'.hid p/\H' p=Mk u
theorem Dr.refl:Dr K H μ H μ:=⟨fun _ _ h=>h,fun _ _ h g=>⟨h,g⟩⟩
theorem Dr.trans (a:Dr K H μ H1 μ1)(b:Dr K H1 μ1 H2 μ2):Dr K H μ H2 μ2:=
 ⟨fun w v h=>b.r w v (a.r w v h),fun p u h g=>let ⟨h1,g1⟩:=a.o p u h g;b.o p u h1 g1⟩
theorem Ex.ext (e:Ex K H μ H' μ'):Dr K H μ H' μ':=⟨fun _ _ h=>kI.ex e.toEx0 h,e.o⟩
theorem Dr.s (e:Dr K H μ H' μ'):∀ {ws:List W} {xs:List V},aO K H μ ws xs->aO K H' μ' ws xs
 | [],_,h=>by rw [aO] at h |-;exact h
 | w::ws,_,h=>by
  rw [aO] at h |-
  obtain ⟨v,vs,e1,r,h⟩:=h;exact ⟨v,vs,e1,e.r _ _ r,Dr.s e h⟩
def VH:Option HO->Prop
 | some (.lst _)=>True
 | some (.dK _)=>True
 | some (.ins _ _ _)=>True
 | some (.ext _)=>True
 | _=>False
def ji {κ : Type}(K:Ar)(H:Hp)(μ : Mu):List (κ×W)->List (κ×V)->Prop:=JB fun (p:κ×W) (q:κ×V)=>p.1=q.1/\kI K H μ p.2 q.2
def Z8 (x:List Int×Addr×Yk):Nk:=⟨reduceHash (Builtin.Tuple.tupleHashOf (x.1.map hashInt)),.ref x.2.1,x.2.2⟩
def w6 (a:Addr)(xs:List (List Int×Addr×Yk))(h:Heap):Prop:=xs.length<=CR/\(a==LQ)=false/\(xs.map (·.1)).Nodup/\∃ o es ep,h.get? a=Mk o/\o.ExactDict/\o.data=.dict es ep/\es.toList=xs.map Z8
def qI (K:Ar)(H:Hp)(μ : Mu)(p:Addr):Cell->Prop
 | .lst ws=>∃ xs,H p=Mk (.lst xs)/\aO K H μ ws xs
 | .obj C fs=>∃ dx fvs,H p=Mk (.ins C dx fvs)/\ji K H μ fs fvs
 | .dct kvs=>∃ kvv,H p=Mk (.dK kvv)/\ji K H μ kvs kvv
 | .dtt kvs=>∃ xs vs,H p=Mk (.ext (w6 p xs))/\kvs.map (·.1)=xs.map (·.1)/\Az vs (xs.map (·.2.2))/\aO K H μ (kvs.map fun x=>W.tup (x.1.map W.int)) (xs.map fun x=>V.ref x.2.1)/\aO K H μ (kvs.map (·.2)) vs
structure Bq (K:Ar) (μ : Mu) (H:Hp) (h:Gh):Prop where
 inj:∀ m n p,μ.f m=Mk p->μ.f n=Mk p->m=n
 dom:∀ n p,μ.f n=Mk p->n<h.nx
 trk:∀ n p,μ.f n=Mk p->VH (H p)
 cel:∀ n c,h.c n=Mk c->∃ p,μ.f n=Mk p/\qI K H μ p c
 hd:∀ p,μ.hid p->(∃ xs,H p=Mk (.lst xs))/\∀ n,μ.f n≠Mk p
theorem qI.ext {c:Cell}(e:Dr K H μ H' μ')(hp:H' p=H p)(x:qI K H μ p c):qI K H' μ' p c:=by
 cases c with
 | lst ws=>obtain ⟨xs,a,b⟩:=x;exact ⟨xs,hp.trans a,e.s b⟩
 | obj C fs=>obtain ⟨dx,fvs,a,b⟩:=x;exact ⟨dx,fvs,hp.trans a,Paired.mapP b fun _ _ z=>⟨z.1,e.r _ _ z.2⟩⟩
 | dct kvs=>obtain ⟨kvv,a,b⟩:=x;exact ⟨kvv,hp.trans a,Paired.mapP b fun _ _ z=>⟨z.1,e.r _ _ z.2⟩⟩
 | dtt kvs=>obtain ⟨xs,vs,a,b,c,d,f⟩:=x;exact ⟨xs,vs,hp.trans a,b,c,e.s d,e.s f⟩
theorem Rd.laid {q:Addr}{o u:HO}(hp:H p=YK)(r:Rd H q u):Rd (CJ H p o) q u:=by
 have ne:q≠p:=by
  rcases r with r | ⟨_,r⟩
  ·exact aP r hp
  ·exact aP r hp
 unfold Rd;rw [aJ ne];exact r
theorem Ex.laid {p:Addr}{o:HO}(hp:H p=YK):Ex K H μ (CJ H p o) μ where
 t:=fun q xs h=>by
  rcases h with h | h
  ·exact .inl<|h.laid hp
  ·exact .inr h
 l:=fun q xs h=>⟨by rw [aJ (aP h.1 hp)];exact h.1,h.2⟩
 k:=fun q xs h=>by
  rcases h with ⟨o',h⟩ | h
  ·exact .inl ⟨o',by rw [aJ<|aP h hp];exact h⟩
  ·exact .inr h
 m:=fun _ _ h=>h
 x:=fun q o' u e=>by rw [aJ (aP e hp)];exact e
 y:=fun q fs e=>by rw [aJ (aP e hp)];exact e
 o:=fun q u z e=>⟨z,by rw [aJ (aP e hp)];exact e⟩
theorem Bq.laid {p:Addr}{o:HO}(R:Bq K μ H h)(hp:H p=YK):Bq K μ (CJ H p o) h where
 inj:=R.inj
 dom:=R.dom
 trk:=fun n q e=>by
  have:=R.trk n q e
  have ne:q≠p:=fun z=>by subst z;rw [hp] at this;exact this
  rw [aJ ne];exact this
 cel:=fun n c e=>by
  obtain ⟨q,e1,x⟩:=R.cel n c e;have:=R.trk n q e1
  have ne:q≠p:=fun z=>by subst z;rw [hp] at this;exact this
  exact ⟨q,e1,x.ext (Ex.laid hp).ext (aJ ne)⟩
 hd:=fun q z=>by
  obtain ⟨⟨xs,e⟩,g⟩:=R.hd q z;exact ⟨⟨xs,by rw [aJ<|aP e hp];exact e⟩,g⟩
theorem kI.tupNew (hp:H p=YK)(r:aO K H μ ws xs):kI K (CJ H p (.tup xs)) μ (.tup ws) (.ref p):=by
 rw [kI];exact ⟨p,xs,rfl,Ed.of bf,(Ex.laid hp).ext.s r⟩
theorem kI.lstNew (R:Bq K μ H h)(hp:H p=YK)(r:aO K H μ ws xs):kI K (CJ H p (.lst xs)) μ (.lst ws) (.ref p):=by
 rw [kI];refine ⟨p,xs,rfl,⟨bf,fun n e=>?_,fun z=>?_⟩,(Ex.laid hp).ext.s r⟩
 ·have:=R.trk n p e
  rw [hp] at this;exact this
 ·obtain ⟨⟨xs,e⟩,_⟩:=R.hd p z;rw [hp] at e;cases e
def Mu.put (μ : Mu)(n:Nat)(p:Addr):Mu:=⟨fun m=>if m=n then Mk p else μ.f m,μ.hid⟩
theorem Mu.put_same {n:Nat}:(μ.put n p).f n=Mk p:=by show (if n=n then Mk p else μ.f n)=_;rw [if_pos rfl]
theorem Mu.put_ne {n:Nat}(e:m≠n):(μ.put n p).f m = μ.f m:=by show (if m=n then Mk p else μ.f m)=_;rw [if_neg e]
def Gh.new (h:Gh)(c:Cell):Gh:=⟨h.nx+1,fun m=>if m=h.nx then Mk c else h.c m⟩
def Gh.set (h:Gh)(n:Nat)(c:Cell):Gh:=⟨h.nx,fun m=>if m=n then Mk c else h.c m⟩
theorem Bq.dead (R:Bq K μ H h){n:Nat}(hn:h.nx<=n):μ.f n=YK:=by
 cases e:μ.f n with
 | none=>rfl
 | some p=>exact absurd (R.dom n p e) (by lia)
theorem Ex.newCell {o:HO}(R:Bq K μ H h)(hp:H p=YK):Ex K H μ (CJ H p o) (μ.put h.nx p) where
 t:=fun q xs z=>(Ex.laid (μ:=μ) hp).t q xs z
 l:=fun q xs z=>by
  have nq:=aP z.1 hp;refine ⟨by rw [aJ nq];exact z.1,fun n e=>?_,z.2.2⟩;by_cases hn:n=h.nx
  ·subst hn;rw [Mu.put_same] at e;exact nq (Eb e).symm
  ·rw [Mu.put_ne hn] at e;exact z.2.1 n e
 k:=fun q xs z=>(Ex.laid (μ:=μ) hp).k q xs z
 m:=fun n q e=>by
  have hn:n≠h.nx:=fun z=>by subst z;rw [R.dead (Bp _)] at e;cases e
  rw [Mu.put_ne hn];exact e
 x:=fun q o' u e=>by rw [aJ (aP e hp)];exact e
 y:=fun q fs e=>by rw [aJ (aP e hp)];exact e
 o:=fun q u z e=>⟨z,by rw [aJ (aP e hp)];exact e⟩
theorem Bq.newCell {p:Addr}{o:HO}{c:Cell}(R:Bq K μ H h)(hp:H p=YK)(mo:VH (Mk o))(ck:qI K (CJ H p o) (μ.put h.nx p) p c):Bq K (μ.put h.nx p) (CJ H p o) (h.new c) where
 inj:=fun m n q em en=>by
  by_cases hm:m=h.nx
  ·by_cases hn:n=h.nx
   ·rw [hm,hn]
   ·rw [hm,Mu.put_same] at em;rw [Mu.put_ne hn] at en;have e:p=q:=Eb em;subst e;have:=R.trk n _ en
    rw [hp] at this;exact this.elim
  ·rw [Mu.put_ne hm] at em;by_cases hn:n=h.nx
   ·rw [hn,Mu.put_same] at en;have e:p=q:=Eb en;subst e;have:=R.trk m _ em
    rw [hp] at this;exact this.elim
   ·rw [Mu.put_ne hn] at en;exact R.inj m n q em en
 dom:=fun n q e=>by
  show n<h.nx+1;by_cases hn:n=h.nx
  ·lia
  ·rw [Mu.put_ne hn] at e;have:=R.dom n q e
   lia
 trk:=fun n q e=>by
  by_cases hn:n=h.nx
  ·rw [hn,Mu.put_same] at e;have e:p=q:=Eb e;subst e;rw [bf];exact mo
  ·rw [Mu.put_ne hn] at e;have:=R.trk n q e
   have ne:q≠p:=fun z=>by subst z;rw [hp] at this;exact this
   rw [aJ ne];exact this
 cel:=fun n d e=>by
  have e:(if n=h.nx then Mk c else h.c n)=Mk d:=e;by_cases hn:n=h.nx
  ·rw [if_pos hn] at e;have e:c=d:=Eb e;subst e;exact ⟨p,by rw [hn,Mu.put_same],ck⟩
  ·rw [if_neg hn] at e;obtain ⟨q,e1,x⟩:=R.cel n d e;have:=R.trk n q e1
   have ne:q≠p:=fun z=>by subst z;rw [hp] at this;exact this
   exact ⟨q,by rw [Mu.put_ne hn];exact e1,x.ext (Ex.newCell R hp).ext (aJ ne)⟩
 hd:=fun q z=>by
  obtain ⟨⟨xs,e⟩,g⟩:=R.hd q z;have ne:=aP e hp;refine ⟨⟨xs,by rw [aJ ne];exact e⟩,fun n en=>?_⟩;by_cases hn:n=h.nx
  ·rw [hn,Mu.put_same] at en;exact ne (Eb en).symm
  ·rw [Mu.put_ne hn] at en;exact g n en
theorem Rd.kept {q:Addr}{o u:HO}(mo:VH (H p))(r:Rd H q u)(hn:q≠p):Rd (CJ H p o) q u:=by
 unfold Rd;rw [aJ hn];exact r
theorem Ex.write {n:Nat}{o:HO}(R:Bq K μ H h)(hn:μ.f n=Mk p):Ex K H μ (CJ H p o) μ where
 t:=fun q xs z=>by
  rcases z with z | z
  ·refine .inl<|z.kept (R.trk n p hn) fun e=>?_
   subst e;have:=R.trk n q hn
   rcases z with r | ⟨_,r⟩ <;> rw [r] at this <;> exact this
  ·exact .inr z
 l:=fun q xs z=>⟨by rw [aJ (fun e=>z.2.1 n (by rw [e];exact hn))];exact z.1,z.2⟩
 k:=fun q xs z=>by
  rcases z with ⟨o',z⟩ | z
  ·refine .inl ⟨o',?_⟩;rw [aJ (fun e=>?_)]
   ·exact z
   ·subst e;have:=R.trk n q hn
    rw [z] at this;exact this
  ·exact .inr z
 m:=fun _ _ e=>e
 x:=fun q o' u e=>by
  rw [aJ (fun y=>?_)]
  ·exact e
  ·subst y;have:=R.trk n q hn
   rw [e] at this;exact this
 y:=fun q fs e=>by
  rw [aJ (fun y=>?_)]
  ·exact e
  ·subst y;have:=R.trk n q hn
   rw [e] at this;exact this
 o:=fun q u z e=>⟨z,by rw [aJ (fun y=>(R.hd q z).2 n (by rw [y];exact hn))];exact e⟩
theorem Bq.write {n:Nat}{p:Addr}{o:HO}{c:Cell}(R:Bq K μ H h)(hn:μ.f n=Mk p)(mo:VH (Mk o))(ck:qI K (CJ H p o) μ p c):Bq K μ (CJ H p o) (h.set n c) where
 inj:=R.inj
 dom:=R.dom
 trk:=fun m q e=>by
  by_cases z:q=p
  ·subst z;rw [bf];exact mo
  ·rw [aJ z];exact R.trk m q e
 cel:=fun m d e=>by
  have e:(if m=n then Mk c else h.c m)=Mk d:=e;by_cases hm:m=n
  ·rw [if_pos hm] at e;have e:c=d:=Eb e;subst e;exact ⟨p,by rw [hm];exact hn,ck⟩
  ·rw [if_neg hm] at e;obtain ⟨q,e1,x⟩:=R.cel m d e;have ne:q≠p:=fun z=>by subst z;exact hm (R.inj m n q e1 hn)
   exact ⟨q,e1,x.ext (Ex.write R hn).ext (aJ ne)⟩
 hd:=fun q z=>by
  obtain ⟨⟨xs,e⟩,g⟩:=R.hd q z;exact ⟨⟨xs,by rw [aJ<|fun y=>g n (by rw [y];exact hn)];exact e⟩,g⟩
mutual
def Lo (k:Nat):W->Prop
 | .tup ws=>JL k ws
 | .lst ws=>JL k ws
 | .kls ws=>JL k ws
 | .exa _ ws=>JL k ws
 | .loc n=>n<k
 | _=>True
def JL (k:Nat):List W->Prop
 | []=>True
 | w::ws=>Lo k w/\JL k ws
end
mutual
theorem kI.lo {k:Nat}(hd:∀ n p,μ.f n=Mk p->n<k):∀ {w:W} {v:V},kI K H μ w v->Lo k w
 | .non,_,_=>by rw [Lo] <;> first | trivial | (intros;contradiction)
 | .bl _,_,_=>by rw [Lo] <;> first | trivial | (intros;contradiction)
 | .int _,_,_=>by rw [Lo] <;> first | trivial | (intros;contradiction)
 | .str _,_,_=>by rw [Lo] <;> first | trivial | (intros;contradiction)
 | .ty _,_,_=>by rw [Lo] <;> first | trivial | (intros;contradiction)
 | .exc _,_,_=>by rw [Lo] <;> first | trivial | (intros;contradiction)
 | .fnv _ _,_,_=>by rw [Lo] <;> first | trivial | (intros;contradiction)
 | .exa _ ws,_,h=>by
  rw [kI] at h;obtain ⟨_,_,_,_,_,_,_,_,_,_,_,_,hr⟩:=h;rw [Lo];exact aO.lo hd hr
 | .tup ws,_,h=>by
  rw [kI] at h;obtain ⟨p,xs,_,_,hr⟩:=h;rw [Lo];exact aO.lo hd hr
 | .lst ws,_,h=>by
  rw [kI] at h;obtain ⟨p,xs,_,_,hr⟩:=h;rw [Lo];exact aO.lo hd hr
 | .kls ws,_,h=>by
  rw [kI] at h;obtain ⟨p,xs,_,_,hr⟩:=h;rw [Lo];exact aO.lo hd hr
 | .loc n,_,h=>by
  rw [kI] at h;obtain ⟨p,_,hm⟩:=h;rw [Lo];exact hd n p hm
theorem aO.lo {k:Nat}(hd:∀ n p,μ.f n=Mk p->n<k):∀ {ws:List W} {xs:List V},aO K H μ ws xs->JL k ws
 | [],_,_=>by rw [JL];trivial
 | w::ws,_,h=>by
  rw [aO] at h;obtain ⟨v,vs,_,r,h⟩:=h;rw [JL];exact ⟨kI.lo hd r,aO.lo hd h⟩
end
def Mu.cut (μ : Mu)(k:Nat):Mu:=⟨fun n=>if n<k then μ.f n else YK,μ.hid⟩
theorem Mu.cut_some {k n:Nat}(e:(μ.cut k).f n=Mk p):n<k/\μ.f n=Mk p:=by
 have e:(if n<k then μ.f n else YK)=Mk p:=e;by_cases hn:n<k
 ·rw [if_pos hn] at e;exact ⟨hn,e⟩
 ·rw [if_neg hn] at e;cases e
mutual
theorem kI.cut {k:Nat}:∀ {w:W} {v:V},kI K H μ w v->Lo k w->kI K H (μ.cut k) w v
 | .non,_,h,_=>by rw [kI] at h |-;exact h
 | .bl _,_,h,_=>by rw [kI] at h |-;exact h
 | .int _,_,h,_=>by rw [kI] at h |-;exact h
 | .str _,_,h,_=>by rw [kI] at h |-;exact h
 | .ty _,_,h,_=>by rw [kI] at h |-;exact h
 | .exc _,_,h,_=>by rw [kI] at h |-;exact h
 | .fnv _ _,_,h,_=>by rw [kI] at h |-;exact h
 | .exa _ ws,_,h,l=>by
  rw [kI] at h |-
  rw [Lo] at l;obtain ⟨p,o,u,dd,ns,xs,e1,hm,hx,hd,e2,e3,hr⟩:=h;exact ⟨p,o,u,dd,ns,xs,e1,hm,hx,hd,e2,e3,aO.cut hr l⟩
 | .tup ws,_,h,l=>by
  rw [kI] at h |-
  rw [Lo] at l;obtain ⟨p,xs,e1,hs,hr⟩:=h;exact ⟨p,xs,e1,hs,aO.cut hr l⟩
 | .lst ws,_,h,l=>by
  rw [kI] at h |-
  rw [Lo] at l;obtain ⟨p,xs,e1,hs,hr⟩:=h;exact ⟨p,xs,e1,⟨hs.1,fun n e=>hs.2.1 n (Mu.cut_some e).2,hs.2.2⟩,aO.cut hr l⟩
 | .kls ws,_,h,l=>by
  rw [kI] at h |-
  rw [Lo] at l;obtain ⟨p,xs,e1,hs,hr⟩:=h;exact ⟨p,xs,e1,hs,aO.cut hr l⟩
 | .loc n,_,h,l=>by
  rw [kI] at h |-
  rw [Lo] at l;obtain ⟨p,e1,hm⟩:=h;refine ⟨p,e1,?_⟩;show (if n<k then μ.f n else YK)=Mk p;rw [if_pos l];exact hm
theorem aO.cut {k:Nat}:∀ {ws:List W} {xs:List V},aO K H μ ws xs->JL k ws->aO K H (μ.cut k) ws xs
 | [],_,h,_=>by rw [aO] at h |-;exact h
 | w::ws,_,h,l=>by
  rw [aO] at h |-
  rw [JL] at l;obtain ⟨v,vs,e1,r,h⟩:=h;exact ⟨v,vs,e1,kI.cut r l.1,aO.cut h l.2⟩
end
end
variable {ws : List W}{μ' μ1 : Mu}
section
variable {K:Ar}{H H' H1 H2:Hp}{μ2 : Mu}{h h':Gh}{w:W}{v:V}{xs ys:List V}
def Mu.hide (μ : Mu)(p:Addr):Mu:=⟨μ.f,fun q=>q=p\/μ.hid q⟩
def Mu.unhide (μ : Mu)(p:Addr):Mu:=⟨μ.f,fun q=>q≠p/\μ.hid q⟩
structure Qt (p:Addr) (K:Ar) (H:Hp) (μ : Mu) (H':Hp) (μ':Mu):Prop where
 r:∀ w v,kI K H μ w v->kI K H' μ' w v
 o:∀ q u,q≠p->μ.hid q->H q=Mk u->μ'.hid q/\H' q=Mk u
theorem Dr.x (a:Dr K H μ H1 μ1)(hp:¬ μ.hid p)(b:Qt p K H1 μ1 H2 μ2):Dr K H μ H2 μ2:=
 ⟨fun w v z=>b.r w v (a.r w v z),fun q u z e=>let ⟨z1,e1⟩:=a.o q u z e;b.o q u (fun y=>hp (by rw [<-y];exact z)) z1 e1⟩
theorem Dr.hide {o:HO}(hp:H p=YK):Dr K H μ (CJ H p o) (μ.hide p):=Ex.ext {
 t:=fun q xs z=>(Ex.laid (μ:=μ) hp).t q xs z
 l:=fun q xs z=>by
  have nq:=aP z.1 hp;refine ⟨by rw [aJ nq];exact z.1,z.2.1,fun y=>?_⟩;rcases y with y | y
  ·exact nq y
  ·exact z.2.2 y
 k:=fun q xs z=>(Ex.laid (μ:=μ) hp).k q xs z
 m:=fun _ _ e=>e
 x:=fun q o' u e=>by rw [aJ (aP e hp)];exact e
 y:=fun q fs e=>by rw [aJ (aP e hp)];exact e
 o:=fun q u z e=>⟨.inr z,by rw [aJ (aP e hp)];exact e⟩ }
theorem Bq.nohid (R:Bq K μ H h)(hp:H p=YK):¬ μ.hid p:=fun z=>by
 obtain ⟨⟨xs,e⟩,_⟩:=R.hd p z;rw [hp] at e;cases e
theorem Bq.hide (R:Bq K μ H h)(hp:H p=YK):Bq K (μ.hide p) (CJ H p (.lst xs)) h where
 inj:=R.inj
 dom:=R.dom
 trk:=(R.laid hp).trk
 cel:=fun n c e=>by
  obtain ⟨q,e1,x⟩:=R.cel n c e;have:=R.trk n q e1
  have ne:q≠p:=fun z=>by subst z;rw [hp] at this;exact this
  exact ⟨q,e1,x.ext (Dr.hide hp)<|aJ ne⟩
 hd:=fun q z=>by
  rcases z with z | z
  ·subst z;refine ⟨⟨xs,bf⟩,fun n e=>?_⟩;have:=R.trk n q e
   rw [hp] at this;exact this
  ·exact (R.laid (o:=.lst xs) hp).hd q z
theorem Ex0.grow (R:Bq K μ H h)(hp:μ.hid p):Ex0 K H μ (CJ H p (.lst ys)) μ where
 t:=fun q xs z=>by
  rcases z with z | z
  ·refine .inl ?_;unfold Rd;rw [aJ (fun y=>?_)]
   ·exact z
   ·subst y;obtain ⟨⟨xs',e⟩,_⟩:=R.hd q hp;rcases z with r | ⟨_,r⟩ <;> rw [e] at r <;> cases r
  ·exact .inr z
 l:=fun q xs z=>⟨by rw [aJ (fun y=>z.2.2 (by rw [y];exact hp))];exact z.1,z.2⟩
 k:=fun q xs z=>by
  rcases z with ⟨o',z⟩ | z
  ·refine .inl ⟨o',?_⟩;rw [aJ (fun y=>?_)]
   ·exact z
   ·subst y;obtain ⟨⟨xs',e⟩,_⟩:=R.hd q hp;rw [e] at z;cases z
  ·exact .inr z
 m:=fun _ _ e=>e
 x:=fun q o' u e=>by
  rw [aJ (fun y=>?_)]
  ·exact e
  ·subst y;obtain ⟨⟨xs',e'⟩,_⟩:=R.hd q hp;rw [e'] at e;cases e
 y:=fun q fs e=>by
  rw [aJ (fun y=>?_)]
  ·exact e
  ·subst y;obtain ⟨⟨xs',e'⟩,_⟩:=R.hd q hp;rw [e'] at e;cases e
theorem Qt.grow (R:Bq K μ H h)(hp:μ.hid p):Qt p K H μ (CJ H p (.lst ys)) μ:=
 ⟨fun _ _ z=>kI.ex (Ex0.grow R hp) z,fun q u ne z e=>⟨z,by rw [aJ ne];exact e⟩⟩
theorem Bq.grow (R:Bq K μ H h)(hp:μ.hid p):Bq K μ (CJ H p (.lst ys)) h where
 inj:=R.inj
 dom:=R.dom
 trk:=fun n q e=>by
  have ne:q≠p:=fun z=>(R.hd p hp).2 n (by rw [<-z];exact e)
  rw [aJ ne];exact R.trk n q e
 cel:=fun n c e=>by
  obtain ⟨q,e1,x⟩:=R.cel n c e;have ne:q≠p:=fun z=>(R.hd p hp).2 n (by rw [<-z];exact e1)
  refine ⟨q,e1,?_⟩;cases c with
  | lst ws=>obtain ⟨xs,a,b⟩:=x;exact ⟨xs,(aJ ne).trans a,aO.ex (Ex0.grow R hp) b⟩
  | obj C fs=>obtain ⟨dx,fvs,a,b⟩:=x;exact ⟨dx,fvs,(aJ ne).trans a,Paired.mapP b fun _ _ z=>⟨z.1,kI.ex (Ex0.grow R hp) z.2⟩⟩
  | dct kvs=>obtain ⟨kvv,a,b⟩:=x;exact ⟨kvv,(aJ ne).trans a,Paired.mapP b fun _ _ z=>⟨z.1,kI.ex (Ex0.grow R hp) z.2⟩⟩
  | dtt kvs=>obtain ⟨xs,vs,a,b,c,d,f⟩:=x;exact ⟨xs,vs,(aJ ne).trans a,b,c,aO.ex (Ex0.grow R hp) d,aO.ex (Ex0.grow R hp) f⟩
 hd:=fun q z=>by
  by_cases e:q=p
  ·subst e;exact ⟨⟨ys,bf⟩,(R.hd q hp).2⟩
  ·rw [aJ e];exact R.hd q z
theorem Ex0.unhide:Ex0 K H μ H (μ.unhide p) where
 t:=fun _ _ z=>z
 l:=fun q xs z=>⟨z.1,z.2.1,fun y=>z.2.2 y.2⟩
 k:=fun _ _ z=>z
 m:=fun _ _ e=>e
 x:=fun _ _ _ e=>e
 y:=fun _ _ e=>e
theorem Qt.unhide:Qt p K H μ H (μ.unhide p):=⟨fun _ _ z=>kI.ex Ex0.unhide z,fun q u ne z e=>⟨⟨ne,z⟩,e⟩⟩
theorem Bq.unhide (R:Bq K μ H h):Bq K (μ.unhide p) H h where
 inj:=R.inj
 dom:=R.dom
 trk:=R.trk
 cel:=fun n c e=>by
  obtain ⟨q,e1,x⟩:=R.cel n c e;refine ⟨q,e1,?_⟩;cases c with
  | lst ws=>obtain ⟨xs,a,b⟩:=x;exact ⟨xs,a,aO.ex Ex0.unhide b⟩
  | obj C fs=>obtain ⟨dx,fvs,a,b⟩:=x;exact ⟨dx,fvs,a,Paired.mapP b fun _ _ z=>⟨z.1,kI.ex Ex0.unhide z.2⟩⟩
  | dct kvs=>obtain ⟨kvv,a,b⟩:=x;exact ⟨kvv,a,Paired.mapP b fun _ _ z=>⟨z.1,kI.ex Ex0.unhide z.2⟩⟩
  | dtt kvs=>obtain ⟨xs,vs,a,b,c,d,f⟩:=x;exact ⟨xs,vs,a,b,c,aO.ex Ex0.unhide d,aO.ex Ex0.unhide f⟩
 hd:=fun q z=>R.hd q z.2
theorem kI.built (R:Bq K μ H h)(hp:μ.hid p)(e:H p=Mk (.lst xs))(r:aO K H μ ws xs):kI K H (μ.unhide p) (.lst ws) (.ref p):=by
 rw [kI];exact ⟨p,xs,rfl,⟨e,(R.hd p hp).2,fun z=>z.1 rfl⟩,aO.ex Ex0.unhide r⟩
end
abbrev Sw:=List (Option W)
abbrev WK:=W->Gh->Prop
abbrev ME:=Sw->Gh->WK->Prop
abbrev MT:=Sw->Gh->(Bool->Gh->Prop)->Prop
abbrev MA:=Sw->Gh->(List W->Gh->Prop)->Prop
structure bT where
 nx:Sw->Gh->Prop
 rt:WK
 bk:Sw->Gh->Prop:=fun _ _=>False
 ct:Sw->Gh->Prop:=fun _ _=>False
abbrev MS:=bT->Sw->Gh->Prop
abbrev MG:=W->Sw->Gh->(Sw->Gh->Prop)->Prop
abbrev MK:=List W->Sw->Gh->(Sw->Gh->Prop)->Prop
structure Xw where
 cls:Str
 fs:List (Str×W)
abbrev CN:=Xw->Gh->Prop
abbrev Bd:=List W->Gh->WK->CN->Prop
def EF:CN:=fun _ _=>False
structure Slots (K:Ar) (H:Hp) (μ : Mu) (Zw:Sw) (Z : St):Prop where
 len:Zw.length = Z.length
 get:∀ (i:Nat) (w:W),Zw[i]?=Mk (Mk w)->∃ v,Z[i]?=Mk (Mk v)/\kI K H μ w v
inductive DQ (K:Ar) (H:Hp) (μ : Mu) (Q:WK) (v:V) (H':Hp):Prop where
 | mk (μ':Mu) (w:W) (h':Gh) (e:Dr K H μ H' μ') (R:Bq K μ' H' h') (r:kI K H' μ' w v) (q:Q w h'):DQ K H μ Q v H'
inductive DB (K:Ar) (H:Hp) (μ : Mu) (Q:Bool->Gh->Prop) (b:Bool) (H':Hp):Prop where
 | mk (μ':Mu) (h':Gh) (e:Dr K H μ H' μ') (R:Bq K μ' H' h') (q:Q b h'):DB K H μ Q b H'
inductive DA (K:Ar) (H:Hp) (μ : Mu) (Q:List W->Gh->Prop) (vs:List V) (H':Hp):Prop where
 | mk (μ':Mu) (ws:List W) (h':Gh) (e:Dr K H μ H' μ') (R:Bq K μ' H' h') (r:aO K H' μ' ws vs) (q:Q ws h'):DA K H μ Q vs H'
inductive DN (K:Ar) (H:Hp) (μ : Mu) (N:Sw->Gh->Prop) (Z':St) (H':Hp):Prop where
 | mk (μ':Mu) (Zw':Sw) (h':Gh) (e:Dr K H μ H' μ') (R:Bq K μ' H' h') (S:Slots K H' μ' Zw' Z') (q:N Zw' h'):DN K H μ N Z' H'
section
variable {K:Ar}{H H' H1 H2:Hp}{μ2 : Mu}{h h' h1:Gh}{w:W}{v:V}{Z : St}{Zw:Sw}
theorem Slots.ext (S:Slots K H μ Zw Z)(e:Dr K H μ H' μ'):Slots K H' μ' Zw Z:=⟨S.len,fun i w q=>let ⟨v,a,b⟩:=S.get i w q;⟨v,a,e.r _ _ b⟩⟩
theorem Slots.set (S:Slots K H μ Zw Z)(r:kI K H μ w v)(i:Nat):Slots K H μ (Zw.set i (Mk w)) (Z.set i (Mk v)):=by
 refine ⟨by rw [List.length_set,List.length_set,S.len],fun j u q=>?_⟩;rw [List.getElem?_set] at q |-
 by_cases hij:i=j
 ·rw [if_pos hij] at q |-
  by_cases hl:i < Zw.length
  ·rw [if_pos hl] at q;rw [if_pos (by rw [<-S.len];exact hl)];have e:w=u:=by injection q with q;injection q
   subst e;exact ⟨v,rfl,r⟩
  ·rw [if_neg hl] at q;cases q
 ·rw [if_neg hij] at q |-
  exact S.get j u q
theorem DQ.trans {Q:WK}(e:Dr K H μ H1 μ1)(q:DQ K H1 μ1 Q v H'):DQ K H μ Q v H':=let ⟨μ',w,h',a,b,c,d⟩:=q;⟨μ',w,h',e.trans a,b,c,d⟩
theorem DB.trans {Q:Bool->Gh->Prop}{b:Bool}(e:Dr K H μ H1 μ1)(q:DB K H1 μ1 Q b H'):DB K H μ Q b H':=let ⟨μ',h',a,b,c⟩:=q;⟨μ',h',e.trans a,b,c⟩
theorem DN.trans {N:Sw->Gh->Prop}{Z':St}(e:Dr K H μ H1 μ1)(q:DN K H1 μ1 N Z' H'):DN K H μ N Z' H':=let ⟨μ',w,h',a,b,c,d⟩:=q;⟨μ',w,h',e.trans a,b,c,d⟩
end
inductive tD (K:Ar) (m:ME) (Z : St) (H:Hp) (Q:VK):Prop where
 | mk (μ : Mu) (h:Gh) (Zw:Sw) (Qw:WK) (R:Bq K μ H h) (S:Slots K H μ Zw Z) (x:m Zw h Qw) (k:∀ v H',DQ K H μ Qw v H'->Q v H'):tD K m Z H Q
inductive tDT (K:Ar) (m:MT) (Z : St) (H:Hp) (Q:Bool->Hp->Prop):Prop where
 | mk (μ : Mu) (h:Gh) (Zw:Sw) (Qw:Bool->Gh->Prop) (R:Bq K μ H h) (S:Slots K H μ Zw Z) (x:m Zw h Qw) (k:∀ b H',DB K H μ Qw b H'->Q b H'):tDT K m Z H Q
inductive tDA (K:Ar) (m:MA) (Z : St) (H:Hp) (Q:List V->Hp->Prop):Prop where
 | mk (μ : Mu) (h:Gh) (Zw:Sw) (Qw:List W->Gh->Prop) (R:Bq K μ H h) (S:Slots K H μ Zw Z) (x:m Zw h Qw) (k:∀ vs H',DA K H μ Qw vs H'->Q vs H'):tDA K m Z H Q
inductive tDG (K:Ar) (g:MG) (v:V) (Z : St) (H:Hp) (N:St->Hp->Prop):Prop where
 | mk (μ : Mu) (h:Gh) (Zw:Sw) (w:W) (Nw:Sw->Gh->Prop) (R:Bq K μ H h) (S:Slots K H μ Zw Z) (r:kI K H μ w v) (x:g w Zw h Nw) (k:∀ Z' H',DN K H μ Nw Z' H'->N Z' H'):tDG K g v Z H N
inductive YM (K:Ar) (g:MK) (vs:List V) (Z : St) (H:Hp) (N:St->Hp->Prop):Prop where
 | mk (μ : Mu) (h:Gh) (Zw:Sw) (ws:List W) (Nw:Sw->Gh->Prop) (R:Bq K μ H h) (S:Slots K H μ Zw Z) (r:aO K H μ ws vs) (x:g ws Zw h Nw) (k:∀ Z' H',DN K H μ Nw Z' H'->N Z' H'):YM K g vs Z H N
structure v8 (K:Ar) (H:Hp) (μ : Mu) (Dw:bT) (D:Ends):Prop where
 nx:∀ Z' H',DN K H μ Dw.nx Z' H'->D.nx Z' H'
 rt:∀ v H',DQ K H μ Dw.rt v H'->D.rt v H'
 bk:∀ Z' H',DN K H μ Dw.bk Z' H'->D.bk Z' H'
 ct:∀ Z' H',DN K H μ Dw.ct Z' H'->D.ct Z' H'
inductive tDS (K:Ar) (m:MS) (D:Ends) (Z : St) (H:Hp):Prop where
 | mk (μ : Mu) (h:Gh) (Zw:Sw) (Dw:bT) (R:Bq K μ H h) (S:Slots K H μ Zw Z) (x:m Dw Zw h) (k:v8 K H μ Dw D):tDS K m D Z H
theorem v8.trans {K:Ar}{H H1:Hp}{μ μ1:Mu}{Dw:bT}{D:Ends}(k:v8 K H μ Dw D)(e:Dr K H μ H1 μ1):v8 K H1 μ1 Dw D:=
 ⟨fun _ _ q=>k.nx _ _ (q.trans e),fun _ _ q=>k.rt _ _ (q.trans e),fun _ _ q=>k.bk _ _ (q.trans e),fun _ _ q=>k.ct _ _ (q.trans e)⟩
section
variable {X:Cx}{e:Expr}{es:List Expr}{st:Stmt}{sts:List Stmt}
theorem PE.of {t t':TE}(h:PE X e t)(k:∀ Z H Q,t' Z H Q->t Z H Q):PE X e t':=fun afG s Z H Q I q=>h afG s Z H Q I (k Z H Q q)
theorem PT.of {t t':TT}(h:PT X e t)(k:∀ Z H Q,t' Z H Q->t Z H Q):PT X e t':=fun afG s Z H Q I q=>h afG s Z H Q I (k Z H Q q)
theorem PW.of {t t':TT}(h:PW X e t)(k:∀ Z H Q,t' Z H Q->t Z H Q):PW X e t':=fun wh afG s Z H Q I q=>h wh afG s Z H Q I (k Z H Q q)
theorem PA.of {t t':TA}(h:PA X es t)(k:∀ Z H Q,t' Z H Q->t Z H Q):PA X es t':=fun pos afG s Z H Q I q=>h pos afG s Z H Q I (k Z H Q q)
theorem PG.of {t t':TG}(h:PG X e t)(k:∀ v Z H Q,t' v Z H Q->t v Z H Q):PG X e t':=fun afG s Z H v u Q I r q=>h afG s Z H v u Q I r (k v Z H Q q)
theorem PX.of {t t':O7}(h:PX X es t)(k:∀ v Z H Q,t' v Z H Q->t v Z H Q):PX X es t':=fun afG s Z H v u Q I r q=>h afG s Z H v u Q I r (k v Z H Q q)
theorem PS.of {t t':TS}(h:PS X st t)(k:∀ D Z H,t' D Z H->t D Z H):PS X st t':=fun afG s Z H D I q=>h afG s Z H D I (k D Z H q)
theorem Jd.of {t t':TS}(h:Jd X sts t)(k:∀ D Z H,t' D Z H->t D Z H):Jd X sts t':=fun afG s Z H D I q=>h afG s Z H D I (k D Z H q)
end
abbrev DE (X:Cx)(e:Expr)(m:ME):Prop:=PE X e (tD X.K m)
abbrev DT (X:Cx)(e:Expr)(m:MT):Prop:=PT X e (tDT X.K m)
abbrev DWt (X:Cx)(e:Expr)(m:MT):Prop:=PW X e (tDT X.K m)
abbrev IV (X:Cx)(es:List Expr)(m:MA):Prop:=PA X es (tDA X.K m)
abbrev DG (X:Cx)(e:Expr)(m:MG):Prop:=PG X e (tDG X.K m)
abbrev VJ (X:Cx)(es:List Expr)(m:MK):Prop:=PX X es (YM X.K m)
abbrev DS (X:Cx)(st:Stmt)(m:MS):Prop:=PS X st (tDS X.K m)
abbrev Pb (X:Cx)(st:List Stmt)(m:MS):Prop:=Jd X st (tDS X.K m)
section
variable {X:Cx}{e a b c:Expr}{ma mb mc:ME}{pos:Pos}
def aH (i:Nat):ME:=fun Z h Q=>match Z[i]? with
 | some (Mk w)=>Q w h
 | _=>False
def mC (w:W):ME:=fun _ h Q=>Q w h
theorem dv (i:Nat)(he:PE X e (Xj i)):DE X e (aH i):=he.of fun Z H Q ⟨μ,h,Zw,Qw,R,S,m,k⟩=>by
 unfold aH at m;cases q:Zw[i]? with
 | none=>rw [q] at m;exact m.elim
 | some o=>
  rw [q] at m;cases o with
  | none=>exact m.elim
  | some w=>
   obtain ⟨v,h1,h2⟩:=S.get i w q;exact ⟨v,h1,k _ _ ⟨μ,w,h,.refl,R,h2,m⟩⟩
theorem dc {w:W}{v:V}(he:PE X e (tC v))(r:∀ H μ,kI X.K H μ w v):DE X e (mC w):=he.of fun Z H Q ⟨μ,h,Zw,Qw,R,S,m,k⟩=>k _ _ ⟨μ,w,h,.refl,R,r H μ,m⟩
theorem aF {i:Int}{j pos}:DE X (.Constant (.int i) j pos) (mC (.int i)):=dc adJ fun _ _=>by rw [kI]
theorem Ci {i:Bool}{j pos}:DE X (.Constant (.bool i) j pos) (mC (.bl i)):=dc Yd fun _ _=>by rw [kI]
theorem Eu {j pos}:DE X (.Constant .none j pos) (mC .non):=dc adM fun _ _=>by rw [kI]
theorem rG {i:Str}{j pos}:DE X (.Constant (.str i) j pos) (mC (.str i)):=dc aec fun _ _=>by rw [kI]
abbrev M2:=W->W->Gh->WK->Prop
def BJ (r:M2)(ma mb:ME):ME:=fun Z h Q=>ma Z h fun x h1=>mb Z h1 fun y h2=>r x y h2 Q
def Yr (K:Ar)(r:R2)(mr:M2):Prop:=∀ {H:Hp} {μ : Mu} {h:Gh} {x y:V} {wx wy:W} {Qw:WK} {Q:VK},Bq K μ H h->kI K H μ wx x->kI K H μ wy y->mr wx wy h Qw ->
 (∀ v H',DQ K H μ Qw v H'->Q v H')->r x y H Q
theorem two {K:Ar}{Z : St}{H:Hp}{Q:VK}{mr:M2}{R2':V->V->Hp->Prop}(h:tD K (BJ mr ma mb) Z H Q)
  (k:∀ {H2:Hp} {μ2:Mu} {h2:Gh} {x y:V} {wx wy:W} {Qw:WK},Bq K μ2 H2 h2->kI K H2 μ2 wx x->kI K H2 μ2 wy y->mr wx wy h2 Qw->(∀ v H',DQ K H2 μ2 Qw v H'->Q v H')->R2' x y H2) :
  tD K ma Z H fun x H1=>tD K mb Z H1 fun y H2=>R2' x y H2:=by
 obtain ⟨μ,g,Zw,Qw,R,S,m,q⟩:=h;refine ⟨μ,g,Zw,_,R,S,m,fun x H1 ⟨μ1,wx,h1,e1,R1,r1,m1⟩=>?_⟩;refine ⟨μ1,h1,Zw,_,R1,S.ext e1,m1,fun y H2 ⟨μ2,wy,h2,e2,R2,r2,m2⟩=>?_⟩;exact k R2 (e2.r _ _ r1) r2 m2 fun v H' z=>q _ _<|(z.trans e2).trans e1
def Le (X:Cx)(f:Yk->Yk->Sem Yk)(mr:M2):Prop:=∃ r,HJ X f r/\Yr X.K r mr
theorem bB {op:Operator}{mr:M2}(ho:Le X (Iu op) mr)(ha:DE X a ma)(hb:DE X b mb):DE X (.BinOp a op b pos) (BJ mr ma mb):=by
 obtain ⟨r,o,s⟩:=ho;exact (Xq o ha hb).of fun Z H Q h=>two h fun R r1 r2 m k=>s R r1 r2 m k
theorem M8 {op:CmpOp}{mr:M2}(ho:Le X (Jq op) mr)(ha:DE X a ma)(hb:DE X b mb)(hm:Rr op b=false):DE X (.Compare a [op] [b] pos) (BJ mr ma mb):=by
 obtain ⟨r,o,s⟩:=ho;exact (acO o ha hb hm).of fun Z H Q h=>two h fun R r1 r2 m k=>s R r1 r2 m k
def dH (m:ME):MT:=fun Z h Q=>m Z h fun w h1=>match w with
 | .bl c=>Q c h1
 | _=>False
theorem aaM {K:Ar}{Z : St}{H:Hp}{m:ME}{Q:Bool->Hp->Prop}(h:tDT K (dH m) Z H Q):tD K m Z H fun x H'=>∃ k,x=.bl k/\Q k H':=by
 obtain ⟨μ,g,Zw,Qw,R,S,mm,q⟩:=h;refine ⟨μ,g,Zw,_,R,S,mm,fun v H' ⟨μ1,w,h1,e1,R1,r1,m1⟩=>?_⟩;cases w with
 | bl c=>rw [kI] at r1;exact ⟨c,r1,q _ _ ⟨μ1,h1,e1,R1,m1⟩⟩
 | _=>exact m1.elim
theorem cJ {op:CmpOp}{mr:M2}(ho:Le X (Jq op) mr)(ha:DE X a ma)(hb:DE X b mb)(hm:Rr op b=false):DT X (.Compare a [op] [b] pos) (dH (BJ mr ma mb)):=by
 obtain ⟨r,o,s⟩:=ho;exact (afc o ha hb hm).of fun Z H Q h=>two (aaM h) fun R r1 r2 m k=>s R r1 r2 m k
def GF (c:Bool)(a b:Prop):Prop:=match c with
 | true=>a
 | false=>b
def br (c:Bool)(a b:Prop):Prop:=(c=true->a)/\(c=false->b)
theorem YT {c:Bool}{a b:Prop}(e:c=true)(x:a):br c a b:=⟨fun _=>x,fun z=>by rw [e] at z;cases z⟩
theorem qb {c:Bool}{a b:Prop}(e:c=false)(x:b):br c a b:=⟨fun z=>(by rw [e] at z;cases z),fun _=>x⟩
theorem G7 {c:Prop}[Decidable c]{a b:Prop}(x:c->a)(y:¬ c->b):br (decide c) a b:=⟨fun e=>x (of_decide_eq_true e),fun e=>y (of_decide_eq_false e)⟩
def Wn (t u:MT):MT:=fun Z h Q=>t Z h fun c h1=>br c (u Z h1 Q) (Q false h1)
def Lq (t u:MT):MT:=fun Z h Q=>t Z h fun c h1=>br c (Q true h1) (u Z h1 Q)
def Bc (t:MT):MT:=fun Z h Q=>t Z h fun c h1=>Q (!c) h1
variable {tA tB':MT}{rest:List Expr}
theorem abM (ha:DT X a tA):DWt X (.BoolOp .And [a] pos) tA:=acA ha
theorem lY (ha:DT X a tA):DWt X (.BoolOp .Or [a] pos) tA:=afa ha
theorem Ve (ha:DT X a tA)(hb:DWt X (.BoolOp .And (b::rest) pos) tB'):DWt X (.BoolOp .And (a::b::rest) pos) (Wn tA tB'):=(aeU ha hb).of fun Z H Q ⟨μ,g,Zw,Qw,R,S,m,q⟩=>by
 refine ⟨μ,g,Zw,_,R,S,m,fun c H1 ⟨μ1,h1,e1,R1,m1⟩=>?_⟩;cases c with
 | true=>
  rw [if_pos rfl];exact ⟨μ1,h1,Zw,_,R1,S.ext e1,m1.1 rfl,fun b H' z=>q _ _<|z.trans e1⟩
 | false=>
  rw [if_neg Hu];exact q _ _ ⟨μ1,h1,e1,R1,m1.2 rfl⟩
theorem pJ (ha:DT X a tA)(hb:DWt X (.BoolOp .Or (b::rest) pos) tB'):DWt X (.BoolOp .Or (a::b::rest) pos) (Lq tA tB'):=(XH ha hb).of fun Z H Q ⟨μ,g,Zw,Qw,R,S,m,q⟩=>by
 refine ⟨μ,g,Zw,_,R,S,m,fun c H1 ⟨μ1,h1,e1,R1,m1⟩=>?_⟩;cases c with
 | true=>
  rw [if_pos rfl];exact q _ _ ⟨μ1,h1,e1,R1,m1.1 rfl⟩
 | false=>
  rw [if_neg Hu];exact ⟨μ1,h1,Zw,_,R1,S.ext e1,m1.2 rfl,fun b H' z=>q _ _<|z.trans e1⟩
theorem iG (ha:DT X a tA):DT X (.UnaryOp .Not a pos) (Bc tA):=(aeX ha).of fun Z H Q ⟨μ,g,Zw,Qw,R,S,m,q⟩=>
 ⟨μ,g,Zw,_,R,S,m,fun c H1 ⟨μ1,h1,e1,R1,m1⟩=>q _ _ ⟨μ1,h1,e1,R1,m1⟩⟩
def NZ (a b:ME):ME:=fun Z h Q=>a Z h fun x h1=>match x with
 | .bl true=>b Z h1 Q
 | .bl false=>Q (.bl false) h1
 | _=>False
def Zz (a b:ME):ME:=fun Z h Q=>a Z h fun x h1=>match x with
 | .bl false=>b Z h1 Q
 | .bl true=>Q (.bl true) h1
 | _=>False
def Lh (a:ME):ME:=fun Z h Q=>a Z h fun x h1=>match x with
 | .bl c=>Q (.bl (!c)) h1
 | _=>False
theorem VR {op}(h:DE X a ma):DE X (.BoolOp op [a] pos) ma:=adu h
theorem Ww (ha:DE X a ma)(hb:DE X (.BoolOp .And (b::rest) pos) mb):DE X (.BoolOp .And (a::b::rest) pos) (NZ ma mb):=(adU ha hb).of fun Z H Q ⟨μ,g,Zw,Qw,R,S,m,q⟩=>by
 refine ⟨μ,g,Zw,_,R,S,m,fun v H1 ⟨μ1,w,h1,e1,R1,r1,m1⟩=>?_⟩;cases w with
 | bl c=>
  rw [kI] at r1;refine ⟨c,r1,?_⟩;cases c with
  | true=>rw [if_pos rfl];exact ⟨μ1,h1,Zw,_,R1,S.ext e1,m1,fun b H' z=>q _ _ (z.trans e1)⟩
  | false=>rw [if_neg Hu];exact q _ _ ⟨μ1,.bl false,h1,e1,R1,by rw [kI],m1⟩
 | _=>exact m1.elim
theorem Xy (ha:DE X a ma):DE X (.UnaryOp .Not a pos) (Lh ma):=(adw ha).of fun Z H Q ⟨μ,g,Zw,Qw,R,S,m,q⟩=>by
 refine ⟨μ,g,Zw,_,R,S,m,fun v H1 ⟨μ1,w,h1,e1,R1,r1,m1⟩=>?_⟩;cases w with
 | bl c=>rw [kI] at r1;exact ⟨c,r1,q _ _ ⟨μ1,.bl (!c),h1,e1,R1,by rw [kI],m1⟩⟩
 | _=>exact m1.elim
def mIf (t:MT)(a b:ME):ME:=fun Z h Q=>t Z h fun c h1=>br c (a Z h1 Q) (b Z h1 Q)
def mUn (r:W->Gh->WK->Prop)(a:ME):ME:=fun Z h Q=>a Z h fun x h1=>r x h1 Q
def U9:W->Gh->WK->Prop:=fun x h Q=>match x with
 | .int i=>Q (.int (-i)) h
 | _=>False
theorem MN (ha:DE X a ma):DE X (.UnaryOp .USub a pos) (mUn U9 ma):=(V4 aeL ha).of fun Z H Q ⟨μ,g,Zw,Qw,R,S,m,q⟩=>by
 refine ⟨μ,g,Zw,_,R,S,m,fun v H1 ⟨μ1,w,h1,e1,R1,r1,m1⟩=>?_⟩;cases w with
 | int i=>rw [kI] at r1;exact ⟨i,r1,q _ _ ⟨μ1,.int (-i),h1,e1,R1,by rw [kI],m1⟩⟩
 | _=>exact m1.elim
def aY:MA:=fun _ h Q=>Q [] h
def aA (a:ME)(r:MA):MA:=fun Z h Q=>a Z h fun x h1=>r Z h1 fun xs h2=>Q (x::xs) h2
variable {es:List Expr}{mr:MA}
theorem au:IV X [] aY:=yt.of fun Z H Q ⟨μ,g,Zw,Qw,R,S,m,q⟩=>q _ _ ⟨μ,[],g,.refl,R,.nil,m⟩
theorem ak (ha:DE X e ma)(hr:IV X es mr)(hs:Bo (e::es) X.env=(false,eval e X.env)::Bo es X.env:=by rfl):IV X (e::es) (aA ma mr):=(lE ha hr hs).of fun Z H Q ⟨μ,g,Zw,Qw,R,S,m,q⟩=>by
 refine ⟨μ,g,Zw,_,R,S,m,fun v H1 ⟨μ1,w,h1,e1,R1,r1,m1⟩=>?_⟩;refine ⟨μ1,h1,Zw,_,R1,S.ext e1,m1,fun vs H2 ⟨μ2,ws,h2,e2,R2,r2,m2⟩=>?_⟩;exact q _ _ ⟨μ2,w::ws,h2,e1.trans e2,R2,.cons (e2.r _ _ r1) r2,m2⟩
def gK (n:Nat)(P:Prop):Prop:=GF (Nat.ble n 1000) P (n<=CR/\P)
theorem gK.ok {n:Nat}{P:Prop}(h:gK n P):n<=CR/\P:=by
 unfold gK at h;cases e:Nat.ble n 1000 with
 | true=>rw [e] at h;exact ⟨Cg (Nat.le_of_ble_eq_true e) (by decide),h⟩
 | false=>rw [e] at h;exact h
theorem gK.mk {n:Nat}{P:Prop}(hn:n<=CR)(h:P):gK n P:=by
 unfold gK;cases e:Nat.ble n 1000 with
 | true=>exact h
 | false=>exact ⟨hn,h⟩
def dW (t:MA):ME:=fun Z h Q=>t Z h fun ws h1=>gK ws.length (Q (.tup ws) h1)
def Rt (t:MA):ME:=fun Z h Q=>t Z h fun ws h1=>gK ws.length (Q (.lst ws) h1)
def vK (t:MA):ME:=fun Z h Q=>t Z h fun ws h1=>gK ws.length (Q (.loc h1.nx) (h1.new (.lst ws)))
theorem aX {x1}(h:IV X es mr):DE X (.Tuple es x1 pos) (dW mr):=(KR h).of fun Z H Q ⟨μ,g,Zw,Qw,R,S,m,q⟩=>
 ⟨μ,g,Zw,_,R,S,m,fun vs H1 ⟨μ1,ws,h1,e1,R1,r1,sz⟩=>⟨by rw [<-r1.len];exact sz.ok.1,fun p hp=>q _ _ ⟨μ1,.tup ws,h1,e1.trans (Ex.laid hp).ext,R1.laid hp,.tupNew hp r1,sz.ok.2⟩⟩⟩
theorem Tw (h:IV X es mr):DE X (.List es pos) (Rt mr):=(KC h).of fun Z H Q ⟨μ,g,Zw,Qw,R,S,m,q⟩=>
 ⟨μ,g,Zw,_,R,S,m,fun vs H1 ⟨μ1,ws,h1,e1,R1,r1,sz⟩=>⟨by rw [<-r1.len];exact sz.ok.1,fun p hp=>q _ _ ⟨μ1,.lst ws,h1,e1.trans (Ex.laid hp).ext,R1.laid hp,.lstNew R1 hp r1,sz.ok.2⟩⟩⟩
theorem aeY {K:Ar}{H:Hp}{h:Gh}{xs:List V}(R:Bq K μ H h)(hp:H p=YK)(r:aO K H μ ws xs):
  Bq K (μ.put h.nx p) (CJ H p (.lst xs)) (h.new (.lst ws)):=R.newCell hp trivial ⟨xs,bf,(Ex.newCell R hp).ext.s r⟩
theorem yZ (h:IV X es mr):DE X (.List es pos) (vK mr):=(KC h).of fun Z H Q ⟨μ,g,Zw,Qw,R,S,m,q⟩=>
 ⟨μ,g,Zw,_,R,S,m,fun vs H1 ⟨μ1,ws,h1,e1,R1,r1,sz⟩=>⟨by rw [<-r1.len];exact sz.ok.1,fun p hp=>q _ _ ⟨μ1.put h1.nx p,.loc h1.nx,h1.new (.lst ws),e1.trans (Ex.newCell R1 hp).ext,aeY R1 hp r1,by rw [kI];exact ⟨p,rfl,Mu.put_same⟩,sz.ok.2⟩⟩⟩
inductive lift (K:Ar) (ms:Bd) (vs:List V) (H:Hp) (Q:VK) (E:XK):Prop where
 | mk (μ : Mu) (h:Gh) (ws:List W) (Qw:WK) (R:Bq K μ H h) (r:aO K H μ ws vs) (x:ms ws h Qw EF) (k:∀ v H',DQ K H μ Qw v H'->Q v H'):lift K ms vs H Q E
def bH (ms:Bd)(E:CN)(ma:MA):ME:=fun Z h Q=>ma Z h fun ws h1=>ms ws h1 Q E
theorem call_of {K:Ar}{Z : St}{H:Hp}{Q:VK}{E:XK}{ms:Bd}{ma:MA}(h:tD K (bH ms EF ma) Z H Q):Rh (lift K ms) [] E (tDA K ma) Z H Q:=by
 obtain ⟨μ,g,Zw,Qw,R,S,m,q⟩:=h;refine ⟨μ,g,Zw,_,R,S,m,fun vs H1 ⟨μ1,ws,h1,e1,R1,r1,m1⟩=>?_⟩;show lift K ms (vs++[]) H1 Q E;rw [Np];exact ⟨μ1,h1,ws,Qw,R1,r1,m1,fun v H' z=>q _ _<|z.trans e1⟩
theorem aW {k:Nat}{f:Addr}{fd:Ei}{ps:List Str}{ms:Bd}{x:Str}{p:Pos}(F:eU X.prog X.w X.K X.mg X.base GZ k f fd ps (lift X.K ms))(hr:mQ k X.A)(hg:Gl X x)(hm:X.mg x=Mk (.ref f))(hk:QL X.K (.ref f)=true)
  (hb:Binds X.K fd ps []) (ha:IV X (e::es) mr) (hdb:(x==("__debug__" : Str))=false:=by decide) (he:Bo (e::es) X.env=(false,eval e X.env)::Bo es X.env:=by rfl) (hpl:(En pos (Bo es X.env)).any (·.1)=false:=by rfl) :
  DE X (.Call (.Name x p) (e::es) [] pos) (bH ms EF mr):=(adx F hr hg hm hk hb .nil XM ha hdb he hpl).of fun _ _ _ h=>call_of h
def Vx (h:Gh)(w:W):Option Bool:=match w with
 | .non=>Mk false
 | .bl b=>Mk b
 | .int i=>Mk (i != 0)
 | .tup ws=>Mk (!ws.isEmpty)
 | .lst ws=>Mk (!ws.isEmpty)
 | .kls ws=>Mk (!ws.isEmpty)
 | .loc n=>(match h.c n with
  | some (.lst ws)=>Mk (!ws.isEmpty)
  | _=>YK)
 | _=>YK
def uN (m:ME):MT:=fun Z h Q=>m Z h fun w h1=>match Vx h1 w with
 | some b=>Q b h1
 | none=>False
theorem aO.emp {K:Ar}{H:Hp}{xs:List V}(r:aO K H μ ws xs):ws.isEmpty=xs.isEmpty:=by
 have:=r.len
 cases ws <;> cases xs <;> first | rfl | cases this
theorem eY (he:DE X e ma)(h:∀ whole,isTrue e X.env whole=(do let v <-whole;standAt e.pos;Ni [v] (truthy v)):=by intro _;rfl):DT X e (uN ma):=(yX he h).of fun Z H Q ⟨μ,g,Zw,Qw,R,S,m,q⟩=>by
 refine ⟨μ,g,Zw,_,R,S,m,fun v H1 ⟨μ1,w,h1,e1,R1,r1,m1⟩=>?_⟩;split at m1
 ·rename_i b eb;refine ⟨b,?_,q _ _ ⟨μ1,h1,e1,R1,m1⟩⟩;cases w with
  | non=>rw [kI] at r1;subst r1;cases eb;rfl
  | bl c=>rw [kI] at r1;subst r1;cases eb;rfl
  | int c=>rw [kI] at r1;subst r1;cases eb;rfl
  | tup ws=>
   rw [kI] at r1;obtain ⟨p,xs,ev,hs,rs⟩:=r1;subst ev;cases eb;exact .inr<|.inl ⟨xs,hs,by rw [rs.emp]⟩
  | lst ws=>
   rw [kI] at r1;obtain ⟨p,xs,ev,hs,rs⟩:=r1;subst ev;cases eb;exact .inl ⟨xs,hs.sq,by rw [rs.emp]⟩
  | kls ws=>
   rw [kI] at r1;obtain ⟨p,xs,ev,hs,rs⟩:=r1;subst ev;cases eb;exact .inl ⟨xs,hs.sq,by rw [rs.emp]⟩
  | loc n=>
   rw [kI] at r1;obtain ⟨p,ev,hm⟩:=r1;subst ev;unfold Vx at eb;dsimp only at eb;cases ec:h1.c n with
   | none=>rw [ec] at eb;cases eb
   | some cl=>
    rw [ec] at eb;cases cl with
    | lst ws=>
     cases eb;obtain ⟨p',hm',xs,hx,rs⟩:=R1.cel n _ ec;have ep:p'=p:=by rw [hm] at hm';exact (Eb hm').symm
     subst ep;exact .inl ⟨xs,.of hx,by rw [rs.emp]⟩
    | _=>cases eb
  | _=>cases eb
 ·exact m1.elim
abbrev MC:=List W->Gh->WK->Prop
def Fz (r:MC)(ma:MA):ME:=fun Z h Q=>ma Z h fun ws h1=>r ws h1 Q
def Yn (K:Ar)(r:List V->Hp->VK->Prop)(mr:MC):Prop:=∀ {H:Hp} {μ : Mu} {h:Gh} {vs:List V} {ws:List W} {Qw:WK} {Q:VK},Bq K μ H h->aO K H μ ws vs->mr ws h Qw->(∀ v H',DQ K H μ Qw v H'->Q v H')->r vs H Q
def lO (X:Cx)(f:Yk)(mr:MC):Prop:=∃ r,jo X f r/\Yn X.K r mr
theorem TQ {K:Ar}{Z : St}{H:Hp}{Q:VK}{r:List V->Hp->VK->Prop}{mc:MC}{ma:MA}(s:Yn K r mc)(h:tD K (Fz mc ma) Z H Q):tCB r (tDA K ma) Z H Q:=by
 obtain ⟨μ,g,Zw,Qw,R,S,m,q⟩:=h;exact ⟨μ,g,Zw,_,R,S,m,fun vs H1 ⟨μ1,ws,h1,e1,R1,r1,m1⟩=>s R1 r1 m1 fun v H' z=>q _ _<|z.trans e1⟩
theorem cL {x:Str}{p:Pos}{id:String}{mc:MC}(hc:lO X (.builtin id) mc)(hg:Gl X x)(hm:X.mg x=YK)(hv:Pu x=Mk (.builtin id))(ha:IV X (e::es) mr)(hn:x ≠ "__name__":=by decide)(hdb:(x==("__debug__" : Str))=false:=by decide)
  (he:Bo (e::es) X.env=(false,eval e X.env)::Bo es X.env:=by rfl) (hpl:(En pos (Bo es X.env)).any (·.1)=false:=by rfl):DE X (.Call (.Name x p) (e::es) [] pos) (Fz mc mr):=by
 obtain ⟨r,c,s⟩:=hc;exact (rE c hg hm hv ha hn hdb he hpl).of fun _ _ _ h=>TQ s h
theorem cH {x:Str}{p:Pos}{T:String}{mc:MC}(hc:lO X (.type T) mc)(hg:Gl X x)(hm:X.mg x=YK)(hv:Pu x=Mk (.type T))(ha:IV X (e::es) mr)(hn:x ≠ "__name__":=by decide)(hdb:(x==("__debug__" : Str))=false:=by decide)
  (he:Bo (e::es) X.env=(false,eval e X.env)::Bo es X.env:=by rfl) (hpl:(En pos (Bo es X.env)).any (·.1)=false:=by rfl):DE X (.Call (.Name x p) (e::es) [] pos) (Fz mc mr):=by
 obtain ⟨r,c,s⟩:=hc;exact (zaw c hg hm hv ha hn hdb he hpl).of fun _ _ _ h=>TQ s h
end
variable {mr : MA}{ma mb : ME}{ms : Bd}{c : Prop}
section
variable {X:Cx}{e a b c tg:Expr}{mc:ME}{pos:Pos}{es:List Expr}
def Ai (i:Nat):MG:=fun w Z h N=>N (Z.set i (Mk w)) h
theorem cC {i:Nat}(hg:PG X e (Jy i)):DG X e (Ai i):=hg.of fun v Z H N ⟨μ,h,Zw,w,Nw,R,S,r,m,k⟩=>k _ _ ⟨μ,Zw.set i (Mk w),h,.refl,R,S.set r i,m⟩
def M6:MK:=fun ws Z h N=>match ws with
 | []=>N Z h
 | _=>False
def mX (g:MG)(r:MK):MK:=fun ws Z h N=>match ws with
 | w::ws'=>g w Z h fun Z1 h1=>r ws' Z1 h1 N
 | []=>False
theorem oF:VJ X [] M6:=Fo.of fun vs Z H N ⟨μ,h,Zw,ws,Nw,R,S,r,m,k⟩=>by
 cases ws with
 | nil=>rw [aO] at r;exact ⟨r,k _ _ ⟨μ,Zw,h,.refl,R,S,m⟩⟩
 | cons w ws=>exact m.elim
theorem dF {g:MG}{u:MK}(h1:DG X e g)(h2:VJ X es u)(hs:(Ik (e::es) X.env).map (·.2)=assign e X.env::(Ik es X.env).map (·.2):=by rfl):VJ X (e::es) (mX g u):=(uo h1 h2 hs).of fun vs Z H N ⟨μ,h,Zw,ws,Nw,R,S,r,m,k⟩=>by
 cases ws with
 | nil=>exact m.elim
 | cons w ws=>
  rw [aO] at r;obtain ⟨v,vr,ev,r1,r2⟩:=r;refine ⟨v,vr,ev,μ,h,Zw,w,_,R,S,r1,m,fun Z1 H1 ⟨μ1,Zw1,h1,e1,R1,S1,m1⟩=>?_⟩;exact ⟨μ1,h1,Zw1,ws,_,R1,S1,e1.s r2,m1,fun Z2 H2 z=>k _ _<|z.trans e1⟩
def Yx (n:Nat)(g:MK):MG:=fun w Z h N=>match w with
 | .tup ws=>GF (Iw ws.length n) (g ws Z h N) False
 | _=>False
abbrev Pk:=W->W->W->Gh->(Gh->Prop)->Prop
def Gp (K:Ar)(t:Om)(ms:Pk):Prop:=∀ {H:Hp} {μ : Mu} {h:Gh} {o i v:V} {wo wi w:W} {Nw:Gh->Prop} {N:Hp->Prop},Bq K μ H h->kI K H μ wo o->kI K H μ wi i->kI K H μ w v->ms wo wi w h Nw ->
 (∀ H',(∃ μ' h',Dr K H μ H' μ'/\Bq K μ' H' h'/\Nw h')->N H')->t o i v H N
def K5 (mo mi:ME)(ms:Pk):MG:=fun w Z h N=>mo Z h fun o h1=>mi Z h1 fun i h2=>ms o i w h2 fun h3=>N Z h3
theorem q9 {o i:Expr}{mo mi:ME}{t:Om}{ms:Pk}(ho:DE X o mo)(hi:DE X i mi)(hs:VL X t)(hm:Gp X.K t ms)
  (ha:∀ v,assign (.Subscript o i pos) X.env v=(do
   let ov <-Ni [v] (eval o X.env)
   let iv <-Ni [v,ov] (eval i X.env)
   standAt pos
   Ni [v,ov,iv] (setItem ov iv v)
   release [v,ov,iv] []):=by intro _;rfl):DG X (.Subscript o i pos) (K5 mo mi ms):=
 (Vf ho hi hs ha).of fun v Z H N ⟨μ,h,Zw,w,Nw,R,S,r,m,k⟩=>by
  refine ⟨μ,h,Zw,_,R,S,m,fun o H1 ⟨μ1,wo,h1,e1,R1,r1,m1⟩=>?_⟩;refine ⟨μ1,h1,Zw,_,R1,S.ext e1,m1,fun i H2 ⟨μ2,wi,h2,e2,R2,r2,m2⟩=>?_⟩;refine hm R2 (e2.r _ _ r1) r2 (e2.r _ _<|e1.r _ _ r) m2 fun H3 ⟨μ3,h3,e3,R3,m3⟩=>?_;exact k _ _ ⟨μ3,Zw,h3,(e1.trans e2).trans e3,R3,S.ext<|(e1.trans e2).trans e3,m3⟩
def aak:Pk:=fun o i w h N=>match o,i with
 | .loc n,.int k=>(match h.c n with
  | some (.lst ws)=>(match Mq ws.length k with
   | some j=>N (h.set n (.lst (ws.set j w)))
   | none=>False)
  | _=>False)
 | _,_=>False
theorem Bq.lstAt {K:Ar}{H:Hp}{h:Gh}{n:Nat}(R:Bq K μ H h)(e:h.c n=Mk (.lst ws)):∃ p xs,μ.f n=Mk p/\H p=Mk (.lst xs)/\aO K H μ ws xs:=by
 obtain ⟨p,e1,xs,e2,r⟩:=R.cel n _ e;exact ⟨p,xs,e1,e2,r⟩
variable {st:Stmt}{rest body:List Stmt}{m1 m2:MS}{t:MT}
def dY:MS:=fun D Z h=>D.nx Z h
def bR (m u:MS):MS:=fun D Z h=>m { D with nx:=u D } Z h
theorem bW:Pb X [] dY:=zbx.of fun D Z H ⟨μ,h,Zw,Dw,R,S,m,k⟩=>k.nx _ _ ⟨μ,Zw,h,.refl,R,S,m⟩
theorem aN (h1:DS X st m1):Pb X [st] m1:=Ez h1
theorem aG (h1:DS X st m1)(h2:Pb X rest m2):Pb X (st::rest) (bR m1 m2):=(zm h1 h2).of fun D Z H ⟨μ,h,Zw,Dw,R,S,m,k⟩=>by
 refine ⟨μ,h,Zw,_,R,S,m,?_,k.rt,k.bk,k.ct⟩;intro Z' H' ⟨μ1,Zw1,h1,e1,R1,S1,m1⟩;exact ⟨μ1,h1,Zw1,Dw,R1,S1,m1,k.trans e1⟩
def pL (m:ME):MS:=fun D Z h=>m Z h fun _ h1=>D.nx Z h1
theorem jt (he:DE X e ma)(hs:swapsWith e YK pos.line X.env=pure false:=by rfl):DS X (.Expr e pos) (pL ma):=(Cu he hs).of fun D Z H ⟨μ,h,Zw,Dw,R,S,m,k⟩=>
 ⟨μ,h,Zw,_,R,S,m,fun v H1 ⟨μ1,w,h1,e1,R1,_,m1⟩=>k.nx _ _ ⟨μ1,Zw,h1,e1,R1,S.ext e1,m1⟩⟩
def fJ (m:ME):MS:=fun D Z h=>m Z h D.rt
theorem bC (he:DE X e ma):DS X (.Return (Mk e) pos) (fJ ma):=(acC he).of fun D Z H ⟨μ,h,Zw,Dw,R,S,m,k⟩=>⟨μ,h,Zw,_,R,S,m,k.rt⟩
def lU (t:MT)(a b:MS):MS:=fun D Z h=>t Z h fun c h1=>br c (a D Z h1) (b D Z h1)
theorem fC {a b:List Stmt}(hc:DT X c t)(ha:Pb X a m1)(hb:Pb X b m2):DS X (.If c a b pos) (lU t m1 m2):=(Uv hc ha hb).of fun D Z H ⟨μ,h,Zw,Dw,R,S,m,k⟩=>by
 refine ⟨μ,h,Zw,_,R,S,m,fun b H1 ⟨μ1,h1,e1,R1,q⟩=>?_⟩;cases b with
 | true=>rw [if_pos rfl];exact ⟨μ1,h1,Zw,Dw,R1,S.ext e1,q.1 rfl,k.trans e1⟩
 | false=>rw [if_neg Hu];exact ⟨μ1,h1,Zw,Dw,R1,S.ext e1,q.2 rfl,k.trans e1⟩
def zG (x:Str)(E:CN):MS:=fun _ _ h=>E ⟨x,[]⟩ h
def cP (m:ME)(g:MG):MS:=fun D Z h=>m Z h fun w h1=>g w Z h1 D.nx
theorem aek {K:Ar}{Z : St}{H:Hp}{D:Ends}{m:ME}{g:MG}(q:tDS K (cP m g) D Z H):VF (tD K m) (tDG K g) D Z H:=by
 obtain ⟨μ,h,Zw,Dw,R,S,m,k⟩:=q;exact ⟨μ,h,Zw,_,R,S,m,fun v H1 ⟨μ1,w,h1,e1,R1,r1,m1⟩=>⟨μ1,h1,Zw,w,_,R1,S.ext e1,r1,m1,fun Z' H' z=>k.nx _ _<|z.trans e1⟩⟩
theorem qz {g:MG}(he:DE X e ma)(hg:DG X tg g)(hs:swapsWithSole [tg] e pos.line X.env=pure false:=by rfl)(hw:swappedStores [tg] e X.env=pure YK:=by rfl)
  (h1:(Ik [tg] X.env).map (·.2)=[assign tg X.env]:=by rfl):DS X (.Assign [tg] e pos) (cP ma g):=(aeZ he hg hs hw h1).of fun _ _ _ q=>aek q
theorem adb {K:Ar}{Z : St}{H:Hp}{D:Ends}{m:ME}{t:TE}{i:Nat}(ht:∀ Z H Q,tD K m Z H Q->t Z H Q)(q:tDS K (cP m (Ai i)) D Z H):VF t (Jy i) D Z H:=by
 obtain ⟨μ,h,Zw,Dw,R,S,m,k⟩:=q;exact ht _ _ _ ⟨μ,h,Zw,_,R,S,m,fun v H1 ⟨μ1,w,h1,e1,R1,r1,m1⟩=>k.nx _ _ ⟨μ1,Zw.set i<|some w,h1,e1,R1,(S.ext e1).set r1 i,m1⟩⟩
theorem aR {i:Nat}{x:Str}{pos':Pos}(hN:X.N.Nodup)(hi:X.N[i]?=Mk x)(hx:Loc X.env.scope x)(he:DE X e ma)(hs:swapsWith e (Mk (.Name x pos')) pos.line X.env=pure false:=by rfl)
  (hf:X.fn x=true\/X.env.scope.names.lookup x=Mk .local:=by first | exact .inl rfl | exact .inr rfl | assumption) :
  DS X (.Assign [.Name x pos'] e pos) (cP ma (Ai i)):=(adL hN hi hx he hs hf).of fun _ _ _ q=>adb (fun _ _ _ z=>z) q
def aae (i j:Nat)(ta:MA):MS:=fun D Z h=>ta Z h fun ws h1=>match ws with
 | [v,w]=>D.nx ((Z.set i (Mk v)).set j (Mk w)) h1
 | _=>False
def Kp (t:MT)(b:MS):MS:=fun D Z h=>∃ Wm:Nat->Sw->Gh->Prop,(∃ m,Wm m Z h)/\∀ m Z h,Wm m Z h ->
 t Z h fun c h1=>br c (b { D with nx:=fun Z' h'=>∃ m',m'<m/\Wm m' Z' h',ct:=fun Z' h'=>∃ m',m'<m/\Wm m' Z' h',bk:=D.nx } Z h1) (D.nx Z h1)
structure Src where
 ws:List W
 cell:Option (Nat×List W)
def Src.chk (s:Src)(h:Gh):Prop:=match s.cell with
 | none=>True
 | some n=>h.c n.1=Mk (.lst n.2)
abbrev MI:=Sw->Gh->(Src->Gh->Prop)->Prop
def Qx (K:Ar)(J:It)(src:Src)(H:Hp)(μ : Mu):Prop:=∀ {H2:Hp} {μ2:Mu} {h2:Gh} {i:Nat},Dr K H μ H2 μ2->Bq K μ2 H2 h2->src.chk h2 ->
 (∀ w,src.ws[i]?=Mk w->J.go i H2/\∀ x H3,J.yld i H2 x H3->∃ μ3,Dr K H2 μ2 H3 μ3/\Bq K μ3 H3 h2/\kI K H3 μ3 w x)/\(src.ws.length<=i->J.stop i H2)
inductive DI (K:Ar) (H:Hp) (μ : Mu) (Rw:Src->Gh->Prop) (J:It) (H':Hp):Prop where
 | mk (μ':Mu) (src:Src) (h':Gh) (e:Dr K H μ H' μ') (R:Bq K μ' H' h') (o:Qx K J src H' μ') (q:Rw src h'):DI K H μ Rw J H'
inductive tDI (K:Ar) (mi:MI) (Z : St) (H:Hp) (R:It->Hp->Prop):Prop where
 | mk (μ : Mu) (h:Gh) (Zw:Sw) (Rw:Src->Gh->Prop) (q:Bq K μ H h) (S:Slots K H μ Zw Z) (x:mi Zw h Rw) (k:∀ J H',DI K H μ Rw J H'->R J H'):tDI K mi Z H R
abbrev DIt (X:Cx)(tg iter:Expr)(mi:MI):Prop:=PI X tg iter (tDI X.K mi)
theorem PI.of {iter:Expr}{t t':TI}(h:PI X tg iter t)(k:∀ Z H R,t' Z H R->t Z H R):PI X tg iter t':=fun afG s Z H R I q=>h afG s Z H R I (k Z H R q)
def eH (h:Gh):W->Option (List W)
 | .lst ws=>Mk ws
 | .kls ws=>Mk ws
 | .loc n=>(match h.c n with
  | some (.lst ws)=>Mk ws
  | _=>YK)
 | _=>YK
def view (h:Gh):W->Option (List W)
 | .tup ws=>Mk ws
 | .lst ws=>Mk ws
 | .kls ws=>Mk ws
 | .loc n=>eH h (.loc n)
 | _=>YK
def RV (h:Gh):W->Option Src
 | .tup ws=>Mk ⟨ws,YK⟩
 | .lst ws=>Mk ⟨ws,YK⟩
 | .kls ws=>Mk ⟨ws,YK⟩
 | .loc n=>(match h.c n with
  | some (.lst ws)=>Mk ⟨ws,Mk (n,ws)⟩
  | _=>YK)
 | _=>YK
theorem acL {K:Ar}{H:Hp}(r:kI K H μ (.lst ws) (.ref p)):Qx K (Itl K p) ⟨ws,YK⟩ H μ:=by
 intro H2 μ2 h2 i e R2 _;have r2:=e.r _ _ r;rw [kI] at r2;obtain ⟨q,xs,eq,hf,rs⟩:=r2;cases eq;refine ⟨fun w ew=>?_,fun hl=>⟨xs,hf.sq,by rw [<-rs.len];exact hl⟩⟩;obtain ⟨v,ev,rv⟩:=rs.get ew;refine ⟨⟨xs,v,hf.sq,ev⟩,fun x H3 ⟨e3,y⟩=>?_⟩;subst e3;have:=y xs hf.sq
 rw [ev] at this;cases this;exact ⟨μ2,.refl,R2,rv⟩
theorem abS {K:Ar}{H:Hp}(r:kI K H μ (.kls ws) (.ref p)):Qx K (Itl K p) ⟨ws,YK⟩ H μ:=by
 intro H2 μ2 h2 i e R2 _;have r2:=e.r _ _ r;rw [kI] at r2;obtain ⟨q,xs,eq,hf,rs⟩:=r2;cases eq;refine ⟨fun w ew=>?_,fun hl=>⟨xs,hf.sq,by rw [<-rs.len];exact hl⟩⟩;obtain ⟨v,ev,rv⟩:=rs.get ew;refine ⟨⟨xs,v,hf.sq,ev⟩,fun x H3 ⟨e3,y⟩=>?_⟩;subst e3;have:=y xs hf.sq
 rw [ev] at this;cases this;exact ⟨μ2,.refl,R2,rv⟩
theorem zba {K:Ar}{H:Hp}{n:Nat}(r:kI K H μ (.loc n) (.ref p)):Qx K (Itl K p) ⟨ws,Mk (n,ws)⟩ H μ:=by
 intro H2 μ2 h2 i e R2 ck;have r2:=e.r _ _ r;rw [kI] at r2;obtain ⟨q,eq,hm⟩:=r2;cases eq;obtain ⟨p',xs,hm',hx,rs⟩:=R2.lstAt (show h2.c n=Mk (.lst ws) from ck);have ep:p'=p:=by rw [hm] at hm';exact (Eb hm').symm
 subst ep;refine ⟨fun w ew=>?_,fun hl=>⟨xs,.of hx,by rw [<-rs.len];exact hl⟩⟩;obtain ⟨v,ev,rv⟩:=rs.get ew;refine ⟨⟨xs,v,.of hx,ev⟩,fun x H3 ⟨e3,y⟩=>?_⟩;subst e3;have:=y xs (.of hx)
 rw [ev] at this;cases this;exact ⟨μ2,.refl,R2,rv⟩
theorem acd {K:Ar}{H:Hp}(r:kI K H μ (.tup ws) (.ref p)):Qx K (Itt K p) ⟨ws,YK⟩ H μ:=by
 intro H2 μ2 h2 i e R2 _;have r2:=e.r _ _ r;rw [kI] at r2;obtain ⟨q,xs,eq,hf,rs⟩:=r2;cases eq;refine ⟨fun w ew=>?_,fun hl=>⟨xs,hf,by rw [<-rs.len];exact hl⟩⟩;obtain ⟨v,ev,rv⟩:=rs.get ew;refine ⟨⟨xs,v,hf,ev⟩,fun x H3 ⟨e3,y⟩=>?_⟩;subst e3;have:=y xs hf
 rw [ev] at this;cases this;exact ⟨μ2,.refl,R2,rv⟩
def Zg (K:Ar)(tl:TE):TI:=fun Z H R=>tl Z H fun x H1=>(∃ a,x=.ref a/\(∃ xs,GK K H1 a xs)/\R (Itl K a) H1)\/(∃ a,x=.ref a/\(∃ xs,Ed K H1 a xs)/\R (Itt K a) H1)
theorem abP {l:Expr}{tl:TE}(hl:PE X l tl):PI X tg l (Zg X.K tl):=by
 intro afG s Z H R I h;refine CV (hl afG s Z H _ I h) fun v s1 ⟨x,H1,I1,r1,q1⟩=>?_;rcases q1 with ⟨a,e,⟨xs,hq⟩,q⟩ | ⟨a,e,⟨xs,hq⟩,q⟩
 ·subst e;cases r1;obtain ⟨its,rv,p,hz⟩:=I1.list hq;refine RL p.isList ?_;refine ⟨s1.heap.objs.size,[s1.heap.objs.size],_,_,H1,rfl,I1.kept (t':=s1.toks) fun b o e=>CT _ e,zan a _,⟨_,Ej _ rfl,rfl,rfl⟩,fun b hb=>?_,q⟩;have e:b=s1.heap.objs.size:=by simpa using hb
  subst e;exact I1.fpOk (Bp _)<|I1.hok.fresh<|Bp _
 ·subst e;cases r1;obtain ⟨its,rv,p,hz⟩:=I1.tuple hq;refine wpAny_pyIter_tuple (show s1.heap.IsTuple a its.toArray from p) ?_;refine ⟨s1.heap.objs.size,[s1.heap.objs.size],_,_,H1,rfl,I1.kept (t':=s1.toks) fun b o e=>CT _ e,zai a _,⟨_,Ej _ rfl,rfl,rfl⟩,fun b hb=>?_,q⟩;have e:b=s1.heap.objs.size:=by simpa using hb
  subst e;exact I1.fpOk (Bp _)<|I1.hok.fresh<|Bp _
def Jj (m:ME):MI:=fun Z h R=>m Z h fun w h1=>match RV h1 w with
 | some s=>R s h1
 | none=>False
theorem fP {l:Expr}(hl:DE X l ma):DIt X tg l (Jj ma):=PI.of (abP hl) fun Z H Q ⟨μ,h,Zw,Rw,R,S,m,k⟩=>by
 refine ⟨μ,h,Zw,_,R,S,m,fun v H1 ⟨μ1,w,h1,e1,R1,r1,m1⟩=>?_⟩;cases w with
 | tup ws=>
  have r1':=r1;rw [kI] at r1;obtain ⟨p,xs,ev,hs,_⟩:=r1;subst ev;exact .inr ⟨p,rfl,⟨xs,hs⟩,k _ _ ⟨μ1,⟨ws,YK⟩,h1,e1,R1,acd r1',m1⟩⟩
 | lst ws=>
  have r1':=r1;rw [kI] at r1;obtain ⟨p,xs,ev,hs,_⟩:=r1;subst ev;exact .inl ⟨p,rfl,⟨xs,hs.sq⟩,k _ _ ⟨μ1,⟨ws,YK⟩,h1,e1,R1,acL r1',m1⟩⟩
 | kls ws=>
  have r1':=r1;rw [kI] at r1;obtain ⟨p,xs,ev,hs,_⟩:=r1;subst ev;exact .inl ⟨p,rfl,⟨xs,hs.sq⟩,k _ _ ⟨μ1,⟨ws,YK⟩,h1,e1,R1,abS r1',m1⟩⟩
 | loc n=>
  have r1':=r1;rw [kI] at r1;obtain ⟨p,ev,hm⟩:=r1;subst ev;unfold RV at m1;dsimp only at m1;cases ec:h1.c n with
  | none=>rw [ec] at m1;exact m1.elim
  | some cl=>
   rw [ec] at m1;cases cl with
   | lst ws=>
    obtain ⟨p',xs,hm',hx,rs⟩:=R1.lstAt ec;have ep:p'=p:=by rw [hm] at hm';exact (Eb hm').symm
    subst ep;exact .inl ⟨p',rfl,⟨xs,.of hx⟩,k _ _ ⟨μ1,⟨ws,Mk (n,ws)⟩,h1,e1,R1,zba r1',m1⟩⟩
   | _=>exact m1.elim
 | _=>exact m1.elim
def zj (lo:Int)(n:Nat):List W:=(Hz n).map fun (k:Nat)=>.int (lo+(k:Int))
theorem adE {K:Ar}{H:Hp}{lo:Int}{n:Nat}:Qx K (Itr lo n) ⟨zj lo n,YK⟩ H μ:=by
 intro H2 μ2 h2 i e R2 _;refine ⟨fun w ew=>?_,fun hl=>?_⟩
 ·have hi:i<n:=by
   have:=(PJ.mp ew).1
   simpa [zj] using this
  have ew':w=.int (lo+(i:Int)):=by
   unfold zj at ew;rw [Hi,List.getElem?_range hi] at ew;exact (Eb ew).symm
  subst ew';refine ⟨hi,fun x H3 ⟨e3,y⟩=>?_⟩;subst e3;exact ⟨μ2,.refl,R2,by rw [kI];exact y⟩
 ·have:n<=i:=by simpa [zj] using hl
  exact this
def Dk (j:Int)(P:Prop):Prop:=GF (decide (-1000<=j)&&decide (j<=1000)) P ((-(2^62)<=j/\j<2^62)/\P)
theorem Dk.ok {j:Int}{P:Prop}(h:Dk j P):(-(2^62)<=j/\j<2^62)/\P:=by
 unfold Dk at h;cases e:(decide (-1000<=j)&&decide (j<=1000)) with
 | true=>
  rw [e] at h;rw [Lw,decide_eq_true_iff,decide_eq_true_iff] at e;exact ⟨⟨by lia,by lia⟩,h⟩
 | false=>rw [e] at h;exact h
theorem Dk.mk {j:Int}{P:Prop}(h1:-(2^62)<=j)(h2:j<2^62)(h:P):Dk j P:=by
 unfold Dk;cases e:(decide (-1000<=j)&&decide (j<=1000)) with
 | true=>exact h
 | false=>exact ⟨⟨h1,h2⟩,h⟩
def lN (ma:MA):MI:=fun Z h R=>ma Z h fun ws h1=>match ws with
 | [.int j]=>Dk j (R ⟨zj 0 j.toNat,YK⟩ h1)
 | _=>False
theorem dN {a:Expr}{p pos:Pos}(hg:Gl X "range")(hm:X.mg "range" = YK)(ha:IV X [a] mr)(hs:Bo [a] X.env=[(false,eval a X.env)]:=by rfl):DIt X tg (.Call (.Name "range" p) [a] [] pos) (lN mr):=
 PI.of (aaj hg hm ha hs) fun Z H Q ⟨μ,h,Zw,Rw,R,S,m,k⟩=>by
  refine ⟨μ,h,Zw,_,R,S,m,fun vs H1 ⟨μ1,ws,h1,e1,R1,r1,m1⟩=>?_⟩;split at m1
  ·rename_i j;rw [aO] at r1;obtain ⟨v,vr,ev,ra,r1⟩:=r1;rw [aO] at r1;rw [kI] at ra;subst ev r1 ra;exact ⟨j,rfl,m1.ok.1.1,m1.ok.1.2,k _ _ ⟨μ1,_,h1,e1,R1,adE,m1.ok.2⟩⟩
  ·exact m1.elim
def Src.go (s:Src)(h:Gh)(P:Prop):Prop:=match s.cell with
 | none=>P
 | some n=>h.c n.1=Mk (.lst n.2)/\P
theorem Src.go_ok {s:Src}{h:Gh}{P:Prop}(x:s.go h P):s.chk h/\P:=by
 unfold Src.go at x;unfold Src.chk;cases e:s.cell with
 | none=>rw [e] at x;exact ⟨trivial,x⟩
 | some n=>rw [e] at x;exact x
def gJ (s:Src)(g:MG)(b:MS)(D:bT):List W->Sw->Gh->Prop
 | [],Z,h=>s.go h (D.nx Z h)
 | w::r,Z,h=>s.go h (g w Z h fun Z1 h1=>b { D with nx:=gJ s g b D r,ct:=gJ s g b D r,bk:=D.nx } Z1 h1)
def uD (mi:MI)(g:MG)(b:MS):MS:=fun D Z h=>mi Z h fun s h1=>gJ s g b D s.ws Z h1
theorem gG {iter:Expr}{body:List Stmt}{mi:MI}{g:MG}{mb0:MS}{pos:Pos}(hp:Ud (Am X.prog X.w) X.A X.env X.xe)(hc:X.calm=true)(hi:DIt X tg iter mi)(hg:DG X tg g)(hb:Pb X body mb0)
  (hs:∀ x,foldedSetIterable iter X.env x=pure x:=by intro _;rfl):DS X (.For tg iter body [] pos) (uD mi g mb0):=(adS hp hc hi hg hb hs).of fun D Z H ⟨μ,h,Zw,Dw,R,S,m,k⟩=>by
 refine ⟨μ,h,Zw,_,R,S,m,fun J H1 ⟨μ1,src,h1,e1,R1,ok,m1⟩=>?_⟩;refine ⟨fun i n Z' H'=>n=src.ws.length - i/\i<=src.ws.length/\DN X.K H1 μ1 (gJ src g mb0 Dw<|src.ws.drop i) Z' H',⟨src.ws.length,by simp,IK _,μ1,Zw,h1,.refl,R1,S.ext e1,by rw [List.drop_zero];exact m1⟩,?_⟩;rintro i n Z2 H2 ⟨hn,hle,μ2,Zw2,h2,e2,R2,S2,m2⟩;by_cases hlt:i<src.ws.length
 ·rw [RQ hlt] at m2;obtain ⟨ck,m2⟩:=Src.go_ok m2;obtain ⟨hgo,hy⟩:=(ok e2 R2 ck).1 src.ws[i] (Gg hlt);refine .inr ⟨hgo,fun Z' H'=>DN X.K H2 μ2 (gJ src g mb0 Dw<|src.ws.drop<|i+1) Z' H',fun Z' H' z=>⟨src.ws.length - (i+1),by lia,rfl,hlt,z.trans e2⟩,fun x H3 y=>?_⟩;obtain ⟨μ3,e3,R3,rx⟩:=hy x H3 y;refine ⟨μ3,h2,Zw2,src.ws[i],_,R3,S2.ext e3,rx,m2,fun Z4 H4 ⟨μ4,Zw4,h4,e4,R4,S4,m4⟩=>?_⟩;have e24:=e3.trans e4;have e14:=(e1.trans e2).trans e24;exact ⟨μ4,h4,Zw4,_,R4,S4,m4,fun Z' H' z=>z.trans e24,fun v H' z=>k.rt _ _<|z.trans e14,fun Z' H' z=>k.nx _ _<|z.trans e14,fun Z' H' z=>z.trans e24⟩
 ·have ei:i=src.ws.length:=by lia
  subst ei;rw [List.drop_length] at m2;obtain ⟨ck,m2⟩:=Src.go_ok m2;exact .inl ⟨(ok e2 R2 ck).2 (Bp _),k.nx _ _ ⟨μ2,Zw2,h2,e1.trans e2,R2,S2,m2⟩⟩
def tM (ix:List Nat)(Z : Sw):Sw:=ix.map fun i=>(Z[i]?).getD YK
theorem Slots.blk {K:Ar}{H:Hp}{Zw:Sw}{Z : St}(S:Slots K H μ Zw Z):∀ {ws:List W} {vs:List V},aO K H μ ws vs->Slots K H μ (ws.map Mk++tM ix Zw) (vs.map Mk++Bu ix Z):=by
 intro ws vs r;have hl:=r.len;refine ⟨by simp [tM,Bu,hl],fun i u q=>?_⟩;by_cases hi:i<ws.length
 ·rw [Nv (by simpa using hi),Hi] at q;have q':ws[i]?=Mk u:=by
   cases e:ws[i]? with
   | none=>rw [e] at q;cases q
   | some a=>rw [e] at q;simpa using q
  obtain ⟨v,hv,rv⟩:=r.get q';refine ⟨v,?_,rv⟩;rw [Nv (by rw [Cm];lia),Hi,hv];rfl
 ·rw [Nx (by simpa using hi),Cm] at q;rw [Nx (by rw [Cm];lia),Cm,<-hl];generalize i - ws.length=i at q |-
  unfold tM at q;unfold Bu;rw [Hi] at q |-
  cases e:ix[i]? with
  | none=>rw [e] at q;cases q
  | some j=>
   rw [e] at q;cases e2:Zw[j]? with
   | none=>simp [e2] at q
   | some o=>
    have eo:o=Mk u:=by simpa [e2] using q
    subst eo;obtain ⟨v',h1,h2⟩:=S.get j u e2;exact ⟨v',by simp [h1],h2⟩
def Dz:MT:=fun _ h Q=>Q true h
def ql (s:Src)(own:W->Option (List W))(ix:List Nat)(tt:MT)(te:ME)(Z : Sw)(Q:WK):List W->List W->Gh->Prop
 | [],acc,h=>s.go h (Q (.lst acc) h)
 | w::r,acc,h=>s.go h (match own w with
  | some vs=>tt (vs.map Mk++tM ix Z) h fun c h1=>GF c (te (vs.map Mk++tM ix Z) h1 fun v h2=>ql s own ix tt te Z Q r (acc++[v]) h2) (ql s own ix tt te Z Q r acc h1)
  | none=>False)
def JN (own:W->Option (List W))(ix:List Nat)(mi:MI)(tt:MT)(te:ME):ME:=fun Z h Q=>mi Z h fun s h1=>gK s.ws.length (ql s own ix tt te Z Q s.ws [] h1)
def JR (K:Ar)(n:Nat)(own:V->Hp->List V->Prop)(ow:W->Option (List W)):Prop:=∀ {H:Hp} {μ : Mu} {w:W} {v:V} {ws:List W},kI K H μ w v->ow w=Mk ws->∃ vs,own v H vs/\vs.length=n/\aO K H μ ws vs
def ow1 (w:W):Option (List W):=Mk [w]
def Pj (n:Nat)(w:W):Option (List W):=match w with
 | .tup ws=>(match Iw ws.length n with
  | true=>Mk ws
  | false=>YK)
 | _=>YK
def ov1:V->Hp->List V->Prop:=fun v _ vs=>vs=[v]
def ovT (K:Ar):V->Hp->List V->Prop:=fun v H vs=>∃ a,v=.ref a/\Ed K H a vs
theorem GR {K:Ar}:JR K 1 ov1 ow1:=by
 intro H μ w v ws r e;cases (show Mk [w]=Mk ws from e)
 exact ⟨[v],rfl,rfl,.one r⟩
theorem Ax {K:Ar}{n:Nat}:JR K n (ovT K) (Pj n):=by
 intro H μ w v ws r e;cases w with
 | tup us=>
  unfold Pj at e;dsimp only at e;cases en:Iw us.length n with
  | false=>rw [en] at e;cases e
  | true=>
   rw [en] at e;cases (show Mk us=Mk ws from e)
   rw [kI] at r;obtain ⟨p,xs,ev,hs,rs⟩:=r;exact ⟨xs,⟨p,ev,hs⟩,by rw [<-rs.len];exact T9 en,rs⟩
 | _=>cases e
abbrev WL (X:Cx)(ifs:List Expr)(m:MT):Prop:=Vi X ifs (tDT X.K m)
theorem fH:WL X [] Dz:=fun afG s Z H Q I ⟨μ,h,Zw,Qw,R,S,m,k⟩=>abn afG s Z H Q I (k _ _ ⟨μ,h,.refl,R,m⟩)
theorem abQ (h:DT X c t):WL X [c] t:=zbs h
theorem V8 {K:Ar}{Z : St}{H:Hp}{Q:VK}{n:Nat}{own:V->Hp->List V->Prop}{ow:W->Option (List W)}{mi:MI}{tt:MT}{te:ME}(oo:JR K n own ow)(q:tD K (JN ow ix mi tt te) Z H Q):tLC n own ix (tDI K mi) (tDT K tt) (tD K te) Z H Q:=by
 obtain ⟨μ,h,Zw,Qw,R,S,m,k⟩:=q;refine ⟨μ,h,Zw,_,R,S,m,fun J H1 ⟨μ1,src,h1,e1,R1,ok,hz0⟩=>?_⟩;obtain ⟨hz,m1⟩:=hz0.ok;intro D hD;have nD:=R1.nohid hD;have hD1:Dr K H1 μ1 (CJ H1 D (.lst [])) (μ1.hide D):=Dr.hide hD;refine ⟨fun i n ys H'=>n=src.ws.length - i/\i<=src.ws.length/\ys.length<=i/\H' D=Mk (.lst ys)/\∃ μ' acc h',Dr K H1 μ1 H' μ'/\Bq K μ' H' h'/\μ'.hid D/\aO K H' μ' acc ys/\ql src ow ix tt te Zw Qw (src.ws.drop i) acc h',
  ⟨src.ws.length,by simp,IK _,Bp _,bf,μ1.hide D,[],h1,hD1,R1.hide hD,.inl rfl,.nil,by rw [List.drop_zero];exact m1⟩,?_⟩
 rintro i n' ys H2 ⟨hn,hle,hys,hH2,μ2,acc,h2,e2,R2,hid2,ra,m2⟩ _;by_cases hlt:i<src.ws.length
 ·rw [RQ hlt] at m2;obtain ⟨ck,m2⟩:=Src.go_ok m2;obtain ⟨hgo,hy⟩:=(ok e2 R2 ck).1 src.ws[i] (Gg hlt);refine .inr ⟨hgo,by lia,fun x H3 y=>?_⟩;obtain ⟨μ3,e3,R3,rx⟩:=hy x H3 y;have e13:=e2.trans e3;cases eo:ow src.ws[i] with
  | none=>rw [eo] at m2;exact m2.elim
  | some us=>
   rw [eo] at m2;obtain ⟨vs,hov,hvl,rvs⟩:=oo rx eo;have S3:=(S.ext (e1.trans e13)).blk (ix:=ix) rvs;refine ⟨vs,hov,hvl,μ3,h2,_,_,R3,S3,m2,fun b H4 ⟨μ4,h4,e4,R4,m4⟩=>?_⟩;have e24:=e3.trans e4;obtain ⟨hid4,hH4⟩:=e24.o D _ hid2 hH2;cases b with
   | false=>
    dsimp only;rw [if_neg Hu];exact ⟨hH4,src.ws.length - (i+1),by lia,rfl,hlt,by lia,hH4,μ4,acc,h4,e2.trans e24,R4,hid4,e24.s ra,m4⟩
   | true=>
    dsimp only;rw [if_pos rfl];refine ⟨μ4,h4,_,_,R4,S3.ext e4,m4,fun v H5 ⟨μ5,w5,h5,e5,R5,r5,m5⟩=>?_⟩;have e25:=e24.trans e5;obtain ⟨hid5,hH5⟩:=e25.o D _ hid2 hH2;have g:=Qt.grow (ys:=ys++[v]) R5 hid5;have rs:aO K (CJ H5 D (.lst (ys++[v]))) μ5 (acc++[w5]) (ys++[v]):=aO.ex (Ex0.grow R5 hid5) (aO.append (e25.s ra) (aO.one r5));exact ⟨hH5,src.ws.length - (i+1),by lia,rfl,hlt,by rw [HB];simp;lia,bf,μ5,acc++[w5],h5,(e2.trans e25).x nD g,R5.grow hid5,hid5,rs,m5⟩
 ·have ei:i=src.ws.length:=by lia
  subst ei;rw [List.drop_length] at m2;obtain ⟨ck,m2⟩:=Src.go_ok m2;exact .inl ⟨(ok e2 R2 ck).2 (Bp _),k _ _ ⟨μ2.unhide D,.lst acc,h2,e1.trans<|e2.x nD .unhide,R2.unhide,kI.built R2 hid2 hH2 ra,m2⟩⟩
variable {scope:Scope}{x:Str}{xs:List Str}{iter:Expr}{px:Pos}{mi:MI}{tt:MT}{te:ME}
theorem GQ (B:kE X scope [x] ix)(C:Addr)(s:ZG)(H:Hp)(fp:List Addr):PG (blk X scope (jJ X [x] ix) C s H fp) (.Name x px) (Tc 1 ov1):=by
 obtain ⟨o1,o2⟩:=Gy B (y:=x) (by simp);intro afG s' Z H' v u Q I r ⟨vs,hv,hl,q⟩;cases hv;refine bV (X:=blk X scope (jJ X [x] ix) C s H fp) (i:=0) B.nd rfl o1 o2 afG s' Z H' v u Q I r ?_;have afI:Z.length=(jJ X [x] ix).length:=I.len;cases Z with
 | nil=>simp at afI
 | cons o Z=>exact q
theorem Cd {py pt:Pos}{kt:Nat}(hc:X.calm=true)(B:kE X scope [x,y] ix)(C:Addr)(s:ZG)(H:Hp)(fp:List Addr)
  (h1:∀ env,(Ik [.Name x px,.Name y py] env).map (·.2)=assign (.Name x px) env::(Ik [.Name y py] env).map (·.2):=by intro _;rfl)
  (h2:∀ env,(Ik [.Name y py] env).map (·.2)=assign (.Name y py) env::(Ik [] env).map (·.2):=by intro _;rfl)
  (h3:∀ env,(Ik [.Name x px,.Name y py] env).length=2:=by intro _;rfl) (h4:∀ env,(Ik [.Name x px,.Name y py] env).findIdx? (·.1)=YK:=by intro _;rfl) :
  PG (blk X scope (jJ X [x,y] ix) C s H fp) (.Tuple [.Name x px,.Name y py] kt pt) (Tc 2 (ovT X.K)):=by
 obtain ⟨o1,u1⟩:=Gy B (y:=x) (by simp);obtain ⟨o2,u2⟩:=Gy B (y:=y) (by simp);intro afG s' Z H' v u Q I r ⟨vs,⟨a,ea,ha⟩,hl,q⟩;have afI:Z.length=(jJ X [x,y] ix).length:=I.len;refine aep (X:=blk X scope (jJ X [x,y] ix) C s H fp) (n:=2) hc (uo (bV (i:=0) B.nd rfl o1 u1) (uo (bV (i:=1) B.nd rfl o2 u2) Fo<|h2 _)<|h1 _) (h3 _) (h4 _) afG s' Z H' v u Q I r ?_;refine ⟨a,vs,ea,ha,hl,?_⟩;match vs,hl,q with
 | [v1,v2],_,q=>
  match Z,afI,q with
  | [],afI,_=>simp at afI
  | [_],afI,_=>simp at afI
  | _::_::Z,_,q=>exact ⟨v1,[v2],rfl,v2,[],rfl,rfl,q⟩
theorem CW {own:V->Hp->List V->Prop}{ow:W->Option (List W)}(ix:List Nat)(hc:X.calm=true)(B:kE X scope xs ix)(oo:JR X.K xs.length own ow)(hg:∀ C s H fp,PG (blk X scope (jJ X xs ix) C s H fp) tg (Tc xs.length own))(hi:DIt X tg iter mi)
  (ht:∀ C s H fp,WL (blk X scope (jJ X xs ix) C s H fp) ifs tt) (he:∀ C s H fp,DE (blk X scope (jJ X xs ix) C s H fp) elt te)
  (hs:∀ v,foldedSetIterable iter X.env v=pure v:=by intro _;rfl):DE X (.ListComp elt [⟨tg,iter,ifs,0⟩] scope pos) (JN ow ix mi tt te):=(XS ix hc B hg hi ht he hs).of fun _ _ _ q=>V8 oo q
theorem Wx {κ : Type}{K:Ar}{H0 H:Hp}{μ0 μ : Mu}{k:Nat}(hd:∀ n p,μ0.f n=Mk p->n<k):∀ {fs:List (κ×W)} {f0 fv:List (κ×V)},ji K H0 μ0 fs f0->ji K H μ fs fv->ji K H (μ.cut k) fs fv
 | [],_,_,_,.nil=>.nil
 | _::_,_,_,.cons a b,.cons c d=>.cons ⟨c.1,kI.cut c.2 (kI.lo hd a.2)⟩ (Wx hd b d)
def vX (pure:Bool)(h:Gh)(w:W)(h':Gh)(Q:WK):Prop:=match pure with
 | false=>Q w h'
 | true=>(∀ n c,n<h.nx->h.c n=Mk c->h'.c n=Mk c)/\((Lo h.nx w/\Q w h)\/∃ n ws,w=.loc n/\h.nx<=n/\h'.c n=Mk (.lst ws)/\JL h.nx ws/\Q (.lst ws) h)
def HD (n N:Nat)(pure:Bool)(body:CN->MS):Bd:=fun ws h Q E=>GF (Iw ws.length n)
 (body E { nx:=fun _ h'=>vX pure h .non h' Q,rt:=fun w h'=>vX pure h w h' Q } (ws.map Mk++BK (N - ws.length) YK) h) False
theorem zJ {n N:Nat}{pure:Bool}{body:CN->MS}{h:Gh}{Q:WK}{E:CN}(x:HD n N pure body ws h Q E):ws.length=n /\
  body E { nx:=fun _ h'=>vX pure h .non h' Q,rt:=fun w h'=>vX pure h w h' Q } (ws.map Mk++BK (N - ws.length) YK) h:=by
 unfold HD at x;cases e:Iw ws.length n with
 | true=>rw [e] at x;exact ⟨T9 e,x⟩
 | false=>rw [e] at x;exact (show False from x).elim
theorem Bq.cut {K:Ar}{H H':Hp}{μ μ':Mu}{h h':Gh}(R:Bq K μ H h)(R':Bq K μ' H' h')(e:Dr K H μ H' μ')(hc:∀ n c,h.c n=Mk c->h'.c n=Mk c):Bq K (μ'.cut h.nx) H' h where
 inj:=fun m n p a b=>R'.inj m n p (Mu.cut_some a).2 (Mu.cut_some b).2
 dom:=fun n p a=>(Mu.cut_some a).1
 trk:=fun n p a=>R'.trk n p (Mu.cut_some a).2
 cel:=fun n c a=>by
  obtain ⟨p0,m0,x0⟩:=R.cel n c a;obtain ⟨p,m,x⟩:=R'.cel n c (hc n c a);have hn:=R.dom n p0 m0;refine ⟨p,by show (if n<h.nx then μ'.f n else YK)=Mk p;rw [if_pos hn];exact m,?_⟩;cases c with
  | lst ws=>
   obtain ⟨xs0,_,r0⟩:=x0;obtain ⟨xs,hx,r⟩:=x;exact ⟨xs,hx,aO.cut r<|aO.lo R.dom r0⟩
  | obj C fs=>
   obtain ⟨dx0,f0,_,r0⟩:=x0;obtain ⟨dx,fv,hx,r⟩:=x;exact ⟨dx,fv,hx,Wx R.dom r0 r⟩
  | dct kvs=>
   obtain ⟨f0,_,r0⟩:=x0;obtain ⟨fv,hx,r⟩:=x;exact ⟨fv,hx,Wx R.dom r0 r⟩
  | dtt kvs=>
   obtain ⟨_,_,_,_,_,d0,f0⟩:=x0;obtain ⟨xs,vs,a,b,c,d,f⟩:=x;exact ⟨xs,vs,a,b,c,aO.cut d<|aO.lo R.dom d0,aO.cut f<|aO.lo R.dom f0⟩
 hd:=fun p z=>⟨(R'.hd p z).1,fun n a=>(R'.hd p z).2 n (Mu.cut_some a).2⟩
theorem Dr.cut {K:Ar}{H H':Hp}{μ μ':Mu}{h:Gh}(R:Bq K μ H h)(e:Dr K H μ H' μ'):Dr K H μ H' (μ'.cut h.nx):=
 ⟨fun w v r=>kI.cut (e.r w v r) (kI.lo R.dom r),fun p u z a=>e.o p u z a⟩
theorem rY {K:Ar}{H H':Hp}{h h':Gh}{w:W}{v:V}{Q:WK}{pure:Bool}(R:Bq K μ H h)(e:Dr K H μ H' μ')(R':Bq K μ' H' h')(r:kI K H' μ' w v)(x:vX pure h w h' Q):DQ K H μ Q v H':=by
 cases pure with
 | false=>exact ⟨μ',w,h',e,R',r,x⟩
 | true=>
  obtain ⟨hc0,⟨lo,q⟩ | ⟨n,ws,ew,hn,ec,lo,q⟩⟩:=x;all_goals have hc:∀ n c,h.c n=Mk c->h'.c n=Mk c:=fun n c a=>hc0 n c (let ⟨p,m,_⟩:=R.cel n c a;R.dom n p m) a
  ·exact ⟨μ'.cut h.nx,w,h,e.cut R,R.cut R' e hc,kI.cut r lo,q⟩
  ·subst ew;refine ⟨μ'.cut h.nx,.lst ws,h,e.cut R,R.cut R' e hc,?_,q⟩;rw [kI] at r;rw [kI];obtain ⟨p,ev,hm⟩:=r;obtain ⟨p',xs,hm',hx,rs⟩:=R'.lstAt ec;have ep:p'=p:=by rw [hm] at hm';exact (Eb hm').symm
   subst ep;refine ⟨p',xs,ev,⟨hx,fun m a=>?_,fun z=>(R'.hd p' z).2 n hm⟩,aO.cut rs lo⟩;obtain ⟨a1,a2⟩:=Mu.cut_some a;have:=R'.inj m n p' a2 hm
   lia
theorem nW {K:Ar}{H:Hp}{N:List Str}:∀ {ws:List W} {vs:List V},aO K H μ ws vs->Slots K H μ (ws.map Mk++BK (N.length - ws.length) YK) (start N vs):=by
 intro ws vs r;have hl:=r.len;refine ⟨by simp [start,hl],fun i w q=>?_⟩;by_cases hi:i<ws.length
 ·rw [Nv (by simpa using hi),Hi] at q;have q':ws[i]?=Mk w:=by
   cases e:ws[i]? with
   | none=>rw [e] at q;cases q
   | some a=>rw [e] at q;simpa using q
  obtain ⟨v,hv,rv⟩:=r.get q';refine ⟨v,?_,rv⟩;unfold start;rw [Nv (by rw [Cm];lia),Hi,hv];rfl
 ·rw [Nx (by simpa using hi),Tj] at q;split at q <;> cases q
theorem rB {P:Bs}{w:Bh}{K:Ar}{mg:Str->Option Yk}{base:Heap}{x qual:Str}{st:Stmt}{f:Addr}{fd:Ei}{N ps:List Str}{k:Nat}{pure:Bool}{body:CN->MS}(F:Hg K x qual st f fd)(S:bI N ps (aU st))
  (hb:∀ (cdv:Yk) (A:Bx) (outer:List Env) (s:ZG) (H:Hp) (E:XK),mQ k (A.deeper (envOfC qual (aU st) s.heap.objs.size f cdv)) ->
   Pb (K3 GZ P w K mg base N qual (aU st) f cdv A outer s H E).nox (iu st) (body EF)):eU P w K mg base GZ (k+1) f fd ps (lift K (HD ps.length N.length pure body)):=by
 refine F.ok S (fun vs H Q E ⟨μ,h,ws,Qw,R,r,m,k⟩=>by rw [<-r.len];exact (zJ m).1)<|fun cdv A outer s H vs Q E hr ⟨μ,h,ws,Qw,R,r,m0,k⟩=>?_
 obtain ⟨hl,m⟩:=zJ m0;refine ⟨_,hb cdv A outer s H E hr,μ,h,_,_,R,nW r,m,?_,?_,?_,?_⟩
 ·rintro Z' H' ⟨μ1,Zw1,h1,e1,R1,S1,m1⟩;exact k _ _<|rY (w:=.non) R e1 R1 (by rw [kI]) m1
 ·rintro v H' ⟨μ1,w1,h1,e1,R1,r1,m1⟩;exact k _ _<|rY R e1 R1 r1 m1
 ·rintro Z' H' ⟨μ1,Zw1,h1,e1,R1,S1,m1⟩;exact m1.elim
 ·rintro Z' H' ⟨μ1,Zw1,h1,e1,R1,S1,m1⟩;exact m1.elim
end
variable {mo : ME}{mi : MI}{tt : MT}{kt : Nat}
section
variable {X:Cx}{K:Ar}
theorem DQ.int {H:Hp}{μ : Mu}{h:Gh}{i:Int}{Q:WK}(R:Bq K μ H h)(q:Q (.int i) h):DQ K H μ Q (.int i) H:=⟨μ,.int i,h,.refl,R,by rw [kI],q⟩
theorem DQ.bl {H:Hp}{μ : Mu}{h:Gh}{i:Bool}{Q:WK}(R:Bq K μ H h)(q:Q (.bl i) h):DQ K H μ Q (.bl i) H:=⟨μ,.bl i,h,.refl,R,by rw [kI],q⟩
def zac (C:Int->Int->Prop)(g:Int->Int->Int):M2:=fun x y h Q=>match x,y with
 | .int i,.int j=>C i j/\Q (.int (g i j)) h
 | _,_=>False
def yG:M2:=fun x y h Q=>match x,y with
 | .int i,.int j=>Q (.int (i - j)) h
 | _,_=>False
theorem jh:Le X (Iu .Sub) yG:=⟨_,aeS,by
 intro H μ h x y wx wy Qw Q R rx ry m k;unfold yG at m;split at m
 ·rw [kI] at rx ry;exact ⟨_,_,rx,ry,k _ _<|.int R m⟩
 ·exact m.elim⟩
def wg:M2:=fun x y h Q=>match x,y with
 | .int i,.int j=>p8 i j/\Q (.int (i*j)) h
 | _,_=>False
theorem kh:Le X (Iu .Mult) wg:=⟨_,Fj,by
 intro H μ h x y wx wy Qw Q R rx ry m k;unfold wg at m;split at m
 ·rw [kI] at rx ry;exact ⟨_,_,rx,ry,m.1,k _ _<|.int R m.2⟩
 ·exact m.elim⟩
def wX:M2:=fun x y h Q=>match x,y with
 | .int i,.int j=>yR i j/\Q (.int (i.fdiv j)) h
 | _,_=>False
theorem kY:Le X (Iu .FloorDiv) wX:=⟨_,aax,by
 intro H μ h x y wx wy Qw Q R rx ry m k;unfold wX at m;split at m
 ·rw [kI] at rx ry;exact ⟨_,_,rx,ry,m.1,k _ _<|.int R m.2⟩
 ·exact m.elim⟩
def kO:M2:=fun x y h Q=>match x,y with
 | .int i,.int j=>j≠0/\Q (.int (i.fmod j)) h
 | _,_=>False
theorem dR:Le X (Iu .Mod) kO:=⟨_,acy,by
 intro H μ h x y wx wy Qw Q R rx ry m k;unfold kO at m;split at m
 ·rw [kI] at rx ry;exact ⟨_,_,rx,ry,m.1,k _ _<|.int R m.2⟩
 ·exact m.elim⟩
def Ie:M2:=fun x y h Q=>match x,y with
 | .int i,.int j=>Xa i j/\Q (.int (i^j.toNat)) h
 | _,_=>False
theorem Aw:Le X (Iu .Pow) Ie:=⟨_,Uu,by
 intro H μ h x y wx wy Qw Q R rx ry m k;unfold Ie at m;split at m
 ·rw [kI] at rx ry;exact ⟨_,_,rx,ry,m.1,k _ _<|.int R m.2⟩
 ·exact m.elim⟩
def kLt:M2:=fun x y h Q=>match x,y with
 | .int i,.int j=>Q (.bl (decide (i<j))) h
 | _,_=>False
theorem W9:Le X (Jq .Lt) kLt:=⟨_,XR,by
 intro H μ h x y wx wy Qw Q R rx ry m k;unfold kLt at m;split at m
 ·rw [kI] at rx ry;exact ⟨_,_,rx,ry,k _ _<|.bl R m⟩
 ·exact m.elim⟩
def kGt:M2:=fun x y h Q=>match x,y with
 | .int i,.int j=>Q (.bl (decide (j<i))) h
 | _,_=>False
theorem Y9:Le X (Jq .Gt) kGt:=⟨_,Wr,by
 intro H μ h x y wx wy Qw Q R rx ry m k;unfold kGt at m;split at m
 ·rw [kI] at rx ry;exact ⟨_,_,rx,ry,k _ _<|.bl R m⟩
 ·exact m.elim⟩
theorem aO.ne_nil {H:Hp}{xs:List V}(r:aO K H μ ws xs):xs=[]↔ws=[]:=by
 have:=r.len
 constructor
 ·intro e;subst e;exact N5 this
 ·intro e;subst e;exact N5 this.symm
def Fy:M2:=fun x y h Q=>match y with
 | .int i=>(match view h x with
  | some ws=>(match JQ ws i with
   | some w=>Q w h
   | none=>False)
  | none=>False)
 | _=>False
theorem aO.at {H:Hp}{μ : Mu}{ws:List W}{xs:List V}{i:Int}{w:W}(r:aO K H μ ws xs)(e:JQ ws i=Mk w):∃ v,JQ xs i=Mk v/\kI K H μ w v:=by
 unfold JQ at e |-
 rw [<-r.len];cases q:Mq ws.length i with
 | none=>rw [q] at e;cases e
 | some j=>rw [q] at e;exact r.get e
theorem cR {H:Hp}{h:Gh}{w:W}{v:V}(R:Bq K μ H h)(r:kI K H μ w v)(e:eH h w=Mk ws):∃ p xs,v=.ref p/\GK K H p xs/\aO K H μ ws xs:=by
 cases w with
 | lst us=>
  rw [kI] at r;obtain ⟨p,xs,ev,hs,rs⟩:=r;cases (show Mk us=Mk ws from e)
  exact ⟨p,xs,ev,hs.sq,rs⟩
 | kls us=>
  rw [kI] at r;obtain ⟨p,xs,ev,hs,rs⟩:=r;cases (show Mk us=Mk ws from e)
  exact ⟨p,xs,ev,hs.sq,rs⟩
 | loc n=>
  rw [kI] at r;obtain ⟨p,ev,hm⟩:=r;unfold eH at e;dsimp only at e;cases ec:h.c n with
  | none=>rw [ec] at e;cases e
  | some cl=>
   rw [ec] at e;cases cl with
   | lst us=>
    cases (show Mk us=Mk ws from e)
    obtain ⟨p',xs,hm',hx,rs⟩:=R.lstAt ec;have ep:p'=p:=by rw [hm] at hm';exact (Eb hm').symm
    subst ep;exact ⟨p',xs,ev,.of hx,rs⟩
   | _=>cases e
 | _=>cases e
theorem xq {H:Hp}{h:Gh}{w:W}{v:V}(R:Bq K μ H h)(r:kI K H μ w v)(e:view h w=Mk ws):∃ p xs,v=.ref p/\(GK K H p xs\/Ed K H p xs)/\aO K H μ ws xs:=by
 cases w with
 | tup us=>
  rw [kI] at r;obtain ⟨p,xs,ev,hs,rs⟩:=r;cases (show Mk us=Mk ws from e)
  exact ⟨p,xs,ev,.inr hs,rs⟩
 | lst us=>
  obtain ⟨p,xs,ev,hs,rs⟩:=cR (ws:=ws) R r e;exact ⟨p,xs,ev,.inl hs,rs⟩
 | kls us=>
  obtain ⟨p,xs,ev,hs,rs⟩:=cR (ws:=ws) R r e;exact ⟨p,xs,ev,.inl hs,rs⟩
 | loc n=>
  obtain ⟨p,xs,ev,hs,rs⟩:=cR (ws:=ws) R r e;exact ⟨p,xs,ev,.inl hs,rs⟩
 | _=>cases e
theorem Uo:Yr K (rIx K) Fy:=by
 intro H μ h x y wx wy Qw Q R rx ry m k;unfold Fy at m;split at m
 ·rename_i i;split at m
  ·rename_i ws ev;split at m
   ·rename_i w ew;obtain ⟨p,xs,ex,hs,rs⟩:=xq R rx ev;obtain ⟨v,hv,rv⟩:=rs.at ew;rw [kI] at ry;have fin:=k _ _ ⟨μ,w,h,.refl,R,rv,m⟩;rcases hs with hs | hs
    ·exact .inl ⟨p,xs,i,v,ex,ry,hs,hv,fin⟩
    ·exact .inr<|.inl ⟨p,xs,i,v,ex,ry,hs,hv,fin⟩
   ·exact m.elim
  ·exact m.elim
 ·exact m.elim
theorem mW {a b:Expr}{pos:Pos}(ha:DE X a ma)(hb:DE X b mb)(hs:CQ b):DE X (.Subscript a b pos) (BJ Fy ma mb):=(V7 Us ha hb hs).of fun Z H Q h=>two h fun R r1 r2 m k=>Uo R r1 r2 m k
abbrev MO:=Sw->Gh->(Option Int->Gh->Prop)->Prop
def tDO (K:Ar)(m:MO):TO:=fun Z H Q=>∃ μ h Zw Qw,Bq K μ H h/\Slots K H μ Zw Z/\m Zw h Qw/\∀ o H',(∃ μ' h',Dr K H μ H' μ'/\Bq K μ' H' h'/\Qw o h')->Q o H'
abbrev DO (X:Cx)(e:Option Expr)(m:MO):Prop:=PO X e (tDO X.K m)
theorem PO.of {e:Option Expr}{t t':TO}(h:PO X e t)(k:∀ Z H Q,t' Z H Q->t Z H Q):PO X e t':=by
 unfold PO at h |-
 intros
 apply h <;> first | assumption | (apply k;assumption)
def pI:MO:=fun _ h Q=>Q YK h
def Fl (m:ME):MO:=fun Z h Q=>m Z h fun w h1=>match w with
 | .int i=>Q (Mk i) h1
 | _=>False
theorem ud:DO X YK pI:=PO.of abC fun Z H Q ⟨μ,h,Zw,Qw,R,S,m,k⟩=>k _ _ ⟨μ,h,.refl,R,m⟩
theorem rZ {e:Expr}(he:DE X e ma):DO X (Mk e) (Fl ma):=PO.of (acQ he) fun Z H Q ⟨μ,h,Zw,Qw,R,S,m,k⟩=>by
 refine ⟨μ,h,Zw,_,R,S,m,fun v H1 ⟨μ1,w,h1,e1,R1,r1,m1⟩=>?_⟩;split at m1
 ·rw [kI] at r1;exact ⟨_,r1,k _ _ ⟨μ1,h1,e1,R1,m1⟩⟩
 ·exact m1.elim
def Ac (xs:List W)(lo hi:Option Int):List W:=(xs.drop (HT.sIx xs.length 0 lo)).take (HT.sIx xs.length xs.length hi - HT.sIx xs.length 0 lo)
def mSl (r:W->Option Int->Option Int->Gh->WK->Prop)(m:ME)(l u:MO):ME:=fun Z h Q=>m Z h fun x h1=>l Z h1 fun lo h2=>u Z h2 fun hi h3=>r x lo hi h3 Q
theorem aO.cutv {H:Hp}{xs:List V}(r:aO K H μ ws xs)(lo hi:Option Int):aO K H μ (Ac ws lo hi) (G8 xs lo hi):=by
 unfold Ac G8;rw [<-r.len];exact (r.drop _).take _
end
mutual
def Cp:W->W->Bool
 | .non,.non=>true
 | .bl a,.bl b=>a==b
 | .bl a,.int b=>(if a then 1 else 0)==b
 | .int a,.bl b=>a==(if b then 1 else 0)
 | .int a,.int b=>a==b
 | .str a,.str b=>a==b
 | .tup a,.tup b=>pU a b
 | .lst a,.lst b=>pU a b
 | _,_=>false
def pU:List W->List W->Bool
 | [],[]=>true
 | a::as,b::bs=>Cp a b&&pU as bs
 | _,_=>false
end
def DW:Nat->W->Bool
 | _,.non=>true
 | _,.bl _=>true
 | _,.int _=>true
 | _,.str _=>true
 | n+1,.tup ws=>ws.all (DW n)
 | n+1,.lst ws=>ws.all (DW n)
 | _,_=>false
mutual
def Dt (K:Ar)(H:Hp):W->V->Prop
 | .non,v=>v=.non
 | .bl b,v=>v=.bl b
 | .int i,v=>v=.int i
 | .str x,v=>v=.str x
 | .tup ws,v=>∃ p xs,v=.ref p/\Ed K H p xs/\GP K H ws xs
 | .lst ws,v=>∃ p xs,v=.ref p/\GK K H p xs/\GP K H ws xs
 | .ty _,_=>False
 | .kls _,_=>False
 | .loc _,_=>False
 | .exc _,_=>False
 | .exa _ _,_=>False
 | .fnv _ _,_=>False
def GP (K:Ar)(H:Hp):List W->List V->Prop
 | [],xs=>xs=[]
 | w::ws,xs=>∃ v vs,xs=v::vs/\Dt K H w v/\GP K H ws vs
end
section
variable {X:Cx}{K:Ar}{H:Hp}{h:Gh}
theorem GP.len:∀ {ws:List W} {xs:List V},GP K H ws xs->ws.length=xs.length
 | [],xs,h=>by
  have e:xs=[]:=by rw [GP] at h;exact h
  rw [e];rfl
 | w::ws,xs,h=>by
  rw [GP] at h;obtain ⟨v,vs,e,_,h⟩:=h;rw [e,Il,Il,GP.len h]
theorem GP.get:∀ {ws:List W} {xs:List V} {i:Nat} {w:W},GP K H ws xs->ws[i]?=Mk w->∃ v,xs[i]?=Mk v/\Dt K H w v
 | [],_,_,_,_,e=>by simp at e
 | a::ws,xs,0,w,h,e=>by
  rw [GP] at h;obtain ⟨v,vs,e1,r,_⟩:=h;simp at e;subst e;subst e1;exact ⟨v,rfl,r⟩
 | a::ws,xs,i+1,w,h,e=>by
  rw [GP] at h;obtain ⟨v,vs,e1,_,h⟩:=h;subst e1;obtain ⟨u,h1,h2⟩:=GP.get (i:=i) (w:=w) h (by simpa using e);exact ⟨u,by simpa using h1,h2⟩
theorem zu {n:Nat}(one:∀ {w:W} {v:V},kI K H μ w v->DW n w=true->Dt K H w v):∀ {ws:List W} {xs:List V},aO K H μ ws xs->ws.all (DW n)=true->GP K H ws xs
 | [],_,h,_=>by rw [aO] at h;rw [GP];exact h
 | w::ws,_,h,p=>by
  rw [aO] at h;rw [GP];obtain ⟨v,vs,e,r,h⟩:=h;rw [List.all_cons,Lw] at p;exact ⟨v,vs,e,one r p.1,zu one h p.2⟩
theorem Uz:∀ (n:Nat) {w:W} {v:V},kI K H μ w v->DW n w=true->Dt K H w v:=by
 intro n;induction n with
 | zero=>
  intro w v r p;cases w with
  | non=>rw [kI] at r;rw [Dt];exact r
  | bl _=>rw [kI] at r;rw [Dt];exact r
  | int _=>rw [kI] at r;rw [Dt];exact r
  | str _=>rw [kI] at r;rw [Dt];exact r
  | _=>simp [DW] at p
 | succ n ih=>
  intro w v r p;cases w with
  | non=>rw [kI] at r;rw [Dt];exact r
  | bl _=>rw [kI] at r;rw [Dt];exact r
  | int _=>rw [kI] at r;rw [Dt];exact r
  | str _=>rw [kI] at r;rw [Dt];exact r
  | tup ws=>
   rw [kI] at r;rw [Dt];obtain ⟨p',xs,e,hs,rs⟩:=r;exact ⟨p',xs,e,hs,zu ih rs<|by simpa [DW] using p⟩
  | lst ws=>
   rw [kI] at r;rw [Dt];obtain ⟨p',xs,e,hs,rs⟩:=r;exact ⟨p',xs,e,hs.sq,zu ih rs<|by simpa [DW] using p⟩
  | _=>simp [DW] at p
theorem tX:∀ {a b:List W},a.length≠b.length->pU a b=false
 | [],[],h=>absurd rfl h
 | [],_::_,_=>by simp [pU]
 | _::_,[],_=>by simp [pU]
 | a::as,b::bs,h=>by
  rw [pU,tX (a:=as) (b:=bs) (by simpa using h),Bool.and_false]
def Vd (a b:List W)(j:Nat):Bool:=Cp (a.getD j .non) (b.getD j .non)
theorem rQ:∀ {a b:List W},a.length=b.length->(Hz a.length).all (Vd a b)=pU a b
 | [],[],_=>by simp [pU]
 | [],_::_,h=>by simp at h
 | _::_,[],h=>by simp at h
 | a::as,b::bs,h=>by
  rw [pU,<-rQ (a:=as) (b:=bs) (by simpa using h),Il,List.range_succ_eq_map,List.all_cons,List.all_map];rfl
mutual
theorem yE {afG:List (Addr×Obj)}{s:ZG}{Z : St}(I:AP X afG Z H s):∀ {w u:W} {v:V},Dt X.K H w v->Dt X.K H u v->Cp w u=true
 | .non,u,v,h,g=>by rw [Dt] at h;subst h;cases u <;> rw [Dt] at g <;> first | rfl | exact g.elim | (obtain ⟨_,_,g,_⟩:=g;cases g;done) | (cases g;done)
 | .bl b,u,v,h,g=>by rw [Dt] at h;subst h;cases u <;> rw [Dt] at g <;> first | (injection g with g;simp [Cp,g];done) | exact g.elim | (obtain ⟨_,_,g,_⟩:=g;cases g;done) | (cases g;done)
 | .int b,u,v,h,g=>by rw [Dt] at h;subst h;cases u <;> rw [Dt] at g <;> first | (injection g with g;simp [Cp,g];done) | exact g.elim | (obtain ⟨_,_,g,_⟩:=g;cases g;done) | (cases g;done)
 | .str b,u,v,h,g=>by rw [Dt] at h;subst h;cases u <;> rw [Dt] at g <;> first | (injection g with g;simp [Cp,g];done) | exact g.elim | (obtain ⟨_,_,g,_⟩:=g;cases g;done) | (cases g;done)
 | .tup ws,u,v,h,g=>by
  rw [Dt] at h;obtain ⟨p,xs,e,hs,ds⟩:=h;subst e;cases u with
  | tup us=>
   rw [Dt] at g;obtain ⟨p',xs',e',hs',ds'⟩:=g;cases e'
   have:=I.tuple_inj hs hs'
   subst this;rw [Cp];exact oZ I ds ds'
  | lst us=>
   rw [Dt] at g;obtain ⟨p',xs',e',hs',ds'⟩:=g;cases e'
   obtain ⟨_,_,t,_⟩:=I.tuple hs;obtain ⟨_,_,l,_⟩:=I.list hs';exact absurd rfl<|Tg l.isList<|show s.heap.IsTuple _ _ from t
  | ty _=>rw [Dt] at g;exact g.elim
  | loc _=>rw [Dt] at g;exact g.elim
  | kls _=>rw [Dt] at g;exact g.elim
  | _=>rw [Dt] at g;cases g
 | .lst ws,u,v,h,g=>by
  rw [Dt] at h;obtain ⟨p,xs,e,hs,ds⟩:=h;subst e;cases u with
  | lst us=>
   rw [Dt] at g;obtain ⟨p',xs',e',hs',ds'⟩:=g;cases e'
   have:=I.list_inj hs hs'
   subst this;rw [Cp];exact oZ I ds ds'
  | tup us=>
   rw [Dt] at g;obtain ⟨p',xs',e',hs',ds'⟩:=g;cases e'
   obtain ⟨_,_,t,_⟩:=I.tuple hs';obtain ⟨_,_,l,_⟩:=I.list hs;exact absurd rfl<|Tg l.isList<|show s.heap.IsTuple _ _ from t
  | ty _=>rw [Dt] at g;exact g.elim
  | loc _=>rw [Dt] at g;exact g.elim
  | kls _=>rw [Dt] at g;exact g.elim
  | _=>rw [Dt] at g;cases g
 | .ty _,_,_,h,_=>by rw [Dt] at h;exact h.elim
 | .loc _,_,_,h,_=>by rw [Dt] at h;exact h.elim
 | .exc _,_,_,h,_=>by rw [Dt] at h;exact h.elim
 | .exa _ _,_,_,h,_=>by rw [Dt] at h;exact h.elim
 | .kls _,_,_,h,_=>by rw [Dt] at h;exact h.elim
theorem oZ {afG:List (Addr×Obj)}{s:ZG}{Z : St}(I:AP X afG Z H s):∀ {ws us:List W} {vs:List V},GP X.K H ws vs->GP X.K H us vs->pU ws us=true
 | [],us,vs,h,g=>by
  rw [GP] at h;subst h;cases us with
  | nil=>rfl
  | cons _ _=>rw [GP] at g;obtain ⟨_,_,g,_⟩:=g;cases g
 | w::ws,us,vs,h,g=>by
  rw [GP] at h;obtain ⟨v,vs',e,h1,h2⟩:=h;subst e;cases us with
  | nil=>rw [GP] at g;cases g
  | cons u us=>
   rw [GP] at g;obtain ⟨v',vs'',e',g1,g2⟩:=g;cases e'
   rw [pU,yE I h1 g1,oZ I h2 g2];rfl
end
theorem in1_units {A:Bx}:A.in1.units=A.units+1:=rfl
theorem abq {n:Nat}(h:DW n (.lst ws)=true):∃ m,n=m+1/\ws.all (DW m)=true:=by
 cases n with
 | zero=>simp [DW] at h
 | succ m=>exact ⟨m,rfl,by simpa [DW] using h⟩
theorem zQ {s:ZG}{A:Bx}{n:Nat}{us:List W}{xs ys:List V}{its jts:List Yk}(d1:GP K H ws xs)(d2:GP K H us ys)(p1:ws.all (DW n)=true)(p2:us.all (DW n)=true)(r1:Az xs its)(r2:Az ys jts)
  (one:∀ {w u:W} {v x:V} {a b:Yk},Dt K H w v->Dt K H u x->DW n w=true->DW n u=true->RelV v a->RelV x b->Rb A s a b (Cp w u)) :
  ∀ j (h1:j<its.toArray.size) (h2:j<jts.toArray.size),Rb A s its.toArray[j] jts.toArray[j] (Vd ws us j):=by
 intro j h1 h2;have l1:j<ws.length:=by rw [d1.len,r1.length];simpa using h1
 have l2:j<us.length:=by rw [d2.len,r2.length];simpa using h2
 obtain ⟨v,ev,dv⟩:=d1.get (Gg l1);obtain ⟨x,ex,dx⟩:=d2.get (Gg l2);obtain ⟨a,ea,ra⟩:=r1.get ev;obtain ⟨b,eb,rb⟩:=r2.get ex;have ea':its.toArray[j]=a:=by simpa using (PJ.mp ea).2
 have eb':jts.toArray[j]=b:=by simpa using (PJ.mp eb).2
 have e:Vd ws us j=Cp ws[j] us[j]:=by
  unfold Vd;rw [M9,M9,Gg l1,Gg l2];rfl
 rw [ea',eb',e];exact one dv dx (QS.mp p1 _<|PB l1) (QS.mp p2 _<|PB l2) ra rb
theorem size_of {xs:List V}{its:List Yk}(d:GP K H ws xs)(r:Az xs its):its.toArray.size=ws.length:=by
 rw [d.len,r.length];simp
theorem abH {us:List W}:((Hz (min ws.length us.length)).all (Vd ws us)&&ws.length==us.length)=pU ws us:=by
 by_cases e:ws.length=us.length
 ·rw [<-e,Nat.min_self,rQ e];simp
 ·rw [tX e];have e2:(ws.length==us.length)=false:=beq_eq_false_iff_ne.mpr e;rw [e2,Bool.and_false]
inductive Kd (s:ZG):W->Yk->Prop where
 | non:Kd s .non .none
 | bl (b:Bool):Kd s (.bl b) (.bool b)
 | int (i:Int) (t:Tok):Kd s (.int i) (.int i t)
 | str (x:Str) (t:Tok):Kd s (.str x) (.str x t)
 | tup (ws:List W) {p:Addr} {its:Array Yk} (q:s.heap.IsTuple p its):Kd s (.tup ws) (.ref p)
 | lst (ws:List W) {p:Addr} {its:Array Yk} (q:s.heap.IsList p its):Kd s (.lst ws) (.ref p)
theorem vm {afG:List (Addr×Obj)}{s:ZG}{Z : St}(I:AP X afG Z H s){w:W}{v:V}{a:Yk}(d:Dt X.K H w v)(r:RelV v a):Kd s w a:=by
 cases w with
 | non=>rw [Dt] at d;subst d;cases r;exact .non
 | bl b=>rw [Dt] at d;subst d;cases r;exact .bl b
 | int b=>rw [Dt] at d;subst d;obtain ⟨t,rfl⟩:=r;exact .int b t
 | str b=>rw [Dt] at d;subst d;obtain ⟨t,rfl⟩:=r;exact .str b t
 | tup ws=>rw [Dt] at d;obtain ⟨p,xs,e,hs,_⟩:=d;subst e;cases r;obtain ⟨its,_,q,_⟩:=I.tuple hs;exact .tup ws q
 | lst ws=>rw [Dt] at d;obtain ⟨p,xs,e,hs,_⟩:=d;subst e;cases r;obtain ⟨its,_,q,_⟩:=I.list hs;exact .lst ws q.isList
 | _=>rw [Dt] at d;exact d.elim
def sq1:W->Bool
 | .tup _=>true
 | .lst _=>true
 | _=>false
def o9:W->W->Bool
 | .tup _,.tup _=>true
 | .lst _,.lst _=>true
 | _,_=>false
def Vy (w u:W):Bool:=!(sq1 w||sq1 u)
open SeqAt.EqAt in
theorem KQ {s:ZG}{A:Bx}{w u:W}{a b:Yk}(hu:A.units<HF)(k1:Kd s w a)(k2:Kd s u b)(h:o9 w u=false)(f:Vy w u=false):Rb A s a b (Cp w u):=by
 cases k1 <;> cases k2 <;> try (first | (cases h;done) | (cases f;done))
 ·apply none_tuple <;> assumption
 ·apply none_list <;> assumption
 ·apply bool_tuple <;> assumption
 ·apply bool_list <;> assumption
 ·apply int_tuple <;> assumption
 ·apply int_list <;> assumption
 ·apply str_tuple <;> assumption
 ·apply str_list <;> assumption
 ·apply tuple_none <;> assumption
 ·apply tuple_bool <;> assumption
 ·apply tuple_int <;> assumption
 ·apply tuple_str <;> assumption
 ·apply tuple_list <;> assumption
 ·apply list_none <;> assumption
 ·apply list_bool <;> assumption
 ·apply list_int <;> assumption
 ·apply list_str <;> assumption
 ·apply list_tuple <;> assumption
open SeqAt.RcAt in
theorem Vl {s:ZG}{A:Bx}{w u:W}{a b:Yk}(hu:A.units<HF)(k1:Kd s w a)(k2:Kd s u b)(h:o9 w u=false):SeqAt.RcAt A s a b (Cp w u):=by
 cases k1 <;> cases k2 <;> try (first | (cases h;done))
 ·apply none_none <;> assumption
 ·apply none_bool <;> assumption
 ·apply none_int <;> assumption
 ·apply none_str <;> assumption
 ·apply none_tuple <;> assumption
 ·apply none_list <;> assumption
 ·apply bool_none <;> assumption
 ·apply bool_bool <;> assumption
 ·apply bool_int <;> assumption
 ·apply bool_str <;> assumption
 ·apply bool_tuple <;> assumption
 ·apply bool_list <;> assumption
 ·apply int_none <;> assumption
 ·apply int_bool <;> assumption
 ·apply int_int <;> assumption
 ·apply int_str <;> assumption
 ·apply int_tuple <;> assumption
 ·apply int_list <;> assumption
 ·apply str_none <;> assumption
 ·apply str_bool <;> assumption
 ·apply str_int <;> assumption
 ·apply str_str <;> assumption
 ·apply str_tuple <;> assumption
 ·apply str_list <;> assumption
 ·apply tuple_none <;> assumption
 ·apply tuple_bool <;> assumption
 ·apply tuple_int <;> assumption
 ·apply tuple_str <;> assumption
 ·apply tuple_list <;> assumption
 ·apply list_none <;> assumption
 ·apply list_bool <;> assumption
 ·apply list_int <;> assumption
 ·apply list_str <;> assumption
 ·apply list_tuple <;> assumption
open SeqAt.RcNeAt in
theorem aef {s:ZG}{A:Bx}{w u:W}{a b:Yk}(hu:A.units<HF)(k1:Kd s w a)(k2:Kd s u b)(h:o9 w u=false):SeqAt.RcNeAt A s a b (!Cp w u):=by
 cases k1 <;> cases k2 <;> try (first | (cases h;done))
 ·apply none_none <;> assumption
 ·apply none_bool <;> assumption
 ·apply none_int <;> assumption
 ·apply none_str <;> assumption
 ·apply none_tuple <;> assumption
 ·apply none_list <;> assumption
 ·apply bool_none <;> assumption
 ·apply bool_bool <;> assumption
 ·apply bool_int <;> assumption
 ·apply bool_str <;> assumption
 ·apply bool_tuple <;> assumption
 ·apply bool_list <;> assumption
 ·apply int_none <;> assumption
 ·apply int_bool <;> assumption
 ·apply int_int <;> assumption
 ·apply int_str <;> assumption
 ·apply int_tuple <;> assumption
 ·apply int_list <;> assumption
 ·apply str_none <;> assumption
 ·apply str_bool <;> assumption
 ·apply str_int <;> assumption
 ·apply str_str <;> assumption
 ·apply str_tuple <;> assumption
 ·apply str_list <;> assumption
 ·apply tuple_none <;> assumption
 ·apply tuple_bool <;> assumption
 ·apply tuple_int <;> assumption
 ·apply tuple_str <;> assumption
 ·apply tuple_list <;> assumption
 ·apply list_none <;> assumption
 ·apply list_bool <;> assumption
 ·apply list_int <;> assumption
 ·apply list_str <;> assumption
 ·apply list_tuple <;> assumption
theorem uW:∀ {w u:W},o9 w u=true->(∃ ws us,w=.tup ws/\u=.tup us)\/∃ ws us,w=.lst ws/\u=.lst us
 | .tup ws,.tup us,_=>.inl ⟨ws,us,rfl,rfl⟩
 | .lst ws,.lst us,_=>.inr ⟨ws,us,rfl,rfl⟩
def wV:V->W
 | .bl b=>.bl b
 | .int b=>.int b
 | .str b=>.str b
 | _=>.non
theorem Xu {v x:V}(h:DX v=true)(g:DX x=true):Cp (wV v) (wV x)=eqV v x:=by
 cases v <;> first | (cases h;done) | (cases x <;> first | (cases g;done) | rfl)
theorem Kh {w:W}{v:V}(d:Dt K H w v)(h:sq1 w=false):DX v=true/\w=wV v:=by
 cases w with
 | tup _=>cases h
 | lst _=>cases h
 | non=>rw [Dt] at d;subst d;exact ⟨rfl,rfl⟩
 | bl _=>rw [Dt] at d;subst d;exact ⟨rfl,rfl⟩
 | int _=>rw [Dt] at d;subst d;exact ⟨rfl,rfl⟩
 | str _=>rw [Dt] at d;subst d;exact ⟨rfl,rfl⟩
 | _=>rw [Dt] at d;exact d.elim
theorem J1 {s:ZG}{A:Bx}{w u:W}{v x:V}{a b:Yk}(dw:Dt K H w v)(du:Dt K H u x)(hf:Vy w u=true)(ra:RelV v a)(rb:RelV x b):Rb A s a b (Cp w u):=by
 have hf:=Bool.or_eq_false_iff.mp (Eq.mp (Bool.not_eq_true' _) hf);have ⟨f1,e1⟩:=Kh dw hf.1;have ⟨f2,e2⟩:=Kh du hf.2;rw [e1,e2,Xu f1 f2];exact aex ra rb f1 f2
theorem J9 {afG:List (Addr×Obj)}{s:ZG}{Z : St}(I:AP X afG Z H s){n:Nat}{A:Bx}{w u:W}{v x:V}{a b:Yk}(ih:∀ {w u:W} {v x:V} {a b:Yk},Dt X.K H w v->Dt X.K H u x->DW n w=true->DW n u=true->RelV v a->RelV x b->Rb A.in1 s a b (Cp w u))(hu:A.units<HF)(h2:o9 w u=true)(dw:Dt X.K H w v)(du:Dt X.K H u x)(pw:DW (n+1) w=true)(pu:DW (n+1) u=true)(ra:RelV v a)(rb:RelV x b):∃ p q,v=.ref p/\x=.ref q/\a=.ref p/\b=.ref q/\SeqAt.RcAt A s a b (Cp w u)/\SeqAt.RcNeAt A s a b (!Cp w u):=by
 rcases uW h2 with ⟨ws,us,rfl,rfl⟩ | ⟨ws,us,rfl,rfl⟩ <;> rw [Dt] at dw du <;> obtain ⟨p,xs1,rfl,hs1,ds1⟩:=dw <;> obtain ⟨q,xs2,rfl,hs2,ds2⟩:=du <;> cases ra <;> cases rb <;> refine ⟨p,q,rfl,rfl,rfl,rfl,?_⟩ <;> rw [Cp] <;> rw [DW] at pw pu
 ·obtain ⟨its1,rv1,q1,_⟩:=I.tuple hs1;obtain ⟨its2,rv2,q2,_⟩:=I.tuple hs2;have it:=zQ ds1 ds2 pw pu rv1 rv2 ih;rw [<-abH,<-size_of ds1 rv1,<-size_of ds2 rv2];exact ⟨.tuples q1 q2 hu it,.tuples q1 q2 hu it⟩
 ·obtain ⟨its1,rv1,q1,_⟩:=I.list hs1;obtain ⟨its2,rv2,q2,_⟩:=I.list hs2;by_cases hl:ws.length=us.length
  ·have it:=zQ ds1 ds2 pw pu rv1 rv2 ih;have e:its1.toArray.size=its2.toArray.size:=by rw [size_of ds1 rv1,size_of ds2 rv2,hl]
   rw [<-rQ hl,<-size_of ds1 rv1];exact ⟨.lists q1.isList q2.isList e hu it,.lists q1.isList q2.isList e hu it⟩
  ·rw [tX hl];have e:(its1.toArray.size != its2.toArray.size)=true:=by rw [size_of ds1 rv1,size_of ds2 rv2];exact bne_iff_ne.mpr hl
   exact ⟨.lists_lengths q1.isList q2.isList e hu,.lists_lengths q1.isList q2.isList e hu⟩
theorem Es {w u:W}(h:o9 w u=true):∀ {n:Nat},DW n w=true->∃ m,n=m+1
 | 0,p=>by rcases uW h with ⟨_,_,rfl,_⟩ | ⟨_,_,rfl,_⟩ <;> cases p
 | m+1,_=>⟨m,rfl⟩
theorem V6 {afG:List (Addr×Obj)}{s:ZG}{Z : St}(I:AP X afG Z H s):∀ (n:Nat) {A:Bx} {w u:W} {v x:V} {a b:Yk},A.units+n<HF->Dt X.K H w v->Dt X.K H u x->DW n w=true->DW n u=true->RelV v a->RelV x b->Rb A s a b (Cp w u):=by
 intro n;induction n with
 | zero=>
  intro A w u v x a b hu dw du pw pu ra rb;by_cases hf:Vy w u=true
  ·exact J1 dw du hf ra rb
  by_cases h2:o9 w u=true
  ·obtain ⟨m,e⟩:=Es h2 pw;cases e
  ·exact KQ hu (vm I dw ra) (vm I du rb) (Rp _ ▸ h2)<|Rp _ ▸ hf
 | succ n ih=>
  intro A w u v x a b hu dw du pw pu ra rb;by_cases hf:Vy w u=true
  ·exact J1 dw du hf ra rb
  by_cases h2:o9 w u=true
  ·have hu':=Mw (Ro _ _) hu;obtain ⟨p,q,rfl,rfl,rfl,rfl,z,_⟩:=J9 I (ih (A:=A.in1) (by rw [in1_units,Nat.add_assoc,Nat.add_comm 1];exact hu)) hu' h2 dw du pw pu ra rb;by_cases hp:p=q
   ·subst hp;rw [yE I dw du];exact SeqAt.EqAt.same _
   ·exact SeqAt.EqAt.of_refs hp z
  ·exact KQ (Mw (Ro _ _) hu) (vm I dw ra) (vm I du rb) (Rp _ ▸ h2)<|Rp _ ▸ hf
theorem rcN {afG:List (Addr×Obj)}{s:ZG}{Z : St}(I:AP X afG Z H s){A:Bx}{w u:W}{v x:V}{a b:Yk}{p:Prop}(hu:A.units+(m+1)<HF)(hu':A.units<HF)(h2:o9 w u=true)(dw:Dt X.K H w v)(du:Dt X.K H u x)(pw:DW (m+1) w=true)(pu:DW (m+1) u=true)(ra:RelV v a)(rb:RelV x b)(f:SeqAt.RcAt A s a b (Cp w u)/\SeqAt.RcNeAt A s a b (!Cp w u)->p):p:=by
 obtain ⟨_,_,_,_,_,_,z⟩:=J9 I (V6 I m (A:=A.in1) (by rw [in1_units,Nat.add_assoc,Nat.add_comm 1];exact hu)) hu' h2 dw du pw pu ra rb;exact f z
theorem Wk {afG:List (Addr×Obj)}{s:ZG}{Z : St}(I:AP X afG Z H s)(n:Nat){A:Bx}{w u:W}{v x:V}{a b:Yk}(hu:A.units+n<HF)(dw:Dt X.K H w v)(du:Dt X.K H u x)(pw:DW n w=true)(pu:DW n u=true)(ra:RelV v a)(rb:RelV x b):SeqAt.RcAt A s a b (Cp w u):=by
 have hu':=Mw (Ro _ _) hu;by_cases h2:o9 w u=true
 ·obtain ⟨m,rfl⟩:=Es h2 pw;exact rcN I hu hu' h2 dw du pw pu ra rb (·.1)
 ·exact Vl hu' (vm I dw ra) (vm I du rb)<|Rp _ ▸ h2
theorem abv {afG:List (Addr×Obj)}{s:ZG}{Z : St}(I:AP X afG Z H s)(n:Nat){A:Bx}{w u:W}{v x:V}{a b:Yk}(hu:A.units+n<HF)(dw:Dt X.K H w v)(du:Dt X.K H u x)(pw:DW n w=true)(pu:DW n u=true)(ra:RelV v a)(rb:RelV x b):SeqAt.RcNeAt A s a b (!Cp w u):=by
 have hu':=Mw (Ro _ _) hu;by_cases h2:o9 w u=true
 ·obtain ⟨m,rfl⟩:=Es h2 pw;exact rcN I hu hu' h2 dw du pw pu ra rb (·.2)
 ·exact aef hu' (vm I dw ra) (vm I du rb)<|Rp _ ▸ h2
def Mx (h:Gh):W->Option W
 | .loc n=>(match h.c n with
  | some (.lst ws)=>Mk (.lst ws)
  | _=>YK)
 | w=>Mk w
theorem rO {w d:W}{v:V}{n:Nat}(R:Bq K μ H h)(r:kI K H μ w v)(e:Mx h w=Mk d)(p:DW n d=true):Dt K H d v:=by
 have other:Mx h w=Mk w->Dt K H d v:=fun z=>by
  rw [z] at e;cases e;exact Uz n r p
 cases w with
 | loc m=>
  unfold Mx at e;dsimp only at e;cases ec:h.c m with
  | none=>rw [ec] at e;cases e
  | some cl=>
   rw [ec] at e;cases cl with
   | lst us=>
    cases (show Mk (W.lst us)=Mk d from e)
    obtain ⟨p',xs,hm',hx,rs⟩:=R.lstAt ec;rw [kI] at r;obtain ⟨q,ev,hm⟩:=r;have ep:p'=q:=by rw [hm] at hm';exact (Eb hm').symm
    subst ep;obtain ⟨k,rfl,p⟩:=abq p;rw [Dt];exact ⟨p',xs,ev,.of hx,zu (Uz k) rs p⟩
   | _=>cases e
 | _=>exact other rfl
def Y6 (K:Ar)(neg:Bool):R2:=fun x y H Q=>∃ w u,Dt K H w x/\Dt K H u y/\DW 30 w=true/\DW 30 u=true/\Q (.bl (if neg then !Cp w u else Cp w u)) H
theorem adC (hu:X.A.units+30<HF):HJ X (Jq .Eq) (Y6 X.K false):=by
 intro afG s Z H x y v u Q I rx ry ⟨w,w',d1,d2,p1,p2,q⟩;exact Wk I 30 hu d1 d2 p1 p2 rx ry X.prog X.w X.xe _<|qY I q rfl
theorem Ux (hu:X.A.units+30<HF):HJ X (Jq .NotEq) (Y6 X.K true):=by
 intro afG s Z H x y v u Q I rx ry ⟨w,w',d1,d2,p1,p2,q⟩;exact abv I 30 hu d1 d2 p1 p2 rx ry X.prog X.w X.xe _<|qY I q rfl
def Jv:M2:=fun x y h Q=>match Mx h x,Mx h y with
 | some a,Mk b=>GF (DW 30 a&&DW 30 b) (Q (.bl (Cp a b)) h) False
 | _,_=>False
def Ii:M2:=fun x y h Q=>match Mx h x,Mx h y with
 | some a,Mk b=>GF (DW 30 a&&DW 30 b) (Q (.bl (!Cp a b)) h) False
 | _,_=>False
theorem KZ (hu:X.A.units+30<HF):Le X (Jq .Eq) Jv:=⟨_,adC hu,by
 intro H μ h x y wx wy Qw Q R rx ry m k;unfold Jv at m;split at m
 ·rename_i a b ea eb;cases hp:(DW 30 a&&DW 30 b) with
  | true=>
   rw [hp] at m;rw [Lw] at hp;exact ⟨a,b,rO R rx ea hp.1,rO R ry eb hp.2,hp.1,hp.2,k _ _<|.bl R m⟩
  | false=>rw [hp] at m;exact (show False from m).elim
 ·exact m.elim⟩
theorem G5 (hu:X.A.units+30<HF):Le X (Jq .NotEq) Ii:=⟨_,Ux hu,by
 intro H μ h x y wx wy Qw Q R rx ry m k;unfold Ii at m;split at m
 ·rename_i a b ea eb;cases hp:(DW 30 a&&DW 30 b) with
  | true=>
   rw [hp] at m;rw [Lw] at hp;exact ⟨a,b,rO R rx ea hp.1,rO R ry eb hp.2,hp.1,hp.2,k _ _<|.bl R m⟩
  | false=>rw [hp] at m;exact (show False from m).elim
 ·exact m.elim⟩
theorem jD {A:Bx}{k:Nat}(hr:mQ k A):A.units+30<HF:=by have:=hr.units;lia
end
section
variable {X:Cx}{K:Ar}
theorem jP {H:Hp}{w:W}{vs:List V}(r:aO K H μ [w] vs):∃ v,vs=[v]/\kI K H μ w v:=by
 rw [aO] at r;obtain ⟨v,vr,ev,ra,r⟩:=r;rw [aO] at r;subst r;exact ⟨v,ev,ra⟩
theorem Ak {H:Hp}{w u:W}{vs:List V}(r:aO K H μ [w,u] vs):∃ v x,vs=[v,x]/\kI K H μ w v/\kI K H μ u x:=by
 rw [aO] at r;obtain ⟨v,vr,ev,ra,r⟩:=r;obtain ⟨x,e,rb⟩:=jP r;subst e;exact ⟨v,x,ev,ra,rb⟩
theorem p8.of {i j:Int}{n:Nat}(hi:Sm m i)(hj:Sm n j)(hm:m<=1000000)(hn:n<=1000000):p8 i j:=⟨m,n,hm,hn,hi,hj⟩
theorem Sm.lit {i:Int}(h:Nat.ble (i.natAbs+1) (2^64)=true):Sm 64 i:=by
 have:=Nat.le_of_ble_eq_true h
 unfold Sm;lia
def Hj:MC:=fun ws h Q=>match ws with
 | [w]=>(match view h w with
  | some xs=>Q (.int (xs.length:Int)) h
  | none=>False)
 | _=>False
theorem xO:lO X (.builtin "len") Hj:=⟨_,vV,by
 intro H μ h vs ws Qw Q R r m k;unfold Hj at m;split at m
 ·split at m
  ·rename_i w _ xs ev;obtain ⟨v,e,rv⟩:=jP r;obtain ⟨p,ys,ex,hs,rs⟩:=xq R rv ev;subst e ex;exact ⟨p,ys,rfl,hs,by rw [<-rs.len];exact k _ _ (.int R m)⟩
  ·exact m.elim
 ·exact m.elim⟩
def Zb:MC:=fun ws h Q=>match ws with
 | [.int i]=>Q (.int (if i<0 then -i else i)) h
 | _=>False
def G6:List W->Option (List Bool)
 | []=>Mk []
 | .bl b::ws=>(G6 ws).map (b::·)
 | _=>YK
theorem xU {H:Hp}{μ : Mu}:∀ {ws:List W} {xs:List V} {bs:List Bool},aO K H μ ws xs->G6 ws=Mk bs->xs=bs.map V.bl
 | [],xs,bs,r,e=>by
  rw [aO] at r;cases (show Mk []=Mk bs from e)
  exact r
 | w::ws,xs,bs,r,e=>by
  rw [aO] at r;obtain ⟨v,vr,ev,ra,r⟩:=r;cases w with
  | bl b=>
   rw [kI] at ra;rw [G6] at e;cases q:G6 ws with
   | none=>rw [q] at e;cases e
   | some cs=>
    rw [q] at e;cases (show Mk (b::cs)=Mk bs from e)
    rw [ev,ra,xU r q];rfl
  | _=>cases e
def Vg:MC:=fun ws h Q=>match ws with
 | [w]=>(match eH h w with
  | some us=>(match G6 us with
   | some bs=>Q (.bl (bs.all id)) h
   | none=>False)
  | none=>False)
 | _=>False
theorem Xl (hc:X.calm=true):lO X (.builtin "all") Vg:=⟨_,aao hc,by
 intro H μ h vs ws Qw Q R r m k;unfold Vg at m;split at m
 ·split at m
  ·split at m
   ·rename_i w _ us ev _ bs eb;obtain ⟨v,e,rv⟩:=jP r;obtain ⟨p,ys,ex,hs,rs⟩:=cR R rv ev;subst e ex;exact ⟨p,bs,rfl,by rw [<-xU rs eb];exact hs,k _ _<|.bl R m⟩
   ·exact m.elim
  ·exact m.elim
 ·exact m.elim⟩
def Vv (h:Gh)(w:W)(T:String):Option Bool:=match w with
 | .int _=>if T = "int" then Mk true else if T = "bool"\/T = "tuple"\/T = "list" then Mk false else YK
 | .bl _=>if T = "int"\/T = "bool" then Mk true else if T = "tuple"\/T = "list" then Mk false else YK
 | .str _=>if T = "int"\/T = "bool"\/T = "tuple"\/T = "list" then Mk false else YK
 | .non=>if T = "int"\/T = "bool"\/T = "tuple"\/T = "list" then Mk false else YK
 | .tup _=>if T = "tuple" then Mk true else if T = "int"\/T = "bool"\/T = "list" then Mk false else YK
 | w=>(match eH h w with
  | some _=>if T = "list" then Mk true else if T = "int"\/T = "bool"\/T = "tuple" then Mk false else YK
  | none=>YK)
theorem abw {H:Hp}{h:Gh}{w:W}{v:V}{T:String}{b:Bool}(R:Bq K μ H h)(r:kI K H μ w v)(e:Vv h w T=Mk b):YD K H v T b:=by
 unfold Vv at e;split at e
 ·rw [kI] at r;subst r;split at e
  ·rename_i t;subst t;cases e;exact .inl ⟨rfl,rfl⟩
  ·split at e
   ·rename_i t;cases e;rcases t with t | t | t <;> subst t
    ·exact .inr<|.inl ⟨rfl,rfl⟩
    ·exact .inr<|.inr<|.inl ⟨rfl,rfl⟩
    ·exact .inr<|.inr<|.inr ⟨rfl,rfl⟩
   ·cases e
 ·rw [kI] at r;subst r;split at e
  ·rename_i t;cases e;rcases t with t | t <;> subst t
   ·exact .inl ⟨rfl,rfl⟩
   ·exact .inr<|.inl ⟨rfl,rfl⟩
  ·split at e
   ·rename_i t;cases e;rcases t with t | t <;> subst t
    ·exact .inr<|.inr<|.inl ⟨rfl,rfl⟩
    ·exact .inr<|.inr<|.inr ⟨rfl,rfl⟩
   ·cases e
 ·rw [kI] at r;subst r;split at e
  ·rename_i t;cases e;rcases t with t | t | t | t <;> subst t
   ·exact .inl ⟨rfl,rfl⟩
   ·exact .inr<|.inl ⟨rfl,rfl⟩
   ·exact .inr<|.inr<|.inl ⟨rfl,rfl⟩
   ·exact .inr<|.inr<|.inr ⟨rfl,rfl⟩
  ·cases e
 ·rw [kI] at r;subst r;split at e
  ·rename_i t;cases e;rcases t with t | t | t | t <;> subst t
   ·exact .inl ⟨rfl,rfl⟩
   ·exact .inr<|.inl ⟨rfl,rfl⟩
   ·exact .inr<|.inr<|.inl ⟨rfl,rfl⟩
   ·exact .inr<|.inr<|.inr ⟨rfl,rfl⟩
  ·cases e
 ·rw [kI] at r;obtain ⟨p,xs,ev,hs,_⟩:=r;subst ev;refine .inl ⟨xs,hs,?_⟩;split at e
  ·rename_i t;subst t;cases e;exact .inr (.inr (.inl ⟨rfl,rfl⟩))
  ·split at e
   ·rename_i t;cases e;rcases t with t | t | t <;> subst t
    ·exact .inl ⟨rfl,rfl⟩
    ·exact .inr<|.inl ⟨rfl,rfl⟩
    ·exact .inr<|.inr<|.inr ⟨rfl,rfl⟩
   ·cases e
 ·split at e
  ·rename_i ws ev;obtain ⟨p,xs,ex,hs,_⟩:=cR R r ev;subst ex;refine .inr ⟨xs,hs,?_⟩;split at e
   ·rename_i t;subst t;cases e;exact .inr (.inr (.inr ⟨rfl,rfl⟩))
   ·split at e
    ·rename_i t;cases e;rcases t with t | t | t <;> subst t
     ·exact .inl ⟨rfl,rfl⟩
     ·exact .inr<|.inl ⟨rfl,rfl⟩
     ·exact .inr<|.inr<|.inl ⟨rfl,rfl⟩
    ·cases e
  ·cases e
def JF:MC:=fun ws h Q=>match ws with
 | [w,.ty T]=>(match Vv h w T with
  | some b=>Q (.bl b) h
  | none=>False)
 | _=>False
theorem Dm:lO X (.builtin "isinstance") JF:=⟨_,aaK,by
 intro H μ h vs ws Qw Q R r m k;unfold JF at m;split at m
 ·split at m
  ·rename_i w T _ b eb;obtain ⟨v,x,e,rv,rx⟩:=Ak r;have hi:=abw R rv eb;rw [kI] at rx;subst e rx;exact ⟨v,T,b,rfl,hi,k _ _<|.bl R m⟩
  ·exact m.elim
 ·exact m.elim⟩
def gQ:MC:=fun ws h Q=>match ws with
 | [.tup us]=>Q (.tup us) h
 | [w]=>(match eH h w with
  | some us=>Q (.tup us) h
  | none=>False)
 | _=>False
theorem fZ:lO X (.type "tuple") gQ:=⟨_,rT,by
 intro H μ h vs ws Qw Q R r m k;unfold gQ at m;split at m
 ·obtain ⟨v,e,rv⟩:=jP r;have rv':=rv;rw [kI] at rv;obtain ⟨p,xs,ex,hs,rs⟩:=rv;subst e ex;exact ⟨p,xs,rfl,.inr ⟨hs,k _ _ ⟨μ,_,h,.refl,R,rv',m⟩⟩⟩
 ·split at m
  ·rename_i w _ _ us ev;obtain ⟨v,e,rv⟩:=jP r;obtain ⟨p,ys,ex,hs,rs⟩:=cR R rv ev;subst e ex;exact ⟨p,ys,rfl,.inl ⟨hs,fun l hl=>k _ _ ⟨μ,_,h,(Ex.laid hl).ext,R.laid hl,.tupNew hl rs,m⟩⟩⟩
  ·exact m.elim
 ·exact m.elim⟩
abbrev MM:=W->List W->Gh->WK->Prop
def Ys (K:Ar)(r:V->List V->Hp->VK->Prop)(mr:MM):Prop:=∀ {H:Hp} {μ : Mu} {h:Gh} {x:V} {vs:List V} {wx:W} {ws:List W} {Qw:WK} {Q:VK},Bq K μ H h->kI K H μ wx x->aO K H μ ws vs->mr wx ws h Qw->(∀ v H',DQ K H μ Qw v H'->Q v H')->r x vs H Q
def Ah (h:Gh)(w:W)(P:Prop):Prop:=match w with
 | .loc n=>(match h.c n with
  | some (.lst _)=>P
  | _=>False)
 | _=>False
theorem yj {H:Hp}{h:Gh}{w:W}{v:V}{P:Prop}(R:Bq K μ H h)(r:kI K H μ w v)(e:Ah h w P):tyV K "list" v H/\P:=by
 unfold Ah at e;split at e
 ·split at e
  ·rename_i n _ ws ec;rw [kI] at r;obtain ⟨p,ev,hm⟩:=r;obtain ⟨p',xs,hm',hx,rs⟩:=R.lstAt ec;have ep:p'=p:=by rw [hm] at hm';exact (Eb hm').symm
   subst ep ev;exact ⟨.inl ⟨rfl,xs,.of hx⟩,e⟩
  ·exact e.elim
 ·exact e.elim
def J5 (r:MM)(mo:ME)(ma:MA):ME:=fun Z h Q=>mo Z h fun x h1=>Ah h1 x (ma Z h1 fun xs h2=>r x xs h2 Q)
variable {o e:Expr}{es:List Expr}{ma:MA}{name:Str}{apos afJ:Pos}{id:String}{r:V->List V->Hp->VK->Prop}{mr:MM}
theorem ZK (slot:Slot "list" name id)(hty:typeOf (.builtin id)=pure (.type "method_descriptor"))(hm:MtR X id r)(hs:Ys X.K r mr)(ho:DE X o mo)(ha:IV X (e::es) ma)
  (hbase:QF o name X.env (eval o X.env)=eval o X.env:=by rfl)
  (hfew:((En afJ (Bo (e::es) X.env)).all (fun x=>!x.1)&&(backToKw afJ (QJ [] X.env)).all (fun x=>x.1.isSome)
   && decide ((e::es).length+([]:List Jx).length+(if ([]:List Jx).isEmpty then 0 else 1)<30))=true:=by rfl)
  (hline:(apos.endLine==afJ.line)=true:=by rfl) (hst:Bo (e::es) X.env=(false,eval e X.env)::Bo es X.env:=by rfl) (hplain:(En afJ (Bo es X.env)).any (·.1)=false:=by rfl) :
  DE X (.Call (.Attribute o name apos) (e::es) [] afJ) (J5 mr mo ma):=(Yb PySem.F.plainAttrs_list slot hty hm ho ha hbase hfew hline hst hplain).of fun Z H Q ⟨μ,h,Zw,Qw,R,S,m,k⟩=>by
 refine ⟨μ,h,Zw,_,R,S,m,fun v H1 ⟨μ1,w,h1,e1,R1,r1,il⟩=>⟨(yj R1 r1 il).1,?_⟩⟩;have m1:=(yj R1 r1 il).2;exact ⟨μ1,h1,Zw,_,R1,S.ext e1,m1,fun vs H2 ⟨μ2,ws,h2,e2,R2,r2,m2⟩=>hs R2 (e2.r _ _ r1) r2 m2 fun v H' z=>k _ _<|(z.trans e2).trans e1⟩
def fB:MM:=fun x ws h Q=>match x,ws with
 | .loc n,[w]=>(match h.c n with
  | some (.lst us)=>us.length<CR/\Q .non (h.set n (.lst (us++[w])))
  | _=>False)
 | _,_=>False
theorem Ua {H:Hp}{h:Gh}{n:Nat}{v:V}{us:List W}(R:Bq K μ H h)(r:kI K H μ (.loc n) v)(ec:h.c n=Mk (.lst us)):∃ p xs,v=.ref p/\μ.f n=Mk p/\H p=Mk (.lst xs)/\aO K H μ us xs:=by
 rw [kI] at r;obtain ⟨p,ev,hm⟩:=r;obtain ⟨p',xs,hm',hx,rs⟩:=R.lstAt ec;have ep:p'=p:=by rw [hm] at hm';exact (Eb hm').symm
 subst ep;exact ⟨p',xs,ev,hm,hx,rs⟩
theorem DQ.wrote {H:Hp}{h:Gh}{n:Nat}{us:List W}{xs:List V}{Q:WK}{w:W}{v:V}(R:Bq K μ H h)(hm:μ.f n=Mk p)(rs:aO K H μ us xs)(rw':kI K H μ w v)(q:Q w (h.set n (.lst us))):DQ K H μ Q v (CJ H p (.lst xs)):=
 ⟨μ,w,h.set n (.lst us),(Ex.write R hm).ext,R.write hm trivial ⟨xs,bf,(Ex.write R hm).ext.s rs⟩,(Ex.write R hm).ext.r _ _ rw',q⟩
theorem aaW:Ys K Dp fB:=by
 intro H μ h x vs wx ws Qw Q R rx rs m k;unfold fB at m;split at m
 ·split at m
  ·rename_i n w _ us ec;obtain ⟨p,xs,ex,hm,hx,r1⟩:=Ua R rx ec;obtain ⟨v,ev,rv⟩:=jP rs;exact ⟨p,xs,v,ex,ev,hx,by rw [<-r1.len];exact m.1,k _ _<|.wrote R hm (r1.append<|.one rv) (by rw [kI]) m.2⟩
  ·exact m.elim
 ·exact m.elim
theorem jQ (ho:DE X o mo)(ha:IV X [e] ma)
  (hbase:QF o "append" X.env (eval o X.env)=eval o X.env:=by rfl)
  (hfew:((En afJ (Bo [e] X.env)).all (fun x=>!x.1)&&(backToKw afJ (QJ [] X.env)).all (fun x=>x.1.isSome)
   && decide (([e]:List Expr).length+([]:List Jx).length+(if ([]:List Jx).isEmpty then 0 else 1)<30))=true:=by rfl)
  (hline:(apos.endLine==afJ.line)=true:=by rfl) (hst:Bo [e] X.env=(false,eval e X.env)::Bo [] X.env:=by rfl) (hplain:(En afJ (Bo [] X.env)).any (·.1)=false:=by rfl) :
  DE X (.Call (.Attribute o "append" apos) [e] [] afJ) (J5 fB mo ma):=ZK PySem.F.slot_list_append PySem.F.type_list_append vo aaW ho ha hbase hfew hline hst hplain
end
section
variable {X:Cx}{K:Ar}
theorem acZ:HJ X (Jq .Is) (fun x y H Q=>∃ c b,x=.bl c/\y=.bl b/\Q (.bl (c==b)) H):=by
 intro afG s Z H x y v u Q I rx ry ⟨c,b,ex,ey,q⟩;subst ex ey;cases rx;cases ry;exact is_bool<|qY I q rfl
theorem aaY:HJ X (Jq .IsNot) (fun x y H Q=>∃ c b,x=.bl c/\y=.bl b/\Q (.bl (!(c==b))) H):=by
 intro afG s Z H x y v u Q I rx ry ⟨c,b,ex,ey,q⟩;subst ex ey;cases rx;cases ry;exact BP<|qY I q (by cases c <;> cases b <;> rfl)
def Hw:W->Bool
 | .non=>true
 | _=>false
theorem Gd {H:Hp}{w:W}{v:V}(r:kI K H μ w v):decide (v=.non)=Hw w:=by
 cases w with
 | non=>rw [kI] at r;subst r;rfl
 | bl _=>rw [kI] at r;subst r;rfl
 | int _=>rw [kI] at r;subst r;rfl
 | str _=>rw [kI] at r;subst r;rfl
 | ty _=>rw [kI] at r;subst r;rfl
 | tup _=>rw [kI] at r;obtain ⟨_,_,e,_⟩:=r;subst e;rfl
 | lst _=>rw [kI] at r;obtain ⟨_,_,e,_⟩:=r;subst e;rfl
 | kls _=>rw [kI] at r;obtain ⟨_,_,e,_⟩:=r;subst e;rfl
 | loc _=>rw [kI] at r;obtain ⟨_,e,_⟩:=r;subst e;rfl
 | exc _=>rw [kI] at r;obtain ⟨_,_,_,e,_⟩:=r;subst e;rfl
 | exa _ _=>rw [kI] at r;obtain ⟨_,_,_,_,_,_,e,_⟩:=r;subst e;rfl
 | fnv _ _=>rw [kI] at r;subst r;rfl
def kIs:M2:=fun x y h Q=>match x,y with
 | .bl c,.bl b=>Q (.bl (c==b)) h
 | w,.non=>Q (.bl (Hw w)) h
 | _,_=>False
def Bb:M2:=fun x y h Q=>match x,y with
 | .bl c,.bl b=>Q (.bl (!(c==b))) h
 | w,.non=>Q (.bl (!Hw w)) h
 | _,_=>False
theorem ZF:Le X (Jq .Is) kIs:=⟨_,acZ.or aed,by
 intro H μ h x y wx wy Qw Q R rx ry m k;unfold kIs at m;split at m
 ·rw [kI] at rx ry;exact .inl ⟨_,_,rx,ry,k _ _<|.bl R m⟩
 ·rw [<-Gd rx] at m;rw [kI] at ry;exact .inr ⟨ry,k _ _<|.bl R m⟩
 ·exact m.elim⟩
theorem Kr:Le X (Jq .IsNot) Bb:=⟨_,aaY.or abV,by
 intro H μ h x y wx wy Qw Q R rx ry m k;unfold Bb at m;split at m
 ·rw [kI] at rx ry;exact .inl ⟨_,_,rx,ry,k _ _<|.bl R m⟩
 ·rw [<-Gd rx] at m;rw [kI] at ry;exact .inr ⟨ry,k _ _<|.bl R m⟩
 ·exact m.elim⟩
theorem aaJ (bs:List Bool):((Hz bs.length).any fun i=>(bs[i]?).getD true)=bs.any id:=by
 rw [QM,P0,P0];constructor
 ·rintro ⟨i,hi,e⟩;have hi':=Nu.mp hi;exact ⟨bs[i],PB hi',by simpa [hi'] using e⟩
 ·rintro ⟨b,hb,e⟩;obtain ⟨i,hi,rfl⟩:=RX.mp hb;exact ⟨i,Nu.mpr hi,by simpa [hi] using e⟩
theorem zaA (hc:X.calm=true):jo X (.builtin "any") (fun xs H Q=>∃ (p:Addr) (bs:List Bool),xs=[.ref p]/\GK X.K H p (bs.map V.bl)/\Q (.bl (bs.any id)) H):=by
 intro afG s Z H xs us Q I r ⟨p,bs,e,hS,q⟩;subst e;obtain ⟨u,rfl,ru⟩:=vals1 r;cases ru;obtain ⟨its,rv,pl,hz⟩:=I.list hS;have afI:its.length=bs.length:=by rw [<-rv.length,Cm]
 have hl:=pl.isList;have hlt:p<s.heap.objs.size:=by obtain ⟨_,e,_⟩:=hl;exact CK e
 refine call_any_walk<|RL hl ?_
 refine ⟨s.heap.objs.size,[s.heap.objs.size,p],[s.heap.objs.size],its.toArray.size,_,_,fun i=>(bs[i]?).getD true,rfl,Walks.list (A:=X.A.in1) (I.ok.hd hc) _ p (Fw hlt) its.toArray,
  ⟨⟨_,Ej _ rfl,rfl,rfl⟩,hl.push _⟩,fun i v s' Q' E' hP hQ=>?_,fun h' tk hk=>?_⟩
 ·obtain ⟨b,e,rfl⟩:=nO rv (by simpa using hP);simp only [e,T4] at hQ;exact RM hQ
 ·have e:((Hz its.toArray.size).any fun i=>(bs[i]?).getD true)=bs.any id:=by
   rw [Gm,afI];exact aaJ bs
  rw [e];refine ⟨.bl<|bs.any id,H,I.kept (h':=h') (t':=tk)<|fun b x e=>?_,rfl,q⟩;exact hk b x (fun hm=>by rw [Fd.mp hm] at e;exact M4 _ (CK e))<|CT _ e
def U0:MC:=fun ws h Q=>match ws with
 | [w]=>(match eH h w with
  | some us=>(match G6 us with
   | some bs=>Q (.bl (bs.any id)) h
   | none=>False)
  | none=>False)
 | _=>False
theorem Wa (hc:X.calm=true):lO X (.builtin "any") U0:=⟨_,zaA hc,by
 intro H μ h vs ws Qw Q R r m k;unfold U0 at m;split at m
 ·split at m
  ·split at m
   ·rename_i w _ us ev _ bs eb;obtain ⟨v,e,rv⟩:=jP r;obtain ⟨p,ys,ex,hs,rs⟩:=cR R rv ev;subst e ex;exact ⟨p,bs,rfl,by rw [<-xU rs eb];exact hs,k _ _<|.bl R m⟩
   ·exact m.elim
  ·exact m.elim
 ·exact m.elim⟩
theorem aeR:HJ X (Iu .Add) (fun x y H Q=>∃ a b ys,x=.ref a/\y=.ref b/\Ed X.K H a []/\Ed X.K H b ys/\Q (.ref b) H):=by
 intro afG s Z H x y v u Q I rx ry ⟨a,b,ys,ex,ey,ha,hb,q⟩;subst ex ey;cases rx;cases ry;obtain ⟨its,r1,p1,_⟩:=I.tuple ha;obtain ⟨jts,r2,p2,_⟩:=I.tuple hb;cases r1;obtain ⟨⟨cls,dd,data,sl⟩,ho,hc,n,hd⟩:=id p1;obtain ⟨⟨cls2,dd2,data2,sl2⟩,ho2,hc2,n2,hd2⟩:=id p2;simp only at hc hd hc2 hd2;subst hc hd hc2 hd2;exact concat_meets ⟨_,ho,rfl⟩ ⟨_,ho2,rfl⟩ noFill_tuple_add seq_tuple_add PySem.F.slot_tuple_add PySem.F.entry_tuple_add (PySem.F.args_tuple_add_2 _ _)
  (tuple_addW0 a b _ _ n n2 dd dd2 sl sl2 (by simp)) ⟨ho,ho2,⟨.ref b,H,I,rfl,q⟩⟩
def VP (h:Gh):W->Option (List W)
 | .lst ws=>Mk ws
 | .loc n=>(match h.c n with
  | some (.lst ws)=>Mk ws
  | _=>YK)
 | _=>YK
theorem Ft {H:Hp}{h:Gh}{w:W}{v:V}(R:Bq K μ H h)(r:kI K H μ w v)(e:VP h w=Mk ws):∃ p xs,v=.ref p/\H p=Mk (.lst xs)/\aO K H μ ws xs:=by
 cases w with
 | lst us=>
  rw [kI] at r;obtain ⟨p,xs,ev,hs,rs⟩:=r;cases (show Mk us=Mk ws from e)
  exact ⟨p,xs,ev,hs.1,rs⟩
 | loc n=>
  unfold VP at e;dsimp only at e;cases ec:h.c n with
  | none=>rw [ec] at e;cases e
  | some cl=>
   rw [ec] at e;cases cl with
   | lst us=>
    cases (show Mk us=Mk ws from e)
    obtain ⟨p,xs,ev,_,hx,rs⟩:=Ua R r ec;exact ⟨p,xs,ev,hx,rs⟩
   | _=>cases e
 | _=>cases e
def bL:M2:=fun x y h Q=>match x,y with
 | .int i,.int j=>Q (.int (i+j)) h
 | .tup [],.tup b=>Q (.tup b) h
 | .tup (a0::a),.tup b=>gK (a.length+1+b.length) (Q (.tup (a0::a++b)) h)
 | x,y=>(match VP h x,VP h y with
  | some a,Mk b=>gK (a.length+b.length) (Q (.lst (a++b)) h)
  | _,_=>False)
theorem bw:Le X (Iu .Add) bL:=⟨_,(Vn.or (aeR.or zbr)).or ael,by
 intro H μ h x y wx wy Qw Q R rx ry m k;unfold bL at m;split at m
 ·rw [kI] at rx ry;exact .inl<|.inl ⟨_,_,rx,ry,k _ _<|.int R m⟩
 ·rename_i b;have ry':=ry;rw [kI] at rx ry;obtain ⟨p,xs,ex,hx,r1⟩:=rx;obtain ⟨q,ys,ey,hy,r2⟩:=ry;rw [aO] at r1;subst r1;rw [ey] at ry';exact .inl<|.inr<|.inl ⟨p,q,ys,ex,ey,hx,hy,k _ _ ⟨μ,_,h,.refl,R,ry',m⟩⟩
 ·rename_i a0 a b;have rx':=rx;rw [kI] at rx ry;obtain ⟨p,xs,ex,hx,r1⟩:=rx;obtain ⟨q,ys,ey,hy,r2⟩:=ry;have sz:=m.ok.1;refine .inl<|.inr<|.inr ⟨p,q,xs,ys,ex,ey,hx,hy,fun z=>(by have:=r1.ne_nil.mp z;cases this),by rw [<-r1.len,<-r2.len];exact sz,fun z=>?_,fun z l hl=>?_⟩
  ·have eb:b=[]:=r2.ne_nil.mp z;subst eb;refine k _ _ ⟨μ,.tup (a0::a++[]),h,.refl,R,?_,m.ok.2⟩;rw [Np,<-ex];exact rx'
  ·exact k _ _ ⟨μ,_,h,(Ex.laid hl).ext,R.laid hl,.tupNew hl<|r1.append r2,m.ok.2⟩
 ·split at m
  ·rename_i a b ea eb;obtain ⟨p,xs,ex,hx,r1⟩:=Ft R rx ea;obtain ⟨q,ys,ey,hy,r2⟩:=Ft R ry eb;have sz:=m.ok.1;exact .inr ⟨p,q,xs,ys,ex,ey,hx,hy,by rw [<-r1.len,<-r2.len];exact sz,fun l hl=>k _ _ ⟨μ,_,h,(Ex.laid hl).ext,R.laid hl,.lstNew R hl<|r1.append r2,m.ok.2⟩⟩
  ·exact m.elim⟩
variable {o e:Expr}{ma:MA}{apos afJ:Pos}
end
def Hr (K:Ar):Sp:=fun vs H Q _=>∃ (a:Addr) (ns:List Int),vs=[.ref a]/\GK K H a (ns.map V.int)/\Only H/\ns.length<=63/\∀ H',Q (.bl true) H'
def g0:Gh:=⟨0,fun _=>YK⟩
def μ0:Mu:=⟨fun _=>YK,fun _=>False⟩
theorem W3 {K:Ar}{H:Hp}:Bq K μ0 H g0 where
 inj:=fun m n p h=>by cases (show (YK:Option Addr)=Mk p from h)
 dom:=fun n p h=>by cases (show (YK:Option Addr)=Mk p from h)
 trk:=fun n p h=>by cases (show (YK:Option Addr)=Mk p from h)
 cel:=fun n c h=>by cases (show (YK:Option Cell)=Mk c from h)
 hd:=fun p h=>Lz h
theorem oW {K:Ar}{H:Hp}{μ : Mu}:∀ ns:List Int,aO K H μ (ns.map W.int) (ns.map V.int)
 | []=>.nil
 | n::ns=>.cons (by rw [kI]) (oW ns)
theorem aco {P:Bs}{w:Bh}{K:Ar}{mg:Str->Option Yk}{base:Heap}{k:Nat}{f:Addr}{fd:Ei}{ps:List Str}
  (hm:∀ ns:List Int,ns.length<=63->ms [.kls (ns.map W.int)] g0 (fun w _=>w=.bl true) EF) (F:eU P w K mg base GZ k f fd ps (lift K ms)):eU P w K mg base GZ k f fd ps (Hr K):=
 F.imp fun vs H Q E ⟨a,ns,e,hS,hO,hl,q⟩=>by
  subst e;refine ⟨μ0,g0,[.kls<|ns.map W.int],_,W3,.one ?_,hm ns hl,fun v H' ⟨μ',w',h',_,_,r,e⟩=>?_⟩
  ·rw [kI];refine ⟨a,ns.map V.int,rfl,?_,oW ns⟩;rcases hS with (hS | hS) | hS
   ·rcases hO a with z | ⟨o,xs,z⟩ <;> rw [hS] at z <;> cases z
   ·exact .inl hS
   ·exact .inr hS
  ·subst e;rw [kI] at r;subst r;exact q H'
inductive Sk where
 | l | t
def Sk.sq (k:Sk)(h:Heap)(a:Addr)(its:Array Yk):Prop:=match k with
 | .l=>h.IsList a its
 | .t=>h.IsTuple a its
def Sk.it (k:Sk)(h:Heap)(i a:Addr)(n:Nat):Prop:=match k with
 | .l=>h.IsListIter i a n
 | .t=>h.IsTupleIter i a n
def Sk.nm:Sk->String
 | .l => "list_iterator"
 | .t => "tuple_iterator"
section
variable {P:Bs}{w:Bh}{A:Bx}{E:Yk->ZG->Prop}{s:ZG}{k k1 k2:Sk}
theorem Sk.it_at {h h':Heap}{i a:Addr}{n:Nat}(x:k.it h i a n)(e:∀ o,h.get? i=Mk o->h'.get? i=Mk o):k.it h' i a n:=by
 cases k with
 | l=>obtain ⟨o,ho,r⟩:=x;exact ⟨o,e o ho,r⟩
 | t=>obtain ⟨o,ho,r⟩:=x;exact ⟨o,e o ho,r⟩
theorem Sk.sq_at {h h':Heap}{a:Addr}{its:Array Yk}(x:k.sq h a its)(e:∀ o,h.get? a=Mk o->h'.get? a=Mk o):k.sq h' a its:=by
 cases k with
 | l=>obtain ⟨o,ho,r⟩:=x;exact ⟨o,e o ho,r⟩
 | t=>obtain ⟨o,ho,r⟩:=x;exact ⟨o,e o ho,r⟩
theorem Sk.it_obj {h:Heap}{i a:Addr}{n:Nat}(x:k.it h i a n):∃ o,h.get? i=Mk o/\o.cls=.type k.nm/\o.data=.fields #[.ref a,.int n 0]:=by
 cases k with
 | l=>exact x
 | t=>exact x
theorem abR {it t:Addr}{i:Nat}{its:Array Yk}{x:Yk}{Q:Yk->ZG->Prop}(hi:s.heap.IsTupleIter it t i)(ht:s.heap.IsTuple t its)(hx:its[i]?=Mk x)
  (q:∀ h',h'.IsTupleIter it t (i+1)->QB it s.heap h'->Q x { s with heap:=h' }):Al (Am P w) A (PL (.ref it)) Q E s:=by
 obtain ⟨o,go,gc,gd⟩:=id hi;obtain ⟨ol,gol,_,nl,gdl⟩:=ht;unfold PL;refine Zi (QC (name:=Oa "__next__") hi.typeIs UW
  (Nq UW hi.typeIs PySem.F.entry_tuple_iterator_next ?_ (PySem.F.args_tuple_iterator_next_1 _)))
 show Al _ _ (field (.ref it) 0 >>= _) _ _ s;refine Zi<|Ig go gd (x:=.ref t) rfl ?_
 show Al _ _ (if (Value.ref t==Value.none)=true then _ else _) _ _ s;rw [if_neg (by exact Hu)];show Al _ _ (field (.ref it) 1 >>= _) _ _ s;refine Zi<|Ig go gd (x:=.int i 0) rfl ?_
 show Al _ _ (seqItems? (.ref t) >>= _) _ _ s;refine Zi<|Od gol gdl ?_
 simp only [T6,hx];refine Zi<|Qm go gd (by simp)<|BP ⟨x,rfl,BP<|q _ ?_<|Td ..⟩
 exact ⟨_,PN _ go<|Qd<|Og gd _,(Obj.cls_mapFields ..).trans gc,by rw [Og gd];simp [JT]⟩
theorem vW {it t:Addr}{i:Nat}{its:Array Yk}{Q:Yk->ZG->Prop}(hh:A.handled=YK)(hi:s.heap.IsTupleIter it t i)(ht:s.heap.IsTuple t its)(hx:its[i]?=YK)
  (q:∀ h' e,Rf it s.heap h'->(∃ o,h'.get? e=Mk o/\o.cls=.type "StopIteration")->E (.ref e) { s with heap:=h' }):Al (Am P w) A (PL (.ref it)) Q E s:=by
 obtain ⟨o,go,gc,gd⟩:=id hi;obtain ⟨ol,gol,_,nl,gdl⟩:=ht;unfold PL;refine Zi (QC (name:=Oa "__next__") hi.typeIs UW
  (Nq UW hi.typeIs PySem.F.entry_tuple_iterator_next ?_ (PySem.F.args_tuple_iterator_next_1 _)))
 show Al _ _ (field (.ref it) 0 >>= _) _ _ s;refine Zi<|Ig go gd (x:=.ref t) rfl ?_
 show Al _ _ (if (Value.ref t==Value.none)=true then _ else _) _ _ s;rw [if_neg (by exact Hu)];show Al _ _ (field (.ref it) 1 >>= _) _ _ s;refine Zi<|Ig go gd (x:=.int i 0) rfl ?_
 show Al _ _ (seqItems? (.ref t) >>= _) _ _ s;refine Zi<|Od gol gdl ?_
 simp only [T6,hx];refine Zi<|LR<|Zi<|Qm go gd (by simp) ?_
 show Al _ _ (newExc (.type "StopIteration") [] >>= _) _ _ _;refine Zi ?_;simp only [newExc,newTuple];refine Zi<|Js ?_<|by size_fits
 refine Zi (m:=Ru _ _)<|wpAny_of_eq (a:=Value.none) (by first | rfl | (simp only [Ru];rfl)) ?_
 refine Js ?_<|by size_fits
 simp only [raiseNew];refine Zi<|wpAny_handled ?_
 first | rw [show A.in1.handled=YK from hh] | rw [hh]
 refine Zi<|BP<|wpAny_throw ?_
 exact q _ _ (((Td ..).extBut.push _).push _) ⟨_,Ej _ rfl,rfl⟩
theorem Sk.next {it a:Addr}{i:Nat}{its:Array Yk}{x:Yk}{Q:Yk->ZG->Prop}(hi:k.it s.heap it a i)(hs:k.sq s.heap a its)(hx:its[i]?=Mk x)
  (q:∀ h',k.it h' it a (i+1)->QB it s.heap h'->Q x { s with heap:=h' }):Al (Am P w) A (PL (.ref it)) Q E s:=by
 cases k with
 | l=>exact wpAny_nextOf_list_item hi hs hx q
 | t=>exact abR hi hs hx q
theorem Sk.stop {it a:Addr}{i:Nat}{its:Array Yk}{Q:Yk->ZG->Prop}(hh:A.handled=YK)(hi:k.it s.heap it a i)(hs:k.sq s.heap a its)(hx:its[i]?=YK)
  (q:∀ h' e,Rf it s.heap h'->(∃ o,h'.get? e=Mk o/\o.cls=.type "StopIteration")->E (.ref e) { s with heap:=h' }):Al (Am P w) A (PL (.ref it)) Q E s:=by
 cases k with
 | l=>exact wpAny_nextOf_list_end hh hi hs hx q
 | t=>exact vW hh hi hs hx q
theorem Sk.iter {a:Addr}{its:Array Yk}{Q:Yk->ZG->Prop}(hs:k.sq s.heap a its)
  (q:Q (.ref s.heap.objs.size) { s with heap:=s.heap.push { cls:=.type k.nm,data:=.fields #[.ref a,.int 0 0] } }):Al (Am P w) A (pyIter (.ref a)) Q E s:=by
 cases k with
 | l=>exact RL hs q
 | t=>exact wpAny_pyIter_tuple hs q
structure Zap (z TI TO i1 i2:Addr):Prop where
 a1:TI≠z
 a2:TO≠z
 a3:i1≠z
 a4:i2≠z
 a5:TI≠TO
 a6:TI≠i1
 a7:TI≠i2
 a8:TO≠i1
 a9:TO≠i2
 b1:i1≠i2
structure Off (a z TO i1 i2:Addr):Prop where
 z:a≠z
 o:a≠TO
 i:a≠i1
 j:a≠i2
theorem zaL {z TI TO i1 i2 l1 l2:Addr}{n1 n2:Nat}{xs ys:Array Yk}{x y a b:Yk}{Q:Option Yk->ZG->Prop}(D:Zap z TI TO i1 i2)(o1:Off l1 z TO i1 i2)(o2:Off l2 z TO i1 i2)
  (gz:IsZip s.heap z TI TO .none) (gI:Lf s.heap TI (.ref i1) (.ref i2)) (gO:Lf s.heap TO a b) (g1:k1.it s.heap i1 l1 n1) (g2:k2.it s.heap i2 l2 n2) (gx:k1.sq s.heap l1 xs) (gy:k2.sq s.heap l2 ys)
  (hx:xs[n1]?=Mk x) (hy:ys[n2]?=Mk y)
  (q:∀ h',IsZip h' z TI TO (JT s.heap.objs.size)->Lf h' TO x y->k1.it h' i1 l1 (n1+1)->k2.it h' i2 l2 (n2+1)->Lf h' s.heap.objs.size x y->h'.objs.size=s.heap.objs.size+1 ->
   (∀ c o,c≠z->c≠TO->c≠i1->c≠i2->s.heap.get? c=Mk o->h'.get? c=Mk o)->Q (Mk (.ref s.heap.objs.size)) { s with heap:=h' }) :
  Al (Am P w) A (Jo (.ref z)) Q E s:=by
 have gT:s.TypeIs (.ref z) "zip":=⟨_,gz,rfl⟩
 unfold Jo;refine Zi<|QG<|QC (name:=Oa "__next__") gT Tf<|Nq Tf gT PySem.F.entry_zip_next ?_<|PySem.F.args_zip_next_1 _
 show Al _ _ (field (.ref z) 2 >>= _) _ _ _;refine Zi<|Ig gz rfl (x:=.bool false) rfl ?_
 show Al _ _ (field (.ref z) 3 >>= _) _ _ _;refine Zi<|Ig gz rfl (x:=.ref TI) rfl ?_
 refine Zi<|Od gI rfl ?_
 show Al _ _ (Um (.ref z) >>= _) _ _ _;refine Zi ?_;unfold Um;refine Zi<|Ig gz rfl (x:=.none) rfl<|BP ?_
 simp only [if_true];refine Zi<|LR ?_
 refine Zi<|Ig gz rfl (x:=.ref TO) rfl ?_
 refine Zi<|Sg gz (by simp) fun h₁ z₁ s₁=>?_
 replace z₁ : IsZip h₁ z TI TO .ellipsis:=z₁;refine Zi ?_;simp only [List.zipIdx_cons,List.zipIdx_nil,RJ,Qp]
 -- the first one
 refine Zi<|Zi<|wpAny_onRaise ?_
 show Al _ _ (PL (.ref i1) >>= _) _ _ _;refine Zi<|Sk.next (k:=k1) (s:={ s with heap:=h₁ }) (Sk.it_at g1 fun o e=>s₁.extBut _ o D.a3 e) (Sk.sq_at gx fun o e=>s₁.extBut _ o o1.z e) hx fun h₂ g1₂ s₂=>BP ?_
 have gO₂ : Lf h₂ TO a b:=s₂.extBut _ _ D.a8 (s₁.extBut _ _ D.a2 gO);refine Zi<|Od gO₂ rfl ?_
 refine Zi<|wpAny_updateSeq_pair gO₂ fun h₃ gO₃ s₃=>?_
 replace gO₃ : Lf h₃ TO x b:=gO₃;refine Zi<|wpAny_letGo<|BP ?_
 -- the second one
 refine Zi<|Zi<|wpAny_onRaise ?_
 show Al _ _ (PL (.ref i2) >>= _) _ _ _;refine Zi (Sk.next (k:=k2) (s:={ s with heap:=h₃ }) (Sk.it_at g2 fun o e=>s₃.extBut _ o D.a9.symm (s₂.extBut _ o D.b1.symm (s₁.extBut _ o D.a4 e)))
  (Sk.sq_at gy fun o e=>s₃.extBut _ o o2.o (s₂.extBut _ o o2.i (s₁.extBut _ o o2.z e))) hy fun h₄ g2₄ s₄=>BP ?_)
 have gO₄ : Lf h₄ TO x b:=s₄.extBut _ _ D.a9 gO₃;refine Zi<|Od gO₄ rfl ?_
 refine Zi<|wpAny_updateSeq_pair gO₄ fun h₅ gO₅ s₅=>?_
 replace gO₅ : Lf h₅ TO x y:=gO₅;refine Zi<|wpAny_letGo<|BP<|BP ?_
 -- the pair is handed out
 refine Zi<|Od gO₅ rfl ?_
 refine Zi<|wpAny_newTuple ?_
 have size:h₅.objs.size=s.heap.objs.size:=by rw [s₅.1,s₄.1,s₃.1,s₂.1,s₁.1]
 have z₅ : IsZip h₅ z TI TO .ellipsis:=s₅.extBut _ _ D.a2.symm (s₄.extBut _ _ D.a4.symm (s₃.extBut _ _ D.a2.symm (s₂.extBut _ _ D.a3.symm z₁)));have all₅ : ∀ c o,c≠z->c≠TO->c≠i1->c≠i2->s.heap.get? c=Mk o->h₅.get? c=Mk o:=fun c o c1 c2 c3 c4 e=>s₅.extBut _ _ c2 (s₄.extBut _ _ c4 (s₃.extBut _ _ c2 (s₂.extBut _ _ c3 (s₁.extBut _ _ c1 e))))
 have g1₅ : k1.it h₅ i1 l1 (n1+1):=Sk.it_at g1₂ fun o e=>s₅.extBut _ o D.a8.symm (s₄.extBut _ o D.b1 (s₃.extBut _ o D.a8.symm e))
 have g2₅ : k2.it h₅ i2 l2 (n2+1):=Sk.it_at g2₄ fun o e=>s₅.extBut _ o D.a9.symm e
 have zlt:z<h₅.objs.size:=CK z₅;show Al _ _ (Builtin.SmallTypes.ownedTupleHandOut (.ref z) (.ref h₅.objs.size) >>= _) _ _ _;refine Zi ?_;unfold Builtin.SmallTypes.ownedTupleHandOut;have z₆ : IsZip (h₅.push { cls:=.type "tuple",data:=.seq #[x,y] }) z TI TO .ellipsis:=CT _ z₅;refine Zi<|Sg z₆ (by simp) fun h₇ z₇ s₇=>?_
 replace z₇ : IsZip h₇ z TI TO (JT h₅.objs.size):=z₇;refine Sg z₇ (by simp) fun h₈ z₈ s₈=>?_;replace z₈ : IsZip h₈ z TI TO (JT h₅.objs.size):=z₈;have up:∀ c o,c≠z->h₅.get? c=Mk o->h₈.get? c=Mk o:=fun c o c1 e=>s₈.extBut _ _ c1 (s₇.extBut _ _ c1 (CT _ e))
 have T₈ : Lf h₈ h₅.objs.size x y:=s₈.extBut _ _ (IW zlt) (s₇.extBut _ _ (IW zlt) (Ej _ rfl));have size8:h₈.objs.size=h₅.objs.size+1:=by rw [s₈.1,s₇.1,Mr]
 rw [size] at z₈ T₈ size8;refine BP ⟨_,rfl,BP ?_⟩;show Q (Mk (.ref h₅.objs.size)) _;rw [size];exact q h₈ z₈ (up _ _ D.a2 gO₅) (Sk.it_at g1₅ fun o e=>up _ o D.a3 e) (Sk.it_at g2₅ fun o e=>up _ o D.a4 e) T₈ size8 fun c o c1 c2 c3 c4 e=>up c o c1<|all₅ c o c1 c2 c3 c4 e
theorem zaU {z TI TO i1 i2 l1 l2:Addr}{n1 n2:Nat}{xs ys:Array Yk}{a b:Yk}{Q:Option Yk->ZG->Prop}(hh:A.handled=YK)(D:Zap z TI TO i1 i2)(o1:Off l1 z TO i1 i2)(o2:Off l2 z TO i1 i2)
  (gz:IsZip s.heap z TI TO .none) (gI:Lf s.heap TI (.ref i1) (.ref i2)) (gO:Lf s.heap TO a b) (g1:k1.it s.heap i1 l1 n1) (g2:k2.it s.heap i2 l2 n2) (gx:k1.sq s.heap l1 xs) (gy:k2.sq s.heap l2 ys)
  (hend:xs[n1]?=YK\/ys[n2]?=YK)
  (q:∀ h',(∀ c o,c≠z->c≠TO->c≠i1->c≠i2->s.heap.get? c=Mk o->h'.get? c=Mk o)->Q YK { s with heap:=h' }):Al (Am P w) A (Jo (.ref z)) Q E s:=by
 have gT:s.TypeIs (.ref z) "zip":=⟨_,gz,rfl⟩
 have fin:∀ (h':Heap) (e:Addr),(∀ c o,c≠z->c≠TO->c≠i1->c≠i2->s.heap.get? c=Mk o->h'.get? c=Mk o)->(∃ o,h'.get? e=Mk o/\o.cls=.type "StopIteration") ->
   Al (Am P w) A (do if <-isInstance (.ref e) (.type "StopIteration") then pure YK else throw (.ref e)) Q E { s with heap:=h' }:=fun h' e all ⟨o,ho,hc⟩=>
  Zi (wpAny_isInstance (T := "StopIteration") (b:=true) ⟨o,ho,hc⟩ isSubtype_stop (BP (q _ all)))
 unfold Jo;refine Zi<|QG<|QC (name:=Oa "__next__") gT Tf<|Nq Tf gT PySem.F.entry_zip_next ?_<|PySem.F.args_zip_next_1 _
 show Al _ _ (field (.ref z) 2 >>= _) _ _ _;refine Zi<|Ig gz rfl (x:=.bool false) rfl ?_
 show Al _ _ (field (.ref z) 3 >>= _) _ _ _;refine Zi<|Ig gz rfl (x:=.ref TI) rfl ?_
 refine Zi<|Od gI rfl ?_
 show Al _ _ (Um (.ref z) >>= _) _ _ _;refine Zi ?_;unfold Um;refine Zi<|Ig gz rfl (x:=.none) rfl<|BP ?_
 simp only [if_true];refine Zi<|LR ?_
 refine Zi<|Ig gz rfl (x:=.ref TO) rfl ?_
 refine Zi<|Sg gz (by simp) fun h₁ z₁ s₁=>?_
 replace z₁ : IsZip h₁ z TI TO .ellipsis:=z₁;refine Zi ?_;simp only [List.zipIdx_cons,List.zipIdx_nil,RJ,Qp];refine Zi<|Zi<|wpAny_onRaise ?_
 show Al _ _ (PL (.ref i1) >>= _) _ _ _;have g1₁ : k1.it h₁ i1 l1 n1:=Sk.it_at g1 fun o e=>s₁.extBut _ o D.a3 e
 have gx₁ : k1.sq h₁ l1 xs:=Sk.sq_at gx fun o e=>s₁.extBut _ o o1.z e
 cases hx:xs[n1]? with
 | none=>
  refine Zi<|Sk.stop (k:=k1) (s:={ s with heap:=h₁ }) hh g1₁ gx₁ hx fun h₂ e s₂ he=>?_
  obtain ⟨oe,hoe,hce⟩:=he;have z₂ : IsZip h₂ z TI TO .ellipsis:=s₂ _ _ D.a3.symm z₁;have ez:e≠z:=fun y=>by subst y;rw [z₂] at hoe;cases hoe;simp at hce
  refine Sg z₂ (by simp) fun h₃ _ s₃=>fin h₃ e (fun c o c1 _ c3 _ y=>s₃.extBut _ _ c1<|s₂ _ _ c3<|s₁.extBut _ _ c1 y) ⟨oe,s₃.extBut _ _ ez hoe,hce⟩
 | some x=>
  have hy:ys[n2]?=YK:=by
   rcases hend with h | h
   ·rw [hx] at h;cases h
   ·exact h
  refine Zi<|Sk.next (k:=k1) (s:={ s with heap:=h₁ }) g1₁ gx₁ hx fun h₂ g1₂ s₂=>BP ?_
  have gO₂ : Lf h₂ TO a b:=s₂.extBut _ _ D.a8 (s₁.extBut _ _ D.a2 gO);refine Zi<|Od gO₂ rfl ?_
  refine Zi<|wpAny_updateSeq_pair gO₂ fun h₃ gO₃ s₃=>?_
  refine Zi<|wpAny_letGo<|BP ?_
  refine Zi<|Zi<|wpAny_onRaise ?_
  show Al _ _ (PL (.ref i2) >>= _) _ _ _;refine Zi (Sk.stop (k:=k2) (s:={ s with heap:=h₃ }) hh (Sk.it_at g2 fun o e=>s₃.extBut _ o D.a9.symm (s₂.extBut _ o D.b1.symm (s₁.extBut _ o D.a4 e)))
   (Sk.sq_at gy fun o e=>s₃.extBut _ o o2.o (s₂.extBut _ o o2.i (s₁.extBut _ o o2.z e))) hy fun h₄ e s₄ he=>?_)
  obtain ⟨oe,hoe,hce⟩:=he;have z₄ : IsZip h₄ z TI TO .ellipsis:=s₄ _ _ D.a4.symm (s₃.extBut _ _ D.a2.symm (s₂.extBut _ _ D.a3.symm z₁));have ez:e≠z:=fun y=>by subst y;rw [z₄] at hoe;cases hoe;simp at hce
  refine Sg z₄ (by simp) fun h₅ _ s₅=>fin h₅ e (fun c o c1 c2 c3 c4 y=>s₅.extBut _ _ c1<|s₄ _ _ c4<|s₃.extBut _ _ c2<|s₂.extBut _ _ c3<|s₁.extBut _ _ c1 y) ⟨oe,s₅.extBut _ _ ez hoe,hce⟩
abbrev zh1 (k1:Sk)(h:Heap)(l1:Addr):Heap:=h.push { cls:=.type k1.nm,data:=.fields #[.ref l1,.int 0 0] }
abbrev zh2 (k1 k2:Sk)(h:Heap)(l1 l2:Addr):Heap:=(zh1 k1 h l1).push { cls:=.type k2.nm,data:=.fields #[.ref l2,.int 0 0] }
abbrev zh3 (k1 k2:Sk)(h:Heap)(l1 l2:Addr):Heap:=(zh2 k1 k2 h l1 l2).push { cls:=.type "tuple",data:=.seq #[.ref h.objs.size,.ref (zh1 k1 h l1).objs.size] }
abbrev zh4 (k1 k2:Sk)(h:Heap)(l1 l2:Addr):Heap:=(zh3 k1 k2 h l1 l2).push { cls:=.type "tuple",data:=.seq #[.none,.none] }
abbrev zh5 (k1 k2:Sk)(h:Heap)(l1 l2:Addr):Heap:=(zh4 k1 k2 h l1 l2).push { cls:=.type "zip",data:=.fields #[.none,.bool false,.bool false,.ref (zh2 k1 k2 h l1 l2).objs.size,.ref (zh3 k1 k2 h l1 l2).objs.size] }
theorem zbl (l1 l2:Addr)(xs ys:Array Yk):Meets (O6.«zip.__new__» ⟨[.type "zip",.ref l1,.ref l2],[]⟩) (fun _ R s=>k1.sq s.heap l1 xs/\k2.sq s.heap l2 ys /\
   R (.ok (.ret (.ref (zh4 k1 k2 s.heap l1 l2).objs.size))) { s with heap:=zh5 k1 k2 s.heap l1 l2 }):=
 .of_wp fun prog w A R s h=>by
  obtain ⟨hp,g,d,tk,os⟩:=s;obtain ⟨gl1,gl2,h⟩:=h;have hsub:=sub_zip;have L1:k1.sq (Shared.heap ⟨hp,g,d,tk,os⟩) l1 xs:=gl1;have L2':k2.sq (Shared.heap ⟨hp.push { cls:=.type k1.nm,data:=.fields #[.ref l1,.int 0 0] },g,d,tk,os⟩) l2 ys:=Sk.sq_at gl2 fun o e=>CT _ e
  wp_walk using Sk.iter L1,Sk.iter L2'
  exact ⟨_,rfl,h⟩
theorem zaR {l1 l2:Addr}{xs ys:Array Yk}{Q:Yk->ZG->Prop}(gl1:k1.sq s.heap l1 xs)(gl2:k2.sq s.heap l2 ys)
  (q:∀ h',IsZip h' (s.heap.objs.size+4) (s.heap.objs.size+2) (s.heap.objs.size+3) .none->Lf h' (s.heap.objs.size+2) (.ref s.heap.objs.size) (.ref (s.heap.objs.size+1)) ->
   Lf h' (s.heap.objs.size+3) .none .none->k1.it h' s.heap.objs.size l1 0->k2.it h' (s.heap.objs.size+1) l2 0->h'.objs.size=s.heap.objs.size+5 ->
   (∀ c o,s.heap.get? c=Mk o->h'.get? c=Mk o)->Q (.ref (s.heap.objs.size+4)) { s with heap:=h' }):Al (Am P w) A (call (.type "zip") [.ref l1,.ref l2]) Q E s:=by
 refine callType_new PySem.F.called_zip (by decide) (PySem.F.typeCall_zip_2 _ _) (PySem.F.newCall_zip_2 _ _) (fun obj=>PySem.F.args_object_init_3 obj _ _) PySem.F.entry_zip_new (zbl (k1:=k1) (k2:=k2) l1 l2 xs ys) ⟨gl1,gl2,?_⟩;have e1:(zh1 k1 s.heap l1).objs.size=s.heap.objs.size+1:=Mr ..;have e2:(zh2 k1 k2 s.heap l1 l2).objs.size=s.heap.objs.size+2:=by rw [Mr,e1]
 have e3:(zh3 k1 k2 s.heap l1 l2).objs.size=s.heap.objs.size+3:=by rw [Mr,e2]
 have e4:(zh4 k1 k2 s.heap l1 l2).objs.size=s.heap.objs.size+4:=by rw [Mr,e3]
 have e5:(zh5 k1 k2 s.heap l1 l2).objs.size=s.heap.objs.size+5:=by rw [Mr,e4]
 have f5:(zh5 k1 k2 s.heap l1 l2).get? (zh4 k1 k2 s.heap l1 l2).objs.size=Mk _:=Ej _ rfl;have f4:(zh5 k1 k2 s.heap l1 l2).get? (zh3 k1 k2 s.heap l1 l2).objs.size=Mk _:=CT _ (Ej _ rfl);have f3:(zh5 k1 k2 s.heap l1 l2).get? (zh2 k1 k2 s.heap l1 l2).objs.size=Mk _:=CT _ (CT _ (Ej _ rfl));have f2:(zh5 k1 k2 s.heap l1 l2).get? (zh1 k1 s.heap l1).objs.size=Mk _:=CT _ (CT _ (CT _ (Ej _ rfl)));have f1:(zh5 k1 k2 s.heap l1 l2).get? s.heap.objs.size=Mk _:=CT _ (CT _ (CT _ (CT _ (Ej _ rfl))));show _/\_;rw [e2,e3,e4] at f5;rw [e1,e2] at f3;rw [e3] at f4;rw [e1] at f2;rw [e4];refine ⟨⟨_,f5,rfl⟩,q _ f5 f3 f4 ?_ ?_ e5 fun c o x=>CT _<|CT _<|CT _<|CT _<|CT _ x⟩
 ·cases k1 with
  | l=>exact ⟨_,f1,rfl,rfl⟩
  | t=>exact ⟨_,f1,rfl,rfl⟩
 ·cases k2 with
  | l=>exact ⟨_,f2,rfl,rfl⟩
  | t=>exact ⟨_,f2,rfl,rfl⟩
end
variable {its : Array Yk}
section
variable {X:Cx}{afG:List (Addr×Obj)}{Z : St}{H:Hp}{s:ZG}{h':Heap}
theorem AP.turnedL {t':Nat}{ch:List Addr}(I:AP X afG Z H s)(k:∀ b o,b∉ch->s.heap.get? b=Mk o->h'.get? b=Mk o)(hf:∀ b∈ch,Cj X afG H b):AP X afG Z H { s with heap:=h',toks:=t' }:=by
 have nit:∀ b u,H b=Mk u->b∉ch:=fun b u e z=>by rw [(hf b z).1] at e;cases e
 refine I.step (g':=s.gens) (d':=s.drawn) (ch:=ch) (fun b hb=>?_) (fun b o _ _ hc e _=>k b o hc e) (fun b o _ _ hc e _=>⟨o.slots,k b o hc e⟩) (fun _ _ _ _ n=>n)
  (fun b o hc e=>⟨o,k b o hc e⟩) (fun _ _ e=>e) (fun _ _ _ e=>e) (fun b ps e=>⟨#[],by rw [e];simp⟩) (fun m hm=>?_) (fun b u e=>?_) I.bare
 ·obtain ⟨_,f1,_,f3,f4,f5⟩:=hf b hb;exact ⟨f3,f1,f4,f5⟩
 ·obtain ⟨o,es,ep,ho,r⟩:=hm;exact ⟨o,es,ep,k _ o (fun z=>(hf _ z).2.1 rfl) ho,r⟩
 ·refine (I.hok b u e).stay (fun c v hc q=>k c v ?_ q) (fun _ q=>q) fun _ _ q=>q;rcases hc with z | z
  ·rw [z];exact nit b u e
  ·exact nit c _ z
end
def Sk.v (k:Sk)(K:Ar)(H:Hp)(a:Addr)(xs:List V):Prop:=match k with
 | .l=>GK K H a xs
 | .t=>Ed K H a xs
theorem AP.sk {X:Cx}{afG:List (Addr×Obj)}{Z : St}{H:Hp}{s:ZG}{k:Sk}{a:Addr}{xs:List V}(I:AP X afG Z H s)(h:k.v X.K H a xs):∃ its:List Yk,Az xs its/\k.sq s.heap a its.toArray:=by
 cases k with
 | l=>obtain ⟨its,r,p,_⟩:=I.list h;exact ⟨its,r,p.isList⟩
 | t=>obtain ⟨its,r,p,_⟩:=I.tuple h;exact ⟨its,r,p⟩
theorem AP.sk_inj {X:Cx}{afG:List (Addr×Obj)}{Z : St}{H:Hp}{s:ZG}{k:Sk}{a:Addr}{xs ys:List V}(I:AP X afG Z H s)(h:k.v X.K H a xs)(g:k.v X.K H a ys):xs=ys:=by
 cases k with
 | l=>exact I.list_inj h g
 | t=>exact I.tuple_inj h g
def Itz (K:Ar)(k1 k2:Sk)(l1 l2:Addr):It:=
  ⟨fun i H=>∃ xs ys x y,k1.v K H l1 xs/\k2.v K H l2 ys/\xs[i]?=Mk x/\ys[i]?=Mk y,
   fun i H v H'=>∃ p x y,H p=YK/\v=.ref p/\H'=CJ H p (.tup [x,y])/\(∀ xs,k1.v K H l1 xs->xs[i]?=Mk x)/\∀ ys,k2.v K H l2 ys->ys[i]?=Mk y,
   fun i H=>∃ xs ys,k1.v K H l1 xs/\k2.v K H l2 ys/\(xs.length<=i\/ys.length<=i),true⟩
def XD (k1 k2:Sk)(z TI TO i1 i2 l1 l2:Addr)(n:Nat)(h:Heap):Prop:=IsZip h z TI TO .none/\Lf h TI (.ref i1) (.ref i2)/\(∃ a b,Lf h TO a b)/\k1.it h i1 l1 n/\k2.it h i2 l2 n
variable {elts : List Expr}
theorem abz {P:Bs}{w:Bh}{K:Ar}{pos:Pos}{k1 k2:Sk}{z TI TO i1 i2 l1 l2:Addr}(D:Zap z TI TO i1 i2)(o1:Off l1 z TO i1 i2)(o2:Off l2 z TO i1 i2):
  Turn P w K (.Tuple elts kt pos) (Itz K k1 k2 l1 l2) [z,TI,TO,i1,i2] z (XD k1 k2 z TI TO i1 i2 l1 l2) where
 mem:=by simp
 obj:=fun i h st b hb=>by
  obtain ⟨gz,gI,⟨a,b',gO⟩,g1,g2⟩:=st;simp only [El,Ja,or_false] at hb;rcases hb with rfl | rfl | rfl | rfl | rfl
  ·exact ⟨_,gz,fun v y=>by cases y⟩
  ·exact ⟨_,gI,fun v y=>by cases y⟩
  ·exact ⟨_,gO,fun v y=>by cases y⟩
  ·obtain ⟨o,e,_,d⟩:=Sk.it_obj g1;exact ⟨o,e,fun v y=>by rw [d] at y;cases y⟩
  ·obtain ⟨o,e,_,d⟩:=Sk.it_obj g2;exact ⟨o,e,fun v y=>by rw [d] at y;cases y⟩
 keep:=fun i h h' st k=>by
  obtain ⟨gz,gI,⟨a,b,gO⟩,g1,g2⟩:=st;exact ⟨k z (by simp) _ gz,k TI (by simp) _ gI,⟨a,b,k TO (by simp) _ gO⟩,Sk.it_at g1 fun o e=>k i1 (by simp) o e,Sk.it_at g2 fun o e=>k i2 (by simp) o e⟩
 item:=by
  intro X hP hw hK hc i afG s Z H E I hf st hg;subst hP hw hK;obtain ⟨gz,gI,⟨a,b,gO⟩,g1,g2⟩:=st;obtain ⟨xs,ys,x,y,hx,hy,ex,ey⟩:=hg;obtain ⟨its,r1,p1⟩:=I.sk hx;obtain ⟨jts,r2,p2⟩:=I.sk hy;obtain ⟨u,hu,ru⟩:=r1.get ex;obtain ⟨v,hv,rv⟩:=r2.get ey;refine zaL D o1 o2 gz gI gO g1 g2 p1 p2 (x:=u) (y:=v) (by simpa using hu) (by simpa using hv) fun h1 z1 O1 g1' g2' T1 size1 all1=>⟨_,rfl,?_⟩;have pz:s.heap.objs.size≠z:=IW (CK gz);have lt:∀ b∈[z,TI,TO,i1,i2],s.heap.objs.size≠b:=fun b hb=>by
   simp only [El,Ja,or_false] at hb;rcases hb with rfl | rfl | rfl | rfl | rfl
   ·exact pz
   ·exact IW<|CK gI
   ·exact IW<|CK gO
   ·obtain ⟨o,e,_⟩:=Sk.it_obj g1;exact IW (CK e)
   ·obtain ⟨o,e,_⟩:=Sk.it_obj g2;exact IW (CK e)
  have all:∀ c o,c∉[z,TI,TO,i1,i2]->s.heap.get? c=Mk o->h1.get? c=Mk o:=fun c o hc e=>
   all1 c o (fun q=>hc (by simp [q])) (fun q=>hc (by simp [q])) (fun q=>hc (by simp [q])) (fun q=>hc (by simp [q])) e
  refine wpAny_letOwnedTupleGo_zip (s:={ s with heap:=h1 }) z1 fun h2 z2 sb=>?_;have fr:H s.heap.objs.size=YK:=I.hok.fresh (Bp _);have I1:AP X afG Z (CJ H s.heap.objs.size (.tup [x,y])) { s with heap:=s.heap.push { cls:=.type "tuple",data:=.seq #[u,v] } }:=
   I.laid (t':=s.toks) (fun b o e=>CT _ e) (Bp _) ⟨(by show 2<=CR;decide),[u,v],.cons ru (.cons rv .nil),⟨_,Ej _ rfl,rfl,⟨_,rfl⟩,rfl⟩⟩
  have hf1:∀ b∈[z,TI,TO,i1,i2],Cj X afG (CJ H s.heap.objs.size (.tup [x,y])) b:=fun b hb=>⟨by rw [aJ (Hf (lt b hb))];exact (hf b hb).1,(hf b hb).2⟩
  have I2:AP X afG Z (CJ H s.heap.objs.size (.tup [x,y])) { s with heap:=h2 }:=by
   refine AP.turnedL (s:={ s with heap:=s.heap.push { cls:=.type "tuple",data:=.seq #[u,v] } }) (h':=h2) (t':=s.toks) (ch:=[z,TI,TO,i1,i2]) I1 (fun b o hb e=>?_) hf1;have bz:b≠z:=fun q=>hb (by simp [q])
   rcases Heap.get?_push_cases e with ⟨rfl,rfl⟩ | e'
   ·exact sb.extBut _ _ bz T1
   ·exact sb.extBut _ _ bz<|all b o hb e'
  refine ⟨.ref s.heap.objs.size,_,I2,rfl,⟨s.heap.objs.size,x,y,fr,rfl,rfl,fun xs' q=>by rw [I.sk_inj q hx];exact ex,fun ys' q=>by rw [I.sk_inj q hy];exact ey⟩,?_,fun b hb=>(hf1 b hb).1⟩;exact ⟨z2,sb.extBut _ _ D.a1<|all1 _ _ D.a1 D.a5 D.a6 D.a7 gI,⟨u,v,sb.extBut _ _ D.a2 O1⟩,Sk.it_at g1' fun o e=>sb.extBut _ o D.a3 e,Sk.it_at g2' fun o e=>sb.extBut _ o D.a4 e⟩
 done:=by
  intro X hP hw hK hc i afG s Z H E I hf st hg;subst hP hw hK;obtain ⟨gz,gI,⟨a,b,gO⟩,g1,g2⟩:=st;obtain ⟨xs,ys,hx,hy,hend⟩:=hg;obtain ⟨its,r1,p1⟩:=I.sk hx;obtain ⟨jts,r2,p2⟩:=I.sk hy;have l1:=r1.length;have l2:=r2.length;refine zaU (I.ok.hd<|hc rfl) D o1 o2 gz gI gO g1 g2 p1 p2 (hend.imp (fun q=>by simp;lia) fun q=>by simp;lia) fun h1 all1=>⟨rfl,I.turnedL (t':=s.toks) (ch:=[z,TI,TO,i1,i2]) (fun c o hc e=>?_) hf⟩;exact all1 c o (fun q=>hc<|by simp [q]) (fun q=>hc<|by simp [q]) (fun q=>hc<|by simp [q]) (fun q=>hc<|by simp [q]) e
 self:=fun _ _ _ _ _ st h=>wpAny_pyIter_zip st.1 h
section
variable {X:Cx}{K:Ar}
def sqk (K:Ar)(H:Hp)(x:V)(k:Sk)(a:Addr):Prop:=x=.ref a/\∃ xs,k.v K H a xs
def ZS (K:Ar)(ta:TA):TI:=fun Z H R=>ta Z H fun vs H1=>∃ x y k1 k2 a b,vs=[x,y]/\sqk K H1 x k1 a/\sqk K H1 y k2 b/\R (Itz K k1 k2 a b) H1
theorem Sk.sq_lt {k:Sk}{h:Heap}{a:Addr}(x:k.sq h a its):a<h.objs.size:=by
 cases k with
 | l=>obtain ⟨o,e,_⟩:=x;exact CK e
 | t=>obtain ⟨o,e,_⟩:=x;exact CK e
theorem jE {a b:Nat}(h:a≠b):(show Addr from a)≠(show Addr from b):=h
theorem acY (n:Nat):Zap (n+4) (n+2) (n+3) n (n+1) where
 a1:=jE (show n+2≠n+4 by lia)
 a2:=jE (show n+3≠n+4 by lia)
 a3:=jE (show n≠n+4 by lia)
 a4:=jE (show n+1≠n+4 by lia)
 a5:=jE (show n+2≠n+3 by lia)
 a6:=jE (show n+2≠n by lia)
 a7:=jE (show n+2≠n+1 by lia)
 a8:=jE (show n+3≠n by lia)
 a9:=jE (show n+3≠n+1 by lia)
 b1:=jE (show n≠n+1 by lia)
theorem K1 {a n:Nat}(h:a<n):Off a (n+4) (n+3) n (n+1) where
 z:=jE (show a≠n+4 by lia)
 o:=jE (show a≠n+3 by lia)
 i:=jE (show a≠n by lia)
 j:=jE (show a≠n+1 by lia)
theorem W7 {n c:Nat}(h:c∈([n+4,n+2,n+3,n,n+1]:List Nat)):n<=c:=by
 simp only [El,Ja,or_false] at h;lia
theorem acT {e1 e2:Expr}{ta:TA}{p pos tpos:Pos}(hg:Gl X "zip")(hm:X.mg "zip" = YK)(ha:PA X [e1,e2] ta)
  (hs:Bo [e1,e2] X.env=(false,eval e1 X.env)::Bo [e2] X.env:=by rfl) (hpl:(En pos (Bo [e2] X.env)).any (·.1)=false:=by rfl) :
  PI X (.Tuple elts kt tpos) (.Call (.Name "zip" p) [e1,e2] [] pos) (ZS X.K ta):=by
 intro afG s Z H R I h;refine R7<|pN I hg hm boot_zip ?_ (by decide)<|by decide
 refine TK (CV (ha pos afG s Z H _ I h) fun us s1 ⟨vs,H1,I1,r1,q1⟩=>?_) hs hpl;obtain ⟨x,y,k1,k2,a,b,ev,⟨ex,xs,hx⟩,⟨ey,ys,hy⟩,q⟩:=q1;subst ev ex ey;obtain ⟨u1,u2,eu,ru1,ru2⟩:=vals2 r1;subst eu;cases ru1;cases ru2;obtain ⟨its,r1,p1⟩:=I1.sk hx;obtain ⟨jts,r2,p2⟩:=I1.sk hy;have la:=Sk.sq_lt p1;have lb:=Sk.sq_lt p2;refine zaR p1 p2 fun h' gz gI gO g1 g2 size all=>?_;refine wpAny_pyIter_zip gz ?_;have I2:AP X afG Z H1 { s1 with heap:=h' }:=I1.kept (t':=s1.toks) all;generalize hn:s1.heap.objs.size=n at gz gI gO g1 g2 size la lb |-
 refine ⟨n+4,[n+4,n+2,n+3,n,n+1],_,_,H1,rfl,I2,abz (acY n) (K1 la)<|K1 lb,⟨gz,gI,⟨_,_,gO⟩,g1,g2⟩,fun c hc=>?_,q⟩;have hc':n<=c:=W7 hc;exact I1.fpOk (by rw [hn];exact hc')<|I1.hok.fresh (by rw [hn];exact hc')
def lR:List W->List W->List W
 | a::as,b::bs=>.tup [a,b]::lR as bs
 | _,_=>[]
theorem mY:∀ {as bs:List W} {i:Nat} {w:W},(lR as bs)[i]?=Mk w->∃ a b,as[i]?=Mk a/\bs[i]?=Mk b/\w=.tup [a,b]
 | [],_,_,_,e=>by simp [lR] at e
 | _::_,[],_,_,e=>by simp [lR] at e
 | a::as,b::bs,0,w,e=>by
  have e:Mk (W.tup [a,b])=Mk w:=e;exact ⟨a,b,rfl,rfl,(Eb e).symm⟩
 | a::as,b::bs,i+1,w,e=>by
  obtain ⟨x,y,h1,h2,h3⟩:=mY (as:=as) (bs:=bs) (i:=i) (w:=w) (by simpa [lR] using e);exact ⟨x,y,by simpa using h1,by simpa using h2,h3⟩
theorem yJ:∀ {as bs:List W},(lR as bs).length=min as.length bs.length
 | [],bs=>by simp [lR]
 | _::_,[]=>by simp [lR]
 | a::as,b::bs=>by rw [lR,Il,yJ,Il,Il];lia
def pB:W->Option (List W)
 | .tup ws=>Mk ws
 | .lst ws=>Mk ws
 | .kls ws=>Mk ws
 | _=>YK
theorem zB {H:Hp}{w:W}{v:V}(r:kI K H μ w v)(e:pB w=Mk ws):∃ k a,v=.ref a/\∀ {H2:Hp} {μ2:Mu},Dr K H μ H2 μ2->∃ xs,Sk.v k K H2 a xs/\aO K H2 μ2 ws xs:=by
 cases w with
 | tup us=>
  cases (show Mk us=Mk ws from e)
  have r0:=r;rw [kI] at r;obtain ⟨p,xs,ev,hs,rs⟩:=r;subst ev;refine ⟨.t,p,rfl,fun {H2 μ2} x=>?_⟩;have r2:=x.r _ _ r0;rw [kI] at r2;obtain ⟨q,ys,ev,hs,rs⟩:=r2;cases ev;exact ⟨ys,hs,rs⟩
 | lst us=>
  cases (show Mk us=Mk ws from e)
  have r0:=r;rw [kI] at r;obtain ⟨p,xs,ev,hs,rs⟩:=r;subst ev;refine ⟨.l,p,rfl,fun {H2 μ2} x=>?_⟩;have r2:=x.r _ _ r0;rw [kI] at r2;obtain ⟨q,ys,ev,hs,rs⟩:=r2;cases ev;exact ⟨ys,hs.sq,rs⟩
 | kls us=>
  cases (show Mk us=Mk ws from e)
  have r0:=r;rw [kI] at r;obtain ⟨p,xs,ev,hs,rs⟩:=r;subst ev;refine ⟨.l,p,rfl,fun {H2 μ2} x=>?_⟩;have r2:=x.r _ _ r0;rw [kI] at r2;obtain ⟨q,ys,ev,hs,rs⟩:=r2;cases ev;exact ⟨ys,hs.sq,rs⟩
 | _=>cases e
def K4 (h:Gh)(x y:W):Option Src:=match pB x,pB y with
 | some as,Mk bs=>Mk ⟨lR as bs,YK⟩
 | none,Mk bs=>(match x with
  | .loc n=>(match h.c n with
   | some (.lst as)=>Mk ⟨lR as bs,Mk (n,as)⟩
   | _=>YK)
  | _=>YK)
 | _,_=>YK
theorem adq {H:Hp}{h:Gh}{w:W}{v:V}{o:Option (Nat×List W)}(R:Bq K μ H h)(r:kI K H μ w v)(e:(pB w=Mk ws/\o=YK)\/∃ n,w=.loc n/\h.c n=Mk (.lst ws)/\o=Mk (n,ws)):
  ∃ k a,v=.ref a/\∀ {H2:Hp} {μ2:Mu} {h2:Gh},Dr K H μ H2 μ2->Bq K μ2 H2 h2->Src.chk ⟨ws,o⟩ h2->∃ xs,Sk.v k K H2 a xs/\aO K H2 μ2 ws xs:=by
 rcases e with ⟨e,rfl⟩ | ⟨n,rfl,ec,rfl⟩
 ·obtain ⟨k,a,ev,f⟩:=zB r e;exact ⟨k,a,ev,fun x _ _=>f x⟩
 ·have r0:=r;rw [kI] at r;obtain ⟨p,ev,hm⟩:=r;subst ev;refine ⟨.l,p,rfl,fun {H2 μ2 h2} x R2 ck=>?_⟩;have r2:=x.r _ _ r0;rw [kI] at r2;obtain ⟨q,eq,hm2⟩:=r2;cases eq;obtain ⟨p',xs,hm',hx,rs⟩:=R2.lstAt (show h2.c n=Mk (.lst ws) from ck);have ep:p'=p:=by rw [hm2] at hm';exact (Eb hm').symm
  subst ep;exact ⟨xs,.of hx,rs⟩
theorem abY {h:Gh}{x y:W}{s:Src}(e:K4 h x y=Mk s):∃ as bs o,s=⟨lR as bs,o⟩/\((pB x=Mk as/\o=YK)\/∃ n,x=.loc n/\h.c n=Mk (.lst as)/\o=Mk (n,as))/\pB y=Mk bs:=by
 unfold K4 at e;split at e
 ·rename_i as bs ea eb;exact ⟨as,bs,YK,(Eb e).symm,.inl ⟨ea,rfl⟩,eb⟩
 ·rename_i bs ea eb;split at e
  ·split at e
   ·rename_i n _ as ec;exact ⟨as,bs,_,(Eb e).symm,.inr ⟨n,rfl,ec,rfl⟩,eb⟩
   ·cases e
  ·cases e
 ·cases e
def Q0 (ma:MA):MI:=fun Z h R=>ma Z h fun ws h1=>match ws with
 | [x,y]=>(match K4 h1 x y with
  | some s=>R s h1
  | none=>False)
 | _=>False
theorem La {e1 e2:Expr}{p pos tpos:Pos}(hg:Gl X "zip")(hm:X.mg "zip" = YK)(ha:IV X [e1,e2] mr)
  (hs:Bo [e1,e2] X.env=(false,eval e1 X.env)::Bo [e2] X.env:=by rfl) (hpl:(En pos (Bo [e2] X.env)).any (·.1)=false:=by rfl) :
  DIt X (.Tuple elts kt tpos) (.Call (.Name "zip" p) [e1,e2] [] pos) (Q0 mr):=PI.of (acT hg hm ha hs hpl) fun Z H Q ⟨μ,h,Zw,Rw,R,S,m,k⟩=>by
 refine ⟨μ,h,Zw,_,R,S,m,fun vs H1 ⟨μ1,ws,h1,e1,R1,r1,m1⟩=>?_⟩;split at m1
 ·split at m1
  ·rename_i x y _ s es;obtain ⟨as,bs,o,rfl,ea,eb⟩:=abY es;obtain ⟨v,u,ev,rv,ru⟩:=Ak r1;obtain ⟨ka,a,e3,fa⟩:=adq R1 rv ea;obtain ⟨kb,b,e4,fb⟩:=zB ru eb;have ck1:Src.chk ⟨as,o⟩ h1:=by
    rcases ea with ⟨_,rfl⟩ | ⟨n,_,ec,rfl⟩
    ·exact trivial
    ·exact ec
   obtain ⟨xs,hxs,_⟩:=fa .refl R1 ck1;obtain ⟨ys,hys,_⟩:=fb .refl;refine ⟨v,u,ka,kb,a,b,ev,⟨e3,xs,hxs⟩,⟨e4,ys,hys⟩,k _ _ ⟨μ1,⟨lR as bs,o⟩,h1,e1,R1,?_,m1⟩⟩;intro H2 μ2 h2 i e2 R2 ck;obtain ⟨xs2,hxs2,rxs⟩:=fa e2 R2 ck;obtain ⟨ys2,hys2,rys⟩:=fb e2;refine ⟨fun w ew=>?_,fun hl=>⟨xs2,ys2,hxs2,hys2,?_⟩⟩
   ·obtain ⟨p1,p2,ep1,ep2,rfl⟩:=mY ew;obtain ⟨q1,eq1,rq1⟩:=rxs.get ep1;obtain ⟨q2,eq2,rq2⟩:=rys.get ep2;refine ⟨⟨xs2,ys2,q1,q2,hxs2,hys2,eq1,eq2⟩,fun x' H3 ⟨pa,x1,x2,hp,ex',eH3,f1,f2⟩=>?_⟩;have g1:=f1 xs2 hxs2;have g2:=f2 ys2 hys2;rw [eq1] at g1;rw [eq2] at g2;cases g1;cases g2;subst ex' eH3;exact ⟨μ2,(Ex.laid hp).ext,R2.laid hp,.tupNew hp<|.cons rq1<|.one rq2⟩
   ·have l1:=rxs.len;have l2:=rys.len;have:min as.length bs.length<=i:=by rw [<-yJ];exact hl
    lia
  ·exact m1.elim
 ·exact m1.elim
end
variable {e1 e2 : Expr}
section
variable {X:Cx}{K:Ar}
def tB:List W->Option (List Int)
 | []=>Mk []
 | .int i::ws=>(tB ws).map (i::·)
 | _=>YK
theorem yV {H:Hp}{μ : Mu}:∀ {ws:List W} {xs:List V} {ns:List Int},aO K H μ ws xs->tB ws=Mk ns->xs=ns.map V.int
 | [],xs,ns,r,e=>by
  rw [aO] at r;cases (show Mk []=Mk ns from e)
  exact r
 | w::ws,xs,ns,r,e=>by
  rw [aO] at r;obtain ⟨v,vr,ev,ra,r⟩:=r;cases w with
  | int b=>
   rw [kI] at ra;rw [tB] at e;cases q:tB ws with
   | none=>rw [q] at e;cases e
   | some cs=>
    rw [q] at e;cases (show Mk (b::cs)=Mk ns from e)
    rw [ev,ra,yV r q];rfl
  | _=>cases e
def Yz:MC:=fun ws h Q=>match ws with
 | [w]=>(match eH h w with
  | some us=>(match tB us with
   | some ns=>Q (.int ns.sum) h
   | none=>False)
  | none=>False)
 | _=>False
end
section
variable {P:Bs}{w:Bh}{A:Bx}{E:Yk->ZG->Prop}{s:ZG}
end
section
variable {X:Cx}{K:Ar}
end
section
variable {X:Cx}
def Wj (i j k:Nat)(ta:MA):MS:=fun D Z h=>ta Z h fun ws h1=>match ws with
 | [a,b,c]=>D.nx (((Z.set i (Mk a)).set j (Mk b)).set k (Mk c)) h1
 | _=>False
end
section
variable {X:Cx}{K:Ar}
end
theorem W0 {K:Ar}{H:Hp}:aO K H μ [] []:=by rw [aO]
theorem VN {K:Ar}{H:Hp}{i:Int}:kI K H μ (.int i) (.int i):=by rw [kI]
section
variable {prog:Bs}{w:Bh}{A:Bx}{E:Yk->ZG->Prop}{s:ZG}
theorem vL {it t:Addr}{afH:Array Yk}(hne:t≠it):∀ (n i:Nat) (s:ZG) (Q:List Yk->ZG->Prop),s.heap.IsListIter it t i->s.heap.IsList t afH->i+n<=afH.size ->
  (∀ h',h'.IsListIter it t (i+n)->QB it s.heap h'->Q ((afH.toList.drop i).take n) { s with heap:=h' })->Al (Am prog w) A (draw (.ref it) n) Q E s
 | 0,i,s,Q,hit,_,_,hQ=>by
  show Al _ _ (pure []) Q E s;exact BP<|by simpa using hQ s.heap hit (Heap.SameBut.refl ..)
 | n+1,i,s,Q,hit,ht,hle,hQ=>by
  have hlt:i<afH.size:=by lia
  show Al _ _ (Jo (.ref it) >>= _) Q E s;refine Zi<|wpAny_pyNext_list_item hit ht (x:=afH[i]) (by simp [hlt]) fun h1 hit1 hs1=>?_
  refine Zi<|Im<|vL hne n (i+1) _ _ hit1 (ht.at fun o e=>hs1.extBut _ o hne e) (by lia) fun h2 hit2 hs2=>BP ?_
  have hd:afH.toList.drop i=afH[i]::afH.toList.drop (i+1):=by simp [RQ,hlt]
  have:=hQ h2 (by rw [show i+(n+1)=i+1+n by lia];exact hit2) (hs1.trans hs2)
  rw [hd,List.take_succ_cons] at this;exact this
theorem mV {t:Addr}{afH:Array Yk}{Q:List Yk->ZG->Prop}(hh:A.handled=YK)(ht:s.heap.IsList t afH)
  (hQ:∀ h',Rf s.heap.objs.size s.heap h'->Q afH.toList { s with heap:=h' }):Al (Am prog w) A (unpackItems (.ref t) afH.size YK) Q E s:=by
 have hlt:t≠s.heap.objs.size:=by obtain ⟨o,ho,_⟩:=ht;exact Fw (CK ho)
 unfold unpackItems;refine Zi ?_
 ·unfold notIterableAtAll;refine Zi<|wpAny_specialOf ht.typeIs slot_list_iter.lookup ?_
  refine BP ?_;simp only [Ny,if_false];refine Zi<|Im<|RL ht ?_
  refine Zi<|Im<|vL hlt afH.size 0 _ _ ⟨_,Ej _ rfl,rfl,rfl⟩ (ht.at fun o e=>CT _ e) (by lia) fun h1 hit1 hs1=>?_
  have hall:List.take afH.size (List.drop 0 afH.toList)=afH.toList:=by
   rw [List.drop_zero];exact SJ (by simp)
  rw [hall];rw [if_neg (by simp)];have ht1:h1.IsList t afH:=ht.at fun o e=>hs1.extBut _ o hlt (CT _ e)
  refine Zi<|Im<|wpAny_pyNext_list_end hh hit1 ht1 (by simp) fun h2 he2=>?_
  simp only [Option.isSome_none,Ny,if_false];refine BP<|hQ h2 fun b o hb e=>he2 b o hb<|hs1.extBut b o hb<|CT _ e
theorem kW {x1}{pos:Pos}{t:Addr}{afH:Array Yk}{Q:Unit->ZG->Prop}(hh:A.handled=YK)(ht:s.heap.IsList t afH)
  (hn:(Ik elts env).length=afH.size) (hstar:(Ik elts env).findIdx? (·.1)=YK)
  (h:∀ h',Rf s.heap.objs.size s.heap h'->Al (Am prog w) A (assignInOrder ((Ik elts env).map (·.2)) afH.toList) Q E { s with heap:=h' }) :
  Al (Am prog w) A (assign (.Tuple elts x1 pos) env (.ref t)) Q E s:=by
 rw [assign_Tuple];refine Zi<|wpAny_standAt ?_
 unfold unpack;rw [hn,hstar];exact Zi<|Im<|mV hh ht h
end
section
variable {X:Cx}{pos:Pos}
def Xz (K:Ar)(n:Nat)(t:O7):TG:=fun v Z H Q=>∃ a xs,v=.ref a/\(Ed K H a xs\/GK K H a xs)/\xs.length=n/\t xs Z H Q
theorem ade {es:List Expr}{k:Nat}{t:O7}{n:Nat}(hc:X.calm=true)(h:PX X es t)
  (hn:(Ik es X.env).length=n:=by rfl) (hst:(Ik es X.env).findIdx? (·.1)=YK:=by rfl):PG X (.Tuple es k pos) (Xz X.K n t):=by
 intro afG s Z H v u Q I r hw;obtain ⟨a,xs,e1,hq,hl,hw⟩:=hw;subst e1;cases r;rcases hq with hq | hq
 ·obtain ⟨its,rv,ht,hz⟩:=I.tuple hq;refine assign_Tuple_tuple (I.ok.hd hc) ht (by simp [hn,<-hl,rv.length]) hst fun h' hx=>?_;have I1:AP X afG Z H { s with heap:=h' }:=I.kept (t':=s.toks) fun b o e=>hx b o (Fw (CK e)) e
  exact h afG _ Z H xs _ Q I1 (by simpa using rv) hw
 ·obtain ⟨its,rv,ht,hz⟩:=I.list hq;refine kW (I.ok.hd hc) ht.isList (by simp [hn,<-hl,rv.length]) hst fun h' hx=>?_;have I1:AP X afG Z H { s with heap:=h' }:=I.kept (t':=s.toks) fun b o e=>hx b o (Fw (CK e)) e
  exact h afG _ Z H xs _ Q I1 (by simpa using rv) hw
def qp (n:Nat)(g:MK):MG:=fun w Z h N=>match w with
 | .tup ws=>GF (Iw ws.length n) (g ws Z h N) False
 | .lst ws=>GF (Iw ws.length n) (g ws Z h N) False
 | .loc j=>(match h.c j with
  | some (.lst ws)=>GF (Iw ws.length n) (g ws Z h N) False
  | _=>False)
 | _=>False
theorem oY {es:List Expr}{k:Nat}{g:MK}{n:Nat}(hc:X.calm=true)(h:VJ X es g)(hn:(Ik es X.env).length=n:=by rfl)(hst:(Ik es X.env).findIdx? (·.1)=YK:=by rfl):DG X (.Tuple es k pos) (qp n g):=
 (ade (n:=n) hc h hn hst).of fun v Z H N ⟨μ,h,Zw,w,Nw,R,S,r,m,k⟩=>by
  cases w with
  | tup ws=>
   rw [kI] at r;obtain ⟨p,xs,e1,hs,hr⟩:=r;have m:GF (Iw ws.length n) (g ws Zw h Nw) False:=m;cases en:Iw ws.length n with
   | true=>rw [en] at m;exact ⟨p,xs,e1,.inl hs,by rw [<-hr.len];exact T9 en,μ,h,Zw,ws,Nw,R,S,hr,m,k⟩
   | false=>rw [en] at m;exact (show False from m).elim
  | lst ws=>
   rw [kI] at r;obtain ⟨p,xs,e1,hs,hr⟩:=r;have m:GF (Iw ws.length n) (g ws Zw h Nw) False:=m;cases en:Iw ws.length n with
   | true=>rw [en] at m;exact ⟨p,xs,e1,.inr hs.sq,by rw [<-hr.len];exact T9 en,μ,h,Zw,ws,Nw,R,S,hr,m,k⟩
   | false=>rw [en] at m;exact (show False from m).elim
  | loc j=>
   have m:(match h.c j with
    | some (.lst ws)=>GF (Iw ws.length n) (g ws Zw h Nw) False
    | _=>False):=m
   split at m
   ·rename_i ws ec;obtain ⟨p,xs,e1,hs,hr⟩:=cR R r (show eH h (.loc j)=Mk ws by simp only [eH,ec]);cases en:Iw ws.length n with
    | true=>rw [en] at m;exact ⟨p,xs,e1,.inr hs,by rw [<-hr.len];exact T9 en,μ,h,Zw,ws,Nw,R,S,hr,m,k⟩
    | false=>rw [en] at m;exact (show False from m).elim
   ·exact m.elim
  | _=>exact m.elim
end
section
variable {K:Ar}{H:Hp}{h:Gh}{xs:List V}
end
def YS (Q:WK):WK:=fun w h=>match w with
 | .lst ws=>Q (.loc h.nx) (h.new (.lst ws))
 | _=>False
def ZJ (own:W->Option (List W))(ix:List Nat)(mi:MI)(tt:MT)(te:ME):ME:=fun Z h Q=>JN own ix mi tt te Z h (YS Q)
section
variable {X:Cx}{tg iter:Expr}{pos:Pos}{scope:Scope}{xs:List Str}{te:ME}
end
def Cq:Expr->Bool
 | .Starred _ _=>true
 | _=>false
theorem aj {e:Expr}{es:List Expr}(h:Cq e=false):Bo (e::es) env=(false,eval e env)::Bo es env:=by
 cases e <;> first | rfl | cases h
theorem j6 {e:Expr}(h:Cq e=false):Bo [e] env=[(false,eval e env)]:=(aj h).trans rfl
def noStar:List Expr->Bool
 | []=>true
 | e::r=>!Cq e&&noStar r
theorem aB {pos:Pos}{env:Env}:∀ {es:List Expr},noStar es=true->(En pos (Bo es env)).any (·.1)=false
 | [],_=>rfl
 | e::r,h=>by
  rw [noStar,Lw,Bool.not_eq_true'] at h;rw [aj h.1];show (false||(En pos (Bo r env)).any (·.1))=false;rw [aB h.2];rfl
theorem Aq {afJ:Pos}{e:Expr}(h:Cq e=false):((En afJ (Bo [e] env)).all (fun x=>!x.1)&&(backToKw afJ (QJ [] env)).all (fun x=>x.1.isSome)
   && decide (([e]:List Expr).length+([]:List Jx).length+(if ([]:List Jx).isEmpty then 0 else 1)<30))=true:=by
 rw [j6 h];rfl
section
variable {prog:Bs}{w:Bh}{A:Bx}{E:Yk->ZG->Prop}{s:ZG}
open HT in
theorem jr {t sl:Addr}{afH:Array Yk}{vl vu:Yk}{lo hi:Option Int}{Q:Yk->ZG->Prop}(ht:IsTup s.heap t afH)(hs:s.heap.IsSliceOf sl vl vu .none)(pl:IsPart vl lo)(pu:IsPart vu hi)
  (h0:sIx afH.size 0 lo=0) (h1:sIx afH.size afH.size hi=afH.size) (h:Q (.ref t) s):Al (Am prog w) A (getItem (.ref t) (.ref sl)) Q E s:=by
 obtain ⟨os,hos,hcs,hds⟩:=id hs;have hTs:s.TypeIs (.ref sl) "slice":=⟨os,hos,hcs⟩
 unfold getItem;try with_reducible refine Im ?_
 first | refine Zi (BP ?_) | skip
 refine Zi<|wpAny_sequenceKey ht.typeIs (by decide) ?_
 refine Zi (QC (name:=Oa "__getitem__") ht.typeIs Sq
  (Nq Sq ht.typeIs entry_tuple_getitem ?_ (args_tuple_getitem _ _)))
 show Al _ _ (Builtin.Tuple.tupleItemsOf (.ref t) >>= _) _ _ s;refine Zi<|tupleItemsOf_ ht ?_
 refine Zi<|Mf hTs ?_
 rw [if_pos (by decide)];refine Zi<|gD hs pl pu ?_
 have hyes:((((sIx afH.size 0 lo:Nat):Int)==0&&(1:Int)==1&&(sIx afH.size afH.size hi - sIx afH.size 0 lo)==afH.size)=true):=by
  rw [h0,h1];simp
 show Al _ _ (if (((sIx afH.size 0 lo:Nat):Int)==0&&(1:Int)==1&&(sIx afH.size afH.size hi - sIx afH.size 0 lo)==afH.size)=true then _ else _) _ _ s;rw [if_pos hyes];unfold Builtin.Tuple.tupleIsExact;refine Zi<|Zi<|Mf ht.typeIs<|BP ?_
 rw [if_pos (by decide)];refine Zi<|LR ?_
 first
  | exact BP ⟨_,rfl,BP h⟩
  | exact Zi (BP (BP ⟨_,rfl,BP h⟩))
end
section
variable {X:Cx}
def Zu (K:Ar):V->Option Int->Option Int->Hp->VK->Prop:=fun x lo hi H Q=>∃ a xs,x=.ref a/\Ed K H a xs /\
 HT.sIx xs.length 0 lo=0/\HT.sIx xs.length xs.length hi=xs.length/\Q x H
theorem abj:O8 X (Zu X.K):=by
 intro afG s Z H x v vl vu lo hi sl Q I rx hs pl pu h;obtain ⟨a,xs,rfl,hx,h0,h1,q⟩:=h;cases rx;obtain ⟨its,r,ht,hz⟩:=I.tuple hx;have afI:its.toArray.size=xs.length:=by rw [Gm];exact r.length.symm
 refine ⟨"tuple",_,Sq.lookup,ht.typeIs,?_⟩;refine jr ht hs pl pu (by rw [afI];exact h0) (by rw [afI];exact h1) ?_;exact ⟨.ref a,H,I,rfl,q⟩
def QZ (x:W)(lo hi:Option Int)(h:Gh)(Q:WK):Prop:=match x with
 | .tup ws=>Q (.tup (Ac ws lo hi)) h
 | x=>(match eH h x with
  | some ws=>Q (.lst (Ac ws lo hi)) h
  | none=>False)
theorem Ib {e:Expr}{lo hi:Option Expr}{ml mh:MO}{p2 pos:Pos}(he:DE X e ma)(hl:DO X lo ml)(hu:DO X hi mh):DE X (.Subscript e (.Slice lo hi YK p2) pos) (mSl QZ ma ml mh):=
 (zaS (O8.or (O8.or acj adX) abj) he hl hu).of fun Z H Q ⟨μ,h,Zw,Qw,R,S,m,k⟩=>by
  refine ⟨μ,h,Zw,_,R,S,m,fun x H1 ⟨μ1,wx,h1,e1,R1,r1,m1⟩=>?_⟩;refine ⟨μ1,h1,Zw,_,R1,S.ext e1,m1,fun lo H2 ⟨μ2,h2,e2,R2,m2⟩=>?_⟩;refine ⟨μ2,h2,Zw,_,R2,(S.ext e1).ext e2,m2,fun hi H3 ⟨μ3,h3,e3,R3,m3⟩=>?_⟩;have e13:=(e1.trans e2).trans e3;have r3:=e3.r _ _ (e2.r _ _ r1);have oth:∀ wy,kI X.K H3 μ3 wy x->(match eH h3 wy with
    | some ws=>Qw (.lst (Ac ws lo hi)) h3
    | none=>False)->∃ p xs,x=.ref p/\GK X.K H3 p xs/\∀ l,H3 l=YK->Q (.ref l) (CJ H3 l (.lst (G8 xs lo hi))):=by
   intro wy ry my;split at my
   ·rename_i ws ev;obtain ⟨p,xs,ex,hs,rs⟩:=cR R3 ry ev;exact ⟨p,xs,ex,hs,fun l hl=>k _ _ ⟨μ3,_,h3,e13.trans (Ex.laid hl).ext,R3.laid hl,.lstNew R3 hl<|rs.cutv lo hi,my⟩⟩
   ·exact my.elim
  cases wx with
  | tup ws=>
   have m3:Qw (.tup (Ac ws lo hi)) h3:=m3;have r30:=r3;rw [kI] at r3;obtain ⟨p,xs,ex,hx,rs⟩:=r3;have hl:=rs.len;by_cases hw:HT.sIx xs.length 0 lo=0/\HT.sIx xs.length xs.length hi=xs.length
   ·have ec:Ac ws lo hi=ws:=by
     unfold Ac;rw [hl,hw.1,hw.2,List.drop_zero,Nat.sub_zero,<-hl,Jb]
    rw [ec] at m3;exact .inr ⟨p,xs,ex,hx,hw.1,hw.2,k _ _ ⟨μ3,.tup ws,h3,e13,R3,r30,m3⟩⟩
   ·exact .inl<|.inr ⟨p,xs,ex,hx,hw,fun q hq=>k _ _ ⟨μ3,.tup<|Ac ws lo hi,h3,e13.trans (Ex.laid hq).ext,R3.laid hq,.tupNew hq<|rs.cutv lo hi,m3⟩⟩
  | _=>exact .inl (.inl (oth _ r3 m3))
def Qv:MC:=fun ws h Q=>match ws with
 | [.int i]=>Q (.int i) h
 | [.bl b]=>Q (.int (if b then 1 else 0)) h
 | _=>False
theorem Yc:lO X (.type "int") Qv:=⟨_,aaw,by
 intro H μ h vs ws Qw Q R r m k;unfold Qv at m;split at m
 ·obtain ⟨v,e,rv⟩:=jP r;rw [kI] at rv;subst e rv;exact .inl ⟨_,rfl,k _ _<|.int R m⟩
 ·obtain ⟨v,e,rv⟩:=jP r;rw [kI] at rv;subst e rv;exact .inr ⟨_,rfl,k _ _<|.int R m⟩
 ·exact m.elim⟩
theorem pY:fillsNumberSlot (.type "tuple") "mul" = pure false:=
 PySem.fillsNumberSlot_seq (id := "tuple.__mul__") (r:=Mk (.builtin "tuple.__rmul__")) F.slot_tuple_mul.lookup (by decide +kernel) F.slot_tuple_rmul.lookup (by decide +kernel)
theorem aaz:seqRepeat? (.type "tuple")=pure (Mk (.builtin "tuple.__mul__")):=by
 unfold seqRepeat?;rw [PySem.seqSlot_of (T := "tuple") (name := "__mul__") (id := "tuple.__mul__") F.slot_tuple_mul.lookup (by decide +kernel),PySem.seqSlot_of (T := "tuple") (name := "__rmul__") (id := "tuple.__rmul__") F.slot_tuple_rmul.lookup (by decide +kernel)];rfl
theorem uG (a:Int)(t:Tok)(l:Addr)(afH:Array Yk):
  Meets (O6.«int.__rmul__» ⟨[.int a t,.ref l],[]⟩) (fun _ R s=>IsTup s.heap l afH/\R (.ok (.ret Value.notImplemented)) s):=
 .of_wp fun prog w A R s h=>by
  obtain ⟨hp,g,d,tk,os⟩:=s;obtain ⟨⟨o,ho,hc,n,hd⟩,h⟩:=h;obtain ⟨cl,dd,da,sl⟩:=o;simp only at hc hd;subst hc hd
  wp_walk
  exact ⟨_,rfl,h⟩
theorem aeC (l:Addr)(afH:Array Yk)(k:Int)(t:Tok)(h0:0<=k)(h1:k<2^63)(hz:afH.size*k.toNat<=CR):
  Meets (O6.«tuple.__mul__» ⟨[.ref l,.int k t],[]⟩) (fun _ R s=>IsTup s.heap l afH/\(if afH.size=0\/k=1 then R (.ok (.ret (.ref l))) s else
   R (.ok (.ret (.ref s.heap.objs.size))) { s with heap:=s.heap.push { cls:=.type "tuple",data:=.seq (BK k.toNat afH.toList).flatten.toArray } })):=
 .of_wp fun prog w A R s h=>by
  obtain ⟨hp,g,d,tk,os⟩:=s;obtain ⟨⟨o,ho,hc,n,hd⟩,h⟩:=h;obtain ⟨cl,dd,da,sl⟩:=o;simp only at hc hd;subst hc hd;have ht:IsTup hp l afH:=⟨_,ho,rfl,n,rfl⟩
  wp_walk
  rw [if_neg (by simp;lia)];refine Zi<|tupleItemsOf_ (s:=⟨hp,g,d,tk,os⟩) ht ?_
  dsimp only;have hemp:afH.isEmpty=decide (afH.size=0):=rfl;by_cases e:afH.size=0\/k=1
  ·rw [if_pos e] at h;rw [if_pos (by rcases e with e | e <;> simp [hemp,e])];unfold Builtin.Tuple.tupleIsExact;refine Zi<|Zi<|Mf ⟨_,ho,rfl⟩<|BP ?_
   rw [if_pos (by decide)];refine Zi<|LR ?_
   exact BP ⟨_,rfl,h⟩
  ·rw [if_neg e] at h;rw [not_or] at e;rw [if_neg (by simp [hemp,e.1,e.2])];by_cases k0:k=0
   ·rw [if_pos (by simp [k0])];subst k0;have ee:(BK (0:Int).toNat afH.toList).flatten.toArray = #[]:=rfl;rw [ee] at h;exact Zi (m:=Qi _)<|Js (BP ⟨_,rfl,h⟩) (by show 0<=CR;exact IK _)
   ·rw [if_neg (by simp [hemp,e.1];lia)];have hp8:((2:Int)^63 - 1) / 8=1152921504606846975:=by decide
    have hsz:(CR:Nat)<=1152921504606846975:=by decide
    have hk:((afH.size*k.toNat:Nat):Int)=(afH.size:Int)*k:=by rw [Int.natCast_mul,Int.toNat_of_nonneg h0]
    rw [if_neg (by rw [hp8,<-hk];lia)];rw [if_neg (by unfold Builtin.Tuple.tupleTooMany;rw [<-hk,decide_eq_true_iff];lia)];have hnew:List.foldl (fun x1 x2=>x1++x2) #[] (BK k.toNat afH)=(BK k.toNat afH.toList).flatten.toArray:=by
     have:=foldl_rep afH.toList k.toNat []
     rw [Rn] at this
     simpa using this
    rw [hnew];refine Zi (m:=Qi _)<|Js (BP ⟨_,rfl,h⟩) ?_
    show (BK k.toNat afH.toList).flatten.toArray.size<=CR;rw [Gm,len_rep,Nat.mul_comm]
    simpa using hz
def Yg (K:Ar):R2:=fun x y H Q=>∃ a xs k,x=.ref a/\y=.int k/\Ed K H a xs/\0<=k/\k<2^63/\xs.length*k.toNat<=CR /\
 ((xs.length=0\/k=1)->Q (.ref a) H)/\(¬ (xs.length=0\/k=1)->∀ p,H p=YK->Q (.ref p) (CJ H p (.tup (BK k.toNat xs).flatten)))
theorem zbq:HJ X (Iu .Mult) (Yg X.K):=by
 intro afG s Z H x y v u Q I rx ry h;obtain ⟨a,xs,k,rfl,rfl,hx,h0,h1,hz,q1,q2⟩:=h;cases rx;obtain ⟨t,rfl⟩:=ry;obtain ⟨its,r,ht,hsz⟩:=I.tuple hx;have afI:its.toArray.size=xs.length:=by rw [Gm];exact r.length.symm
 refine wpAny_binaryOp_repeat_ref (T := "tuple") (U := "int") (by decide) ht.typeIs (fun s'=>typeIs_int s' k t) pY F.fills_int_mul F.slot_int_rmul aaz F.slot_int_index.lookup
  (call_meets F.slot_int_rmul (typeIs_int s k t) F.entry_int_rmul (F.args_int_rmul_2 _ _) (uG k t a its.toArray)
   ⟨ht,rfl,ht.typeIs,call_meets F.slot_tuple_mul ht.typeIs F.entry_tuple_mul (F.args_tuple_mul_2 _ _) (aeC a its.toArray k t h0 h1 (by rw [afI];exact hz)) ⟨ht,?_⟩⟩)
 rw [afI];by_cases e:xs.length=0\/k=1
 ·rw [if_pos e];exact ⟨.ref a,H,I,rfl,q1 e⟩
 ·rw [if_neg e];refine ⟨.ref s.heap.objs.size,_,I.laid (t':=s.toks) (o:=.tup (BK k.toNat xs).flatten) (fun b ob q=>CT _ q) (Bp _) ?_,rfl,q2 e _<|I.hok.fresh<|Bp _⟩;exact ⟨by rw [len_rep,Nat.mul_comm];exact hz,_,r.rep k.toNat,GD.new _ _⟩
def Ga:M2:=fun x y h Q=>match x,y with
 | .int i,.int j=>p8 i j/\Q (.int (i*j)) h
 | .tup ws,.int k=>(0<=k/\k<=1000/\ws.length*k.toNat<=1000)/\Q (.tup (BK k.toNat ws).flatten) h
 | _,_=>False
theorem zR {K:Ar}{H:Hp}{μ : Mu}{ws:List W}{xs:List V}(r:aO K H μ ws xs):∀ k:Nat,aO K H μ (BK k ws).flatten (BK k xs).flatten
 | 0=>W0
 | k+1=>by
  rw [Oj,Oj,Qf,Qf];exact aO.append r<|zR r k
theorem uI:Le X (Iu .Mult) Ga:=⟨_,Fj.or zbq,by
  intro H μ h x y wx wy Qw Q R rx ry m k;cases wx with
  | int i=>cases wy with
    | int j=>
      rw [kI] at rx ry;have m:p8 i j/\Qw (.int (i*j)) h:=m;exact .inl ⟨_,_,rx,ry,m.1,k _ _<|.int R m.2⟩
    | _=>exact (show False from m).elim
  | tup ws=>cases wy with
    | int n=>
      have m:(0<=n/\n<=1000/\ws.length*n.toNat<=1000)/\Qw (.tup (BK n.toNat ws).flatten) h:=m;obtain ⟨⟨h0,h1,h2⟩,m⟩:=m;have rx0:=rx;rw [kI] at rx;rw [kI] at ry;obtain ⟨p,xs,ex,hx,rs⟩:=rx;have hl:=rs.len;have sz:(1000:Nat)<=CR:=by decide
      have p63:(2:Int)^63=9223372036854775808:=by decide
      refine .inr ⟨p,xs,n,ex,ry,hx,h0,by lia,by rw [<-hl];lia,fun e=>?_,fun e q hq=>?_⟩
      . have ee:(BK n.toNat ws).flatten=ws:=by
          rcases e with e | e
          . have:ws=[]:=N5 (by lia)
            subst this;have:∀ k:Nat,(BK k ([]:List W)).flatten=[]:=fun k=>by induction k with
              | zero=>rfl
              | succ k ih=>rw [Oj,Qf,ih];rfl
            exact this _
          . subst e
            show (BK 1 ws).flatten=ws;simp
        rw [ee] at m;rw [<-ex];exact k _ _ ⟨μ,.tup ws,h,.refl,R,rx0,m⟩
      . exact k _ _ ⟨μ,.tup (BK n.toNat ws).flatten,h,(Ex.laid hq).ext,R.laid hq,.tupNew hq (zR rs _),m⟩
    | _=>exact (show False from m).elim
  | _=>exact (show False from by cases wy <;> exact m).elim⟩
def Wv:V->List V->Hp->VK->Prop:=fun x vs H Q=>∃ i:Int,x=.int i/\vs=[]/\Q (.int (RZ i:Nat)) H
theorem zbi:MtR X "int.bit_length" Wv:=by
 intro afG s Z H x vs v us Q I rx rv h;obtain ⟨i,rfl,rfl,q⟩:=h;obtain ⟨t,rfl⟩:=rx;have hus:=rv.zero;subst hus;exact call_int_bit_length ⟨.int (RZ i:Nat),H,I.tok _,⟨_,rfl⟩,q⟩
def Uc (mo:ME):ME:=fun Z h Q=>mo Z h fun x h1=>match x with
 | .int i=>Q (.int (RZ i:Nat)) h1
 | _=>False
theorem acS {o:Expr}{apos afJ:Pos}(ho:DE X o mo)(hbase:QF o "bit_length" X.env (eval o X.env)=eval o X.env:=by rfl)(hline:(apos.endLine==afJ.line)=true:=by rfl):
  DE X (.Call (.Attribute o "bit_length" apos) [] [] afJ) (Uc mo):=(aeG PySem.F.plainAttrs_int slot_int_bit_length type_int_bit_length zbi ho hbase hline).of fun Z H Q ⟨μ,h,Zw,Qw,R,S,m,k⟩=>by
 refine ⟨μ,h,Zw,_,R,S,m,fun v H1 ⟨μ1,w,h1,e1,R1,r1,m1⟩=>?_⟩;cases w with
 | int i=>
  rw [kI] at r1;subst r1;have z:DQ X.K H1 μ1 Qw (.int (RZ i:Nat)) H1:=.int R1 m1;exact ⟨rfl,i,rfl,rfl,k _ _<|z.trans e1⟩
 | _=>exact (show False from m1).elim
end
def XO (h:Heap)(P:Addr->Prop)(e C:Addr)(od:Option Addr):Prop:=P e/\∃ (oe:Obj) (vs:Array Yk),h.get? e=Mk oe/\oe.cls=.ref C/\oe.dict=od/\oe.data=.fields vs/\vs.size<=1000/\vs[2]?=Mk .none /\
 (vs[1]?=Mk .none\/∃ (T:Addr) (oT:Obj) (ts:Array Yk),vs[1]?=Mk (.ref T)/\T≠e/\P T/\h.get? T=Mk oT/\oT.data=.fields ts/\3<ts.size)
def XN (h:Heap)(P:Addr->Prop)(e C:Addr)(od:Option Addr):Prop:=P e/\∃ (oe:Obj) (vs:Array Yk),h.get? e=Mk oe/\oe.cls=.ref C/\oe.dict=od/\oe.data=.fields vs/\vs.size<=1000/\vs[2]?=Mk .none /\
 ∃ (T:Addr) (oT:Obj) (ts:Array Yk),vs[1]?=Mk (.ref T)/\T≠e/\P T/\h.get? T=Mk oT/\oT.data=.fields ts/\3<ts.size
theorem XN.xo {h:Heap}{P:Addr->Prop}{e C:Addr}{od:Option Addr}(x:XN h P e C od):XO h P e C od:=by
 obtain ⟨p,oe,vs,a,b,c,d,f,g,k⟩:=x;exact ⟨p,oe,vs,a,b,c,d,f,g,.inr k⟩
theorem XO.mono {h:Heap}{P P':Addr->Prop}{e C:Addr}{od:Option Addr}(x:XO h P e C od)(k:∀ b,P b->P' b):XO h P' e C od:=by
 obtain ⟨p,oe,vs,a,b,c,d,f,g,z⟩:=x;refine ⟨k _ p,oe,vs,a,b,c,d,f,g,?_⟩;rcases z with z | ⟨T,oT,ts,z1,z2,z3,z4⟩
 ·exact .inl z
 ·exact .inr ⟨T,oT,ts,z1,z2,k _ z3,z4⟩
theorem XN.mono {h:Heap}{P P':Addr->Prop}{e C:Addr}{od:Option Addr}(x:XN h P e C od)(k:∀ b,P b->P' b):XN h P' e C od:=by
 obtain ⟨p,oe,vs,a,b,c,d,f,g,T,oT,ts,z1,z2,z3,z4⟩:=x;exact ⟨k _ p,oe,vs,a,b,c,d,f,g,T,oT,ts,z1,z2,k _ z3,z4⟩
structure N6 (P:Addr->Prop) (fs:List Addr) (h h':Heap):Prop where
 keep:∀ b o,¬ P b->b∉fs->h.get? b=Mk o->h'.get? b=Mk o
 slot:∀ b o,¬ P b->h.get? b=Mk o->∃ sl,h'.get? b=Mk { o with slots:=sl }
 there:∀ b o,h.get? b=Mk o->∃ o',h'.get? b=Mk o'
theorem N6.refl {P:Addr->Prop}{fs:List Addr}{h:Heap}:N6 P fs h h:=⟨fun _ _ _ _ e=>e,fun _ o _ e=>⟨o.slots,e⟩,fun _ o e=>⟨o,e⟩⟩
theorem N6.trans {P:Addr->Prop}{fs:List Addr}{h h1 h2:Heap}(a:N6 P fs h h1)(b:N6 P fs h1 h2):N6 P fs h h2:=
 ⟨fun c o n m e=>b.keep c o n m (a.keep c o n m e),fun c o n e=>let ⟨_,e1⟩:=a.slot c o n e;let ⟨sl,e2⟩:=b.slot c _ n e1;⟨sl,e2⟩,fun c o e=>let ⟨o1,e1⟩:=a.there c o e;b.there c o1 e1⟩
section
variable {M:Model}{A:Bx}{E:Yk->ZG->Prop}{s:ZG}{P:Addr->Prop}{e C:Addr}{od:Option Addr}
theorem zay {fl:Option Addr}{fs:List Addr}{Q:Unit->ZG->Prop}(x:XN s.heap P e C od)(h:∀ h',XN h' P e C od->N6 P fs s.heap h'->Q () { s with heap:=h' }):Al M A (setFlight (.ref e) fl) Q E s:=by
 obtain ⟨p,oe,vs,he,hc,hdd,hd,hz,h2,T,oT,ts,h1,hne,pT,hT,hdT,h3⟩:=x;unfold setFlight;refine Zi<|Ig he hd h1 ?_
 rw [if_pos (show (Value.ref T != Value.none)=true from by simp)];refine Qm hT hdT h3<|h _ ?_ ?_
 ·have hd3:=Og hdT (·.setIfInBounds 3 (fl.elim Value.none fun f=>JT f));refine ⟨p,oe,vs,?_,hc,hdd,hd,hz,h2,T,_,_,h1,hne,pT,PN _ hT<|Qd hd3,hd3,by simpa using h3⟩;rw [Ln _ _ hne];exact he
 ·have ne:∀ b,¬ P b->T≠b:=fun b n q=>n (q ▸ pT)
  refine ⟨fun b o n _ q=>by rw [Ln _ _<|ne b n];exact q,fun b o n q=>⟨o.slots,by rw [Ln _ _<|ne b n];exact q⟩,fun b o q=>?_⟩;by_cases hb:T=b
  ·subst hb;exact ⟨_,PN _ hT<|Qd<|Og hdT _⟩
  ·exact ⟨o,by rw [Ln _ _ hb];exact q⟩
theorem yC {base:Heap}{outer:List Env}{L:Addr}{oe:Obj}{vs:Array Yk}{head:Yk}{hadNext:Bool}{Q:Unit->ZG->Prop}
  (hfr:A.frames=Mk (env::outer)) (hl:s.heap.FunFrames base (env::outer)) (hf:env.frame=Mk L) (pe:P e) (he:s.heap.get? e=Mk oe) (hc:oe.cls=.ref C) (hdd:oe.dict=od) (hd:oe.data=.fields vs) (hz:vs.size<=1000) (h2:vs[2]?=Mk .none)
  (pn:∀ b,s.heap.get? b=YK->P b) (h:∀ h',XN h' P e C od->N6 P (frs (env::outer)) s.heap h'->Q () { s with heap:=h' }) :
  Al M A (do let a <-frameOf env;let pl <-entryPlaceOf L hadNext;let b <-EntryCells.newEntry head a .none (JT L) .none pl;setField (.ref e) 1 b) Q E s:=by
 have hsz:1<vs.size:=Nat.lt_trans (by decide) (Array.getElem?_eq_some_iff.mp h2).1;have hene:e∉(env::outer).filterMap (·.frame):=fun hm=>by
  obtain ⟨_,o,ho,hnf⟩:=hl.mem hm;rw [he] at ho;injection ho with ho;subst ho;exact hnf vs hd
 refine Zi<|wpAny_frameOf_fun hfr hl hf fun h₁ hs₁=>?_
 refine Zi<|wpAny_entryPlaceOf fun pl hpl=>?_
 unfold EntryCells.newEntry newFields;refine Zi<|Js ?_<|hpl.sizeOk5 _ _ _ _ _
 have he₁ : h₁.get? e=Mk oe:=(hs₁.2.1 e hene).trans he;have he₂:=CT (h:=h₁) { cls:=.type "traceback",dict:=YK,data:=.fields ([head,.ref L,.none,JT L,.none]++(if pl.isEmpty then BK 6 Value.none else pl)).toArray } he₁;refine Qm he₂ hd hsz<|h _ ?_ ?_
 ·have hTe:h₁.objs.size≠e:=IW (CK he₁);have hd₃:=Og hd (·.setIfInBounds 1 (Value.ref h₁.objs.size));refine ⟨pe,_,_,PN _ he₂ (Qd hd₃),by rw [Obj.cls_mapFields];exact hc,?_,hd₃,by simpa using hz,by rw [Array.getElem?_setIfInBounds_ne (by decide)];exact h2,h₁.objs.size,_,_,by simp [hsz],hTe,
   pn _ (RW (by rw [hs₁.1];exact Bp _)),(Ln _ _ (Hf hTe)).trans (Ej h₁ rfl),rfl,by simp only [Gm,HB,Il,T3] <;> lia⟩
  obtain ⟨c,dd,dt,sl⟩:=oe;cases hd;exact hdd
 ·have ne:∀ b,¬ P b->e≠b:=fun b n q=>n (q ▸ pe)
  refine ⟨fun b o n m q=>?_,fun b o n q=>?_,fun b o q=>?_⟩
  ·rw [Ln _ _ (ne b n)];exact CT _<|(hs₁.2.1 b m).trans q
  ·obtain ⟨sl,e1⟩:=hs₁.2.2 b o q;exact ⟨sl,by rw [Ln _ _<|ne b n];exact CT _ e1⟩
  ·obtain ⟨sl,e1⟩:=hs₁.2.2 b o q;by_cases hb:e=b
   ·subst hb;exact ⟨_,PN _ he₂<|Qd<|Og hd _⟩
   ·exact ⟨_,by rw [Ln _ _ hb];exact CT _ e1⟩
theorem zbh {base:Heap}{outer:List Env}{L:Addr}{Q:Unit->ZG->Prop}(hfr:A.frames=Mk (env::outer))(hl:s.heap.FunFrames base (env::outer))(hf:env.frame=Mk L)(x:XO s.heap P e C od)
  (pn:∀ b,s.heap.get? b=YK->P b) (pf:∀ b∈frs (env::outer),¬ P b) (h:∀ h',XN h' P e C od->N6 P (frs (env::outer)) s.heap h'->Q () { s with heap:=h' }):Al M A (noteFrame (.ref e) env) Q E s:=by
 obtain ⟨p,oe,vs,he,hc,hdd,hd,hz,h2,z⟩:=x;unfold noteFrame;simp only [hf];rcases z with h1 | ⟨T,oT,ts,h1,hne,pT,hT,hdT,h3⟩
 ·refine Zi<|Ig he hd h1 ?_
  rw [if_neg (by decide)];exact yC hfr hl hf p he hc hdd hd hz h2 pn h
 ·refine Zi<|Ig he hd h1 ?_
  rw [if_pos (show (Value.ref T != Value.none)=true from by simp)];refine Zi<|Ig hT hdT (x:=ts[3]) (by simp [h3]) ?_
  by_cases q:(ts[3]==JT L)=true
  ·rw [if_pos q];exact BP<|h s.heap ⟨p,oe,vs,he,hc,hdd,hd,hz,h2,T,oT,ts,h1,hne,pT,hT,hdT,h3⟩ .refl
  ·rw [if_neg q];refine Zi<|Qm hT hdT h3 ?_
   have other:∀ b,b≠T->(s.heap.update T (Obj.mapFields (·.setIfInBounds 3 Value.none))).get? b=s.heap.get? b:=fun b hb=>Ln _ _ (Hf hb)
   have nT:∀ b,¬ P b->b≠T:=fun b n q=>n (q ▸ pT)
   have st:N6 P (frs (env::outer)) s.heap (s.heap.update T (Obj.mapFields (·.setIfInBounds 3 Value.none))):=by
    refine ⟨fun b o n _ q=>(other b<|nT b n).trans q,fun b o n q=>⟨o.slots,(other b<|nT b n).trans q⟩,fun b o q=>?_⟩;by_cases hb:T=b
    ·subst hb;exact ⟨_,PN _ hT<|Qd<|Og hdT _⟩
    ·exact ⟨o,(other b<|Hf hb).trans q⟩
   refine yC (s:={ s with heap:=s.heap.update T (Obj.mapFields (·.setIfInBounds 3 Value.none)) }) hfr (hl.of_keeps fun b o hb hnf=>⟨o,(other b fun q=>?_).trans hb,rfl⟩) hf p ((other e<|Hf hne).trans he) hc hdd hd hz h2 (fun b q=>?_) fun h' x1 x2=>h h' x1<|st.trans x2
   ·rw [q,hT] at hb;injection hb with hb;subst hb;exact hnf ts hdT
   ·by_cases hb:b=T
    ·rw [hb];exact pT
    ·exact pn b<|(other b hb).symm.trans q
end
variable {L : Addr}{fl : Option Addr}
theorem dX.obj {P:Bs}{w:Bh}{H:Hp}{h:Heap}{a:Addr}{o:HO}(x:dX P w H h a o):∃ ob,h.get? a=Mk ob:=by
 cases o with
 | lst xs=>obtain ⟨_,_,_,_,e⟩:=x;exact ⟨_,e⟩
 | tup xs=>obtain ⟨_,_,_,ob,e,_⟩:=x;exact ⟨_,e⟩
 | dK kvs=>obtain ⟨_,_,_,_,o,_,_,e,_⟩:=x;exact ⟨_,e⟩
 | dT kvs=>obtain ⟨_,_,_,_,o,_,_,e,_⟩:=x;exact ⟨_,e⟩
 | set S n=>obtain ⟨o,_,_,_,e,_⟩:=x;exact ⟨_,e⟩
 | ins C dx fs=>obtain ⟨_,_,_,e,_⟩:=x;exact ⟨_,e⟩
 | own y=>obtain ⟨_,e⟩:=x;exact ⟨_,e⟩
 | xd fs=>obtain ⟨_,⟨_,_,_,e,_⟩,_⟩:=x;exact ⟨_,e⟩
 | rng lo hi=>obtain ⟨_,_,_,e⟩:=x;exact ⟨_,e⟩
 | frz ob u=>obtain ⟨e,_⟩:=x;exact ⟨_,e⟩
 | tbl ps=>exact ⟨_,show h.get? a=Mk _ from x⟩
 | met f y=>exact ⟨_,show h.get? a=Mk _ from x⟩
 | ext φ=>obtain ⟨_,⟨_,e⟩,_⟩:=x;exact ⟨_,e⟩
section
variable {X:Cx}{afG:List (Addr×Obj)}{Z : St}{H H':Hp}{s s':ZG}{b e C:Addr}{od:Option Addr}
structure New (X:Cx) (afG:List (Addr×Obj)) (H:Hp) (b:Addr):Prop where
 h:H b=YK
 s:b∈X.ex\/X.s₀.heap.get? b=YK
 l:b≠X.env.locals
 c:∀ x c,X.env.cells.lookup x=Mk c->c≠b
 p:∀ p∈X.pn++afG,p.1≠b
 f:b∉X.fs
theorem AP.newOf (I:AP X afG Z H s)(hb:s.heap.get? b=YK):New X afG H b where
 h:=by
  cases q:H b with
  | none=>rfl
  | some u=>obtain ⟨ob,e⟩:=(I.hok b u q).obj;rw [hb] at e;cases e
 s:=by
  by_cases hx:b∈X.ex
  ·exact .inl hx
  ·cases q:X.s₀.heap.get? b with
   | none=>exact .inr rfl
   | some o=>obtain ⟨o',e⟩:=I.base.there b o q hx;rw [hb] at e;cases e
 l:=fun z=>by obtain ⟨m,⟨o,_,_,ho,_⟩,_⟩:=I.loc;rw [<-z,hb] at ho;cases ho
 c:=fun x c e z=>by obtain ⟨v,o,ho,_⟩:=I.cell x c e;rw [z,hb] at ho;cases ho
 p:=fun p hp z=>by have ho:=(I.pin p hp).1;rw [z,hb] at ho;cases ho
 f:=fun hm=>by obtain ⟨_,o,ho,_⟩:=I.funs.mem hm;rw [hb] at ho;cases ho
open Classical in
theorem AP.stp {h':Heap}(I:AP X afG Z H s)(st:N6 (New X afG H) (frs X.stack) s.heap h'):AP X afG Z H { s with heap:=h' }:=by
 have inCh:∀ b o,s.heap.get? b=Mk o->b∉(Hz s.heap.objs.size).filter (fun b=>decide (New X afG H b))->¬ New X afG H b:=fun b o e n z=>
  n (Rm.mpr ⟨Nu.mpr (CK e),decide_eq_true z⟩)
 refine I.stepG (g':=s.gens) (t':=s.toks) (d':=s.drawn) (ch:=(Hz s.heap.objs.size).filter (fun b=>decide<|New X afG H b)) (fun b hb=>?_) (fun b o hL hf hc e n=>?_) (fun b o _ _ hc e _=>st.slot b o (inCh b o e hc) e) (fun _ _ _ _ n=>n)
  (fun b o _ e=>st.there b o e) (fun _ _ q=>q) (fun _ _ _ q=>q) (fun _ ps q=>⟨#[],by rw [q];simp⟩) (fun m hm=>?_) (fun b u q=>?_) I.bare
 ·have z:=of_decide_eq_true (Rm.mp hb).2;exact ⟨z.s,z.l,z.c,z.p⟩
 ·exact st.keep b o (inCh b o e hc) (fun z=>(El.mp<|I.stkSub b z).elim hL hf) e
 ·obtain ⟨o,es,ep,ho,r⟩:=hm;obtain ⟨sl,q⟩:=st.slot _ o (fun z=>z.l rfl) ho;exact ⟨_,es,ep,q,r⟩
 ·refine (I.hok b u q).stay (fun c v hc r=>?_) (fun _ q=>q) fun _ _ q=>q;have hH:H c≠YK:=by
   rcases hc with z | z
   ·rw [z,q];simp
   ·rw [z];simp
  exact st.keep c v (fun z=>hH z.h) (fun z=>hH<|I.stkFree c z) r
structure FX (X:Cx) (afG:List (Addr×Obj)) (Z : St) (H:Hp) (s:ZG) (e C:Addr) (od:Option Addr):Prop where
 inv:AP X afG Z H s
 xo:XO s.heap (New X afG H) e C od
structure FN (X:Cx) (afG:List (Addr×Obj)) (Z : St) (H:Hp) (s:ZG) (e C:Addr) (od:Option Addr):Prop where
 inv:AP X afG Z H s
 xn:XN s.heap (New X afG H) e C od
theorem FN.fx (F:FN X afG Z H s e C od):FX X afG Z H s e C od:=⟨F.inv,F.xn.xo⟩
def Top (X:Cx):Prop:=X.stack=X.env::X.outer/\X.env.frame=Mk X.env.locals
theorem FX.note {M:Model}{A:Bx}{E:Yk->ZG->Prop}{Q:Unit->ZG->Prop}(F:FX X afG Z H s e C od)(ht:Top X)(hA:A.frames=Mk X.stack)(h:∀ h',FN X afG Z H { s with heap:=h' } e C od->Q () { s with heap:=h' }):
  Al M A (noteFrame (.ref e) X.env) Q E s:=by
 have hst:=F.inv.stack;rw [ht.1] at hst hA;refine zbh (P:=New X afG H) hA hst ht.2 F.xo (fun b hb=>F.inv.newOf hb) (fun b hb z=>?_) fun h' x st=>h h' ⟨F.inv.stp (by rw [ht.1];exact st),x⟩;have hb':b∈frs X.stack:=by rw [ht.1];exact hb
 rcases El.mp (F.inv.stkSub b hb') with q | q
 ·exact z.l q
 ·exact z.f q
theorem FN.flight {M:Model}{A:Bx}{E:Yk->ZG->Prop}{Q:Unit->ZG->Prop}(F:FN X afG Z H s e C od)(h:∀ h',FN X afG Z H { s with heap:=h' } e C od->Q () { s with heap:=h' }):
  Al M A (setFlight (.ref e) fl) Q E s:=zay (fs:=frs X.stack) F.xn fun h' x st=>h h' ⟨F.inv.stp st,x⟩
def CXX (P:Bs)(w:Bh):OD:=fun outer H s E e s'=>∃ (a C:Addr) (od:Option Addr) (H':Hp),e=.ref a/\s'.os=s.os/\Nh s'.gens/\Un (frs outer) [] H H' s.heap s'.heap/\HN P w H' s'.heap /\
 XN s'.heap (fun b=>H' b=YK/\s.heap.get? b=YK) a C od/\E (.ref C) od H'
theorem FX.leave {M:Model}{E':Yk->ZG->Prop}{E:XK}(F:FX X afG Z H s e C od)(ht:Top X)(hx:X.ex=[])(he:E (.ref C) od H):
  Al M X.A (leaving X.env (.ref e)) (fun _ s3=>CXX X.prog X.w X.outer X.H₀ X.s₀ E (.ref e) s3) E' s:=by
 unfold leaving;refine Zi<|F.note ht F.inv.ok.frames fun h1 F1=>F1.flight fun h2 F2=>?_
 have I:=F2.inv;refine ⟨e,C,od,H,rfl,I.os,I.bare,by have:=I.base;rw [hx] at this;exact this,I.hok,F2.xn.mono fun b z=>⟨z.h,?_⟩,he⟩;rcases z.s with q | q
 ·rw [hx] at q;cases q
 ·exact q
theorem AP.cxx {E:XK}{ev:Yk}(I:AP X afG Z H s)(h:CXX X.prog X.w X.stack H s E ev s'):∃ (a C:Addr) (od:Option Addr) (H':Hp),ev=.ref a/\FN X afG Z H' s' a C od/\E (.ref C) od H':=by
 obtain ⟨a,C,od,H',e1,os,bare,un,hok,x,he⟩:=h;refine ⟨a,C,od,H',e1,⟨I.call' os un hok bare (ch:=[])<|fun b z=>absurd z<|by simp,x.mono fun b z=>?_⟩,he⟩;have n:=I.newOf z.2;exact ⟨z.1,n.s,n.l,n.c,n.p,n.f⟩
end
variable {bm : List Yk}{newId : String}
theorem zbn {K:Ar}{h:Heap}{C:Addr}(X:K.In h)(q:Qc K C bm newId=true):
  ∃ (tl:List Yk) (N:Addr) (nm qn:Str) (bs:List Yk) (hd:Bool) (sn:List Str) (sub:List Yk) (ab:Bool) (col:Option Bool) (dd:Option Addr) (k0 k1 k2 k3 k5:Option Yk) (mN:Str->Option Yk),
   K.lookup C=Mk (excClassObj nm qn C N bs tl hd sn sub ab col dd k0 k1 k2 k3 k5 newId)/\h.Ns N mN/\mN "__init__" = YK/\OwnTail h bm tl:=by
 unfold Qc at q;split at q
 ·rename_i dd cd sl ho;split at q
  ·rename_i C' bm' k0 k1 k2 k3 n k5 hm hs;simp only [Lw,beq_iff_eq,Bool.not_eq_true'] at q;obtain ⟨⟨⟨⟨⟨rfl,rfl⟩,hdel⟩,ht⟩,hok⟩,hni⟩:=q;obtain ⟨nm,bs,mro,ns,qn,hd,sn,sub,ab,col,del⟩:=cd;dsimp only at hm hdel hok hni;subst hm hdel;have hsl:sl = #[k0,k1,k2,k3,Mk (.builtin n),k5]:=by
    obtain ⟨l⟩:=sl;simp only at hs;rw [hs]
   subst hsl;exact ⟨bm',ns,nm,qn,bs,hd,sn,sub,ab,col,dd,k0,k1,k2,k3,k5,_,ho,.of_isNs<|PySem.W.isNs_of_in X hok,PySem.W.nsMap_none_of_in X hok hni,PySem.W.tail_of_in X ht⟩
  ·cases q
 ·cases q
section
variable {X:Cx}{afG:List (Addr×Obj)}{Z : St}{H:Hp}{s:ZG}{C:Addr}{x:Str}{np afJ pos:Pos}{e:Expr}{es:List Expr}{t:TA}
theorem zah {Q:Flow->ZG->Prop}{R:Hp->Prop}(hc:X.calm=true)(hg:Gl X x)(hm:X.mg x=Mk (.ref C))(hq:Qc X.K C N8 "ValueError.__new__" = true)(ha:PA X (e::es) t)
  (I:AP X afG Z H s) (h:t Z H fun vs H1=>vs.length<=CR/\R H1) (hx:∀ a H1 s',FX X afG Z H1 s' a C YK->R H1->X.xe (.ref a) s')
  (hdb:(x==("__debug__" : Str))=false:=by decide) (he:Bo (e::es) X.env=(false,eval e X.env)::Bo es X.env:=by rfl) (hpl:(En afJ (Bo es X.env)).any (·.1)=false:=by rfl) :
  Al (Am X.prog X.w) X.A (exec (.Raise (Mk (.Call (.Name x np) (e::es) [] afJ)) YK pos) X.env) Q X.xe s:=by
 obtain ⟨tl,N,nm,qn,bs,hd,sn,sub,ab,col,dd,k0,k1,k2,k3,k5,mN,hC,hN,hni,T⟩:=zbn I.mod.kin hq;refine wpAny_Raise_call_subT (C:=C) (nm:=nm) (q:=qn) (N:=N) (bs:=bs) (bm:=tl) (hdct:=hd) (sn:=sn) (sub:=sub) (ab:=ab) (col:=col) (dd:=dd) (k0:=k0) (k1:=k1) (k2:=k2) (k3:=k3) (k5:=k5)
  PySem.F.excBase_ValueError (mN:=mN) (T.hasType PySem.F.excBase_ValueError.hasBase) (I.ok.hd hc) (by rw [he];show (false||(En afJ (Bo es X.env)).any (·.1))=false;rw [hpl];rfl) hni (sY I hg hm ⟨rfl,?_⟩ hdb)
 have g:=ha afJ afG s Z H _ I h;rw [he] at g |-
 refine T8<|CV g fun us s2 ⟨vs,H2,I2,r,z,k⟩=>⟨rfl,?_,I2.kIn _ _ hC,hN.keeps I2.bk,T.keeps I2.bk,fun h' a M=>hx a H2 _ ⟨I2.kept (t':=s2.toks) M.keeps,?_⟩ k⟩
 ·show us.length<=CR;rw [<-r.length];exact z
 ·obtain ⟨tt,h1,h2,h3⟩:=M.there;exact ⟨I2.newOf M.new,_,_,h1,rfl,rfl,rfl,by simp,rfl,.inl rfl⟩
end
def VG (K:Ar)(H:Hp)(μ : Mu)(C:Addr)(n:Str)(od:Option Addr)(fs:List (Str×W)):Prop:=
 (od=YK/\fs=[])\/∃ dd ws xs,od=Mk dd/\X8 K C n=true/\fs=(Dd n).zip ws/\ws.length=(Dd n).length/\(Dd n).length=xs.length/\H dd=Mk (.xd ((Dd n).zip xs))/\aO K H μ ws xs
def XT (X:Cx)(H:Hp)(μ : Mu)(Γ : St->Prop)(E:CN):Yk->ZG->Prop:=fun ev s=>∃ (a C:Addr) (n:Str) (od:Option Addr) (fs:List (Str×W)) (afG:List (Addr×Obj)) (Z : St) (H':Hp) (μ':Mu) (h':Gh),ev=.ref a/\FX X afG Z H' s a C od/\qu X.K C n=true/\Γ Z /\
 Dr X.K H μ H' μ'/\Bq X.K μ' H' h'/\VG X.K H' μ' C n od fs/\E ⟨n,fs⟩ h'
variable {Γ : St->Prop}
theorem XT.trans {X:Cx}{H H1:Hp}{μ μ1:Mu}{Γ : St->Prop}{E:CN}{ev:Yk}{s:ZG}(x:XT X H1 μ1 Γ E ev s)(e:Dr X.K H μ H1 μ1):XT X H μ Γ E ev s:=by
 obtain ⟨a,C,n,od,fs,afG,Z,H',μ',h',h1,h2,h3,h4,h5,h6⟩:=x;exact ⟨a,C,n,od,fs,afG,Z,H',μ',h',h1,h2,h3,h4,e.trans h5,h6⟩
def tDX (X:Cx)(Γ : St->Prop)(m:CN->ME):TE:=fun Z H Q=>Γ Z/\∃ μ h Zw Qw E,Bq X.K μ H h/\Slots X.K H μ Zw Z/\m E Zw h Qw/\(∀ v H',DQ X.K H μ Qw v H'->Q v H')/\∀ ev s',XT X H μ Γ E ev s'->X.xe ev s'
def YQ (X:Cx)(Γ : St->Prop)(m:CN->MS):TS:=fun D Z H=>Γ Z/\∃ μ h Zw Dw E,Bq X.K μ H h/\Slots X.K H μ Zw Z/\m E Dw Zw h/\v8 X.K H μ Dw D/\∀ ev s',XT X H μ Γ E ev s'->X.xe ev s'
abbrev DEx (X:Cx)(Γ : St->Prop)(e:Expr)(m:CN->ME):Prop:=PE X e (tDX X Γ m)
abbrev DSx (X:Cx)(Γ : St->Prop)(st:Stmt)(m:CN->MS):Prop:=PS X st (YQ X Γ m)
abbrev Ju (X:Cx)(Γ : St->Prop)(st:List Stmt)(m:CN->MS):Prop:=Jd X st (YQ X Γ m)
def Ao (K:Ar)(ms:Bd):Sp:=fun vs H Q E=>∃ μ h ws Qw Ew,Bq K μ H h/\aO K H μ ws vs/\ms ws h Qw Ew/\(∀ v H',DQ K H μ Qw v H'->Q v H') /\
 ∀ (C:Addr) (n:Str) (od:Option Addr) (fs:List (Str×W)) (H':Hp),qu K C n=true->(∃ μ' h',Dr K H μ H' μ'/\Bq K μ' H' h'/\VG K H' μ' C n od fs/\Ew ⟨n,fs⟩ h')->E (.ref C) od H'
theorem eU.tame {P:Bs}{w:Bh}{K:Ar}{mg:Str->Option Yk}{base:Heap}{k:Nat}{f:Addr}{fd:Ei}{ps:List Str}(F:eU P w K mg base (CXX P w) k f fd ps (Ao K ms)):eU P w K mg base GZ k f fd ps (lift K ms):=by
 have up:∀ vs H Q E,lift K ms vs H Q E->Ao K ms vs H Q E0:=fun vs H Q E ⟨μ,h,ws,Qw,R,r,m,q⟩=>⟨μ,h,ws,Qw,EF,R,r,m,q,fun _ _ _ _ _ _ ⟨_,_,_,_,_,z⟩=>z⟩
 refine ⟨fun vs H Q E q=>F.len vs H Q E0<|up _ _ _ _ q,fun A outer s H args us vs Q E hr e0 hb hv hs=>Ri (F.run A outer s H args us vs Q E0 hr e0 hb hv<|up _ _ _ _ hs) fun r s' h=>?_⟩;cases r with
 | error e=>obtain ⟨_,_,_,_,_,_,_,_,_,_,z⟩:=h;exact z
 | ok fl=>cases fl <;> exact h
section
variable {X:Cx}{e c:Expr}{es:List Expr}{pos:Pos}{st:Stmt}{rest:List Stmt}
theorem zbb {k:Nat}{f:Addr}{fd:Ei}{ps:List Str}{x:Str}{p:Pos}(F:eU X.prog X.w X.K X.mg X.base (CXX X.prog X.w) k f fd ps (Ao X.K ms))(hr:mQ k X.A)(hg:Gl X x)(hm:X.mg x=Mk (.ref f))(hk:QL X.K (.ref f)=true)
  (hb:Binds X.K fd ps []) (ha:IV X (e::es) mr) (hdb:(x==("__debug__" : Str))=false:=by decide) (he:Bo (e::es) X.env=(false,eval e X.env)::Bo es X.env:=by rfl) (hpl:(En pos (Bo es X.env)).any (·.1)=false:=by rfl) :
  DEx X Γ (.Call (.Name x p) (e::es) [] pos) (fun E=>bH ms E mr):=by
 intro afG s Z H Q I ⟨hZ,μ,h,Zw,Qw,E,R,S,m,q,kx⟩;refine R7<|sY I hg hm ?_ hdb
 refine PySem.W.callWith_K (h₀:=X.base) I.ok.mod.kin hk (CV (ha pos afG s Z H (fun vs H1=>DA X.K H μ (fun ws h1=>ms ws h1 Qw E) vs H1) I ⟨μ,h,Zw,_,R,S,m,fun _ _ z=>z⟩) fun us s1 ⟨vs,H1,I1,r,μ1,ws,h1,e1,R1,r1,m1⟩=>⟨I1.kIn,?_⟩) he hpl;have sp:Ao X.K ms (vs++[]) H1 Q (fun Cv od H'=>∃ (C:Addr) (n:Str) (fs:List (Str×W)) (μ':Mu) (h':Gh),Cv=.ref C/\qu X.K C n=true/\Dr X.K H1 μ1 H' μ'/\Bq X.K μ' H' h'/\VG X.K H' μ' C n od fs/\E ⟨n,fs⟩ h'):=by
  rw [Np];exact ⟨μ1,h1,ws,Qw,E,R1,r1,m1,fun v H' z=>q _ _<|z.trans e1,fun C n od fs H' hx ⟨μ',h',z⟩=>⟨C,n,fs,μ',h',rfl,hx,z⟩⟩
 have r2:Az (vs++[]) (us++[]):=r.append .nil;have hl:(us++[]).length=ps.length:=by rw [<-r2.length];exact F.len _ _ _ _ sp
 refine wpAny_call<|Ri (F.run X.A X.stack s1 H1 ⟨us,[]⟩ (us++[]) (vs++[]) Q _ hr I1.env0 (hb s1 us I1.kIn hl) r2 sp) fun r s' hq=>?_
 cases r with
 | error ev=>
  obtain ⟨a,C,od,H',e2,F2,C',n,fs,μ',h',e3,hx,e4,R4,k4⟩:=I1.cxx (E:=fun Cv od H'=>∃ (C:Addr) (n:Str) (fs:List (Str×W)) (μ':Mu) (h':Gh),Cv=.ref C/\qu X.K C n=true/\Dr X.K H1 μ1 H' μ'/\Bq X.K μ' H' h'/\VG X.K H' μ' C n od fs/\E ⟨n,fs⟩ h') hq;cases e3;exact kx ev s' ⟨a,C,n,od,fs,afG,Z,H',μ',h',e2,F2.fx,hx,hZ,e1.trans e4,R4,k4⟩
 | ok fl=>
  cases fl with
  | ret u=>exact I1.after hq
  | next=>exact Lz hq
  | brk=>exact Lz hq
  | cont=>exact Lz hq
theorem jk {m:MS}(h:DS X st m):DSx X Γ st (fun _=>m):=h.of fun D Z H ⟨_,μ,h,Zw,Dw,_,R,S,m,k,_⟩=>⟨μ,h,Zw,Dw,R,S,m,k⟩
theorem zc:Ju X Γ [] (fun _=>dY):=bW.of fun D Z H ⟨_,μ,h,Zw,Dw,_,R,S,m,k,_⟩=>⟨μ,h,Zw,Dw,R,S,m,k⟩
theorem jH {m:CN->MS}(h:DSx X Γ st m):Ju X Γ [st] m:=Ez h
theorem cD {m1 m2:CN->MS}(hΓ : ∀ Z,Γ Z)(h1:DSx X Γ st m1)(h2:Ju X Γ rest m2):Ju X Γ (st::rest) (fun E=>bR (m1 E) (m2 E)):=(zm h1 h2).of fun D Z H ⟨g,μ,h,Zw,Dw,E,R,S,m,k,kx⟩=>by
 refine ⟨g,μ,h,Zw,_,E,R,S,m,⟨?_,k.rt,k.bk,k.ct⟩,kx⟩;intro Z' H' ⟨μ1,Zw1,h1,e1,R1,S1,m1⟩;exact ⟨hΓ _,μ1,h1,Zw1,Dw,E,R1,S1,m1,k.trans e1,fun ev s' z=>kx ev s'<|z.trans e1⟩
theorem adn {ma:CN->ME}(he:DEx X Γ e ma)(hs:swapsWith e YK pos.line X.env=pure false:=by rfl):DSx X Γ (.Expr e pos) (fun E=>pL (ma E)):=(Cu he hs).of fun D Z H ⟨g,μ,h,Zw,Dw,E,R,S,m,k,kx⟩=>
 ⟨g,μ,h,Zw,_,E,R,S,m,fun v H1 ⟨μ1,w,h1,e1,R1,_,m1⟩=>k.nx _ _ ⟨μ1,Zw,h1,e1,R1,S.ext e1,m1⟩,kx⟩
theorem JZ {a b:List Stmt}{t:MT}{m1 m2:CN->MS}(hc:DT X c t)(ha:Ju X Γ a m1)(hb:Ju X Γ b m2):DSx X Γ (.If c a b pos) (fun E=>lU t (m1 E) (m2 E)):=(Uv hc ha hb).of fun D Z H ⟨g,μ,h,Zw,Dw,E,R,S,m,k,kx⟩=>by
 refine ⟨μ,h,Zw,_,R,S,m,fun b H1 ⟨μ1,h1,e1,R1,q⟩=>?_⟩;cases b with
 | true=>rw [if_pos rfl];exact ⟨g,μ1,h1,Zw,Dw,E,R1,S.ext e1,q.1 rfl,k.trans e1,fun ev s' z=>kx ev s' (z.trans e1)⟩
 | false=>rw [if_neg Hu];exact ⟨g,μ1,h1,Zw,Dw,E,R1,S.ext e1,q.2 rfl,k.trans e1,fun ev s' z=>kx ev s' (z.trans e1)⟩
theorem uF {C:Addr}{x v:Str}{j}{np afJ p1:Pos}(hc:X.calm=true)(hg:Gl X x)(hm:X.mg x=Mk (.ref C))(hq:Qc X.K C N8 "ValueError.__new__" = true)(hx:qu X.K C x=true)(hdb:(x==("__debug__" : Str))=false:=by decide):
  DSx X Γ (.Raise (Mk (.Call (.Name x np) [.Constant (.str v) j p1] [] afJ)) YK pos) (fun E=>zG x E):=by
 intro afG s Z H D I ⟨g,μ,h,Zw,Dw,E,R,S,m,k,kx⟩;refine zah (R:=fun H1=>∃ μ1 h1,Dr X.K H μ H1 μ1/\Bq X.K μ1 H1 h1/\E ⟨x,[]⟩ h1) hc hg hm hq (ak rG au rfl) I ⟨μ,h,Zw,fun ws h1=>ws.length=1/\E ⟨x,[]⟩ h1,R,S,⟨rfl,m⟩,fun vs H' ⟨μ1,ws,h1,e1,R1,r1,l1,m1⟩=>⟨by rw [<-r1.len,l1];decide,μ1,h1,e1,R1,m1⟩⟩ (fun a H1 s' F ⟨μ1,h1,e1,R1,m1⟩=>?_) hdb rfl rfl;exact kx _ s' ⟨a,C,x,YK,[],afG,Z,H1,μ1,h1,rfl,F,hx,g,e1,R1,.inl ⟨rfl,rfl⟩,m1⟩
end
theorem Xm {P:Bs}{w:Bh}{K:Ar}{mg:Str->Option Yk}{base:Heap}{x qual:Str}{st:Stmt}{f:Addr}{fd:Ei}{N ps:List Str}{k:Nat}{pure:Bool}{body:CN->MS}(F:Hg K x qual st f fd)(S:bI N ps (aU st))
  (hb:∀ (cdv:Yk) (A:Bx) (outer:List Env) (s:ZG) (H:Hp) (E:XK),mQ k (A.deeper (envOfC qual (aU st) s.heap.objs.size f cdv)) ->
   Ju (K3 (CXX P w) P w K mg base N qual (aU st) f cdv A outer s H E) (fun _=>True) (iu st) body):eU P w K mg base (CXX P w) (k+1) f fd ps (Ao K (HD ps.length N.length pure body)):=by
 obtain ⟨oc,od,kV,doc,pm,an,cdv,ct,osl,rfl,lk,hcd⟩:=F.ex;refine Ry lk hcd S (fun vs H Q E ⟨μ,h,ws,Qw,Ew,R,r,m,_,_⟩=>by rw [<-r.len];exact (zJ m).1) fun A outer s H vs Q E hr ⟨μ,h,ws,Qw,Ew,R,r,m0,k,kx⟩=>?_;obtain ⟨hl,m⟩:=zJ m0;refine ⟨_,hb cdv A outer s H E hr,trivial,μ,h,_,_,Ew,R,nW r,m,⟨?_,?_,?_,?_⟩,?_⟩
 ·rintro Z' H' ⟨μ1,Zw1,h1,e1,R1,S1,m1⟩;exact k _ _<|rY (w:=.non) R e1 R1 (by rw [kI]) m1
 ·rintro v H' ⟨μ1,w1,h1,e1,R1,r1,m1⟩;exact k _ _<|rY R e1 R1 r1 m1
 ·rintro Z' H' ⟨μ1,Zw1,h1,e1,R1,S1,m1⟩;exact m1.elim
 ·rintro Z' H' ⟨μ1,Zw1,h1,e1,R1,S1,m1⟩;exact m1.elim
 ·rintro ev s' ⟨a,C,n,od,fs,afG,Z',H',μ',h',rfl,F',hx,_,e1,R1,m1⟩;exact F'.leave ⟨rfl,rfl⟩ rfl<|kx C n od fs H' hx ⟨μ',h',e1,R1,m1⟩
abbrev Cx.tr (X:Cx)(afG:List (Addr×Obj))(xe:Yk->ZG->Prop):Cx:={ X with pn:=X.pn++afG,xe:=xe }
abbrev Cx.hnd (X:Cx)(a:Addr)(o:Obj)(u:HO):Cx:={ X with A:=X.A.mark (Mk (.ref a)),H₀:=CJ X.H₀ a (.frz o u),calm:=false }
def fQ (a:Addr)(o:Obj):HO:=.ext fun h=>h.get? a=Mk o
section
variable {X:Cx}{afG pins':List (Addr×Obj)}{Z : St}{H:Hp}{s:ZG}{xe:Yk->ZG->Prop}{a C:Addr}{o:Obj}{u:HO}
theorem Cx.Ok.tr (ok:X.Ok)(afG:List (Addr×Obj))(xe:Yk->ZG->Prop):(X.tr afG xe).Ok:=
 ⟨ok.mod,ok.kind,ok.glob,ok.blt,ok.above,ok.inj,ok.has,ok.cab,ok.hd,ok.qt,ok.frames,ok.stk,ok.exf,ok.bs,ok.bsz,ok.noex,ok.exfs,ok.funs,ok.frf⟩
theorem Cx.Ok.untr (ok:(X.tr afG xe).Ok):X.Ok:=
 ⟨ok.mod,ok.kind,ok.glob,ok.blt,ok.above,ok.inj,ok.has,ok.cab,ok.hd,ok.qt,ok.frames,ok.stk,ok.exf,ok.bs,ok.bsz,ok.noex,ok.exfs,ok.funs,ok.frf⟩
theorem AP.tr (I:AP X afG Z H s):AP (X.tr afG xe) [] Z H s:=⟨I.ok.tr afG xe,I.os,I.bare,I.base,I.loc,I.cell,I.free,I.freeC,fun p hp=>I.pin p (by
 have hp':p∈(X.pn++afG)++[]:=hp;rw [Np] at hp';exact hp'),I.hok,I.len⟩
theorem AP.untr (I:AP (X.tr afG xe) pins' Z H s):AP X afG Z H s:=⟨I.ok.untr,I.os,I.bare,I.base,I.loc,I.cell,I.free,I.freeC,fun p hp=>I.pin p (Jc _ hp),I.hok,I.len⟩
theorem New.untr {b:Addr}(n:New (X.tr afG xe) pins' H b):New X afG H b:=⟨n.h,n.s,n.l,n.c,fun p hp=>n.p p (Jc _ hp),n.f⟩
theorem FX.untr {e:Addr}{od:Option Addr}(F:FX (X.tr afG xe) pins' Z H s e C od):FX X afG Z H s e C od:=⟨F.inv.untr,F.xo.mono fun _ n=>n.untr⟩
theorem SP.untr {D:Ends}{f:Flow}{s':ZG}(h:SP (X.tr afG xe) [] D f s'):SP X afG D f s':=by
 cases f with
 | next=>obtain ⟨Z',H',I,q⟩:=h;exact ⟨Z',H',I.untr,q⟩
 | brk=>obtain ⟨Z',H',I,q⟩:=h;exact ⟨Z',H',I.untr,q⟩
 | cont=>obtain ⟨Z',H',I,q⟩:=h;exact ⟨Z',H',I.untr,q⟩
 | ret v=>obtain ⟨v,Z',H',I,r,q⟩:=h;exact ⟨v,Z',H',I.untr,r,q⟩
theorem AP.hnd {vs:Array Yk}(I:AP X afG Z H s)(n:New X afG H a)(hx:X.ex=[])(ho:s.heap.get? a=Mk o)(hd:o.data=.fields vs)(h2:vs[2]?=Mk .none):AP (X.hnd a o (fQ a o)) afG Z (CJ H a (.frz o (fQ a o))) s:=by
 have s0:X.s₀.heap.get? a=YK:=by
  rcases n.s with q | q
  ·rw [hx] at q;cases q
  ·exact q
 have ne:∀ b ob,X.s₀.heap.get? b=Mk ob->b≠a:=fun b ob e z=>by rw [z,s0] at e;cases e
 have nf:∀ b∈X.fs,b≠a:=fun b hb z=>n.f (by rw [<-z];exact hb)
 have ok:(X.hnd a o (fQ a o)).Ok:=by
  have k:=I.ok;refine ⟨k.mod,k.kind,k.glob,k.blt,k.above,k.inj,k.has,k.cab,fun z=>(nomatch z),fun v e=>?_,k.frames,k.stk,k.exf,fun b ob e=>?_,k.bsz,k.noex,k.exfs,k.funs,fun b hb=>?_⟩
  ·have e:Mk (Value.ref a)=Mk v:=e;cases e;exact ⟨a,o,fQ a o,vs,rfl,bf,hd,h2⟩
  ·obtain ⟨e1,e2⟩:=k.bs b ob e;exact ⟨e1,(aJ<|ne b ob e1).trans e2⟩
  ·exact (aJ<|nf b hb).trans (k.frf b hb)
 have up:∀ b ob,X.s₀.heap.get? b=Mk ob->CJ X.H₀ a (.frz o (fQ a o)) b=YK->X.H₀ b=YK:=fun b ob e z=>by rw [aJ (ne b ob e)] at z;exact z
 refine ⟨ok,I.os,I.bare,⟨fun b ob e z hf hx=>I.base.keep b ob e (up b ob e z) hf hx,fun b ob e z hf hx=>I.base.slot b ob e (up b ob e z) hf hx,fun b ob e z hx=>?_,I.base.there,fun b xs z=>?_,fun b ob v z=>?_,fun b ps z=>?_⟩,I.loc,I.cell,?_,fun x c e=>?_,fun p hp=>?_,fun b v z=>?_,I.len⟩
 ·rw [aJ (ne b ob e)];exact I.base.free b ob e (up b ob e z) hx
 ·have z:CJ X.H₀ a (.frz o (fQ a o)) b=Mk (.tup xs):=z;by_cases hb:b=a
  ·subst hb;rw [bf] at z;cases z
  ·rw [aJ hb] at z |-;exact I.base.tups b xs z
 ·have z:CJ X.H₀ a (.frz o (fQ a o)) b=Mk (.frz ob v):=z;by_cases hb:b=a
  ·subst hb;rw [bf] at z |-;exact z
  ·rw [aJ hb] at z |-;exact I.base.frzs b ob v z
 ·have z:CJ X.H₀ a (.frz o (fQ a o)) b=Mk (.tbl ps):=z;by_cases hb:b=a
  ·subst hb;rw [bf] at z;cases z
  ·rw [aJ hb] at z |-;exact I.base.tbls b ps z
 ·rw [aJ (Hf n.l)];exact I.free
 ·rw [aJ (n.c x c e)];exact I.freeC x c e
 ·obtain ⟨h1,h3,h4⟩:=I.pin p hp;exact ⟨h1,(aJ<|n.p p hp).trans h3,h4⟩
 ·by_cases hb:b=a
  ·subst hb;rw [bf] at z;cases z;exact ⟨ho,ho,⟨o,ho⟩,fun h1 h2 q k=>k o q⟩
  ·rw [aJ hb] at z;exact (I.hok b v z).stay (fun _ _ _ q=>q) (fun c q=>by rw [aJ (aP q n.h)];exact q) fun c xs q=>by rw [aJ (aP q n.h)];exact q
theorem AP.unhnd {Z0:St}{H0:Hp}{s0:ZG}(I0:AP X afG Z0 H0 s0)(n:New X afG H0 a)(hx:X.ex=[])(I:AP (X.hnd a o u) pins' Z H s):AP X pins' Z H s:=by
 have e0:X.s₀.heap.get? a=YK:=by
  rcases n.s with q | q
  ·rw [hx] at q;cases q
  ·exact q
 have ne:∀ b ob,X.s₀.heap.get? b=Mk ob->b≠a:=fun b ob e z=>by rw [z,e0] at e;cases e
 have up:∀ b ob,X.s₀.heap.get? b=Mk ob->X.H₀ b=YK->(X.hnd a o u).H₀ b=YK:=fun b ob e z=>(aJ (ne b ob e)).trans z
 refine ⟨I0.ok,I.os,I.bare,⟨fun b ob e z hf hx=>I.base.keep b ob e (up b ob e z) hf hx,fun b ob e z hf hx=>I.base.slot b ob e (up b ob e z) hf hx,fun b ob e z hx=>I.base.free b ob e (up b ob e z) hx,I.base.there,fun b xs z=>?_,fun b ob v z=>?_,fun b ps z=>?_⟩,I.loc,I.cell,I.free,I.freeC,I.pin,I.hok,I.len⟩
 ·refine I.base.tups b xs<|(aJ fun hb=>?_).trans z
  subst hb;have:=I0.base.tups b xs z
  rw [n.h] at this;cases this
 ·refine I.base.frzs b ob v<|(aJ fun hb=>?_).trans z
  subst hb;have:=I0.base.frzs b ob v z
  rw [n.h] at this;cases this
 ·refine I.base.tbls b ps<|(aJ fun hb=>?_).trans z
  subst hb;obtain ⟨_,this⟩:=I0.base.tbls b ps z;rw [n.h] at this;cases this
def rF (Z : St):St:=Z.map fun _=>YK
theorem AP.lost {m':Str->Option Yk}{h':Heap}{t':Nat}(I:AP X afG Z H s)(hn:h'.Ns X.env.locals m')(sb:QB X.env.locals s.heap h'):AP X afG (rF Z) H { s with heap:=h',toks:=t' }:=by
 have neL:∀ b o,X.s₀.heap.get? b=Mk o->b≠X.env.locals:=fun b o e=>Fw (Ep (CK e) I.ok.above)
 have k:∀ b o,b≠X.env.locals->s.heap.get? b=Mk o->h'.get? b=Mk o:=fun b o hb e=>(sb.2 b hb).trans e
 refine ⟨I.ok,I.os,I.bare,⟨fun b o e z hf hx=>k b o (neL b o e)<|I.base.keep b o e z hf hx,fun b o e z hf hx=>?_,I.base.free,fun b o e hx=>?_,I.base.tups,I.base.frzs,I.base.tbls⟩,⟨m',hn,fun i x v _ e2 _=>?_⟩,fun x c e=>?_,I.free,I.freeC,fun p hp=>?_,fun b v z=>?_,?_⟩
 ·obtain ⟨sl,e1⟩:=I.base.slot b o e z hf hx;exact ⟨sl,k b _ (neL b o e) e1⟩
 ·obtain ⟨o',e1⟩:=I.base.there b o e hx;exact ⟨o',k b _ (neL b o e) e1⟩
 ·unfold rF at e2;rw [Hi] at e2;cases q:Z[i]? with
  | none=>rw [q] at e2;cases e2
  | some w=>rw [q] at e2;cases e2
 ·obtain ⟨v,oc,ho,hd⟩:=I.cell x c e;exact ⟨v,oc,k c oc (I.cne x c e) ho,hd⟩
 ·obtain ⟨h1,h2,h3,h4⟩:=I.pin p hp;exact ⟨k _ _ h3 h1,h2,h3,h4⟩
 ·have nL:∀ c w,H c=Mk w->c≠X.env.locals:=fun c w e q=>by rw [q,I.free] at e;cases e
  refine (I.hok b v z).stay (fun c w hc q=>k c w ?_ q) (fun _ q=>q) fun _ _ q=>q;rcases hc with r | r
  ·rw [r];exact nL b _ z
  ·exact nL c _ r
 ·unfold rF;rw [Cm];exact I.len
end
section
variable {prog:Bs}{w:Bh}{A:Bx}{E:Yk->ZG->Prop}{s:ZG}{K:Ar}{x D:Addr}{ox:Obj}
theorem zav {Q:Option Yk->ZG->Prop}{od:Option Obj}(X:K.In s.heap)(I:PySem.W.InstAt s.heap x ox D od)(hga:Ls K (.ref D) "__getattribute__" = Mk (Mk (.builtin "BaseException.__getattribute__")))(hk:Ls K (.ref D) "__getattr__" = Mk YK)
  (hf:PySem.W.findObj K D od "__class__" = Mk (.bind (.builtin "getset_descriptor.__get__") (.builtin "object.__class__"))) (hm:Nt K D (.type "object")=Mk true) (hB:Nt K D (.type "BaseException")=Mk true)
  (h:Q (Mk (.ref D)) { s with toks:=s.toks+1 }):Al (Am prog w) A (getAttr? (.ref x) "__class__") Q E s:=by
 obtain ⟨hh,g,d,t,os⟩:=s;have L0:=I.type (M:=Am prog w);have L1:=PySem.W.looks_findIn (M:=Am prog w) X hga;have L2:=PySem.W.looks_findIn (M:=Am prog w) X hk;have L3:=PySem.W.looks_find (M:=Am prog w) X I hf;have L4:=PySem.W.looks_mroIn (M:=Am prog w) X hB;unfold getAttr? getAttrBy? getAttrBy;refine Zi<|wpAny_mkText<|Zi<|QG<|Im<|Zi<|PySem.W.Looks.at L0<|Zi<|PySem.W.Looks.at L1 ?_
 show Al _ _ (if (onTheHeap (Value.ref D)&&(Value.builtin "BaseException.__getattribute__"==Value.builtin "object.__getattribute__"))=true then _ else getAttrByItsOwn _ _ _ _ _ _) _ _ _;have hx2:(Value.builtin "BaseException.__getattribute__"==Value.builtin "object.__getattribute__")=false:=by decide +kernel
 rw [hx2,Bool.and_false,if_neg Hu];unfold getAttrByItsOwn;refine Zi<|show Al _ _ (Qj (Value.ref D) "__getattr__") _ _ _ from PySem.W.Looks.at L2 ?_
 refine Zi<|QG<|Im ?_
 show Al _ _ (boundAndCalled _ _ _) _ _ _;unfold boundAndCalled;rw [PySem.F.attrBase_ValueError.ga.bind (.ref x)];refine Zi<|BP ?_
 dsimp only;refine wpAny_call<|codeAny_call_builtin PySem.F.attrBase_ValueError.ga.plain F.entry_bexc_ga ?_
 have hk:builtinKind "BaseException.__getattribute__" = Mk .slot:=by decide +kernel
 have hsplit:splitId "BaseException.__getattribute__" = Mk ("BaseException", "__getattribute__"):=by decide +kernel
 have ha:=F.args_bexc_ga (.ref x) (.str "__class__" t);simp only [checkBuiltinCall,hk,hsplit];show Al (Am prog w) A.in1 (isInstance (Value.ref x) (Value.type "BaseException") >>= _) _ _ _;refine Zi ?_;unfold isInstance;refine Zi<|PySem.W.Looks.at L0<|PySem.W.Looks.at L4 ?_
 rw [if_neg (by decide)];change Al (Am prog w) A.in1 (match Manifest.signature? "BaseException.__getattribute__" with
  | some sig=>Bind.checkArgs "BaseException.__getattribute__" sig ⟨[Value.ref x,Value.str (Oa "__class__") t],[]⟩
  | x=>pure ()) _ _ _
 repeat (any_goals (first | assumption | (with_reducible refine wpAny_loadPart_at I.at_ ?_;rw [I.cls]) | with_reducible refine PySem.W.Looks.at L3 ?_ | wp_step))
 refine PySem.W.class_get (s:=⟨hh,g,d,t+1,os⟩) (ox:=ox) (od:=od) X I hm ?_;refine BP ?_;exact PySem.W.handed_on rfl<|BP h
end
def Fe (n d:Str):Bool:=n==d||d == "EaselError"
section
variable {K:Ar}{C D:Addr}{n d:Str}
theorem BZ (h:tZ K D d=true):JD K DK d=Mk (Mk (.ref D))/\PySem.W.typeIn K (.ref D)=Mk (.type "type")/\∃ cd,QX K D=Mk cd/\cd.name=d/\cd.mro.contains (.type "BaseException")=true:=by
 unfold tZ at h;simp only [Lw,beq_iff_eq] at h;obtain ⟨⟨h1,h2⟩,h3⟩:=h;refine ⟨h1,h2,?_⟩;split at h3
 ·rename_i cd hc;simp only [Lw,beq_iff_eq] at h3;exact ⟨cd,hc,h3.1,h3.2⟩
 ·cases h3
theorem Iz (h:qu K C n=true):tZ K C n=true/\(∃ cd R,QX K C=Mk cd/\cd.mro=.ref C::.ref R::N8/\JD K DK "EaselError" = Mk (Mk (.ref R))/\∃ cr,QX K R=Mk cr/\cr.name = "EaselError") /\
  Ls K (.ref C) "__getattribute__" = Mk (Mk (.builtin "BaseException.__getattribute__"))/\Ls K (.ref C) "__getattr__" = Mk YK/\Ls K (.ref C) "__class__" = Mk (Mk (.builtin "object.__class__"))/\PySem.W.specialIn K (.builtin "object.__class__") "__get__" = Mk (Mk (.builtin "getset_descriptor.__get__"))/\PySem.W.takesIn K (.builtin "object.__class__")=Mk true:=by
 unfold qu at h;simp only [Lw,beq_iff_eq] at h;obtain ⟨⟨⟨⟨⟨⟨h1,h2⟩,h3⟩,h3'⟩,h4⟩,h5⟩,h6⟩:=h;refine ⟨h1,?_,h3,h3',h4,h5,h6⟩;split at h2
 ·rename_i cd hc;split at h2
  ·rename_i C' R a b c d hm;simp only [Lw,beq_iff_eq] at h2;obtain ⟨⟨⟨e1,e2⟩,e3⟩,e4⟩:=h2;obtain ⟨cr,e5,e6⟩:=PySem.W.any_some e4;exact ⟨cd,R,hc,by rw [hm,e1,<-e2],e3,cr,e5,beq_iff_eq.mp e6⟩
  ·cases h2
 ·cases h2
theorem Kq (h:qu K C n=true)(hd:tZ K D d=true):Nt K C (.ref D)=Mk (Fe n d):=by
 obtain ⟨hx,⟨cd,R,hc,hm,hR,cr,hcr,hnr⟩,_⟩:=Iz h;obtain ⟨n1,_,cd',hc',nm,_⟩:=BZ hx;obtain ⟨d1,_,dd,hdd,dm,_⟩:=BZ hd;rw [hc] at hc';cases hc';unfold Nt;rw [hc,R6,hm];show Mk ((Value.ref C::Value.ref R::N8).contains (.ref D))=Mk (Fe n d);congr 1
 unfold Fe;have e1:(Value.ref C::Value.ref R::N8).contains (.ref D)=((Value.ref D==Value.ref C)||((Value.ref D==Value.ref R)||false)):=by
  rw [List.contains_cons,List.contains_cons];rfl
 rw [e1,Bool.or_false];have a1:(Value.ref D==Value.ref C)=(n==d):=by
  rw [QM,beq_iff_eq,beq_iff_eq];constructor
  ·intro q;cases q;rw [hc] at hdd;cases hdd;rw [<-nm,<-dm]
  ·intro q;subst q;rw [n1] at d1;injection d1 with d1;injection d1 with d1;injection d1 with d1
   rw [d1]
 have a2:(Value.ref D==Value.ref R)=(d == "EaselError"):=by
  rw [QM,beq_iff_eq,beq_iff_eq];constructor
  ·intro q;cases q;rw [hcr] at hdd;cases hdd;rw [<-hnr,<-dm]
  ·intro q;subst q;rw [hR] at d1;injection d1 with d1;injection d1 with d1;injection d1 with d1
   rw [d1]
 rw [a1,a2]
def Br (K:Ar)(v:V)(f:Str->Bool):Prop:=∀ (u:Yk),RelV v u->∀ (C:Addr) (n:Str),qu K C n=true->PySem.W.kitOne K (.ref C) u=Mk (f n)
theorem Br.own (hd:tZ K D d=true):Br K (.ref D) (fun n=>Fe n d):=by
 intro u r C n h;cases (show u=Value.ref D from r)
 have e:=Kq h hd;obtain ⟨_,ht,dd,hdd,_⟩:=BZ hd;unfold PySem.W.kitOne;by_cases q:(Value.ref C==Value.ref D)=true
 ·rw [if_pos q];have q:=beq_iff_eq.mp q;cases q;obtain ⟨n1,_,cd,hc,nm,_⟩:=BZ (Iz h).1;rw [hc] at hdd;cases hdd;obtain ⟨_,_,cd',hc',dm,_⟩:=BZ hd;rw [hc] at hc';cases hc';unfold Fe;rw [<-nm,<-dm];simp
 ·rw [if_neg q];unfold PySem.W.kitCls;dsimp only;rw [if_pos (by rw [hdd,ht];rfl)];exact e
theorem Br.val:Br K (.ty "ValueError") (fun _=>true):=by
 intro u r C n h;cases (show u=Value.type "ValueError" from r)
 obtain ⟨_,⟨cd,R,hc,hm,_⟩,_⟩:=Iz h;unfold PySem.W.kitOne;rw [if_neg (by intro q;cases beq_iff_eq.mp q)];unfold PySem.W.kitCls;dsimp only;rw [if_pos (by decide +kernel)];show Nt K C (.type "ValueError")=Mk true;unfold Nt;rw [hc,R6,hm];rfl
theorem yF {x:Addr}{ox:Obj}(h:qu K D n=true):PySem.W.KitX K (.ref x) (.ref D) (fun h=>∃ od,PySem.W.InstAt h x ox D od):=by
 obtain ⟨hx,⟨cd,R,hc,hm,_⟩,hg,hg',ha,hn,htk⟩:=Iz h;have hmo:Nt K D (.type "object")=Mk true:=by
  unfold Nt;rw [hc,R6,hm];rfl
 have hf:∀ od,PySem.W.findObj K D od "__class__" = Mk (.bind (.builtin "getset_descriptor.__get__") (.builtin "object.__class__")):=by
  intro od;unfold PySem.W.findObj;rw [hc,R6,ha,R6];simp [hn,htk]
 have hcl:∃ c' d' sl',K.lookup D=Mk ⟨c',d',.cls cd,sl'⟩:=by
  unfold QX at hc;split at hc
  ·rename_i c' d' cd' sl' ho;cases hc;exact ⟨c',d',sl',ho⟩
  ·cases hc
 obtain ⟨c',d',sl',ho⟩:=hcl;refine ⟨fun _ _ _ ⟨_,I⟩=>I.type,fun _ _ X _=>?_,fun h tp dd its n sl X htp=>?_,fun {prog w A E Q s} X ⟨od,I⟩ k=>?_⟩
 ·intro A' Q' E' s' k q;unfold isType loadHead;exact Zi<|wpAny_loadPart (k _ _<|X _ _ ho)<|BP q
 ·refine Bool.eq_false_iff.mpr fun q=>?_;have e:D=tp:=Value.ref.inj (beq_iff_eq.mp q);subst e;have z:=(X _ _ ho).symm.trans htp;cases z
 ·refine zav X I hg hg' (hf od) hmo ?_ k;unfold Nt;rw [hc,R6,hm];rfl
theorem xu {M:Model}{A:Bx}{E:Yk->ZG->Prop}{s:ZG}{e:Addr}{oe:Obj}{Q:Bool->ZG->Prop}(X:K.In s.heap)(he:s.heap.get? e=Mk oe)(hcls:oe.cls=.ref C)(h:qu K C n=true)(hd:tZ K D d=true)(hq:Q (Fe n d) s):
  Al M A (excMatches (.ref e) (.ref D)) Q E s:=by
 obtain ⟨_,ht,dd,hdd,_,hB⟩:=BZ hd;have L1:TX M s.heap (typeOf (.ref D)) (.type "type"):=PySem.W.looks_typeIn X ht;have L2:TX M s.heap (isSubtype (.ref C) (.ref D)) (Fe n d):=PySem.W.looks_mroIn X (Kq h hd);have L3:TX M s.heap (isSubtype (.ref D) (.type "BaseException")) true:=PySem.W.looks_mroIn X (by
  unfold Nt;rw [hdd,R6,hB,if_neg];intro q;rw [List.isEmpty_iff] at q;rw [q] at hB;cases hB)
 have hcl:∃ c' d' sl',K.lookup D=Mk ⟨c',d',.cls dd,sl'⟩:=by
  unfold QX at hdd;split at hdd
  ·rename_i c' d' cd' sl' ho;cases hdd;exact ⟨c',d',sl',ho⟩
  ·cases hdd
 obtain ⟨c',d',sl',ho⟩:=hcl;have L4:TX M s.heap (isType (.ref D)) true:=by
  intro A' Q' E' s' k q;unfold isType loadHead;exact Zi<|wpAny_loadPart (k _ _<|X _ _ ho)<|BP q
 have L5:TX M s.heap (typeOf (.ref e)) (.ref C):=hcls ▸ (PySem.W.Looks.ld he).andThen .now;have f:=tc_notTuple;obtain ⟨hh,g,dr,tk,os⟩:=s;unfold excMatches;refine Zi ?_;unfold isInstance;refine Zi<|PySem.W.Looks.at L1 ?_
 rw [f];refine BP ?_;rw [if_neg Hu];refine Zi<|BP ?_
 dsimp only;rw [RJ];refine Zi<|Zi ?_
 unfold isExcClass;refine Zi<|Zi<|PySem.W.Looks.at L4 ?_
 rw [if_pos rfl];refine PySem.W.Looks.at L3 ?_;rw [if_neg (by decide)];refine BP ?_;dsimp only;rw [Qp];refine BP ?_;refine Zi<|PySem.W.Looks.at L5 ?_
 rw [RJ];refine Zi<|Zi<|Zi<|PySem.W.Looks.at L2 ?_
 cases hb:Fe n d with
 | true=>
  rw [hb] at hq;rw [if_pos rfl];exact BP<|BP<|BP hq
 | false=>
  rw [hb] at hq;rw [if_neg Hu];refine BP ?_;dsimp only;rw [Qp];exact BP<|BP hq
end
variable {suite : List Stmt}
theorem zaE {prog:Bs}{w:Bh}{A:Bx}{E:Yk->ZG->Prop}{s:ZG}{K:Ar}{e C D:Addr}{n d:Str}{t:Expr}{b₀ : Stmt}{pos:Pos}{rest:List ExceptHandler}{Q:Flow->ZG->Prop}
  (hx:qu K C n=true) (hd:tZ K D d=true) (hi:Fe n d=true)
  (h:Al (Am prog w) (A.mark (Mk (.ref e))) (eval t env) (fun c s₁=>c=.ref D/\K.In s₁.heap/\(∃ oe,s₁.heap.get? e=Mk oe/\oe.cls=.ref C) /\
   Al (Am prog w) (A.mark (Mk (.ref e))) (setFlight (.ref e) YK) (fun _ s₂=>
     Al (Am prog w) (A.mark (Mk (.ref e))) (storeName env y (.ref e)) (fun _ s₃=>
      Al (Am prog w) (A.mark (Mk (.ref e))) (execs (b₀::suite) env)
       (fun f s₄=>Al (Am prog w) A (do bindName env y .none;unbindBehindTheSuite env y pos) (fun _ s₅=>Q f s₅) E s₄) (fun _ _=>False) s₃) (fun _ _=>False) s₂) (fun _ _=>False) s₁) (fun _ _=>False) s) :
  Al (Am prog w) A (handleBy (.ref e) env (.ExceptHandler (Mk t) (Mk y) (b₀::suite) pos::rest)) Q E s:=by
 refine wpAny_handleBy_cons (codeAny_handlers_test<|Hx h (fun c s₁ h₁=>?_) fun _ _ z=>z.elim) (by intro q;cases q);obtain ⟨rfl,X,⟨oe,he,hcls⟩,hk⟩:=h₁;refine xu X he hcls hx hd ?_;rw [hi];exact codeAny_handlers_suite_as<|Hx hk (fun _ s₂ h₂=>Hx h₂ (fun _ s₃ h₃=>Hx h₃ (fun _ _ z=>z) fun _ _ z=>z.elim) fun _ _ z=>z.elim) fun _ _ z=>z.elim
def bT.lost (D:bT):bT:={ D with nx:=fun Z h=>D.nx (Z.map fun _=>YK) h,bk:=fun Z h=>D.bk (Z.map fun _=>YK) h,ct:=fun Z h=>D.ct (Z.map fun _=>YK) h }
def G3 (x:Xw):W:=match x.fs with
 | []=>.exc x.cls
 | f::fs=>.exa x.cls ((f::fs).map (·.2))
theorem Et {α β : Type}:∀ {l:List α} {m:List β},m.length=l.length->(l.zip m).map (·.2)=m
 | [],[],_=>rfl
 | [],_::_,h=>by cases h
 | _::_,[],h=>by cases h
 | a::l,b::m,h=>by rw [List.zip_cons_cons,Bf,Et (by simpa using h)]
theorem adh {n:Str}(h:ws.length=(Dd n).length):G3 ⟨n,(Dd n).zip ws⟩=.exa n ws:=by
 have e:=Et h;unfold G3;have ne:Dd n≠[]:=by unfold Dd;split <;> simp
 cases q:(Dd n).zip ws with
 | nil=>
  rw [q] at e;cases ws with
  | nil=>exact absurd (N5 h.symm) ne
  | cons _ _=>cases e
 | cons f fs=>
  rw [q] at e;dsimp only;rw [e]
def V3 (i:Nat)(d:Str)(mb:CN->MS)(mh:MS):MS:=fun D Z h=>mb (fun x h'=>GF (Fe x.cls d) (mh D.lost (Z.set i (Mk (G3 x))) h') False) D Z h
theorem Slots.lost {K:Ar}{H:Hp}{Zw:Sw}{Z : St}(S:Slots K H μ Zw Z):Slots K H μ (Zw.map fun _=>YK) (rF Z):=by
 refine ⟨by unfold rF;rw [Cm,Cm,S.len],fun i w q=>?_⟩;rw [Hi] at q;cases e:Zw[i]? with
 | none=>rw [e] at q;cases q
 | some z=>rw [e] at q;cases q
section
variable {X:Cx}{body:List Stmt}{b₀ : Stmt}{d:Str}{np hpos pos:Pos}{i:Nat}{D:Addr}{mb:CN->MS}{mh:MS}
theorem aey (hN:X.N.Nodup)(hi:X.N[i]?=Mk y)(hy:X.env.scope.names.lookup y=Mk .local)(hg:Gl X d)(hm:X.mg d=Mk (.ref D))(hxd:tZ X.K D d=true)(ht:Top X)(hx:X.ex=[])
  (hb:∀ afG xe Z0,Ju (X.tr afG xe) (fun Z=>Z = Z0) body mb) (hh:∀ a o u,Pb (X.hnd a o u).nox (b₀::suite) mh) (hdb:(d==("__debug__" : Str))=false:=by decide) :
  DS X (.Try body [.ExceptHandler (Mk (.Name d np)) (Mk y) (b₀::suite) hpos] [] [] pos) (V3 i d mb mh):=by
 intro afG s Z H De I ⟨μ,h,Zw,Dw,R,S,m,k⟩;refine wpAny_Try_except<|CV (hb afG _ Z [] s Z H De I.tr ⟨rfl,μ,h,Zw,Dw,_,R,S,m,k,fun ev s' xt=>?_⟩) fun f s' q=>?_
 ·obtain ⟨a,C,n,od,fs,pins',Z',H',μ',h',rfl,F,hxc,rfl,e1,R1,xd,q⟩:=xt;have F:=F.untr;cases hix:Fe n d with
  | false =>
   have q:GF (Fe n d) _ False:=q;rw [hix] at q;exact q.elim
  | true=>
  have q:GF (Fe n d) (mh Dw.lost (Zw.set i (Mk (G3 ⟨n,fs⟩))) h') False:=q;rw [hix] at q;have q:mh Dw.lost (Zw.set i (Mk (G3 ⟨n,fs⟩))) h':=q;refine F.note ht F.inv.ok.frames fun h1 F1=>F1.flight fun h2 F2=>?_;obtain ⟨_,oe0,vs0,he0,hc0,_⟩:=F2.xn;refine zaE hxc hxd hix ?_;refine Calls.Name_function_global F2.inv.ok.kind hg (Calls.loadGlobal_global (by rw [F2.inv.ok.glob];exact F2.inv.mod.glob.keeps F2.inv.bk) hm ⟨rfl,F2.inv.kIn,⟨oe0,he0,hc0⟩,?_⟩) hdb;refine F2.flight fun h3 F3=>?_;obtain ⟨nw,oe,vs,he,hc,hdd,hdt,_,hv2,_⟩:=F3.xn;have Ih:=F3.inv.hnd nw hx he hdt hv2;have Hn:H' a=YK:=nw.h;refine rN (X:=X.hnd a oe (fQ a oe)) (v:=.ref a) Ih hN hi (.inl hy) rfl (fun s4 I4=>?_)<|.inr hy
  have e2:Dr X.K H μ (CJ H' a (.frz oe (fQ a oe))) μ':=e1.trans (Ex.laid Hn).ext;have rx:kI X.K (CJ H' a (.frz oe (fQ a oe))) μ' (G3 ⟨n,fs⟩) (.ref a):=by
   have nc:PySem.W.notCls oe=true:=by
    unfold PySem.W.notCls;rw [hdt]
   rcases xd with ⟨rfl,rfl⟩ | ⟨dd,ws,xs,rfl,hxa,rfl,hl1,hl2,hdx,rs⟩
   ·show kI X.K _ μ' (.exc n) (.ref a);rw [kI];exact ⟨a,oe,_,rfl,bf,C,hc,hdd,nc,hxc⟩
   ·rw [adh hl1,kI];exact ⟨a,oe,_,dd,_,xs,rfl,bf,⟨C,hc,hdd,nc,hxa⟩,by rw [aJ<|aP hdx Hn];exact hdx,rfl,hl2,(Ex.laid Hn).ext.s rs⟩
  refine Hx (hh a oe (fQ a oe) afG s4 _ _ ⟨fun Z5 H5=>De.nx (rF Z5) H5,De.rt,fun Z5 H5=>De.bk (rF Z5) H5,fun Z5 H5=>De.ct (rF Z5) H5⟩ (I4.wish _)
   ⟨μ',h',Zw.set i (Mk (G3 ⟨n,fs⟩)),Dw.lost,R1.laid Hn,(S.ext e2).set rx i,q,⟨?_,?_,?_,?_⟩⟩) (fun f s5 q5=>?_) fun _ _ z=>z.elim
  ·rintro Z5 H5 ⟨μ5,Zw5,h5,e5,R5,S5,m5⟩;exact k.nx _ _ ⟨μ5,_,h5,e2.trans e5,R5,S5.lost,m5⟩
  ·rintro v H5 ⟨μ5,w5,h5,e5,R5,r5,m5⟩;exact k.rt _ _ ⟨μ5,w5,h5,e2.trans e5,R5,r5,m5⟩
  ·rintro Z5 H5 ⟨μ5,Zw5,h5,e5,R5,S5,m5⟩;exact k.bk _ _ ⟨μ5,_,h5,e2.trans e5,R5,S5.lost,m5⟩
  ·rintro Z5 H5 ⟨μ5,Zw5,h5,e5,R5,S5,m5⟩;exact k.ct _ _ ⟨μ5,_,h5,e2.trans e5,R5,S5.lost,m5⟩
  ·have gone:∀ {Z5:St} {H5:Hp} {Q5:Unit->ZG->Prop},AP (X.hnd a oe (fQ a oe)).nox afG Z5 H5 s5->(∀ s6,AP X afG (rF Z5) H5 s6->Q5 () s6)->Al (Am X.prog X.w) X.A (do bindName X.env y .none;unbindBehindTheSuite X.env y hpos) Q5 X.xe s5:=fun {Z5 H5 Q5} I5 h5=>by
    have I5':=I5.unwish;obtain ⟨mm,hns,_⟩:=I5'.loc;refine wpAny_nameGoes hy hns (by rw [show X.env.scope.kind=.function from F.inv.ok.kind];rfl) fun h6 m6 hn6 sb6=>h5 _<|F3.inv.unhnd nw hx<|I5'.lost hn6 sb6
   cases f with
   | next=>obtain ⟨Z5,H5,I5,z⟩:=q5;exact gone I5 fun s6 I6=>⟨_,H5,I6,z⟩
   | brk=>obtain ⟨Z5,H5,I5,z⟩:=q5;exact gone I5 fun s6 I6=>⟨_,H5,I6,z⟩
   | cont=>obtain ⟨Z5,H5,I5,z⟩:=q5;exact gone I5 fun s6 I6=>⟨_,H5,I6,z⟩
   | ret v=>obtain ⟨x5,Z5,H5,I5,r5,z⟩:=q5;exact gone I5 fun s6 I6=>⟨x5,_,H5,I6,r5,z⟩
 ·have q:=SP.untr q;cases f with
  | next=>exact Sy q
  | brk=>exact q
  | cont=>exact q
  | ret v=>exact q
end
theorem zaZ {k:Nat}{A:Bx}{a:Addr}(r:mQ k A)(h:8<=k):mQ 8 (A.mark (Mk (.ref a))):=⟨fun z=>absurd z (by decide),by have:=r.dp;show A.depth+_<_;lia,by have:=r.un;show A.units+_<_;lia⟩
section
variable {X:Cx}{a:Expr}{pos p:Pos}
def BL (f:Str->Bool)(m:ME):ME:=fun Z h Q=>m Z h fun w h1=>match w with
 | .exc n=>Q (.bl (f n)) h1
 | .exa n _=>Q (.bl (f n)) h1
 | _=>False
def Qk (K:Ar)(H:Hp)(o:Obj)(n:Str):Prop:=Xob K o n\/∃ dd fs,Xoa K o n dd/\H dd=Mk (.xd fs)
theorem Gn {afG:List (Addr×Obj)}{Z : St}{H:Hp}{s:ZG}{q:Addr}{o:Obj}{u:HO}{n:Str}(I:AP X afG Z H s)(e:H q=Mk (.frz o u))(x:Qk X.K H o n):∃ C,qu X.K C n=true/\∃ od,PySem.W.InstAt s.heap q o C od:=by
 rcases x with ⟨C,hc,hd,hn,hx⟩ | ⟨dd,fs,⟨C,hc,hd,hn,hx⟩,hdd⟩
 ·exact ⟨C,hx,YK,(I.hok q _ e).1,hc,hn,by rw [hd];trivial⟩
 ·obtain ⟨ob,ho⟩:=(I.hok dd _ hdd).obj;unfold X8 at hx;simp only [Lw] at hx;exact ⟨C,hx.1.1,Mk ob,(I.hok q _ e).1,hc,hn,by rw [hd];exact ho⟩
theorem aeW {v:V}{f:Str->Bool}(hf:Br X.K v f):jo X (.builtin "isinstance") (fun xs H Q=>∃ q o u n,xs=[.ref q,v]/\H q=Mk (.frz o u)/\Qk X.K H o n/\Q (.bl (f n)) H):=by
 intro afG s Z H xs us Q I r ⟨q,o,u,n,ex,eq,xo,hQ⟩;subst ex;obtain ⟨C,hx,J⟩:=Gn I eq xo;cases r with
 | cons r1 r2=>
  cases r2 with
  | cons r2 r3=>
   cases r3;rename_i u1 u2;cases (show u1=Value.ref q from r1)
   exact PySem.W.kia_one (yF hx) I.kIn J (hf u2 r2 C n hx) (fun z=>nomatch z) fun tk=>⟨.bl<|f n,H,I.kept (t':=tk) fun _ _ e=>e,rfl,hQ⟩
theorem z7 {b:Expr}{v:V}{f:Str->Bool}(hg:Gl X "isinstance")(hm:X.mg "isinstance" = YK)(ha:DE X a ma)(hb:PE X b (tC v))(hf:Br X.K v f)(h1:Bo [a,b] X.env=(false,eval a X.env)::Bo [b] X.env:=by rfl)(h2:Bo [b] X.env=(false,eval b X.env)::Bo [] X.env:=by rfl)
  (hpl:(En pos (Bo [b] X.env)).any (·.1)=false:=by rfl):DE X (.Call (.Name "isinstance" p) [a,b] [] pos) (BL f ma):=
 (rE (aeW hf) hg hm R9 (lE ha (lE hb yt h2) h1) (by decide) (by decide) h1 hpl).of fun Z H Q ⟨μ,h,Zw,Qw,R,S,m,k⟩=>by
  refine ⟨μ,h,Zw,_,R,S,m,fun x H1 ⟨μ1,w,h1,e1,R1,r1,m1⟩=>?_⟩;cases w with
  | exc n=>
   rw [kI] at r1;obtain ⟨q,o,u,ev,eq,hx⟩:=r1;subst ev;exact ⟨q,o,u,n,rfl,eq,.inl hx,k _ _ ⟨μ1,.bl<|f n,h1,e1,R1,by rw [kI],m1⟩⟩
  | exa n ws=>
   rw [kI] at r1;obtain ⟨q,o,u,dd,ns,xs,ev,eq,hx,hdd,_⟩:=r1;subst ev;exact ⟨q,o,u,n,rfl,eq,.inr ⟨dd,_,hx,hdd⟩,k _ _ ⟨μ1,.bl<|f n,h1,e1,R1,by rw [kI],m1⟩⟩
  | _=>exact m1.elim
inductive N7 (X:Cx):List Expr->List V->(Str->Bool)->Prop
 | nil:N7 X [] [] (fun _=>false)
 | cons {e:Expr} {es:List Expr} {v:V} {vs:List V} {f g:Str->Bool}:PE X e (tC v)->Br X.K v f->N7 X es vs g->Bo (e::es) X.env=(false,eval e X.env)::Bo es X.env->N7 X (e::es) (v::vs) (fun n=>f n||g n)
def tCs (vs:List V):TA:=fun _ H Q=>Q vs H
theorem N7.pa {es:List Expr}{vs:List V}{f:Str->Bool}(h:N7 X es vs f):PA X es (tCs vs):=by
 induction h with
 | nil=>exact yt
 | cons he _ _ hs ih=>exact (lE he ih hs).of fun Z H Q q=>q
theorem N7.any {es:List Expr}{vs:List V}{f:Str->Bool}(h:N7 X es vs f):∀ {us:List Yk} {C:Addr} {n:Str},Az vs us->qu X.K C n=true->PySem.W.kitAny X.K (.ref C) us=Mk (f n):=by
 induction h with
 | nil=>intro us C n r _;cases r;rfl
 | @cons e es v vs f g he hc hr hs ih=>
  intro us C n r hx;cases r with
  | cons r1 r2=>
   unfold PySem.W.kitAny;rw [hc _ r1 C n hx];show _=Mk (f n||g n);cases f n with
   | true=>rfl
   | false=>rw [Bool.false_or];exact ih r2 hx
theorem zap {vs:List V}{f:Str->Bool}(hf:∀ {us:List Yk} {C:Addr} {n:Str},Az vs us->qu X.K C n=true->PySem.W.kitAny X.K (.ref C) us=Mk (f n)):
  jo X (.builtin "isinstance") (fun xs H Q=>∃ q o u n t,xs=[.ref q,.ref t]/\H q=Mk (.frz o u)/\Qk X.K H o n/\H t=Mk (.tup vs)/\Q (.bl (f n)) H):=by
 intro afG s Z H xs us Q I r ⟨q,o,u,n,t,ex,eq,xo,ht,hQ⟩;subst ex;obtain ⟨C,hx,J⟩:=Gn I eq xo;cases r with
 | cons r1 r2=>
  cases r2 with
  | cons r2 r3=>
   cases r3;rename_i u1 u2;cases (show u1=Value.ref q from r1)
   cases (show u2=Value.ref t from r2)
   obtain ⟨_,its,rv,⟨c,dd,dt,sl⟩,h1,h2,⟨k,h3⟩,_⟩:=(show dX X.prog X.w H s.heap t (.tup vs) from I.hok t _ ht)
   dsimp only at h2 h3;subst h2 h3;exact PySem.W.kia_tup (yF hx) I.kIn J h1 (hf rv hx) (fun z=>nomatch z) fun tk=>⟨.bl<|f n,H,I.kept (t':=tk) fun _ _ e=>e,rfl,hQ⟩
theorem Ut {es:List Expr}{vs:List V}{f:Str->Bool}{x1 p1}(hg:Gl X "isinstance")(hm:X.mg "isinstance" = YK)(ha:DE X a ma)(hc:N7 X es vs f)(hl:vs.length<=100)(h1:Bo [a,.Tuple es x1 p1] X.env=(false,eval a X.env)::Bo [.Tuple es x1 p1] X.env:=by rfl)
  (h2:Bo [.Tuple es x1 p1] X.env=(false,eval (.Tuple es x1 p1) X.env)::Bo [] X.env:=by rfl) (hpl:(En pos (Bo [.Tuple es x1 p1] X.env)).any (·.1)=false:=by rfl) :
  DE X (.Call (.Name "isinstance" p) [a,.Tuple es x1 p1] [] pos) (BL f ma):=
 (rE (zap hc.any) hg hm R9 (lE ha (lE (KR hc.pa) yt h2) h1) (by decide) (by decide) h1 hpl).of fun Z H Q ⟨μ,h,Zw,Qw,R,S,m,k⟩=>by
  refine ⟨μ,h,Zw,_,R,S,m,fun x H1 ⟨μ1,w,h1,e1,R1,r1,m1⟩=>?_⟩;cases w with
  | exc n=>
   rw [kI] at r1;obtain ⟨q,o,u,ev,eq,hx⟩:=r1;subst ev;refine ⟨Cg hl<|by decide,fun t ht=>⟨q,o,u,n,t,rfl,?_,.inl hx,bf,k _ _ ⟨μ1,.bl<|f n,h1,e1.trans (Ex.laid ht).ext,R1.laid ht,by rw [kI],m1⟩⟩⟩;rw [aJ (aP eq ht)];exact eq
  | exa n ws=>
   rw [kI] at r1;obtain ⟨q,o,u,dd,ns,xs,ev,eq,hx,hdd,_⟩:=r1;subst ev;refine ⟨Cg hl<|by decide,fun t ht=>⟨q,o,u,n,t,rfl,?_,.inr ⟨dd,_,hx,by rw [aJ<|aP hdd ht];exact hdd⟩,bf,k _ _ ⟨μ1,.bl<|f n,h1,e1.trans (Ex.laid ht).ext,R1.laid ht,by rw [kI],m1⟩⟩⟩;rw [aJ (aP eq ht)];exact eq
  | _=>exact m1.elim
end
section
variable {X:Cx}{tg:Expr}{scope:Scope}{xs:List Str}{te:ME}{pos p ppos:Pos}
end
section
variable {prog:Bs}{w:Bh}{A:Bx}{E:Yk->ZG->Prop}{s:ZG}
end
section
variable {X:Cx}
end
section
variable {X:Cx}{K:Ar}{o e:Expr}{ma:MA}{apos afJ:Pos}
variable {H:Hp}{afG:List (Addr×Obj)}{s:ZG}{Z : St}
mutual
theorem aaU (I:AP X afG Z H s):∀ {w u:W} {v:V},Dt X.K H w v->Dt X.K H u v->w=u
 | .non,u,v,h,g=>by rw [Dt] at h;subst h;cases u <;> rw [Dt] at g <;> first | rfl | exact g.elim | (obtain ⟨_,_,g,_⟩:=g;cases g;done) | (cases g;done)
 | .bl b,u,v,h,g=>by rw [Dt] at h;subst h;cases u <;> rw [Dt] at g <;> first | (injection g with g;rw [g];done) | exact g.elim | (obtain ⟨_,_,g,_⟩:=g;cases g;done) | (cases g;done)
 | .int b,u,v,h,g=>by rw [Dt] at h;subst h;cases u <;> rw [Dt] at g <;> first | (injection g with g;rw [g];done) | exact g.elim | (obtain ⟨_,_,g,_⟩:=g;cases g;done) | (cases g;done)
 | .str b,u,v,h,g=>by rw [Dt] at h;subst h;cases u <;> rw [Dt] at g <;> first | (injection g with g;rw [g];done) | exact g.elim | (obtain ⟨_,_,g,_⟩:=g;cases g;done) | (cases g;done)
 | .tup ws,u,v,h,g=>by
  rw [Dt] at h;obtain ⟨p,xs,e,hs,ds⟩:=h;subst e;cases u with
  | tup us=>
   rw [Dt] at g;obtain ⟨p',xs',e',hs',ds'⟩:=g;cases e'
   have:=I.tuple_inj hs hs'
   subst this;rw [ug I ds ds']
  | lst us=>
   rw [Dt] at g;obtain ⟨p',xs',e',hs',ds'⟩:=g;cases e'
   obtain ⟨_,_,t,_⟩:=I.tuple hs;obtain ⟨_,_,l,_⟩:=I.list hs';exact absurd rfl<|Tg l.isList<|show s.heap.IsTuple _ _ from t
  | ty _=>rw [Dt] at g;exact g.elim
  | loc _=>rw [Dt] at g;exact g.elim
  | kls _=>rw [Dt] at g;exact g.elim
  | exc _=>rw [Dt] at g;exact g.elim
  | exa _ _=>rw [Dt] at g;exact g.elim
  | _=>rw [Dt] at g;cases g
 | .lst ws,u,v,h,g=>by
  rw [Dt] at h;obtain ⟨p,xs,e,hs,ds⟩:=h;subst e;cases u with
  | lst us=>
   rw [Dt] at g;obtain ⟨p',xs',e',hs',ds'⟩:=g;cases e'
   have:=I.list_inj hs hs'
   subst this;rw [ug I ds ds']
  | tup us=>
   rw [Dt] at g;obtain ⟨p',xs',e',hs',ds'⟩:=g;cases e'
   obtain ⟨_,_,t,_⟩:=I.tuple hs';obtain ⟨_,_,l,_⟩:=I.list hs;exact absurd rfl<|Tg l.isList<|show s.heap.IsTuple _ _ from t
  | ty _=>rw [Dt] at g;exact g.elim
  | loc _=>rw [Dt] at g;exact g.elim
  | kls _=>rw [Dt] at g;exact g.elim
  | exc _=>rw [Dt] at g;exact g.elim
  | exa _ _=>rw [Dt] at g;exact g.elim
  | _=>rw [Dt] at g;cases g
 | .ty _,_,_,h,_=>by rw [Dt] at h;exact h.elim
 | .kls _,_,_,h,_=>by rw [Dt] at h;exact h.elim
 | .loc _,_,_,h,_=>by rw [Dt] at h;exact h.elim
 | .exc _,_,_,h,_=>by rw [Dt] at h;exact h.elim
 | .exa _ _,_,_,h,_=>by rw [Dt] at h;exact h.elim
theorem ug (I:AP X afG Z H s):∀ {ws us:List W} {vs:List V},GP X.K H ws vs->GP X.K H us vs->ws=us
 | [],us,vs,h,g=>by
  have e:vs=[]:=by rw [GP] at h;exact h
  subst e;cases us with
  | nil=>rfl
  | cons u us=>rw [GP] at g;obtain ⟨_,_,e,_⟩:=g;cases e
 | w::ws,us,vs,h,g=>by
  rw [GP] at h;obtain ⟨v,vs',e,d,ds⟩:=h;subst e;cases us with
  | nil=>
   have e:v::vs'=[]:=by rw [GP] at g;exact g
   cases e
  | cons u us=>
   rw [GP] at g;obtain ⟨v2,vs2,e2,d2,ds2⟩:=g;cases e2;rw [aaU I d d2,ug I ds ds2]
end
end
section
variable {X:Cx}{iter tg:Expr}{scope:Scope}{pos:Pos}{xs:List Str}{te:ME}
end
section
variable {X:Cx}{e:Expr}{es:List Expr}{pos:Pos}
variable {mr:CN->MA}
end
section
variable {X:Cx}{K:Ar}{H:Hp}{afG:List (Addr×Obj)}{s:ZG}{Z : St}
end
section
variable {X:Cx}{K:Ar}{H:Hp}{h:Gh}
end
section
variable {X:Cx}{K:Ar}{o e e':Expr}{ma:MA}{apos afJ:Pos}
theorem Oe {afJ:Pos}{e e':Expr}(h:Cq e=false)(h':Cq e'=false):((En afJ (Bo [e,e'] env)).all (fun x=>!x.1)&&(backToKw afJ (QJ [] env)).all (fun x=>x.1.isSome)
   && decide (([e,e']:List Expr).length+([]:List Jx).length+(if ([]:List Jx).isEmpty then 0 else 1)<30))=true:=by
 rw [aj h,aj h'];rfl
end
def Ph (m:Nat):List Nat:=(Hz 8).filter fun j=>m.testBit j
def rk (m j:Nat):Nat:=((Hz j).filter fun i=>m.testBit i).length
def pq (h:Int):Nat->Nat×Nat
 | 0=>(Qo h % 8,Qo h)
 | n+1=>SetTable.leap 7 (pq h n).1 (pq h n).2
def pb (h:Int)(n:Nat):SetTable.Probe:=⟨(pq h n).1,0,(pq h n).1,(pq h n).2,YK⟩
theorem V5 (h:Int):∀ n,(pq h n).1<8
 | 0=>Nat.mod_lt _ (by decide)
 | n+1=>Nat.mod_lt _ (by decide)
theorem Gk (h:Int):∀ n,(pq h n).2=Qo h / 32^n
 | 0=>by simp [pq]
 | n+1=>by
  show (pq h n).2 / 32=_;rw [Gk h n,Nat.div_div_eq_div_mul,Nat.pow_succ]
theorem aeB (h:Int)(n:Nat)(hn:13<=n):(pq h n).2=0:=by
 rw [Gk];apply Nat.div_eq_of_lt;have h1:Qo h<2^64:=by
  unfold Qo;have a:=Int.emod_lt_of_pos h (show (0:Int)<2^64 by decide);have b:=Int.emod_nonneg h (show (2^64:Int)≠0 by decide);lia
 have h2:32^13<=32^n:=U3 (by decide) hn;have h3:(2:Nat)^64<32^13:=by decide
 lia
def lcg:Nat->Nat->Nat
 | i,0=>i
 | i,k+1=>(lcg i k*5+1) % 8
theorem J8 (h:Int):∀ k,(pq h (13+k)).1=lcg (pq h 13).1 k
 | 0=>rfl
 | k+1=>by
  show ((pq h (13+k)).1*5+1+(pq h (13+k)).2 / 32) % (7+1)=_;rw [aeB h _ (by lia),J8 h k];rfl
theorem acW:∀ i:Fin 8,∀ j:Fin 8,∃ k:Fin 8,lcg i k=j.val:=by decide +kernel
theorem aeO (h:Int){j:Nat}(hj:j<8):∃ n,n<21/\(pq h n).1=j:=by
 obtain ⟨k,e⟩:=acW ⟨(pq h 13).1,V5 h 13⟩ ⟨j,hj⟩;exact ⟨13+k.val,by lia,by rw [J8];exact e⟩
theorem least {P:Nat->Bool}:∀ (B:Nat),(∃ n,n<B/\P n=true)->∃ N,N<B/\P N=true/\∀ n,n<N->P n=false
 | 0,⟨n,h,_⟩=>absurd h (Nat.not_lt_zero _)
 | B+1,⟨n,h,e⟩=>by
  by_cases q:∃ n,n<B/\P n=true
  ·obtain ⟨N,a,b,c⟩:=least B q;exact ⟨N,by lia,b,c⟩
  ·refine ⟨n,h,e,fun i hi=>?_⟩;cases r:P i with
   | false=>rfl
   | true=>exact absurd ⟨i,by lia,r⟩ q
theorem road (h:Int)(hf:∃ j,j<8/\m.testBit j=false):∃ N,N<21/\m.testBit (pq h N).1=false/\∀ n,n<N->m.testBit (pq h n).1=true:=by
 obtain ⟨j,hj,e⟩:=hf;obtain ⟨n,hn,en⟩:=aeO h hj;obtain ⟨N,a,b,c⟩:=least (P:=fun n=>!m.testBit (pq h n).1) 21 ⟨n,hn,by simp [en,e]⟩;exact ⟨N,a,by simpa using b,fun n hn=>by simpa using c n hn⟩
section
variable {prog:Bs}{w:Bh}{A:Bx}{E:Yk->ZG->Prop}{s:ZG}{ka:Nat->List Int}{ad:Nat->Addr}{t:Tp}{a b:Addr}{k:List Int}
abbrev acN (prog:Bs)(w:Bh)(h:Heap)(k:List Int)(a:Addr):Prop:=IsTupleKey (intKind prog w) h k a
def hT (prog:Bs)(w:Bh)(k:List Int):Int:=tupleKeyHash (intKind prog w) k
def elL (prog:Bs)(w:Bh)(m:Nat)(ka:Nat->List Int)(ad:Nat->Addr):List (Int×Yk):=(Ph m).map fun j=>(hT prog w (ka j),Value.ref (ad j))
structure Zc (prog:Bs) (w:Bh) (h:Heap) (m:Nat) (ka:Nat->List Int) (ad:Nat->Addr) (t:Tp):Prop where
 mask:t.mask=7
 place:t.place=(Ph m).toArray
 dum:t.dummies = #[]
 m8:m<256
 few:(Ph m).length<=4
 key:∀ j,j∈Ph m->acN prog w h (ka j) (ad j)
 way:∀ j,j∈Ph m->∃ n,(pq (hT prog w (ka j)) n).1=j/\∀ i,i<n->m.testBit (pq (hT prog w (ka j)) i).1=true
def Zj (es:Array (Int×Yk))(ep:Nat)(t:Tp):Obj:={ cls:=.type "set",dict:=YK,data:=.set es ep t }
def abW (prog:Bs)(w:Bh)(h:Heap)(a:Addr)(m:Nat)(ka:Nat->List Int)(ad:Nat->Addr):Prop:=∃ ep t,h.get? a=Mk (Zj (elL prog w m ka ad).toArray ep t)/\Zc prog w h m ka ad t
end
variable {ad : Nat->Addr}{ka : Nat->List Int}
section
variable {prog:Bs}{w:Bh}{A:Bx}{E:Yk->ZG->Prop}
structure aaf (prog:Bs) (w:Bh) (z:Nat) (h:Heap) (S:Addr) (seen:List (List Int)) (m:Nat) (ka:Nat->List Int) (ad:Nat->Addr):Prop where
 set:abW prog w h S m ka ad
 low:∀ j,j∈Ph m->ad j<z
 mem:∀ k,k∈seen↔∃ j,j∈Ph m/\ka j=k
 len:(Ph m).length=seen.length
end
section
variable {prog:Bs}{w:Bh}{A:Bx}{E:Yk->ZG->Prop}{s:ZG}
end
section
variable {X:Cx}{K:Ar}
theorem zF {prog:Bs}{w:Bh}:∀ {k:List Int} {us:List Yk},Az (k.map V.int) us->ItemsAre (intKind prog w) k us
 | [],_,.nil=>.nil
 | i::k,_,.cons r t=>by
  obtain ⟨tk,rfl⟩:=r;exact .cons (intKind_is _ _ _ _)<|zF t
end
section
variable {κ : Type}[DecidableEq κ]
def Ck (kvs:List (κ×V))(k:κ):Option V:=(kvs.find? fun kv=>decide (kv.1=k)).map (·.2)
def HX (kvs:List (κ×V))(k:κ)(v:V):List (κ×V):=
 if (kvs.any fun kv=>decide (kv.1=k))=true then kvs.map (fun kv=>if kv.1=k then (kv.1,v) else kv) else kvs++[(k,v)]
def xW (kvs:List (κ×V))(k:κ):List (κ×V):=kvs.filter fun kv=>decide (kv.1≠k)
theorem yU {p:κ×V}{r:List (κ×V)}{k:κ}(e:p.1=k):Ck (p::r) k=Mk p.2:=by simp [Ck,M7,e]
theorem Aa {p:κ×V}{r:List (κ×V)}{k:κ}(e:¬ p.1=k):Ck (p::r) k=Ck r k:=by simp [Ck,M7,e]
theorem n8 (kvs:List (κ×V))(k:κ)(v:V):(HX kvs k v).length<=kvs.length+1:=by
 unfold HX;split
 ·rw [Cm];lia
 ·rw [HB,Il,T3];lia
theorem Hy.getD {o:Option V}{u:Option Yk}{d:V}{d':Yk}(r:Hy o u)(rd:RelV d d'):RelV (o.getD d) (u.getD d'):=by
 cases o with
 | none=>cases u with
  | none=>exact rd
  | some _=>exact (show False from r).elim
 | some _=>cases u with
  | none=>exact (show False from r).elim
  | some _=>exact r
theorem KV.val {kvs:List (κ×V)}{vs:List (κ×Yk)}(r:KV kvs vs)(k:κ):Hy (Ck kvs k) (valueAt vs k):=by
 unfold KV at r;induction r with
 | nil=>exact True.intro
 | @cons p q ps qs h t ih=>
  obtain ⟨h1,h2⟩:=h;by_cases e:p.1=k
  ·have e':q.1=k:=h1.symm.trans e;have b:valueAt (q::qs) k=Mk q.2:=by simp [valueAt,M7,e']
   rw [yU e,b];exact h2
  ·have e':¬ q.1=k:=fun z=>e (h1.trans z)
   have b:valueAt (q::qs) k=valueAt qs k:=by simp [valueAt,M7,e']
   rw [Aa e,b];exact ih
theorem KV.any {kvs:List (κ×V)}{vs:List (κ×Yk)}(r:KV kvs vs)(k:κ):(kvs.any fun kv=>decide (kv.1=k))=vs.any fun kv=>decide (kv.1=k):=by
 unfold KV at r;induction r with
 | nil=>rfl
 | cons h t ih=>rw [List.any_cons,List.any_cons,ih,h.1]
theorem KV.repl {kvs:List (κ×V)}{vs:List (κ×Yk)}(r:KV kvs vs)(k:κ){y:V}{u:Yk}(ry:RelV y u):
  KV (kvs.map fun kv=>if kv.1=k then (kv.1,y) else kv) (vs.map fun kv=>if kv.1=k then (kv.1,u) else kv):=by
 unfold KV at r |-
 induction r with
 | nil=>exact .nil
 | @cons p q ps qs h t ih=>
  rw [Bf,Bf];refine .cons ?_ ih;obtain ⟨h1,h2⟩:=h;by_cases e:p.1=k
  ·rw [if_pos e,if_pos (h1.symm.trans e)];exact ⟨h1,ry⟩
  ·rw [if_neg e,if_neg (fun z=>e (h1.trans z))];exact ⟨h1,h2⟩
theorem KV.put {kvs:List (κ×V)}{vs:List (κ×Yk)}(r:KV kvs vs)(k:κ){y:V}{u:Yk}(ry:RelV y u):KV (HX kvs k y) (stored vs k u):=by
 unfold HX stored;rw [r.any k];by_cases e:(vs.any fun kv=>decide (kv.1=k))=true
 ·rw [if_pos e,if_pos e];exact r.repl k ry
 ·rw [if_neg e,if_neg e];exact Paired.snoc r ⟨rfl,ry⟩
theorem KV.drop {kvs:List (κ×V)}{vs:List (κ×Yk)}(r:KV kvs vs)(k:κ):KV (xW kvs k) (without vs k):=by
 unfold KV at r |-
 unfold xW without;induction r with
 | nil=>exact .nil
 | @cons p q ps qs h t ih=>
  obtain ⟨h1,h2⟩:=h;rw [QV,QV];by_cases e:p.1=k
  ·have a:¬ decide (p.1≠k)=true:=by simp [e]
   have b:¬ decide (q.1≠k)=true:=by simp [h1.symm.trans e]
   rw [if_neg a,if_neg b];exact ih
  ·have e':¬ q.1=k:=fun z=>e (h1.trans z)
   have a:decide (p.1≠k)=true:=by simp [e]
   have b:decide (q.1≠k)=true:=by simp [e']
   rw [if_pos a,if_pos b];exact .cons ⟨h1,h2⟩ ih
theorem KV.length {kvs:List (κ×V)}{vs:List (κ×Yk)}(r:KV kvs vs):kvs.length=vs.length:=Rv r
theorem zaK (kvs:List (κ×V))(k:κ):(xW kvs k).length<=kvs.length:=List.length_filter_le _ _
end
theorem Fv {P:Bs}{w:Bh}{k:Key}{u:Yk}(r:RelV (kV k) u):(bM P w).is k u=true:=by
 cases k with
 | inl i=>obtain ⟨t,e⟩:=(show ∃ t,u=Value.int i t from r);subst e;exact wW P w i t
 | inr x=>obtain ⟨t,e⟩:=(show ∃ t,u=Value.str x t from r);subst e;exact wL P w x t
section
variable {P:Bs}{w:Bh}{H:Hp}{h:Heap}{a:Addr}
theorem Ws {u:HO}(ok:HN P w H h)(e:Rd H a u):dX P w H h a u:=e.ok ok
theorem RN {kvs:List (Key×V)}(ok:HN P w H h)(e:Rd H a (.dK kvs)):kvs.length<=CR/\(a==LQ)=false/\∃ vs,KV kvs vs/\h.DictOf (bM P w) a vs:=
 show dX P w H h a (.dK kvs) from Ws ok e
theorem Aj {kvs:List (Key×V)}(ok:HN P w H h)(e:H a=Mk (.dK kvs)):kvs.length<=CR/\(a==LQ)=false/\∃ vs,KV kvs vs/\h.DictOf (bM P w) a vs:=RN ok (.inl e)
end
section
variable {X:Cx}{afG:List (Addr×Obj)}{Z : St}{H:Hp}{s:ZG}{a:Addr}{y v:V}{u r:Yk}{o:Option V}{A:Bx}{E:Yk->ZG->Prop}
theorem AP.big (I:AP X afG Z H s):LQ<s.heap.objs.size:=by
 have h:DK<s.heap.objs.size:=(I.mod.glob.keeps I.bk).lt;exact Nat.lt_trans (by decide) h
theorem xH {h':Heap}{t':Nat}{ob:HO}(I:AP X afG Z H s)(mu:Mut (H a))(hs:QB a s.heap h')(he:∃ q,h'.get? a=Mk q)(new:dX X.prog X.w (CJ H a ob) h' a ob):
  AP X afG Z (CJ H a ob) { s with heap:=h',toks:=t' }:=
 I.write (x:=a) (e:=a) mu (.inl rfl) (fun b q hb z=>(hs.2 b hb).trans z) he new
theorem Dq {P:Bs}{w:Bh}{H':Hp}{h':Heap}{kvs:List (Key×V)}{vs:List (Key×Yk)}(z:kvs.length<=CR)(hd:(a==LQ)=false)(rel:KV kvs vs)(dd:h'.DictOf (bM P w) a vs):
  dX P w H' h' a (.dK kvs):=⟨z,hd,vs,rel,dd⟩
end
section
variable {X:Cx}{afG:List (Addr×Obj)}{Z : St}{H:Hp}{s:ZG}{a:Addr}{kvs:List (Key×V)}{k:Key}{u:Yk}{A:Bx}{E:Yk->ZG->Prop}
theorem adT {v:V}{more:List Yk}{Q:Yk->ZG->Prop}(I:AP X afG Z H s)(e:H a=Mk (.dK kvs))(ry:RelV (kV k) u)(l:Ck kvs k=Mk v)(hm:more=[]\/∃ x,more=[x])
  (h:∀ w' s',AP X afG Z (CJ H a (.dK (xW kvs k))) s'->RelV v w'->Q w' s'):Al (Am X.prog X.w) A (call (.builtin "dict.pop") (.ref a::u::more)) Q E s:=by
 obtain ⟨z,hd,vs,rel,dd⟩:=Aj I.hok e;obtain ⟨w',hw,rw'⟩:=Hy.some_of (v:=v) (o:=valueAt vs k) (by rw [<-l];exact rel.val k);have hp:(keyPart u).isSome=true:=by
  cases k with
  | inl i=>obtain ⟨t,q⟩:=(show ∃ t,u=Value.int i t from ry);subst q;rfl
  | inr x=>obtain ⟨t,q⟩:=(show ∃ t,u=Value.str x t from ry);subst q;rfl
 have ha:argsOk "dict.pop" ⟨.ref a::u::more,[]⟩:=by
  rcases hm with q | ⟨x,q⟩
  ·subst q;exact PySem.F.args_dict_pop_2 _ _
  ·subst q;exact PySem.F.args_dict_pop_3 _ _ _
 refine call_meetsIn PySem.F.slot_dict_pop dd.typeIs PySem.F.entry_dict_pop ha (meets_dict_pop_there (bM X.prog X.w) a (Fv ry) more hm hp)
  ⟨vs,w',dd,by rw [<-rel.length];exact z,hw,fun h' dd' hs=>h w' _ ?_ rw'⟩
 have he:∃ q,h'.get? a=Mk q:=let ⟨q,_,_,hq,_⟩:=dd';⟨q,hq⟩
 exact xH I (by rw [e];exact True.intro) hs he<|Dq (Cg (zaK kvs k) z) hd (rel.drop k) dd'
end
def SQ (i:Expr):Prop:=∀ ov iv,subscripted i false ov iv=operate [ov,iv] (getItem ov iv)
theorem Gs {prog:Bs}{w:Bh}{A:Bx}{E:Yk->ZG->Prop}{s:ZG}{value slice:Expr}{pos:Pos}{T id:String}{Q:Yk->ZG->Prop}
  (hl:Qj (.type T) "__getitem__" = pure (Mk (.builtin id))) (hs:SQ slice)
  (h:Al (Am prog w) A (eval value env) (fun o s₁=>Al (Am prog w) A (eval slice env) (fun i s₂=>s₂.TypeIs o T/\Al (Am prog w) A (getItem o i) Q E s₂) E s₁) E s) :
  Al (Am prog w) A (eval (.Subscript value slice pos) env) Q E s:=by
 refine Subscript_<|Hx h (fun o s₁ h₁=>Hx h₁ (fun i s₂ h₂=>?_) fun _ _ x=>x) fun _ _ x=>x
 obtain ⟨hT,h₂⟩:=h₂;unfold subscriptTail;refine Zi ?_;rw [getitemInPython_of_ne hT.not_modules];refine Zi<|wpAny_specialOf hT hl ?_
 have fin:Al (Am prog w) A (subscripted slice false o i) (fun r s₃=>Al (Am prog w) A (letTemporaryGo value o r >>= fun _=>pure r) Q E s₃) E s₂:=by
  rw [hs o i];exact wpAny_operating<|Hx h₂ (fun r s₃ h₃=>Zi<|wpAny_letTemporaryGo<|BP h₃) fun _ _ x=>x
 first
  | exact BP (Zi fin)
  | exact Zi (BP (Zi fin))
  | exact Zi fin
section
variable {X:Cx}{o i e value:Expr}{pos pos' tpos:Pos}{td ty tv:TE}
end
theorem uw {P:Bs}{w:Bh}{H:Hp}(h:Heap)(hb:LQ<h.objs.size):dX P w H (h.push { cls:=.type "dict",data:=.dict #[] }) h.objs.size (.dT []):=
 ⟨IK _,beq_eq_false_iff_ne.mpr (Hf (Fw hb)),[],.nil,_,#[],0,Ej _ rfl,⟨rfl,rfl,rfl⟩,rfl,rfl,Pr⟩
section
variable {X:Cx}{pos:Pos}
end
def jT (kvs more:List (Key×V)):List (Key×V):=more.foldl (fun acc kv=>HX acc kv.1 kv.2) kvs
theorem KV.merge:∀ {more:List (Key×V)} {rs:List (Key×Yk)} {kvs:List (Key×V)} {vs:List (Key×Yk)},KV more rs->KV kvs vs->KV (jT kvs more) (Lx vs rs):=by
 intro more rs kvs vs r;unfold KV at r;induction r generalizing kvs vs with
 | nil=>intro q;exact q
 | @cons p q ps qs h t ih=>
  intro r0;have e:KV (HX kvs p.1 p.2) (stored vs q.1 q.2):=by
   have:=r0.put p.1 h.2
   rw [<-h.1];exact this
  exact ih e
theorem jG:∀ (more kvs:List (Key×V)),(jT kvs more).length<=kvs.length+more.length
 | [],kvs=>by show kvs.length<=kvs.length+0;lia
 | p::r,kvs=>by
  have h1:=jG r (HX kvs p.1 p.2);have h2:=n8 kvs p.1 p.2;show (jT (HX kvs p.1 p.2) r).length<=_;rw [Il];lia
def PK:W->Option Key
 | .int i=>Mk (.inl i)
 | .str x=>Mk (.inr x)
 | _=>YK
def oH (kvs:List (Key×W))(k:Key):Option W:=(kvs.find? fun kv=>decide (kv.1=k)).map (·.2)
def G4 (kvs:List (Key×W))(k:Key)(w:W):List (Key×W):=
 if (kvs.any fun kv=>decide (kv.1=k))=true then kvs.map (fun kv=>if kv.1=k then (kv.1,w) else kv) else kvs++[(k,w)]
section
variable {K:Ar}{H:Hp}{kvs:List (Key×W)}{kvv:List (Key×V)}{k:Key}{w:W}{v:V}
theorem jK (r:kI K H μ w v)(e:PK w=Mk k):v=kV k:=by
 cases w with
 | int i=>rw [kI] at r;cases e;exact r
 | str x=>rw [kI] at r;cases e;exact r
 | _=>cases e
theorem ji.val (r:ji K H μ kvs kvv)(e:oH kvs k=Mk w):∃ v,Ck kvv k=Mk v/\kI K H μ w v:=by
 unfold ji at r;induction r with
 | nil=>cases e
 | @cons p q ps qs h t ih=>
  by_cases z:p.1=k
  ·have e1:oH (p::ps) k=Mk p.2:=by simp [oH,M7,z]
   rw [e1] at e;cases e;exact ⟨q.2,yU<|h.1.symm.trans z,h.2⟩
  ·have e1:oH (p::ps) k=oH ps k:=by simp [oH,M7,z]
   rw [e1] at e;obtain ⟨v,a,b⟩:=ih e;exact ⟨v,by rw [Aa<|fun y=>z<|h.1.trans y];exact a,b⟩
theorem ji.any (r:ji K H μ kvs kvv)(k:Key):(kvs.any fun kv=>decide (kv.1=k))=(kvv.any fun kv=>decide (kv.1=k)):=by
 unfold ji at r;induction r with
 | nil=>rfl
 | @cons p q ps qs h t ih=>rw [List.any_cons,List.any_cons,ih,h.1]
theorem ji.repl (r:ji K H μ kvs kvv)(rv:kI K H μ w v)(k:Key):ji K H μ (kvs.map fun kv=>if kv.1=k then (kv.1,w) else kv) (kvv.map fun kv=>if kv.1=k then (kv.1,v) else kv):=by
 unfold ji at r |-
 induction r with
 | nil=>exact .nil
 | @cons p q ps qs h t ih=>
  rw [Bf,Bf];refine .cons ?_ ih;by_cases z:p.1=k
  ·rw [if_pos z,if_pos (h.1.symm.trans z)];exact ⟨h.1,rv⟩
  ·rw [if_neg z,if_neg (fun y=>z (h.1.trans y))];exact h
theorem ji.put (r:ji K H μ kvs kvv)(rv:kI K H μ w v)(k:Key):ji K H μ (G4 kvs k w) (HX kvv k v):=by
 unfold G4 HX;rw [<-r.any k];by_cases e:(kvs.any fun kv=>decide (kv.1=k))=true
 ·rw [if_pos e,if_pos e];exact r.repl rv k
 ·rw [if_neg e,if_neg e];exact Paired.snoc r ⟨rfl,rv⟩
theorem Bq.dctAt {h:Gh}{n:Nat}(R:Bq K μ H h)(e:h.c n=Mk (.dct kvs)):∃ p kvv,μ.f n=Mk p/\H p=Mk (.dK kvv)/\ji K H μ kvs kvv:=by
 obtain ⟨p,e1,xs,e2,r⟩:=R.cel n _ e;exact ⟨p,xs,e1,e2,r⟩
end
variable {kvv : List (Key×V)}
section
variable {X:Cx}{a b:Expr}{pos:Pos}
def Vz:M2:=fun x y h Q=>match x,PK y with
 | .loc n,Mk k=>(match h.c n with
  | some (.dct kvs)=>(match oH kvs k with
   | some w=>Q w h
   | none=>False)
  | _=>False)
 | _,_=>False
theorem adH {o i:Expr}{td ty:TE}(ho:PE X o td)(hi:PE X i ty)(hs:SQ i):PE X (.Subscript o i pos) (fun Z H Q=>td Z H fun x H1=>ty Z H1 fun y H2=>∃ a kvs k v,x=.ref a/\Rd H2 a (.dK kvs)/\y=kV k/\Ck kvs k=Mk v/\Q v H2):=by
 intro afG s Z H Q I h;refine Gs PySem.F.slot_dict_getitem.lookup hs<|CV (ho afG s Z H _ I h) fun u s1 ⟨x,H1,I1,rx,q1⟩=>CV (hi afG s1 Z H1 _ I1 q1) fun iv s2 ⟨y,H2,I2,ry,a,kvs,k,v,ex,e,ey,l,q2⟩=>?_
 subst ex ey;obtain rfl:u=Value.ref a:=rx;obtain ⟨z,hd,vs,rel,dd⟩:=RN I2.hok e;obtain ⟨w',hw,rw'⟩:=Hy.some_of (v:=v) (o:=valueAt vs k) (by rw [<-l];exact rel.val k);exact ⟨dd.typeIs,wpAny_getItem_of (Fv ry) dd.mapOf hw ⟨v,H2,I2.tok _,rw',q2⟩⟩
theorem Xf (ha:DE X a ma)(hb:DE X b mb)(hs:SQ b):DE X (.Subscript a b pos) (BJ Vz ma mb):=(adH ha hb hs).of fun Z H Q h=>two h fun {H2 μ2 h2 x y wx wy Qw} R r1 r2 m k=>by
 unfold Vz at m;split at m
 ·rename_i n kk e;split at m
  ·rename_i kvs ec;split at m
   ·rename_i w ev;obtain ⟨p,kvv,hp,hx,rf⟩:=R.dctAt ec;rw [kI] at r1;obtain ⟨p',e1,hp'⟩:=r1;have ep:p'=p:=by rw [hp] at hp';exact (Eb hp').symm
    subst ep;obtain ⟨v,e2,rv⟩:=rf.val ev;exact ⟨p',kvv,kk,v,e1,.inl hx,jK r2 e,e2,k _ _ ⟨μ2,w,h2,.refl,R,rv,m⟩⟩
   ·exact m.elim
  ·exact m.elim
 ·exact m.elim
def Ub:Om:=fun o i v H N=>∃ a kvs k,o=.ref a/\H a=Mk (.dK kvs)/\i=kV k/\kvs.length<CR/\N (CJ H a (.dK (HX kvs k v)))
theorem set_dict:VL X Ub:=by
 intro afG s Z H o i v ov iv u Q I ro ri rv ⟨a,kvs,k,eo,e,ei,l,q⟩;subst eo ei;obtain rfl:ov=Value.ref a:=ro;obtain ⟨z,hd,vs,rel,dd⟩:=Aj I.hok e;have hz:vs.length<=CR:=by rw [<-rel.length];exact z
 have hl:(HX kvs k v).length<=CR:=by have:=n8 kvs k v;lia
 refine wpAny_setItem_pairs (hsz:=hz) (Fv ri) dd fun h' dd' hs=>⟨_,?_,q⟩;have he:∃ q,h'.get? a=Mk q:=let ⟨q,_,_,hq,_⟩:=dd';⟨q,hq⟩
 exact xH I (by rw [e];exact True.intro) hs he<|Dq hl hd (rel.put k rv) dd'
def JG:Pk:=fun o i w h N=>match o,PK i with
 | .loc n,Mk k=>(match h.c n with
  | some (.dct kvs)=>gK (kvs.length+1) (N (h.set n (.dct (G4 kvs k w))))
  | _=>False)
 | _,_=>False
theorem acD {K:Ar}:Gp K Ub JG:=by
 intro H μ h o i v wo wi w Nw N R ro ri r m k;unfold JG at m;split at m
 ·rename_i n kk e;split at m
  ·rename_i kvs ec;obtain ⟨p,kvv,hp,hx,rf⟩:=R.dctAt ec;rw [kI] at ro;obtain ⟨p',e1,hp'⟩:=ro;have ep:p'=p:=by rw [hp] at hp';exact (Eb hp').symm
   subst ep;refine ⟨p',kvv,kk,e1,hx,jK ri e,?_,k _ ⟨μ,_,(Ex.write R hp).ext,R.write (c:=.dct (G4 kvs kk w)) hp trivial ⟨_,bf,?_⟩,m.ok.2⟩⟩
   ·have:=m.ok.1
    rw [Rv rf] at this;lia
   ·refine ji.put ?_ ((Ex.write R hp).ext.r _ _ r) kk;exact Paired.mapP rf fun _ _ z=>⟨z.1,(Ex.write R hp).ext.r _ _ z.2⟩
  ·exact m.elim
 ·exact m.elim
inductive DDs (X:Cx):List (Option Expr)->List Expr->List (Key×ME)->Prop
 | nil:DDs X [] [] []
 | cons {x:Str} {j pos} {v:Expr} {m:ME} {ks:List (Option Expr)} {vs:List Expr} {r:List (Key×ME)} (h:DE X v m) (t:DDs X ks vs r):DDs X (Mk (.Constant (.str x) j pos)::ks) (v::vs) ((.inr x,m)::r)
end
inductive X5 (w:Bh) (K:Ar):List Nk->List (Key×W)->Prop
 | nil:X5 w K [] []
 | cons {x:Str} {t} {v:V} {u:Yk} {d:W} {es:List Nk} {tbl:List (Key×W)} (r:RelV v u) (q:∀ H μ,kI K H μ d v) (h:X5 w K es tbl):X5 w K (⟨PyData.keyHash w.params x,.str x t,u⟩::es) ((.inr x,d)::tbl)
section
variable {X:Cx}{b:Expr}{pos p:Pos}{x:Str}{a:Addr}{tbl:List (Key×W)}
end
variable {tbl : List (Key×W)}
section
variable {X:Cx}{pos p p':Pos}{x:Str}{a:Addr}
end
section
variable {X:Cx}
end
section
variable {X:Cx}{K:Ar}{H:Hp}{h:Gh}
end
section
variable {X:Cx}{a b c:Expr}{mc:ME}{pos:Pos}
end
section
variable {K:Ar}{H:Hp}{fs:List (Str×W)}{fvs:List (Str×V)}{f:Str}{w:W}{v:V}
end
section
variable {X:Cx}{e o value:Expr}{es:List Expr}{mv:ME}{f:Str}{C:Addr}{pos pos' apos:Pos}
end
section
variable {prog:Bs}{w:Bh}{A:Bx}{E:Yk->ZG->Prop}{s:ZG}
theorem zbc:Qj (.type "list_reverseiterator") "__len__" = pure YK:=by rw [typeLookup_type,Tz];kernel_rfl
theorem aaS:Qj (.type "list_reverseiterator") "__length_hint__" = pure (Mk (.builtin "list_reverseiterator.__length_hint__")):=by rw [typeLookup_type,Tz];kernel_rfl
theorem abu {r:Addr}{Q:Bool->ZG->Prop}(hT:s.TypeIs (.ref r) "list_reverseiterator")(h:Q false s):Al (Am prog w) A (Builtin.List.listLengthHint (.ref r)) Q E s:=by
 unfold Builtin.List.listLengthHint;refine Zi<|wpAny_specialOf hT zbc ?_
 dsimp only;refine S7 (fun hab=>absurd hab<|by decide)<|fun _=>?_
 refine S7 (fun hab=>absurd hab<|by decide)<|fun _=>?_
 refine Zi<|wpAny_specialOf hT aaS ?_
 generalize hid:("list_reverseiterator.__length_hint__" : String)=id0
 wp_delta
 rw [show splitId id0=Mk ("list_reverseiterator", "__length_hint__") from by subst hid;decide +kernel];subst hid;refine Zi<|wpAny_isInstance (T := "list_reverseiterator") (b:=true) hT (by rw [isSubtype_type];kernel_rfl) ?_
 refine S7 (fun hab=>absurd hab<|by decide)<|fun _=>?_
 refine S7 (fun _=>?_)<|fun hab=>absurd (by decide +kernel) hab
 refine S7 (fun hab=>absurd hab<|by decide +kernel)<|fun _=>?_
 exact BP h
theorem aat {r l:Addr}{afH:Array Yk}(hh:A.handled=YK)(hit:s.heap.IsRevIter r l ((afH.size:Int) - 1))(hl:s.heap.IsList l afH)(hne:l≠r)(S:Addr)(hSr:S≠r)(hSl:S≠l)(res:Yk)(c₀ : Nat)(hS:s.heap.get? S=Mk { cls:=.type "list",data:=.seq #[] c₀ })
  (hR:∀ h' tk acc' c',(∀ b o,b≠S->b≠r->s.heap.get? b=Mk o->h'.get? b=Mk o)->h'.get? S=Mk { cls:=.type "list",dict:=YK,data:=.seq acc' c',slots:=#[] }->ItemsOf (fun i v=>afH[afH.size - 1 - i]?=Mk v) acc' afH.size->R (.ok (.ret res)) { s with heap:=h',toks:=tk }) (hn:afH.size<=CR) :
  Al (Am prog w) A.in1 (Uk (.ref S) (.ref r) res)
   (fun fin s'=>match fin with | .done f=>R (.ok f) s' | .again c'=>c'.quiet=true/\Li (Am prog w) A c' R s') (fun e s'=>R (.error e) s') s:=by
 have hSf:S∉[r,l]:=by simp only [El,Ja,or_false,not_or];exact ⟨hSr,hSl⟩
 have W:=Walks.listRev (prog:=prog) (w:=w) (A:=A.in1) hh r l hne afH;have st:(fun (i:Nat) (h:Heap)=>i<=afH.size/\h.IsRevIter r l ((afH.size:Int) - 1 - (i:Int))/\h.IsList l afH) 0 s.heap:=⟨IK _,by simpa using hit,hl⟩
 have key:∀ (h:Heap) (c₁ tk:Nat),(fun (i:Nat) (h:Heap)=>i<=afH.size/\h.IsRevIter r l ((afH.size:Int) - 1 - (i:Int))/\h.IsList l afH) 0 h->(∀ b o,b≠S->s.heap.get? b=Mk o->h.get? b=Mk o) ->
   h.get? S=Mk { cls:=.type "list",data:=.seq #[] c₁ }->Li (Am prog w) A (.builtin "list.extend.loop" ⟨[.ref S,.ref r,res],[]⟩) R { s with heap:=h,toks:=tk }:=by
  intro h c₁ tk hst hk hS₁;refine codeAny_extend_loopS W.toS hn S hSf res afH.size 0 _ #[] c₁ rfl (IK _) hst hS₁ (ItemsOf.nil _) fun s' acc' c' hm hS' hacc=>?_;rw [Moved.eq_with hm];refine hR s'.heap s'.toks acc' c' (fun b o hb hr e=>hm.heap b o (fun hmem=>?_)<|hk b o hb e) hS' hacc;rcases El.mp hmem with e' | hmem
  ·exact hb e'
  ·exact hr<|Fd.mp hmem
 unfold Uk;refine Zi<|Mf (T := "list_reverseiterator") hit.typeIs ?_
 have h1:Builtin.List.listSameRef (.ref S) (.ref r)=false:=by simp [Builtin.List.listSameRef,hSr]
 have n1:(Value.type "list_reverseiterator"==Value.type "list")=false:=by decide +kernel
 have n2:(Value.type "list_reverseiterator"==Value.type "tuple")=false:=by decide +kernel
 simp only [h1,n1,n2,Bool.or_false,Ny,if_false];refine Zi<|wpAny_pyIter_revIter hit ?_
 refine Zi<|Im<|abu hit.typeIs ?_
 refine S7 (fun _=>?_)<|fun _=>BP ⟨Ob PySem.F.plain_extend_loop _,key _ c₀ _ st (fun b o _ e=>e) hS⟩
 refine Zi<|LR ?_
 refine Zi ?_;show Al _ _ (updateSeq S (·.push .none) >>= fun _=>updateSeq S (·.pop)) _ _ _;refine Zi<|wpAny_updateSeq hS rfl ?_
 have hS₂:=PN (Obj.mapSeq (·.push Value.none)) hS rfl;refine wpAny_updateSeq (hz:=by seq_fits) hS₂ rfl ?_;have hS₃:=PN (Obj.mapSeq (·.pop)) hS₂ rfl;refine BP ⟨Ob PySem.F.plain_extend_loop _,key _ _ _ ?_ (fun b o hb e=>?_) hS₃⟩
 ·refine W.frame 0 _ _ st fun b hb o e=>?_;have hbS:b≠S:=fun h=>hSf (h ▸ hb)
  exact (Ln _ _<|Hf hbS).trans ((Ln _ _<|Hf hbS).trans e)
 ·exact (Ln _ _<|Hf hb).trans ((Ln _ _<|Hf hb).trans e)
end
theorem zaV:∀ {xs:List V} {us:List Yk},Az xs us->Az xs.reverse us.reverse:=by
 intro xs us r;induction r with
 | nil=>exact .nil
 | cons h t ih=>
  rw [Sv,Sv];exact Az.append ih<|.cons h .nil
theorem zP {K:Ar}{H:Hp}{μ : Mu}:∀ {ws:List W} {vs:List V},aO K H μ ws vs->aO K H μ ws.reverse vs.reverse
 | [],vs,r=>by rw [aO] at r;subst r;exact aO.nil
 | w::ws,vs,r=>by
  rw [aO] at r;obtain ⟨v,vs',e,rv,r⟩:=r;subst e;rw [Sv,Sv];exact aO.append (zP r)<|aO.cons rv aO.nil
section
variable {X:Cx}
end
section
variable {X:Cx}{e:Expr}{me:ME}{x:Str}{a:Addr}{p pos:Pos}
end
section
variable {X:Cx}{C:Addr}{o e:Expr}{es:List Expr}{pos apos:Pos}
end
def wH (kvs:List (List Int×W))(k:List Int):Option W:=(kvs.find? fun x=>decide (x.1=k)).map (·.2)
def Qq (kvs:List (List Int×W))(k:List Int)(w:W):List (List Int×W):=if (wH kvs k).isSome then kvs.map (fun x=>if x.1=k then (x.1,w) else x) else kvs++[(k,w)]
section
variable {X:Cx}{afG:List (Addr×Obj)}{Z : St}{H:Hp}{s:ZG}{K:Ar}
def GX (K:Ar)(H:Hp)(xs:List (List Int×Addr×Yk)):Prop:=∀ x∈xs,Ed K H x.2.1 (x.1.map V.int)
theorem vd {b:Addr}{k:List Int}(I:AP X afG Z H s)(hb:Ed X.K H b (k.map V.int)):(tupleKind (intKind X.prog X.w)).is s.heap k b:=by
 obtain ⟨its2,r2,⟨o,ho,hcl,n,hd⟩,_⟩:=I.tuple hb;exact ⟨o,_,_,ho,hcl,hd,zF r2⟩
theorem wz {a:Addr}{xs:List (List Int×Addr×Yk)}(I:AP X afG Z H s)(e:H a=Mk (.ext (w6 a xs)))(hk:GX X.K H xs):xs.length<=CR/\(a==LQ)=false/\s.heap.DictOfH (tupleKind (intKind X.prog X.w)) a xs:=by
 obtain ⟨⟨z,y,nd,o,es,ep,h1,h2,h3,h4⟩,_⟩:=I.hok a _ e;exact ⟨z,y,o,es,ep,h1,h2,h3,h4,fun x hx=>vd I<|hk x hx,nd⟩
theorem wQ {P:Bs}{w:Bh}{H':Hp}{a:Addr}{xs:List (List Int×Addr×Yk)}{h:Heap}(z:xs.length<=CR)(y:(a==LQ)=false)(d:h.DictOfH (tupleKind (intKind P w)) a xs):dX P w H' h a (.ext (w6 a xs)):=by
 obtain ⟨o,es,ep,h1,h2,h3,h4,_,h5⟩:=d;exact ⟨⟨z,y,h5,o,es,ep,h1,h2,h3,h4⟩,⟨o,h1⟩,fun g1 g2 ⟨z,y,nd,o,es,ep,a1,a2,a3,a4⟩ k=>⟨z,y,nd,o,es,ep,k o a1,a2,a3,a4⟩⟩
theorem adK {x:List Int×Addr×Yk}{xs:List (List Int×Addr×Yk)}{k:List Int}:atKey (x::xs) k=if x.1=k then Mk x.2 else atKey xs k:=by
 unfold atKey;rw [M7];by_cases e:x.1=k
 ·rw [if_pos e];simp [e]
 ·rw [if_neg e];simp [e]
theorem yx {x:List Int×W}{kvs:List (List Int×W)}{k:List Int}:wH (x::kvs) k=if x.1=k then Mk x.2 else wH kvs k:=by
 unfold wH;rw [M7];by_cases e:x.1=k
 ·rw [if_pos e];simp [e]
 ·rw [if_neg e];simp [e]
theorem rR:∀ {kvs:List (List Int×W)} {xs:List (List Int×Addr×Yk)} {vs:List V},kvs.map (·.1)=xs.map (·.1)->Az vs (xs.map (·.2.2))->aO K H μ (kvs.map (·.2)) vs->∀ k:List Int,
  (∀ w,wH kvs k=Mk w->∃ p v,atKey xs k=Mk p/\RelV v p.2/\kI K H μ w v)/\(wH kvs k).isSome=(atKey xs k).isSome
 | [],[],_,_,_,_,k=>⟨fun w e=>by simp [wH] at e,rfl⟩
 | [],_::_,_,e,_,_,_=>by simp at e
 | _::_,[],_,e,_,_,_=>by simp at e
 | x::kvs,y::xs,vs,e,hv,hr,k=>by
  rw [Bf,Bf] at e;obtain ⟨e1,e2⟩:=Lb e;rw [Bf,aO] at hr;obtain ⟨v,vs',rfl,r1,r2⟩:=hr;rw [Bf] at hv;cases hv with
  | cons a b=>
   obtain ⟨i1,i2⟩:=rR e2 b r2 k;rw [yx,adK,e1];by_cases z:y.1=k
   ·rw [if_pos z,if_pos z];exact ⟨fun w ew=>by cases ew;exact ⟨_,v,rfl,a,r1⟩,rfl⟩
   ·rw [if_neg z,if_neg z];exact ⟨i1,i2⟩
theorem Bq.dttAt {h:Gh}{n:Nat}{kvs:List (List Int×W)}(R:Bq K μ H h)(e:h.c n=Mk (.dtt kvs)):∃ p xs vs,μ.f n=Mk p/\H p=Mk (.ext (w6 p xs))/\kvs.map (·.1)=xs.map (·.1)/\Az vs (xs.map (·.2.2))/\aO K H μ (kvs.map fun x=>W.tup (x.1.map W.int)) (xs.map fun x=>V.ref x.2.1)/\aO K H μ (kvs.map (·.2)) vs:=by
 obtain ⟨p,e1,xs,vs,a,b,c,d,f⟩:=R.cel n _ e;exact ⟨p,xs,vs,e1,a,b,c,d,f⟩
theorem yQ:∀ {k:List Int} {vs:List V},aO K H μ (k.map W.int) vs->vs=k.map V.int
 | [],_,h=>by rw [Hq,aO] at h;exact h
 | i::k,_,h=>by
  rw [Bf,aO] at h;obtain ⟨v,vs,rfl,r,t⟩:=h;rw [kI] at r;rw [r,yQ t];rfl
theorem abF {k:List Int}{b:Addr}(r:kI K H μ (.tup (k.map .int)) (.ref b)):Ed K H b (k.map V.int):=by
 rw [kI] at r;obtain ⟨p,xs,e,hs,hr⟩:=r;cases e;rw [yQ hr] at hs;exact hs
theorem jg:∀ {kvs:List (List Int×W)} {xs:List (List Int×Addr×Yk)},kvs.map (·.1)=xs.map (·.1)->aO K H μ (kvs.map fun x=>W.tup (x.1.map W.int)) (xs.map fun x=>V.ref x.2.1)->GX K H xs
 | [],[],_,_=>fun x hx=>nomatch hx
 | [],_::_,e,_=>by simp at e
 | _::_,[],e,_=>by simp at e
 | x::kvs,y::xs,e,hr=>by
  rw [Bf,Bf] at e;obtain ⟨e1,e2⟩:=Lb e;rw [Bf,Bf,aO] at hr;obtain ⟨v,vs',ev,r1,r2⟩:=hr;obtain ⟨rfl,rfl⟩:=Lb ev;intro z hz;rcases El.mp hz with rfl | hz
  ·rw [e1] at r1;exact abF r1
  ·exact jg e2 r2 z hz
end
section
variable {X:Cx}{a b o i:Expr}{td ty:TE}{pos:Pos}
def Ke:W->Option (List Int)
 | .tup ws=>tB ws
 | _=>YK
def Ji:M2:=fun x y h Q=>match x,Ke y with
 | .loc n,Mk k=>(match h.c n with
  | some (.dtt kvs)=>(match wH kvs k with
   | some w=>Q w h
   | none=>False)
  | _=>False)
 | _,_=>False
theorem abl (hu:X.A.units+30<HF)(ho:PE X o td)(hi:PE X i ty)(hs:SQ i):PE X (.Subscript o i pos) (fun Z H Q=>td Z H fun x H1=>ty Z H1 fun y H2=>∃ a xs k b p v,x=.ref a/\H2 a=Mk (.ext (w6 a xs))/\GX X.K H2 xs/\y=.ref b/\Ed X.K H2 b (k.map V.int)/\atKey xs k=Mk p/\RelV v p.2/\Q v H2):=by
 intro afG s Z H Q I h;refine Gs PySem.F.slot_dict_getitem.lookup hs<|CV (ho afG s Z H _ I h) fun u s1 ⟨x,H1,I1,rx,q1⟩=>CV (hi afG s1 Z H1 _ I1 q1) fun iv s2 ⟨y,H2,I2,ry,a,xs,k,b,p,v,ex,e,hk,ey,hb,l,rv,q2⟩=>?_
 subst ex ey;obtain rfl:u=Value.ref a:=rx;obtain rfl:iv=Value.ref b:=ry;obtain ⟨z,hd,dd⟩:=wz I2 e hk;exact ⟨dd.typeIs,wpAny_getItem_heap (tupleKind_room_in1<|by lia) (vd I2 hb) dd l ⟨v,H2,I2.tok _,rv,q2⟩⟩
theorem nG {K:Ar}{H:Hp}{y:W}{v:V}{k:List Int}(r:kI K H μ y v)(e:Ke y=Mk k):∃ b,v=.ref b/\Ed K H b (k.map V.int):=by
 unfold Ke at e;split at e
 ·rw [kI] at r;obtain ⟨p,xs,e1,hs,hr⟩:=r;rw [yV hr e] at hs;exact ⟨p,e1,hs⟩
 ·cases e
theorem T5 (hu:X.A.units+30<HF)(ha:DE X a ma)(hb:DE X b mb)(hs:SQ b):DE X (.Subscript a b pos) (BJ Ji ma mb):=(abl hu ha hb hs).of fun Z H Q h=>two h fun {H2 μ2 h2 x y wx wy Qw} R r1 r2 m k=>by
 unfold Ji at m;split at m
 ·rename_i n kk e;split at m
  ·rename_i kvs ec;split at m
   ·rename_i w ev;obtain ⟨p,xs,vs,hp,hx,e1,e2,r3,r4⟩:=R.dttAt ec;rw [kI] at r1;obtain ⟨p',ex,hp'⟩:=r1;have ep:p'=p:=by rw [hp] at hp';exact (Eb hp').symm
    subst ep;obtain ⟨b',eb,hb'⟩:=nG r2 e;obtain ⟨q,v,h3,h4,h5⟩:=(rR e1 e2 r4 kk).1 w ev;exact ⟨p',xs,kk,b',q,v,ex,hx,jg e1 r3,eb,hb',h3,h4,k _ _ ⟨μ2,w,h2,.refl,R,h5,m⟩⟩
   ·exact m.elim
  ·exact m.elim
 ·exact m.elim
theorem uP {k:List Int}{v:Yk}:∀ {xs:List (List Int×Addr×Yk)},(xs.map (putAt k v)).map (·.1)=xs.map (·.1)
 | []=>rfl
 | x::xs=>by
  rw [Bf,Bf,Bf,uP];congr 1
  unfold putAt;by_cases e:x.1=k
  ·rw [if_pos e]
  ·rw [if_neg e]
theorem vC {k:List Int}{v:Yk}:∀ {xs:List (List Int×Addr×Yk)},(xs.map (putAt k v)).map (fun x=>V.ref x.2.1)=xs.map (fun x=>V.ref x.2.1)
 | []=>rfl
 | x::xs=>by
  rw [Bf,Bf,Bf,vC];congr 1
  unfold putAt;by_cases e:x.1=k
  ·rw [if_pos e]
  ·rw [if_neg e]
def UG (K:Ar):Om:=fun o i v H N=>∃ a xs k b,o=.ref a/\H a=Mk (.ext (w6 a xs))/\GX K H xs/\i=.ref b/\Ed K H b (k.map V.int)/\xs.length<CR/\∀ u,RelV v u->N (CJ H a (.ext (w6 a (storedH xs k b u))))
theorem aal {xs:List (List Int×Addr×Yk)}{k:List Int}{b:Addr}{u:Yk}:(storedH xs k b u).length<=xs.length+1:=by
 unfold storedH;split
 ·rw [Cm];lia
 ·rw [HB];exact Bp _
theorem iH (hu:X.A.units+30<HF):VL X (UG X.K):=by
 intro afG s Z H o i v ov iv u Q I ro ri rv ⟨a,xs,k,b,eo,e,hk,ei,hb,l,q⟩;subst eo ei;obtain rfl:ov=Value.ref a:=ro;obtain rfl:iv=Value.ref b:=ri;obtain ⟨z,hd,dd⟩:=wz I e hk;refine wpAny_setItem_heap (hsz:=z) (tupleKind_room_in1<|by lia) (vd I hb) dd fun h' dd' hs=>⟨_,?_,q u rv⟩;have he:∃ q,h'.get? a=Mk q:=let ⟨q,_,_,hq,_⟩:=dd';⟨q,hq⟩
 exact xH I (by rw [e];exact True.intro) hs he<|wQ (by have:=aal (xs:=xs) (k:=k) (b:=b) (u:=u);lia) hd dd'
def Bt:ME:=fun _ h Q=>Q (.loc h.nx) (h.new (.dtt []))
theorem aaD:PE X (.Dict [] [] pos) (fun _ H Q=>∀ p,H p=YK->Q (.ref p) (CJ H p (.ext (w6 p [])))):=fun afG s Z H Q I h=>
 wpAny_Dict_empty ⟨.ref s.heap.objs.size,_,I.laid (a:=s.heap.objs.size) (o:=.ext (w6 s.heap.objs.size [])) (t':=s.toks) (fun _ _ q=>CT _ q) (Bp _) (by
  obtain ⟨_,y,_⟩:=uw (P:=X.prog) (w:=X.w) (H:=H) s.heap I.big;exact wQ (P:=X.prog) (w:=X.w) (IK _) y ⟨_,#[],0,Ej _ rfl,⟨rfl,rfl,rfl⟩,rfl,rfl,(fun x hx=>absurd hx Ja),Pr⟩),rfl,h _ (I.hok.fresh (Bp _))⟩
theorem mH:DE X (.Dict [] [] pos) Bt:=aaD.of fun Z H Q ⟨μ,g,Zw,Qw,R,S,m,q⟩ p hp=>by
 have R1:Bq X.K (μ.put g.nx p) (CJ H p (.ext (w6 p []))) (g.new (.dtt [])):=R.newCell hp trivial ⟨[],[],bf,rfl,.nil,by rw [Hq,Hq,aO],by rw [Hq,aO]⟩;exact q _ _ ⟨_,.loc g.nx,_,(Ex.newCell R hp).ext,R1,by rw [kI];exact ⟨p,rfl,Mu.put_same⟩,m⟩
def oh:Pk:=fun o i w h N=>match o,Ke i with
 | .loc n,Mk k=>(match h.c n with
  | some (.dtt kvs)=>gK (kvs.length+1) (N (h.set n (.dtt (Qq kvs k w))))
  | _=>False)
 | _,_=>False
theorem Eh {K:Ar}{H:Hp}{μ : Mu}{k:List Int}{w:W}{v:V}{u:Yk}(rv:RelV v u)(r:kI K H μ w v):∀ {kvs:List (List Int×W)} {xs:List (List Int×Addr×Yk)} {vs:List V},kvs.map (·.1)=xs.map (·.1)->Az vs (xs.map (·.2.2))->aO K H μ (kvs.map (·.2)) vs ->
  ∃ vs',Az vs' ((xs.map (putAt k u)).map (·.2.2))/\aO K H μ ((kvs.map (fun x=>if x.1=k then (x.1,w) else x)).map (·.2)) vs'
 | [],[],_,_,_,_=>⟨[],.nil,by rw [Hq,Hq,aO]⟩
 | [],_::_,_,e,_,_=>by simp at e
 | _::_,[],_,e,_,_=>by simp at e
 | x::kvs,y::xs,vs,e,hv,hr=>by
  rw [Bf,Bf] at e;obtain ⟨e1,e2⟩:=Lb e;rw [Bf,aO] at hr;obtain ⟨v1,vs',rfl,r1,r2⟩:=hr;rw [Bf] at hv;cases hv with
  | cons a b=>
   obtain ⟨vs2,i1,i2⟩:=Eh rv r e2 b r2;by_cases z:y.1=k
   ·refine ⟨v::vs2,?_,?_⟩
    ·rw [Bf,Bf];refine .cons ?_ i1;unfold putAt;rw [if_pos z];exact rv
    ·rw [Bf,Bf,aO];refine ⟨v,vs2,rfl,?_,i2⟩;rw [if_pos (e1.trans z)];exact r
   ·refine ⟨v1::vs2,?_,?_⟩
    ·rw [Bf,Bf];refine .cons ?_ i1;unfold putAt;rw [if_neg z];exact a
    ·rw [Bf,Bf,aO];refine ⟨v1,vs2,rfl,?_,i2⟩;rw [if_neg (fun q=>z (e1.symm.trans q))];exact r1
theorem Fq {k:List Int}{w:W}:∀ {kvs:List (List Int×W)},(kvs.map (fun x=>if x.1=k then (x.1,w) else x)).map (·.1)=kvs.map (·.1)
 | []=>rfl
 | x::kvs=>by
  rw [Bf,Bf,Bf,Fq];congr 1
  by_cases e:x.1=k
  ·rw [if_pos e]
  ·rw [if_neg e]
theorem Fp {k:List Int}{w:W}:∀ {kvs:List (List Int×W)},(kvs.map (fun x=>if x.1=k then (x.1,w) else x)).map (fun x=>W.tup (x.1.map W.int))=kvs.map (fun x=>W.tup (x.1.map W.int))
 | []=>rfl
 | x::kvs=>by
  rw [Bf,Bf,Bf,Fp];congr 1
  by_cases e:x.1=k
  ·rw [if_pos e]
  ·rw [if_neg e]
theorem aO.snoc {K:Ar}{H:Hp}{μ : Mu}{w:W}{v:V}(r:kI K H μ w v):∀ {ws:List W} {vs:List V},aO K H μ ws vs->aO K H μ (ws++[w]) (vs++[v])
 | [],_,h=>by
  rw [aO] at h;rw [h,Rn,Rn,aO];exact ⟨v,[],rfl,r,by rw [aO]⟩
 | a::ws,_,h=>by
  rw [aO] at h;obtain ⟨b,bs,rfl,h1,h2⟩:=h;rw [QT,QT,aO];exact ⟨b,bs++[v],rfl,h1,aO.snoc r h2⟩
theorem uy {K:Ar}{H:Hp}{μ : Mu}:∀ k:List Int,aO K H μ (k.map W.int) (k.map V.int)
 | []=>by rw [Hq,Hq,aO]
 | i::k=>by
  rw [Bf,Bf,aO];exact ⟨_,_,rfl,by rw [kI],uy k⟩
theorem jZ {K:Ar}:Gp K (UG K) oh:=by
 intro H μ h o i v wo wi w Nw N R ro ri r m k;unfold oh at m;split at m
 ·rename_i n kk e;split at m
  ·rename_i kvs ec;obtain ⟨p,xs,vs,hp,hx,e1,e2,r3,r4⟩:=R.dttAt ec;rw [kI] at ro;obtain ⟨p',ex,hp'⟩:=ro;have ep:p'=p:=by rw [hp] at hp';exact (Eb hp').symm
   subst ep;obtain ⟨b,eb,hb⟩:=nG ri e;have afI:kvs.length=xs.length:=by have:=congrArg Rg e1;rwa [Cm,Cm] at this
   have we:=fun (o:HO)=>(Ex.write (o:=o) R hp).ext
   have rk:kI K H μ (.tup (kk.map W.int)) (.ref b):=by rw [kI];exact ⟨b,_,rfl,hb,uy kk⟩
   refine ⟨p',xs,kk,b,ex,hx,jg e1 r3,eb,hb,by have:=m.ok.1;lia,fun u ru=>k _ ⟨μ,_,we _,R.write (c:=.dtt (Qq kvs kk w)) hp trivial ?_,m.ok.2⟩⟩;have hs:=(rR e1 e2 r4 kk).2;cases ea:atKey xs kk with
   | some q=>
    rw [ea] at hs;obtain ⟨vs',i1,i2⟩:=Eh (k:=kk) ru r e1 e2 r4;rw [storedH_old ea];unfold Qq;rw [if_pos (show (wH kvs kk).isSome=true from hs)];exact ⟨_,vs',bf,Fq.trans<|e1.trans uP.symm,i1,by rw [Fp,vC];exact (we _).s r3,(we _).s i2⟩
   | none=>
    rw [ea] at hs;rw [storedH_new ea];unfold Qq;rw [if_neg (show ¬ (wH kvs kk).isSome=true from by rw [hs];decide)];refine ⟨_,vs++[v],bf,?_,?_,?_,?_⟩
    ·rw [Em,Em,e1];rfl
    ·rw [Em];exact Az.append e2 (.cons ru .nil)
    ·rw [Em,Em];exact (we _).s (aO.snoc rk r3)
    ·rw [Em];exact (we _).s (aO.snoc r r4)
  ·exact m.elim
 ·exact m.elim
end
section
variable {prog:Bs}{w:Bh}{A:Bx}{E:Yk->ZG->Prop}{s:ZG}
end
section
variable {X:Cx}
end
def ps (h:Int):Nat->Nat×Nat
 | 0=>(Qo h % 32,Qo h)
 | n+1=>SetTable.leap 31 (ps h n).1 (ps h n).2
def liv (o:Array (Option Nat)):List (Nat×Nat):=(Hz 32).filterMap fun j=>(o.getD j YK).map (j,·)
structure Lay (o:Array (Option Nat)) (k:Nat):Prop where
 sz:o.size=32
 len:(liv o).length=k
 low:∀ p,p∈liv o->p.2<k
section
variable {prog:Bs}{w:Bh}{A:Bx}{E:Yk->ZG->Prop}{s:ZG}{a:Addr}
end
section
variable {prog:Bs}{w:Bh}{A:Bx}{E:Yk->ZG->Prop}{s:ZG}{t:Tp}{a b:Addr}{k:List Int}
end
section
variable {prog:Bs}{w:Bh}{A:Bx}{E:Yk->ZG->Prop}
end
section
variable {prog:Bs}{w:Bh}{A:Bx}{E:Yk->ZG->Prop}{s:ZG}
end
section
variable {X:Cx}{K:Ar}
end
section
variable {X:Cx}{K:Ar}{o e:Expr}{apos afJ:Pos}
end
section
variable {prog:Bs}{w:Bh}{A:Bx}{s:ZG}{K:Ar}{x C:Addr}
end
section
variable {prog:Bs}{w:Bh}{A:Bx}{E:Yk->ZG->Prop}{s:ZG}{K:Ar}{x dx C f:Addr}{mA:Str->Option Yk}{name:Str}{v:Yk}
end
section
variable {prog:Bs}{w:Bh}{A:Bx}{E:Yk->ZG->Prop}{s:ZG}{K:Ar}{x D:Addr}{ox:Obj}
end
section
variable {prog:Bs}{w:Bh}{A:Bx}{E:Yk->ZG->Prop}{h:Heap}{g:Array GenState}{d:Drawn}{t:Nat}{os:OsState}
variable {nm q:Str}{C N:Addr}{bs bmB:List Yk}{hdct:Bool}{sn:List Str}{sub:List Yk}{ab:Bool}{col:Option Bool}{dd:Option Addr}{k0 k1 k2 k3 k5:Option Yk}{B initId:String}{K:Ar}{f:Addr}
end
variable {sn : List Str}{sub : List Yk}{dd : Option Addr}{col : Option Bool}
section
variable {prog:Bs}{w:Bh}{M:Model}{A:Bx}{E:Yk->ZG->Prop}{s:ZG}{K:Ar}{f:Addr}
variable {nm q:Str}{C N:Addr}{bs bmB:List Yk}{hdct:Bool}{ab:Bool}{k0 k1 k2 k3 k5:Option Yk}{B initId:String}
end
section
variable {X:Cx}{o value:Expr}{f:Str}{C:Addr}{pos pos':Pos}{ta tv:TE}
end
section
variable {X:Cx}{afG:List (Addr×Obj)}{Z : St}{H:Hp}{s:ZG}{e:Addr}
end
section
variable {X:Cx}{afG:List (Addr×Obj)}{Z : St}{H:Hp}{s:ZG}{C fi:Addr}{x f:Str}{np afJ pos:Pos}{e:Expr}{t:TA}{k:Nat}{fd:Ei}{ps:List Str}
end
section
variable {X:Cx}{e:Expr}{pos:Pos}
end
section
variable {X:Cx}{e:Expr}{f:Str}{pos:Pos}
end
section
variable {X:Cx}
end
section
variable {X:Cx}{tg:Expr}
end
section
variable {X:Cx}{K:Ar}
end
section
variable {X:Cx}{pos p:Pos}{e:Expr}{es:List Expr}{k:Nat}{fs:List (Addr×Bd)}
inductive VFs (X:Cx) (k:Nat):List (Addr×Bd)->Prop
 | nil:VFs X k []
 | cons {f:Addr} {fd:Ei} {ps:List Str} {ms:Bd} {fs:List (Addr×Bd)} (F:eU X.prog X.w X.K X.mg X.base GZ k f fd ps (lift X.K ms)) (hk:QL X.K (.ref f)=true) (hb:Binds X.K fd ps []) (r:VFs X k fs):VFs X k ((f,ms)::fs)
end
def Jf (P:Bs)(w:Bh)(A:Bx)(s:ZG)(kd:QW)(rk:Yk->Nat)(good:Yk->Prop):Prop:=
 ∀ (E:Yk->ZG->Prop) (Q:Bool->ZG->Prop) (x y:Yk),good x->good y->Q (decide (rk x<rk y)) s->Al (Am P w) A (keyLt' kd x y) Q E s
section
variable {P:Bs}{w:Bh}{A:Bx}{E:Yk->ZG->Prop}{s:ZG}{kd:QW}{rk:Yk->Nat}{good:Yk->Prop}
def Rk (rk:Yk->Nat)(a:Array BW)(i:Nat):Nat:=match a[i]? with
 | some p=>rk p.1
 | none=>0
def bG (rk:Yk->Nat)(a:Array BW)(i j:Nat):Prop:=∀ p q,i<=p->p<q->q<j->Rk rk a p<Rk rk a q
structure Keys (rk:Yk->Nat) (good:Yk->Prop) (a:Array BW):Prop where
 good:∀ p∈a.toList,good p.1
 nd:(a.toList.map fun p=>rk p.1).Nodup
theorem yd {a b:Array BW}{i j:Nat}(h:a[i]?=b[j]?):Rk rk a i=Rk rk b j:=by unfold Rk;rw [h]
theorem Keys.perm {a b:Array BW}(h:Keys rk good a)(p:b.Perm a):Keys rk good b:=by
 have pl:=Array.perm_iff_toList_perm.mp p;exact ⟨fun x hx=>h.good x<|pl.mem_iff.mp hx,(pl.map _).nodup_iff.mpr h.nd⟩
theorem Keys.ne {a:Array BW}(h:Keys rk good a){i j:Nat}(hi:i<a.size)(hj:j<a.size)(e:Rk rk a i=Rk rk a j):i=j:=by
 have e1:∀ k (hk:k<a.size),Rk rk a k=rk (a.toList[k]'(by simpa using hk)).1:=fun k hk=>by
  unfold Rk;rw [Qh hk];rfl
 rw [e1 i hi,e1 j hj] at e;refine (List.getElem_inj h.nd).mp (?_:(a.toList.map fun p=>rk p.1)[i]'(by simpa using hi)=(a.toList.map fun p=>rk p.1)[j]'(by simpa using hj))
 simpa using e
structure Jt (kd:QW) (rk:Yk->Nat) (good:Yk->Prop) (st:Bw):Prop where
 kind:HY st=kd
 failed:failedOf st=YK
 keys:Keys rk good (BR st)
theorem Jt.arr {st:Bw}(h:Jt kd rk good st){b:Array BW}(p:b.Perm (BR st)):Jt kd rk good (Ht st b):=⟨h.kind,h.failed,h.keys.perm p⟩
theorem cu {a:Array BW}{i:Nat}{st:Bw}{Q:BW->Bw->Prop}(hi:i<a.size)(q:Q a[i] st):wpS (Am P w) A E s (elem' a i) Q st:=by
 rw [elem'_eq,Qh hi];exact Bj q
theorem w_lt (C:Jf P w A s kd rk good){x y:BW}{st:Bw}{Q:Option Bool->Bw->Prop}(hk:HY st=kd)(hx:good x.1)(hy:good y.1)(q:Q (Mk (decide (rk x.1<rk y.1))) st):wpS (Am P w) A E s (lt' x y) Q st:=by
 rw [lt'_eq];refine Bm<|Nj ?_
 rw [hk];exact Bm<|wpS_lift<|QG<|C _ _ _ _ hx hy ⟨rfl,Bj q⟩
theorem fG {a:Array BW}{i:Nat}(hi:i<a.size):Rk rk a i=rk a[i].1:=by
 unfold Rk;rw [Qh hi]
theorem qM (C:Jf P w A s kd rk good){i j:Nat}{st:Bw}{Q:Option Bool->Bw->Prop}(ok:Jt kd rk good st)(hi:i<(BR st).size)(hj:j<(BR st).size)(q:Q (Mk (decide (Rk rk (BR st) i<Rk rk (BR st) j))) st):wpS (Am P w) A E s (ltAt' i j) Q st:=by
 rw [ltAt'_eq];refine Bm<|Nj<|Bm<|cu hi<|Bm<|cu hj<|w_lt C ok.kind ?_ ?_ ?_
 ·exact ok.keys.good _<|by simp
 ·exact ok.keys.good _<|by simp
 ·rw [<-fG (rk:=rk) hi,<-fG (rk:=rk) hj];exact q
structure Within (a b:Array BW) (lo hi:Nat):Prop where
 perm:b.Perm a
 out:∀ k,k<lo\/hi<=k->b[k]?=a[k]?
theorem Within.size {a b:Array BW}{lo hi:Nat}(h:Within a b lo hi):b.size=a.size:=h.perm.size_eq
theorem Within.refl (a:Array BW)(lo hi:Nat):Within a a lo hi:=⟨Array.Perm.refl _,fun _ _=>rfl⟩
theorem Within.trans {a b c:Array BW}{lo hi:Nat}(h:Within a b lo hi)(g:Within b c lo hi):Within a c lo hi:=⟨g.perm.trans h.perm,fun k hk=>(g.out k hk).trans (h.out k hk)⟩
theorem Within.wide {a b:Array BW}{lo hi lo' hi':Nat}(h:Within a b lo hi)(h1:lo'<=lo)(h2:hi<=hi'):Within a b lo' hi':=⟨h.perm,fun k hk=>h.out k (by lia)⟩
theorem ju (st:Bw):Ht st (BR st)=st:=by cases st;rfl
theorem n6 {a:Array BW}{lo n:Nat}(h:bG rk a lo (lo+n))(h1:1<=n)(g:Rk rk a (lo+n - 1)<Rk rk a (lo+n)):bG rk a lo (lo+n+1):=fun p q h2 h3 h4=>by
 by_cases c:q<lo+n
 ·exact h p q h2 h3 c
 ·have e:q=lo+n:=by lia
  subst e;by_cases c2:p=lo+n - 1
  ·rw [c2];exact g
  ·exact Nat.lt_trans (h p (lo+n - 1) h2 (by lia)<|by lia) g
theorem w_count (C:Jf P w A s kd rk good){lo nrem:Nat}{st:Bw}{Q:Option Nat->Bw->Prop}(ok:Jt kd rk good st)(h1:1<=nrem)(hz:lo+nrem<=(BR st).size)
  (q:∀ (n:Nat) (b:Array BW),1<=n->n<=nrem->Within (BR st) b lo (lo+nrem)->bG rk b lo (lo+n)->(bG rk (BR st) lo (lo+nrem)->n=nrem/\b=BR st)->Q (Mk n) (Ht st b)) :
  wpS (Am P w) A E s (countRun' lo nrem) Q st:=by
 rw [countRun'_eq];have ne:∀ {i j:Nat},i<(BR st).size->j<(BR st).size->i≠j->Rk rk (BR st) i≠Rk rk (BR st) j:=fun hi hj c e=>c (ok.keys.ne hi hj e)
 refine Bm (LC (Lj
  (I:=fun x c st'=>st'=st/\c=(YK,x)/\bG rk (BR st) lo (lo+x)/\x<=nrem)
  (Q:=fun c st'=>st'=st/\∃ n,c=(YK,n)/\1<=n/\n<=nrem/\bG rk (BR st) lo (lo+n)/\(n=nrem\/Rk rk (BR st) (lo+n)<Rk rk (BR st) (lo+n - 1))) ?_ ?_ ⟨rfl,rfl,fun p q a b c=>by lia,h1⟩) ?_)
 ·rintro x c st' hx1 hx2 ⟨rfl,rfl,hr,_⟩;dsimp only;refine Bm<|qM C ok (by lia) (by lia) ?_
  by_cases c:Rk rk (BR st') (lo+x)<Rk rk (BR st') (lo+x - 1)
  ·rw [decide_eq_true c];exact Bj ⟨rfl,x,rfl,hx1,by lia,hr,.inr c⟩
  ·rw [decide_eq_false c];have:=ne (i:=lo+x) (j:=lo+x - 1) (by lia) (by lia) (by lia)
   exact Bj ⟨rfl,rfl,n6 hr hx1<|by lia,by lia⟩
 ·rintro c st' ⟨rfl,rfl,hr,hx⟩;have e:max 1 nrem=nrem:=by lia
  rw [e] at hr |-
  exact ⟨rfl,nrem,rfl,h1,Bp _,hr,.inl rfl⟩
 ·rintro c st' ⟨rfl,n,rfl,n1,n2,hr,hd⟩;dsimp only;by_cases en:n=nrem
  ·subst en;simp only [beq_self_eq_true,if_true];have:=q n (BR st') n1 (Bp _) (.refl _ _ _) hr fun _=>⟨rfl,rfl⟩
   rw [ju] at this;exact Bj this
  ·have hd:=hd.resolve_left en;have not:¬ bG rk (BR st') lo (lo+nrem):=fun r=>by
    have:=r (lo+n - 1) (lo+n) (by lia) (by lia) (by lia)
    lia
   rw [if_neg (by simpa using en)];by_cases c1:n>1
   ·rw [if_pos c1];have hrise:=hr lo (lo+n - 1) (Bp _) (by lia) (by lia);refine Bm<|qM C ok (by lia) (by lia) ?_
    rw [decide_eq_true hrise];have:=q n (BR st') n1 n2 (.refl _ _ _) hr fun r=>absurd r not
    rw [ju] at this;exact Bj this
   ·rw [if_neg c1];have e1:n=1:=by lia
    subst e1;refine Bm<|wpS_lift<|LR ⟨rfl,?_⟩
    refine Bm (LC (Lj
     (I:=fun x c st2=>st2=st'/\c=(YK,x,0)/\(∀ u v,lo<=u->u<v->v<lo+x->Rk rk (BR st') v<Rk rk (BR st') u)/\x<=nrem)
     (Q:=fun c st2=>st2=st'/\∃ m,c=(YK,m,0)/\2<=m/\m<=nrem/\∀ u v,lo<=u->u<v->v<lo+m->Rk rk (BR st') v<Rk rk (BR st') u) ?_ ?_ ⟨rfl,rfl,fun u v h2 h3 h4=>?_,by lia⟩) ?_)
    ·rintro x c st2 hx1 hx2 ⟨rfl,rfl,hf,_⟩;dsimp only;refine Bm<|qM C ok (by lia) (by lia) ?_
     by_cases c:Rk rk (BR st2) (lo+x)<Rk rk (BR st2) (lo+x - 1)
     ·rw [decide_eq_true c];refine Bj ⟨rfl,rfl,fun u v h2 h3 h4=>?_,by lia⟩;by_cases c2:v<lo+x
      ·exact hf u v h2 h3 c2
      ·have ev:v=lo+x:=by lia
       subst ev;by_cases c3:u=lo+x - 1
       ·rw [c3];exact c
       ·exact Nat.lt_trans c<|hf u (lo+x - 1) h2 (by lia)<|by lia
     ·rw [decide_eq_false c];have:=ne (i:=lo+x) (j:=lo+x - 1) (by lia) (by lia) (by lia)
      refine Bm<|qM C ok (by lia) (by lia) ?_
      rw [decide_eq_true (show Rk rk (BR st2) (lo+x - 1)<Rk rk (BR st2) (lo+x) by lia)];exact Bj ⟨rfl,x,rfl,by lia,by lia,hf⟩
    ·rintro c st2 ⟨rfl,rfl,hf,hx⟩;have e:max (1+1) nrem=nrem:=by lia
     rw [e] at hf |-
     exact ⟨rfl,nrem,rfl,by lia,Bp _,hf⟩
    ·have eu:u=lo+1 - 1:=by lia
     have ev:v=lo+1:=by lia
     rw [eu,ev];exact hd
    ·rintro c st2 ⟨rfl,m,rfl,m1,m2,hf⟩;dsimp only;rw [if_neg (M4 0)];refine Bm<|wpS_reverse ?_
     have hb:∀ k,Rk rk (mirror (BR st2) lo (lo+m) ((lo+m - lo) / 2)) k=if lo<=k/\k<lo+m then Rk rk (BR st2) (lo+(lo+m) - 1 - k) else Rk rk (BR st2) k:=fun k=>by
      have e:=getElem?_mirror_all (xs:=BR st2) (i:=lo) (j:=lo+m) (by lia) k;split
      ·rename_i c;rw [if_pos c] at e;exact yd e
      ·rename_i c;rw [if_neg c] at e;exact yd e
     have hw:Within (BR st2) (mirror (BR st2) lo (lo+m) ((lo+m - lo) / 2)) lo (lo+nrem):=⟨mirror_perm _ _ _ _,fun k hk=>by
      rw [getElem?_mirror_all (by lia),if_neg (by lia)]⟩
     have hrb:bG rk (mirror (BR st2) lo (lo+m) ((lo+m - lo) / 2)) lo (lo+m):=fun u v h2 h3 h4=>by
      rw [hb,hb,if_pos (by lia),if_pos (by lia)];exact hf _ _ (by lia) (by lia)<|by lia
     generalize mirror (BR st2) lo (lo+m) ((lo+m - lo) / 2)=b at hb hw hrb;have ok2:Jt kd rk good (Ht st2 b):=ok.arr hw.perm;have hz2:(BR (Ht st2 b)).size=(BR st2).size:=hw.size;refine Bm (LC (Lj
      (I:=fun x c st3=>st3=Ht st2 b/\c=(YK,x)/\bG rk b lo (lo+x)/\x<=nrem)
      (Q:=fun c st3=>st3=Ht st2 b/\∃ n,c=(YK,n)/\1<=n/\n<=nrem/\bG rk b lo (lo+n)) ?_ ?_ ⟨rfl,rfl,hrb,m2⟩) ?_)
     ·rintro x c st3 hx1 hx2 ⟨rfl,rfl,hr3,_⟩;dsimp only;refine Bm<|qM C ok2 (by lia) (by lia) ?_
      by_cases c:Rk rk (BR (Ht st2 b)) (lo+x)<Rk rk (BR (Ht st2 b)) (lo+x - 1)
      ·rw [decide_eq_true c];exact Bj ⟨rfl,x,rfl,by lia,by lia,hr3⟩
      ·rw [decide_eq_false c];have:Rk rk b (lo+x)≠Rk rk b (lo+x - 1):=fun e=>absurd (ok2.keys.ne (i:=lo+x) (j:=lo+x - 1) (by lia) (by lia) e) (by lia)
       have c:¬ Rk rk b (lo+x)<Rk rk b (lo+x - 1):=c;exact Bj ⟨rfl,rfl,n6 hr3 (by lia)<|by lia,by lia⟩
     ·rintro c st3 ⟨rfl,rfl,hr3,hx⟩;have e:max m nrem=nrem:=by lia
      rw [e] at hr3 |-
      exact ⟨rfl,nrem,rfl,h1,Bp _,hr3⟩
     ·rintro c st3 ⟨rfl,n,rfl,n1,n2,hr3⟩;exact Bj<|q n b n1 n2 hw hr3 fun r=>absurd r not
end
variable {a b : Array BW}{hi lo : Nat}{st : Bw}{good : Yk->Prop}{kd : QW}
section
variable {P:Bs}{w:Bh}{A:Bx}{E:Yk->ZG->Prop}{s:ZG}{rk:Yk->Nat}
theorem aeE (C:Jf P w A s kd rk good){n ok':Nat}{Q:Bool->Bw->Prop}(ok:Jt kd rk good st)(h1:1<=ok')(hn:ok'<=n)(hz:lo+n<=(BR st).size)(hr:bG rk (BR st) lo (lo+ok'))
  (q:∀ b,Within (BR st) b lo (lo+n)->bG rk b lo (lo+n)->Q true (Ht st b)):wpS (Am P w) A E s (binarySort' lo n ok') Q st:=by
 rw [binarySort'_eq];refine Bm (LC (Lj
  (I:=fun x c st'=>c=(YK,())/\∃ b,st'=Ht st b/\Within (BR st) b lo (lo+n)/\bG rk b lo (lo+x)/\x<=n)
  (Q:=fun c st'=>c=(YK,())/\∃ b,st'=Ht st b/\Within (BR st) b lo (lo+n)/\bG rk b lo (lo+n)) ?_ ?_ ⟨rfl,BR st,(ju st).symm,.refl _ _ _,by rw [Nat.max_eq_left h1];exact hr,by lia⟩) ?_)
 ·rintro x c st' hx1 hx2 ⟨rfl,b,rfl,hw,hb,_⟩;have okb:Jt kd rk good (Ht st b):=ok.arr hw.perm;have zb:(BR (Ht st b)).size=(BR st).size:=hw.size;have zb':b.size=(BR st).size:=hw.size;have ne:∀ {i j:Nat},i<b.size->j<b.size->i≠j->Rk rk b i≠Rk rk b j:=fun hi hj c e=>c (okb.keys.ne hi hj e)
  refine Bm (LC (Lj
   (I:=fun y c st2=>st2=Ht st b/\∃ l r,c=(YK,l,r)/\l<=r/\r<=x/\r - l<=x - y/\(∀ p,lo<=p->p<lo+l->Rk rk b p<Rk rk b (lo+x))/\∀ p,lo+r<=p->p<lo+x->Rk rk b (lo+x)<Rk rk b p)
   (Q:=fun c st2=>st2=Ht st b/\∃ l,c=(YK,l,l)/\l<=x/\(∀ p,lo<=p->p<lo+l->Rk rk b p<Rk rk b (lo+x))/\∀ p,lo+l<=p->p<lo+x->Rk rk b (lo+x)<Rk rk b p) ?_ ?_ ⟨rfl,0,x,rfl,IK _,Bp _,by lia,fun p h2 h3=>by lia,fun p h2 h3=>by lia⟩) ?_)
  ·rintro y c st2 hy1 hy2 ⟨rfl,l,r,rfl,a1,a2,a3,a4,a5⟩;dsimp only;by_cases c:l>=r
   ·rw [if_pos c];have e:l=r:=by lia
    subst e;exact Bj ⟨rfl,l,rfl,a2,a4,a5⟩
   ·rw [if_neg c];refine Bm<|qM C okb (by lia) (by lia) ?_
    by_cases c2:Rk rk (BR (Ht st b)) (lo+x)<Rk rk (BR (Ht st b)) (lo+(l+r) / 2)
    ·rw [decide_eq_true c2];refine Bj ⟨rfl,l,(l+r) / 2,rfl,by lia,by lia,by lia,a4,fun p h2 h3=>?_⟩;have c2:Rk rk b (lo+x)<Rk rk b (lo+(l+r) / 2):=c2;by_cases c3:p=lo+(l+r) / 2
     ·rw [c3];exact c2
     ·exact Nat.lt_trans c2<|hb _ p (by lia) (by lia)<|by lia
    ·rw [decide_eq_false c2];have c2:¬ Rk rk b (lo+x)<Rk rk b (lo+(l+r) / 2):=c2;have:=ne (i:=lo+x) (j:=lo+(l+r) / 2) (by lia) (by lia) (by lia)
     refine Bj ⟨rfl,(l+r) / 2+1,r,rfl,by lia,by lia,by lia,fun p h2 h3=>?_,a5⟩;by_cases c3:p=lo+(l+r) / 2
     ·rw [c3];lia
     ·have:=hb p (lo+(l+r) / 2) (by lia) (by lia) (by lia)
      lia
  ·rintro c st2 ⟨rfl,l,r,rfl,a1,a2,a3,a4,a5⟩;have e:l=r:=by lia
   subst e;exact ⟨rfl,l,rfl,a2,a4,a5⟩
  ·rintro c st2 ⟨rfl,l,rfl,a2,a4,a5⟩;dsimp only;rw [moveDown'_eq];refine Bm<|OJ ?_
   have hbu:∀ k,(bubble b (lo+x) (lo+x - (lo+l)))[k]?=if k=lo+l then b[lo+x]? else if lo+l<k/\k<=lo+x then b[k - 1]? else b[k]?:=fun k=>by
    have:=getElem?_bubble (xs:=b) (src:=lo+x) (by lia) (lo+x - (lo+l)) (by lia) k
    rw [show lo+x - (lo+x - (lo+l))=lo+l by lia] at this;exact this
   have hR:∀ k,Rk rk (bubble b (lo+x) (lo+x - (lo+l))) k=if k=lo+l then Rk rk b (lo+x) else if lo+l<k/\k<=lo+x then Rk rk b (k - 1) else Rk rk b k:=fun k=>by
    have e:=hbu k;split
    ·rename_i c;rw [if_pos c] at e;exact yd e
    ·rename_i c;rw [if_neg c] at e;split
     ·rename_i c2;rw [if_pos c2] at e;exact yd e
     ·rename_i c2;rw [if_neg c2] at e;exact yd e
   refine Bj ⟨rfl,bubble b (lo+x)<|lo+x - (lo+l),rfl,hw.trans ⟨bubble_perm _ _ _,fun k hk=>?_⟩,fun u v h2 h3 h4=>?_,by lia⟩
   ·rw [hbu,if_neg (by lia),if_neg (by lia)]
   ·rw [hR,hR];by_cases c1:u=lo+l
    ·rw [if_pos c1];by_cases c2:v=lo+l
     ·lia
     ·rw [if_neg c2,if_pos (by lia)];exact a5 _ (by lia)<|by lia
    ·rw [if_neg c1];by_cases c3:lo+l<u/\u<=lo+x
     ·rw [if_pos c3,if_neg (by lia),if_pos (by lia)];exact hb _ _ (by lia) (by lia)<|by lia
     ·rw [if_neg c3];by_cases c2:v=lo+l
      ·rw [if_pos c2];exact a4 _ (by lia)<|by lia
      ·rw [if_neg c2];by_cases c4:lo+l<v/\v<=lo+x
       ·rw [if_pos c4];by_cases c5:u=v - 1
        ·lia
        ·exact hb _ _ (by lia) (by lia)<|by lia
       ·rw [if_neg c4];exact hb _ _ (by lia) (by lia)<|by lia
 ·rintro c st' ⟨rfl,b,rfl,hw,hb,hx⟩;rw [show max (max ok' 1) n=n by lia] at hb;exact ⟨rfl,b,rfl,hw,hb⟩
 ·rintro c st' ⟨rfl,b,rfl,hw,hb⟩;exact Bj<|q b hw hb
end
def Bl (h:Heap)(d:Addr)(es:Array Nk)(ep:Nat):Prop:=∃ o,h.get? d=Mk o/\o.ExactDict/\o.data=.dict es ep
variable {d : Addr}{ep : Nat}
theorem Bl.of {h h':Heap}{es:Array Nk}(x:Bl h d es ep)(e:∀ o,h.get? d=Mk o->h'.get? d=Mk o):Bl h' d es ep:=by
 obtain ⟨o,g,r⟩:=x;exact ⟨o,e o g,r⟩
theorem Bl.ty {s:ZG}{es:Array Nk}(x:Bl s.heap d es ep):s.TypeIs (.ref d) "dict":=by
 obtain ⟨o,g,r,_⟩:=x;exact ⟨o,g,r.1⟩
section
variable {P:Bs}{w:Bh}{A:Bx}{E:Yk->ZG->Prop}{s:ZG}{it:Addr}{es:Array Nk}{i:Nat}
theorem yu {Q:Yk->ZG->Prop}(nd:(d==LQ)=false)(x:Bl s.heap d es ep)
  (q:Q (.ref s.heap.objs.size) { s with heap:=s.heap.push { cls:=.type "dict_keyiterator",data:=.fields #[.ref d,.int 0 0,.int es.size 0,.int ep 0] } }):Al (Am P w) A (pyIter (.ref d)) Q E s:=by
 have gT:=x.ty;obtain ⟨o,g,gc,gd⟩:=x;refine wpAny_pyIter_slot gT F.slot_dict_iter<|Nq F.slot_dict_iter gT F.entry_dict_iter ?_<|F.args_dict_iter_1 _
 unfold O6.«dict.__iter__» Builtin.Dict.dictSlotNone;refine Zi<|Zi<|wpAny_notOrdered_dict gT ?_
 show Al _ _ (pure (Value.ref d)) _ _ s;refine BP ?_;show Al _ _ (Builtin.Dict.showsAll d >>= _) _ _ s;unfold Builtin.Dict.showsAll;rw [nd,if_neg Hu];refine Zi<|BP<|Zi<|wpAny_dictEntries g gd<|Zi<|wpAny_dictEpoch g gd ?_
 refine Zi<|Js<|BP ⟨_,rfl, "dict_keyiterator",_,⟨_,Ej _ rfl,rfl⟩,TJ.lookup,?_⟩
 simpa [JT] using q
theorem zaC {Q:Option Yk->ZG->Prop}(gi:s.heap.IsKeyIter it d i es.size ep)(x:Bl s.heap d es ep)(hi:i<es.size)
  (q:∀ h',h'.IsKeyIter it d (i+1) es.size ep->QB it s.heap h'->Q (Mk es[i].key) { s with heap:=h' }):Al (Am P w) A (Jo (.ref it)) Q E s:=by
 obtain ⟨u,gu,gc,gd⟩:=id gi;obtain ⟨o,g,_,ge⟩:=x;unfold Jo;refine Zi<|QG<|QC (name:=Oa "__next__") gi.typeIs TJ<|Nq TJ gi.typeIs F.entry_dict_keyiterator_next ?_<|F.args_dict_keyiterator_next_1 _
 refine Zi<|BP<|Zi<|Zi ?_
 first
  | refine Zi (Uh gi.typeIs (BP ?_))
  | refine Zi (Ti gi.typeIs (BP ?_))
 refine Zi<|wpAny_fieldsOf gu gd ?_
 have ow:Builtin.Dict_items.ownsTuple "dict_keyiterator" = false:=by decide
 simp only [ow,Ny,if_false];show Al _ _ (if (Value.ref d==Value.none)=true then _ else _) _ _ s;rw [if_neg (by exact Hu)];refine Zi<|BP<|Zi<|wpAny_dictEntries g ge ?_
 rw [if_neg (by simp)];refine Zi<|BP<|Zi<|wpAny_dictEpoch g ge ?_
 rw [if_neg (by simp)];refine BP ?_;simp only [show ¬ ((i:Int)<0) from by lia,if_false,T6,Qh hi];refine Zi ?_;first
  | refine Zi (Uh gi.typeIs (BP ?_))
  | refine Zi (Ti gi.typeIs (BP ?_))
 refine Zi<|wpAny_isOneOf_keyiter gi.typeIs ?_
 show Al _ _ (setField (.ref it) 1 (JT ((i:Int)+1)) >>= _) _ _ s;refine Zi<|Qm gu gd (by simp) ?_
 have g2:(s.heap.update it (Obj.mapFields (·.setIfInBounds 1 (JT ((i:Int)+1))))).IsKeyIter it d (i+1) es.size ep:=by
  refine ⟨_,PN _ gu<|Qd<|Og gd _,(Obj.cls_mapFields ..).trans gc,?_⟩;rw [Og gd];simp [JT]
 refine Zi<|Im<|Zi<|wpAny_isOneOf_keyiter (s:={ s with heap:=s.heap.update it (Obj.mapFields (·.setIfInBounds 1 (JT<|(i:Int)+1))) }) g2.typeIs ?_
 show Al _ _ (pure es[i].key) _ _ _;exact BP<|BP ⟨_,rfl,BP<|q _ g2<|Td ..⟩
theorem aeo {Q:Option Yk->ZG->Prop}(hh:A.handled=YK)(gi:s.heap.IsKeyIter it d es.size es.size ep)(x:Bl s.heap d es ep)(q:∀ h',Rf it s.heap h'->Q YK { s with heap:=h' }):Al (Am P w) A (Jo (.ref it)) Q E s:=by
 obtain ⟨u,gu,gc,gd⟩:=id gi;obtain ⟨o,g,_,ge⟩:=x;unfold Jo;refine Zi<|QG<|QC (name:=Oa "__next__") gi.typeIs TJ<|Nq TJ gi.typeIs F.entry_dict_keyiterator_next ?_<|F.args_dict_keyiterator_next_1 _
 refine Zi<|BP<|Zi<|Zi ?_
 first
  | refine Zi (Uh gi.typeIs (BP ?_))
  | refine Zi (Ti gi.typeIs (BP ?_))
 refine Zi<|wpAny_fieldsOf gu gd ?_
 have ow:Builtin.Dict_items.ownsTuple "dict_keyiterator" = false:=by decide
 simp only [ow,Ny,if_false];show Al _ _ (if (Value.ref d==Value.none)=true then _ else _) _ _ s;rw [if_neg (by exact Hu)];refine Zi<|BP<|Zi<|wpAny_dictEntries g ge ?_
 rw [if_neg (by simp)];refine Zi<|BP<|Zi<|wpAny_dictEpoch g ge ?_
 rw [if_neg (by simp)];refine BP ?_;simp only [show ¬ ((es.size:Int)<0) from by lia,if_false,T6,Array.getElem?_eq_none (Bp es.size)];refine Zi ?_;first
  | refine Zi (Uh gi.typeIs (BP ?_))
  | refine Zi (Ti gi.typeIs (BP ?_))
 show Al _ _ (setField (.ref it) 0 .none >>= _) _ _ s;refine Zi<|Qm gu gd (by simp) ?_
 show Al _ _ (newExc (.type "StopIteration") [] >>= _) _ _ _;refine Zi ?_;simp only [newExc,newTuple];refine Zi<|Js ?_<|by size_fits
 refine Zi (m:=Ru _ _)<|wpAny_of_eq (a:=Value.none) (by first | rfl | (simp only [Ru];rfl)) ?_
 refine Js ?_<|by size_fits
 simp only [raiseNew];refine Zi<|wpAny_handled ?_
 rw [show A.in1.handled=YK from hh];refine Zi<|BP<|wpAny_throw ?_
 refine Zi<|wpAny_isInstance (b:=true) (T := "StopIteration") ⟨_,Ej _ rfl,rfl⟩ isSubtype_stop ?_
 exact BP<|q _<|((Td ..).extBut.push _).push _
theorem vM (hh:A.handled=YK)(I d:Addr)(ne:d≠I)(es:Array Nk)(ep:Nat):
  Walks P w A I [I,d] [I] es.size (fun i v=>∃ h:i<es.size,v=es[i].key) (fun i h=>h.IsKeyIter I d i es.size ep/\Bl h d es ep) where
 sub:=fun b hb=>by simp at hb;simp [hb]
 frame:=fun i h h' st k=>⟨by obtain ⟨⟨o,g,r⟩,_⟩:=st;exact ⟨o,k I (by simp) o g,r⟩,st.2.of fun o e=>k d (by simp) o e⟩
 item:=fun i s Q E hi st q=>zaC st.1 st.2 hi fun h' g sb=>q _ h' s.toks ⟨hi,rfl⟩ ⟨g,st.2.of fun o e=>sb.extBut d o ne e⟩ fun b o hb e=>sb.extBut b o (fun z=>hb (by simp [z])) e
 done:=fun s Q E st q=>aeo hh st.1 st.2 fun h' eb=>q h' s.toks fun b o hb e=>eb b o (fun z=>hb (by simp [z])) e
 self:=fun _ _ _ _ st q=>wpAny_pyIter_keyiter st.1 q
theorem abX (nd:(d==LQ)=false):PySem.W.KdlSrc P w "dict" d d es.size (fun i v=>∃ h:i<es.size,v=es[i].key) (fun h=>Bl h d es ep) where
 type:=fun _ x=>x.ty
 there:=fun _ x=>by obtain ⟨o,g,_⟩:=x;exact ⟨CK g,CK g⟩
 keep:=fun _ _ x k=>x.of fun o e=>k d (.inl rfl) o e
 notList:=by decide
 notTuple:=by decide
 hint:=fun _ _ _ _ x q=>PySem.W.kdl_hint_dict x.ty q
 iter:=fun _ s hh x=>by
  have lt:d<s.heap.objs.size:=by obtain ⟨o,g,_⟩:=x;exact CK g
  exact ⟨_,_,fun _ _ q=>yu nd x q,vM hh _ d (Fw lt) es ep,⟨_,Ej _ rfl,rfl,rfl⟩,x.of fun o e=>CT _ e⟩
theorem xQ {Q:List Yk->ZG->Prop}(hh:A.handled=YK)(nd:(d==LQ)=false)(x:Bl s.heap d es ep)(hz:es.size<=CR)
  (q:∀ h' tk,(∀ b o,s.heap.get? b=Mk o->h'.get? b=Mk o)->s.heap.objs.size<h'.objs.size->Q (es.toList.map (·.key)) { s with heap:=h',toks:=tk }):Al (Am P w) A (collect (.ref d)) Q E s:=by
 have lt:d<s.heap.objs.size:=by obtain ⟨o,g,_⟩:=x;exact CK g
 unfold collect;refine Zi<|wpAny_runValue<|Ov F.entry_proto_collect ?_
 rw [Q7 F.plain_proto_collect _];show Al _ A.in1 (newList [] >>= fun l=>again (.builtin "list.__iadd__" ⟨[l,.ref d],[]⟩)) _ _ s;refine Zi<|Js<|BP ⟨Ob F.plain_list_iadd _,Ov F.entry_list_iadd ?_⟩
 rw [Q7 F.plain_list_iadd _];have g0:(s.heap.push { cls:=.type "list",data:=.seq ([]:List Yk).toArray }).get? s.heap.objs.size=Mk { cls:=.type "list",data:=.seq ([]:List Yk).toArray }:=Ej _ rfl;show Al _ A.in1 (Uk (.ref s.heap.objs.size) (.ref d) (.ref s.heap.objs.size)) _ _ _;have fin:∀ (f:Flow) (s':ZG),(f=.ret (.ref s.heap.objs.size)/\∃ h' tk acc c,s' = { s with heap:=h',toks:=tk }/\(∀ b o,b≠s.heap.objs.size->(s.heap.push { cls:=.type "list",data:=.seq ([]:List Yk).toArray }).get? b=Mk o->h'.get? b=Mk o)/\h'.get? s.heap.objs.size=Mk { cls:=.type "list",dict:=YK,data:=.seq acc c,slots:=#[] }/\ItemsOf (fun i v=>∃ h:i<es.size,v=es[i].key) acc es.size) ->
   ∃ v,f=.ret v/\Al (Am P w) A (match v with
    | Value.ref a=>do
     let u <-load a
     match u.data with
     | Data.seq xs _=>pure xs.toList
     | _=>unsupported "internal:collect"
    | _=>unsupported "internal:collect") Q E s':=by
  rintro f s' ⟨rfl,h',tk,acc,c,rfl,k,e,it⟩;refine ⟨_,rfl,?_⟩;show Al _ A (load s.heap.objs.size >>= _) _ _ _;refine Zi<|wpAny_load e ?_
  have ea:acc.toList=es.toList.map (·.key):=by
   refine List.ext_getElem? fun j=>?_;rw [Hi,Qe,Qe];by_cases hj:j<es.size
   ·have hj':j<acc.size:=by rw [it.1];exact hj
    obtain ⟨_,ev⟩:=it.2 j acc[j] (Qh hj');rw [Qh hj',Qh hj,ev];rfl
   ·rw [Array.getElem?_eq_none (by rw [it.1];lia),Array.getElem?_eq_none (by lia)];rfl
  refine BP ?_;rw [ea];exact q h' tk (fun b o g=>k b o (Fw<|CK g)<|CT _ g)<|CK e
 refine Hx (PySem.W.kdl_extend (s:={ s with heap:=s.heap.push { cls:=.type "list",data:=.seq ([]:List Yk).toArray } }) (R:=fun r s'=>match r with
  | .ok f=>f=.ret (.ref s.heap.objs.size)/\∃ h' tk acc c,s' = { s with heap:=h',toks:=tk }/\(∀ b o,b≠s.heap.objs.size->(s.heap.push { cls:=.type "list",data:=.seq ([]:List Yk).toArray }).get? b=Mk o->h'.get? b=Mk o)/\h'.get? s.heap.objs.size=Mk { cls:=.type "list",dict:=YK,data:=.seq acc c,slots:=#[] }/\ItemsOf (fun i v=>∃ h:i<es.size,v=es[i].key) acc es.size
  | .error _=>False) (abX (es:=es) (ep:=ep) nd) hh (x.of fun o e=>CT _ e) s.heap.objs.size (IW lt) (IW lt) _ 0 g0 (fun h' tk acc c k e it=>⟨rfl,h',tk,acc,c,rfl,k,e,it⟩) hz) (fun r s' hr=>?_) fun e s' hr=>hr.elim
 cases r with
 | done f=>
  obtain ⟨v,rfl,q'⟩:=fin f s' hr;exact q'
 | again c=>
  refine ⟨hr.1,Ri hr.2 fun r s' hr=>?_⟩;cases r with
  | error e=>exact hr.elim
  | ok f=>
   obtain ⟨v,rfl,q'⟩:=fin f s' hr;exact q'
end
def gal:Bool->BW->Array BW->Nat->Nat->Nat->StateT Bw Sem (Option Nat):=sortPriv% PySem.Builtin.gallop
section
variable {P:Bs}{w:Bh}{A:Bx}{E:Yk->ZG->Prop}{s:ZG}{rk:Yk->Nat}
def Er (rk:Yk->Nat)(left:Bool)(key:BW)(a:Array BW)(i:Nat):Bool:=if left then decide (Rk rk a i<rk key.1) else !decide (rk key.1<Rk rk a i)
def Yi (left:Bool)(key:BW)(a:Array BW)(base i:Nat):StateT Bw Sem (Option Bool):=elem' a (base+i) >>= fun x=>if left=true then lt' x key else lt' key x >>= fun r=>pure (r.map (! ·))
theorem O9 (C:Jf P w A s kd rk good){left:Bool}{key:BW}{base i:Nat}{Q:Option Bool->Bw->Prop}(hk:HY st=kd)(ka:∀ p∈a.toList,good p.1)(kg:good key.1)(hi:base+i<a.size)(q:Q (Mk (Er rk left key a (base+i))) st):wpS (Am P w) A E s (Yi left key a base i) Q st:=by
 refine Bm<|cu hi ?_
 have gi:good a[base+i].1:=ka _ (by simp);unfold Er at q;rw [fG hi] at q;cases left with
 | true=>exact w_lt C hk gi kg q
 | false=>exact Bm (w_lt C hk kg gi (Bj q))
theorem g8 {α : Type}[Decidable c]{m1 m2:StateT Bw Sem α}{Q:α->Bw->Prop}(h1:wpS (Am P w) A E s m1 Q st)(h2:wpS (Am P w) A E s m2 Q st):wpS (Am P w) A E s (if c then m1 else m2) Q st:=by
 split
 ·exact h1
 ·exact h2
theorem Nb {α : Type}[Decidable c]{m1 m2:StateT Bw Sem α}{Q:α->Bw->Prop}(h2:¬ c->wpS (Am P w) A E s m2 Q st)(h1:c->wpS (Am P w) A E s m1 Q st):wpS (Am P w) A E s (if c then m1 else m2) Q st:=by
 split
 ·exact h1 ‹_›
 ·exact h2 ‹_›
theorem Jm {α : Type}{x y:Nat}{m1 m2:StateT Bw Sem α}{Q:α->Bw->Prop}(h1:x=y->wpS (Am P w) A E s m1 Q st)(h2:x≠y->wpS (Am P w) A E s m2 Q st):wpS (Am P w) A E s (if (x==y)=true then m1 else m2) Q st:=Nb (fun h=>h2 fun e=>h (beq_iff_eq.mpr e)) fun h=>h1 (beq_iff_eq.mp h)
theorem ifD {α : Type}[Decidable c]{m1 m2:StateT Bw Sem α}{Q:α->Bw->Prop}(h1:c->wpS (Am P w) A E s m1 Q st)(h2:¬ c->wpS (Am P w) A E s m2 Q st):wpS (Am P w) A E s (if decide c=true then m1 else m2) Q st:=Nb (fun h=>h2 fun e=>h (decide_eq_true e)) fun h=>h1 (of_decide_eq_true h)
theorem Yo {γ : Type}{G:γ->Prop}{p:Prop}(f:(∀ z,G z)->p)(h:∀ z,G z):p:=f h
theorem Kf {α : Type}[Decidable c]{m1 m2:StateT Bw Sem α}{Q:α->Bw->Prop}(h2:wpS (Am P w) A E s m2 Q st)(h1:wpS (Am P w) A E s m1 Q st):wpS (Am P w) A E s (if c then m1 else m2) Q st:=g8 h1 h2
theorem NQ {α : Type}[Decidable c]{m1 m2:StateT Bw Sem α}{Q:α->Bw->Prop}(h:c)(x:wpS (Am P w) A E s m1 Q st):wpS (Am P w) A E s (if c then m1 else m2) Q st:=by rw [if_pos h];exact x
theorem Lr {α : Type}[Decidable c]{m1 m2:StateT Bw Sem α}{Q:α->Bw->Prop}(h:¬ c)(x:wpS (Am P w) A E s m2 Q st):wpS (Am P w) A E s (if c then m1 else m2) Q st:=by rw [if_neg h];exact x
structure YG (B:Nat->Bool) (n:Nat) (st:Bw) (x:Nat) (c:Option (Option Nat)×Nat×Nat) (st':Bw):Prop where
 s:st'=st
 e:c.1=YK
 a:c.2.1<=c.2.2
 b:c.2.2<=n
 d:c.2.2 - c.2.1<=n - x
 lo:∀ i,i<c.2.1->B i=true
 hi:∀ i,c.2.2<=i->i<n->B i=false
theorem Ze {l r n x:Nat}(h:¬ l>=r)(d:r - l<=n - x):l<=l+(r - l) / 2/\l+(r - l) / 2<r/\r - (l+(r - l) / 2+1)<=n - (x+1)/\l+(r - l) / 2 - l<=n - (x+1):=by
 have h:=Nat.lt_of_not_le h;have k:(r - l) / 2<r - l:=Nat.div_lt_self (Nat.sub_pos_of_lt h) (by decide);generalize (r - l) / 2=z at *;exact ⟨Ro _ _,Nat.add_lt_of_lt_sub' k,by lia,by lia⟩
theorem TV (C:Jf P w A s kd rk good){α : Type}{left:Bool}{key:BW}{base n:Nat}{Q:α->Bw->Prop}{f:Nat->Option (Option Nat)×Nat×Nat->StateT Bw Sem (ForInStep (Option (Option Nat)×Nat×Nat))}{K:Option (Option Nat)×Nat×Nat->Option Bool->StateT Bw Sem (ForInStep (Option (Option Nat)×Nat×Nat))}{fin:Option (Option Nat)×Nat×Nat->StateT Bw Sem α}(hk:HY st=kd)(ka:∀ p∈a.toList,good p.1)(kg:good key.1)(hz:base+n<=a.size)
  (hf:∀ x c,f x c=if c.2.1>=c.2.2 then pure (.done (YK,c.2.1,c.2.2)) else Yi left key a base (c.2.1+(c.2.2 - c.2.1) / 2) >>= K c)
  (h1:∀ c,K c (Mk true)=pure (.yield (YK,c.2.1+(c.2.2 - c.2.1) / 2+1,c.2.2))) (h2:∀ c,K c (Mk false)=pure (.yield (YK,c.2.1,c.2.1+(c.2.2 - c.2.1) / 2)))
  (mono:∀ i j,i<=j->j<n->Er rk left key a (base+j)=true->Er rk left key a (base+i)=true) (anti:∀ i j,i<=j->j<n->Er rk left key a (base+i)=false->Er rk left key a (base+j)=false)
  (b1:lo<=hi) (b2:hi<=n) (b3:∀ i,i<lo->Er rk left key a (base+i)=true) (b4:∀ i,hi<=i->i<n->Er rk left key a (base+i)=false)
  (q:∀ m,m<=n->(∀ i,i<m->Er rk left key a (base+i)=true)->(∀ i,m<=i->i<n->Er rk left key a (base+i)=false)->wpS (Am P w) A E s (fin (YK,m,m)) Q st):wpS (Am P w) A E s (forIn [0:n] (YK,lo,hi) f >>= fin) Q st:=by
 refine Bm<|LC (Lj (I:=YG (fun i=>Er rk left key a<|base+i) n st) (Q:=YG (fun i=>Er rk left key a<|base+i) n st n) (fun x c st' _ _ g=>?_) (fun c st' g=>Nat.max_eq_right (IK n) ▸ g) ⟨rfl,rfl,b1,b2,Cg (Pq _ _) b2,b3,b4⟩) fun c st' g=>?_
 ·rw [hf];cases g.s
  refine Nb (fun k=>?_) fun k=>Bj ⟨rfl,rfl,g.a,g.b,Nat.sub_eq_zero_of_le k ▸ IK _,g.lo,g.hi⟩;have ⟨m1,m2,m3,m4⟩:=Ze k g.d;have m5:=Ep m2 g.b;refine Bm<|O9 C hk ka kg (Ep (Nat.add_lt_add_left m5 _) hz) ?_
  cases hm:Er rk left key a (base+(c.2.1+(c.2.2 - c.2.1) / 2)) with
  | true=>rw [h1];exact Bj ⟨rfl,rfl,m2,g.b,m3,fun i hi=>mono i _ (Nat.le_of_lt_succ hi) m5 hm,g.hi⟩
  | false=>rw [h2];exact Bj ⟨rfl,rfl,m1,Lk m5,m4,g.lo,fun i u v=>anti _ i u v hm⟩
 ·obtain ⟨r,l,m⟩:=c;cases g.e
  cases g.s
  cases Nat.le_antisymm g.a (Nat.le_of_sub_eq_zero (Nat.le_zero.mp (Nat.sub_self n ▸ g.d)))
  exact q _ g.b g.lo g.hi
theorem dbl {x o:Nat}(h:x<o):o<2*o+1/\x+1<2*o+1:=by lia
structure YJ (B:Nat->Bool) (v:Bool) (mx:Nat) (st:Bw) (x:Nat) (c:Option (Option Nat)×Nat×Nat) (st':Bw):Prop where
 s:st'=st
 e:c.1=YK
 a:c.2.1<c.2.2
 b:x<c.2.2
 d:c.2.1<mx
 h:B c.2.1=v
theorem Tn (C:Jf P w A s kd rk good){α : Type}{left v:Bool}{key:BW}{base n mx:Nat}(g:Nat->Nat){Q:α->Bw->Prop}{f:Nat->Option (Option Nat)×Nat×Nat->StateT Bw Sem (ForInStep (Option (Option Nat)×Nat×Nat))}{K:Option (Option Nat)×Nat×Nat->Option Bool->StateT Bw Sem (ForInStep (Option (Option Nat)×Nat×Nat))}{fin:Option (Option Nat)×Nat×Nat->StateT Bw Sem α}(hk:HY st=kd)(ka:∀ p∈a.toList,good p.1)(kg:good key.1)(hz:∀ o,o<mx->base+g o<a.size)
  (hf:∀ x c,f x c=if c.2.2>=mx then pure (.done (YK,c.2.1,c.2.2)) else Yi left key a base (g c.2.2) >>= K c)
  (h1:∀ c,K c (Mk v)=pure (.yield (YK,c.2.2,2*c.2.2+1))) (h2:∀ c,K c (Mk !v)=pure (.done (YK,c.2.1,c.2.2)))
  (h0:0<mx) (hn:mx<=n) (hB:Er rk left key a (base+g 0)=v)
  (q:∀ l o,l<o->l<mx->Er rk left key a (base+g l)=v->(mx<=o\/Er rk left key a (base+g o) = !v)->wpS (Am P w) A E s (fin (YK,l,o)) Q st):wpS (Am P w) A E s (forIn [0:n] (YK,0,1) f >>= fin) Q st:=by
 refine Bm<|LC (Lj (I:=YJ (fun i=>Er rk left key a<|base+g i) v mx st) (Q:=fun c s=>YJ (fun i=>Er rk left key a<|base+g i) v mx st 0 c s/\(mx<=c.2.2\/Er rk left key a (base+g c.2.2) = !v)) (fun x c st' _ _ G=>?_) (fun c st' g=>?_) ⟨rfl,rfl,Nat.one_pos,Nat.one_pos,h0,hB⟩) ?_
 ·rw [hf];cases G.s
  have p:=Nat.zero_lt_of_lt G.b;refine Nb (fun k=>Bm<|O9 C hk ka kg (hz _<|Nat.lt_of_not_le k) ?_) fun k=>Bj ⟨⟨rfl,rfl,G.a,p,G.d,G.h⟩,.inl k⟩;by_cases e:Er rk left key a (base+g c.2.2)=v
  ·rw [e,h1];exact Bj ⟨rfl,rfl,(dbl G.b).1,(dbl G.b).2,Nat.lt_of_not_le k,e⟩
  ·have e:=Bool.eq_not.mpr e;rw [e,h2];exact Bj ⟨⟨rfl,rfl,G.a,p,G.d,G.h⟩,.inr e⟩
 ·exact ⟨⟨g.s,g.e,g.a,Nat.zero_lt_of_lt g.b,g.d,g.h⟩,.inl<|Lk<|Mw (Cg hn<|Nat.le_max_right 0 n) g.b⟩
 ·rintro ⟨r,l,o⟩ st' ⟨g,h⟩;cases g.e
  cases g.s
  exact q _ _ g.a g.d g.h h
theorem Ay (C:Jf P w A s kd rk good){left:Bool}{key:BW}{base n hint:Nat}{Q:Option Nat->Bw->Prop}(hk:HY st=kd)(ka:∀ p∈a.toList,good p.1)(kg:good key.1)(hz:base+n<=a.size)(hh:hint<n)
  (mono:∀ i j,i<=j->j<n->Er rk left key a (base+j)=true->Er rk left key a (base+i)=true)
  (q:∀ m,m<=n->(∀ i,i<m->Er rk left key a (base+i)=true)->(∀ i,m<=i->i<n->Er rk left key a (base+i)=false)->Q (Mk m) st):wpS (Am P w) A E s (gal left key a base n hint) Q st:=by
 have anti:∀ i j,i<=j->j<n->Er rk left key a (base+i)=false->Er rk left key a (base+j)=false:=fun i j h1 h2 h3=>by
  cases e:Er rk left key a (base+j) with
  | false=>rfl
  | true=>rw [mono i j h1 h2 e] at h3;cases h3
 have hz' {i} (h:i<n):base+i<a.size:=Ep (Nat.add_lt_add_left h _) hz;refine Bm<|O9 C hk ka kg (hz' hh) ?_
 cases hB:Er rk left key a (base+hint) with
 | true=>
  refine NQ rfl<|Tn C (v:=true) (mx:=n - hint) (fun o=>hint+o) hk ka kg (fun o h=>hz'<|Nat.add_lt_of_lt_sub' h) (fun _ _=>rfl) (fun _=>rfl) (fun _=>rfl) (Nat.sub_pos_of_lt hh) (Pq _ _) hB fun l o a1 a3 a4 a5=>?_
  refine TV C hk ka kg hz (fun _ _=>rfl) (fun _=>rfl) (fun _=>rfl) mono anti (lo:=hint+l+1) (hi:=hint+min o (n - hint)) (by lia) (by lia) (fun i hi=>mono i (hint+l) (Nat.le_of_lt_succ hi) (Nat.add_lt_of_lt_sub' a3) a4) (fun i h1 h2=>?_) fun m u1 u2 u3=>Bj<|q m u1 u2 u3
  rcases a5 with c | c
  ·lia
  ·exact anti (hint+o) i (by lia) h2 c
 | false=>
  refine Lr Hu<|Tn C (v:=false) (mx:=hint+1) (fun o=>hint - o) hk ka kg (fun o h=>hz'<|Mw (Pq _ _) hh) (fun _ _=>rfl) (fun _=>rfl) (fun _=>rfl) (Nat.succ_pos _) hh hB fun l o a1 a3 a4 a5=>?_
  refine TV C hk ka kg hz (fun _ _=>rfl) (fun _=>rfl) (fun _=>rfl) mono anti (lo:=hint+1 - min o (hint+1)) (hi:=hint - l) (by lia) (Cg (Pq _ _)<|Lk hh) (fun i hi=>?_) (fun i h1 h2=>anti (hint - l) i h1 h2 a4) fun m u1 u2 u3=>Bj<|q m u1 u2 u3
  rcases a5 with c | c
  ·lia
  ·exact mono i (hint - o) (by lia) (by lia) c
end
variable {key : BW}
def mLo:Array BW->Array BW->StateT Bw Sem (Array BW):=sortPriv% PySem.Builtin.mergeLo
def mHi:Array BW->Array BW->StateT Bw Sem (Array BW):=sortPriv% PySem.Builtin.mergeHi
def LK:Nat->StateT Bw Sem Unit:=sortPriv% PySem.Builtin.setMinGallop
section
variable {rk:Yk->Nat}
def SL (rk:Yk->Nat)(l:List BW):Prop:=l.Pairwise fun x y=>rk x.1<rk y.1
def Be (rk:Yk->Nat)(xs ys:List BW):Prop:=∀ x∈xs,∀ y∈ys,rk x.1<rk y.1
def ML (rk:Yk->Nat)(A B out al bl:List BW):Prop:=∃ a1 b1,A=a1++al/\B=b1++bl/\out.Perm (a1++b1)/\SL rk out/\Be rk out al/\Be rk out bl
def Je (rk:Yk->Nat)(A B r:List BW):Prop:=r.Perm (A++B)/\SL rk r
theorem ML.swap {A B out al bl:List BW}(h:ML rk A B out al bl):ML rk B A out bl al:=by
 obtain ⟨a1,b1,e1,e2,p,s,q1,q2⟩:=h;exact ⟨b1,a1,e2,e1,p.trans List.perm_append_comm,s,q2,q1⟩
theorem ML.pA {A B out xs al bl:List BW}(sa:SL rk A)(h:ML rk A B out (xs++al) bl)(hx:Be rk xs bl):ML rk A B (out++xs) al bl:=by
 obtain ⟨a1,b1,e1,e2,p,s,q1,q2⟩:=h;have sx:SL rk (xs++al):=by
  unfold SL at sa;rw [e1,Mz] at sa;exact sa.2.1
 unfold SL at sx;rw [Mz] at sx;refine ⟨a1++xs,b1,by rw [e1,Mh],e2,?_,?_,?_,?_⟩
 ·refine (p.append_right xs).trans ?_;rw [Mh,Mh];exact List.Perm.append_left _ List.perm_append_comm
 ·unfold SL;rw [Mz];exact ⟨s,sx.1,fun x hx y hy=>q1 x hx y<|Jc _ hy⟩
 ·intro x hx y hy;rcases Jr.mp hx with hx | hx
  ·exact q1 x hx y<|Mv _ hy
  ·exact sx.2.2 x hx y hy
 ·intro x hx' y hy;rcases Jr.mp hx' with hx' | hx'
  ·exact q2 x hx' y hy
  ·exact hx x hx' y hy
theorem ML.pB {A B out xs al bl:List BW}(sb:SL rk B)(h:ML rk A B out al (xs++bl))(hx:Be rk xs al):ML rk A B (out++xs) al bl:=(h.swap.pA sb hx).swap
theorem ML.fin {A B out al:List BW}(sa:SL rk A)(h:ML rk A B out al []):Je rk A B (out++al):=by
 have h:ML rk A B out (al++[]) []:=by rw [Np];exact h
 obtain ⟨a1,b1,e1,e2,p,s,_⟩:=h.pA sa fun _ _ _ h=>(nomatch h)
 rw [Np] at e1 e2;rw [e1,e2];exact ⟨p,s⟩
theorem ML.fin2 {A B out al bl:List BW}(sa:SL rk A)(sb:SL rk B)(h:ML rk A B out al bl)(hx:Be rk bl al):Je rk A B (out++bl++al):=by
 have h:ML rk A B out al (bl++[]):=by rw [Np];exact h
 exact (h.pB sb hx).fin sa
end
variable {B : List BW}
section
variable {P:Bs}{w:Bh}{A:Bx}{E:Yk->ZG->Prop}{s:ZG}{rk:Yk->Nat}
def gZ (st st':Bw):Prop:=BR st'=BR st/\HY st'=HY st/\failedOf st'=failedOf st/\Gf st'=Gf st
theorem gZ.refl (st:Bw):gZ st st:=⟨rfl,rfl,rfl,rfl⟩
theorem gZ.trans {a b c:Bw}(h:gZ a b)(g:gZ b c):gZ a c:=⟨g.1.trans h.1,g.2.1.trans h.2.1,g.2.2.1.trans h.2.2.1,g.2.2.2.trans h.2.2.2⟩
theorem tU {g:Nat}{Q:Unit->Bw->Prop}(q:∀ st',gZ st st'->Q () st'):wpS (Am P w) A E s (LK g) Q st:=OJ (q _ (by cases st;exact ⟨rfl,rfl,rfl,rfl⟩))
structure Two (rk:Yk->Nat) (good:Yk->Prop) (a b:Array BW):Prop where
 sa:SL rk a.toList
 sb:SL rk b.toList
 ga:∀ p∈a.toList,good p.1
 gb:∀ p∈b.toList,good p.1
 ne:∀ x∈a.toList,∀ y∈b.toList,rk x.1≠rk y.1
theorem Lg {i:Nat}(h:i<a.size):a.toList.drop i=a[i]::a.toList.drop (i+1):=by
 rw [RQ (by simpa using h)];simp
theorem V2 (a:Array BW)(i k:Nat)(h:i+k<=a.size):a.toList.drop i=(a.extract i (i+k)).toList++a.toList.drop (i+k):=by
 rw [U4];have e:i+k - i=k:=by lia
 simp only [Tq,e];rw [<-List.drop_drop,UL]
theorem tY (a:Array BW)(i:Nat):(a.extract i a.size).toList=a.toList.drop i:=by
 rw [U4,Tq,SJ (by simp)]
theorem ext_get {i k:Nat}{x:BW}(h:i+k<=a.size)(hx:x∈(a.extract i (i+k)).toList):∃ j,j<k/\∃ hj:i+j<a.size,x=a[i+j]:=by
 obtain ⟨j,hj,e⟩:=Array.mem_iff_getElem.mp (Array.mem_def.mpr hx);have hj':j<k:=by simp at hj;lia
 exact ⟨j,hj',by lia,by rw [<-e];simp⟩
theorem fY {i:Nat}{x:BW}(hx:x∈a.toList.drop i):∃ j,i<=j/\∃ hj:j<a.size,x=a[j]:=by
 obtain ⟨k,hk,e⟩:=RX.mp hx;rw [List.length_drop] at hk;refine ⟨i+k,by lia,by simp at hk;lia,?_⟩;rw [<-e,List.getElem_drop];simp
theorem SL.lt (h:SL rk a.toList){i j:Nat}(hij:i<j)(hj:j<a.size):rk (a[i]'(by omega)).1<rk a[j].1:=by
 have:=Tt.mp h i j (by simp;lia) (by simpa using hj) hij
 simpa using this
theorem SL.le (h:SL rk a.toList){i j:Nat}(hij:i<=j)(hj:j<a.size):rk (a[i]'(by omega)).1<=rk a[j].1:=by
 rcases Nat.lt_or_ge i j with c | c
 ·exact Lk<|h.lt c hj
 ·have:i=j:=by lia
  subst this;exact Bp _
structure LI (rk:Yk->Nat) (a b out:Array BW) (ia ib:Nat):Prop where
 ml:ML rk a.toList b.toList out.toList (a.toList.drop ia) (b.toList.drop ib)
 ia:ia+1<a.size
 ib:ib<b.size
def Av (rk:Yk->Nat)(a b:Array BW):Prop:=∀ (h:0<a.size),∀ y∈b.toList,rk y.1<rk (a[a.size - 1]).1
theorem jM (out:Array BW)(x:BW):(out.push x).toList=out.toList++[x]:=by simp
theorem Sx {out:Array BW}{ia ib:Nat}(T:Two rk good a b)(h:ML rk a.toList b.toList out.toList (a.toList.drop ia) (b.toList.drop ib))(hi:ia<a.size)(hx:∀ y∈b.toList.drop ib,rk a[ia].1<rk y.1):ML rk a.toList b.toList (out.push a[ia]).toList (a.toList.drop (ia+1)) (b.toList.drop ib):=by
 rw [jM];refine ML.pA T.sa (xs:=[a[ia]]) ?_ fun x h y hy=>?_
 ·rw [List.singleton_append,<-Lg hi];exact h
 ·rw [Fd.mp h];exact hx y hy
theorem Ow {out:Array BW}{ia ib:Nat}(T:Two rk good a b)(h:ML rk a.toList b.toList out.toList (a.toList.drop ia) (b.toList.drop ib))(hi:ib<b.size)(hx:∀ y∈a.toList.drop ia,rk b[ib].1<rk y.1):ML rk a.toList b.toList (out.push b[ib]).toList (a.toList.drop ia) (b.toList.drop (ib+1)):=by
 rw [jM];refine ML.pB T.sb (xs:=[b[ib]]) ?_ fun x h y hy=>?_
 ·rw [List.singleton_append,<-Lg hi];exact h
 ·rw [Fd.mp h];exact hx y hy
theorem Xe {out:Array BW}{ia ib k:Nat}(T:Two rk good a b)(h:ML rk a.toList b.toList out.toList (a.toList.drop ia) (b.toList.drop ib))(hi:ia+k<=a.size)(hx:Be rk (a.extract ia (ia+k)).toList (b.toList.drop ib)):ML rk a.toList b.toList (out++a.extract ia (ia+k)).toList (a.toList.drop (ia+k)) (b.toList.drop ib):=by
 rw [Oq];refine ML.pA T.sa ?_ hx;rw [<-V2 a ia k hi];exact h
theorem XF {out:Array BW}{ia ib k:Nat}(T:Two rk good a b)(h:ML rk a.toList b.toList out.toList (a.toList.drop ia) (b.toList.drop ib))(hi:ib+k<=b.size)(hx:Be rk (b.extract ib (ib+k)).toList (a.toList.drop ia)):ML rk a.toList b.toList (out++b.extract ib (ib+k)).toList (a.toList.drop ia) (b.toList.drop (ib+k)):=by
 rw [Oq];refine ML.pB T.sb ?_ hx;rw [<-V2 b ib k hi];exact h
theorem oU {out:Array BW}{ia ib:Nat}(T:Two rk good a b)(h:ML rk a.toList b.toList out.toList (a.toList.drop ia) (b.toList.drop ib))(e:ib=b.size):Je rk a.toList b.toList (out++a.extract ia a.size++b.extract ib b.size).toList:=by
 have eb:b.toList.drop ib=[]:=by rw [e];simp
 rw [Oq,Oq,tY,tY,eb,Np];rw [eb] at h;exact h.fin T.sa
theorem tW {out:Array BW}{ia ib:Nat}(T:Two rk good a b)(hL:Av rk a b)(h:ML rk a.toList b.toList out.toList (a.toList.drop ia) (b.toList.drop ib))(e:ia+1=a.size):Je rk a.toList b.toList (out++b.extract ib b.size++a.extract ia a.size).toList:=by
 rw [Oq,Oq,tY,tY];refine h.fin2 T.sa T.sb fun x hx y hy=>?_;rw [Lg (by lia)] at hy;have hn:a.toList.drop (ia+1)=[]:=by rw [e];simp
 rw [hn,Fd] at hy;rw [hy];have:=hL (by lia) x (List.mem_of_mem_drop hx)
 have ei:a.size - 1=ia:=by lia
 simpa only [ei] using this
theorem wA {i:Nat}(hi:i<a.size):Er rk true key a i=decide (rk a[i].1<rk key.1):=by unfold Er;rw [if_pos rfl,fG hi]
theorem wB {i:Nat}(hi:i<a.size):Er rk false key a i = !decide (rk key.1<rk a[i].1):=by unfold Er;rw [if_neg Hu,fG hi]
theorem bU {i:Nat}(h:i<a.size):a[i]∈a.toList:=by simp
theorem Ir {α : Type}{out:Array BW}{ia ib:Nat}[Decidable c]{E1 E2 E3:BW->StateT Bw Sem α}{Q:α->Bw->Prop}(T:Two rk good a b)(hL:Av rk a b)(h:ML rk a.toList b.toList out.toList (a.toList.drop ia) (b.toList.drop ib))(h1:ia+1<a.size)(h2:ib<b.size)
  (hx:∀ y∈b.toList.drop ib,rk (a[ia]'(by omega)).1<rk y.1)
  (q1:∀ x,Je rk a.toList b.toList (out.push x++b.extract ib b.size++a.extract (ia+1) a.size).toList->wpS (Am P w) A E s (E1 x) Q st)
  (q2:∀ x,LI rk a b (out.push x) (ia+1) ib->wpS (Am P w) A E s (E2 x) Q st) (q3:∀ x,LI rk a b (out.push x) (ia+1) ib->wpS (Am P w) A E s (E3 x) Q st) :
  wpS (Am P w) A E s (elem' a ia >>= fun x=>if (ia+1+1==a.size)=true then E1 x else if c then E2 x else E3 x) Q st:=by
 refine Bm<|cu (by lia) ?_
 have m:=Sx T h (by lia) hx;by_cases e:ia+1+1=a.size
 ·exact NQ (by simpa using e)<|q1 _<|tW T hL m e
 ·refine Lr (by simpa using e) ?_;have li:LI rk a b (out.push (a[ia]'(by lia))) (ia+1) ib:=⟨m,by lia,h2⟩
  exact g8 (q2 _ li)<|q3 _ li
theorem Vc (C:Jf P w A s kd rk good){α : Type}{out:Array BW}{ia ib:Nat}{D1:BW->StateT Bw Sem α}{K:BW->BW->Option Nat->StateT Bw Sem α}{Q:α->Bw->Prop}(T:Two rk good a b)(h:ML rk a.toList b.toList out.toList (a.toList.drop ia) (b.toList.drop ib))(h1:ia+1<a.size)(h2:ib<b.size)(hk:HY st=kd)
  (hx:∀ y∈a.toList.drop ia,rk b[ib].1<rk y.1)
  (q1:∀ y,Je rk a.toList b.toList (out.push y++a.extract ia a.size++b.extract (ib+1) b.size).toList->wpS (Am P w) A E s (D1 y) Q st)
  (q2:∀ x y k,ib+1<b.size->ib+1+k<=b.size->ML rk a.toList b.toList (out.push y++b.extract (ib+1) (ib+1+k)).toList (a.toList.drop ia) (b.toList.drop (ib+1+k))->(∀ z∈b.toList.drop (ib+1+k),rk (a[ia]'(by omega)).1<rk z.1)->wpS (Am P w) A E s (K y x (Mk k)) Q st) :
  wpS (Am P w) A E s (elem' b ib >>= fun y=>if (ib+1==b.size)=true then D1 y else elem' a ia >>= fun x=>gal true x b (ib+1) (b.size - (ib+1)) 0 >>= K y x) Q st:=by
 refine Bm<|cu h2 ?_
 have m:=Ow T h h2 hx;by_cases c:ib+1=b.size
 ·exact NQ (by simpa using c)<|q1 _<|oU T m c
 ·refine Lr (by simpa using c) ?_;have ha:ia<a.size:=by lia
  refine Bm<|cu ha ?_
  refine Bm<|Ay C hk T.gb (T.ga _<|bU ha) (by lia) (by lia) (fun i j h3 h4 h5=>?_) fun k hk1 hk2 hk3=>?_
  ·rw [wA (by lia)] at h5 |-
   have:=T.sb.le (i:=ib+1+i) (j:=ib+1+j) (by lia) (by lia)
   simp at h5 |-
   lia
  ·refine q2 _ _ k (by lia) (by lia) (XF (k:=k) T m (by lia) fun x hx y hy=>?_) fun y hy=>?_
   ·obtain ⟨j,h3,h4,rfl⟩:=ext_get (by lia) hx;obtain ⟨i,h5,h6,rfl⟩:=fY hy;have:=hk2 j h3
    rw [wA (by lia)] at this;have:=T.sa.le h5 h6
    simp at *;lia
   ·obtain ⟨j,h3,h4,rfl⟩:=fY hy;have:=hk3 (j - (ib+1)) (by lia) (by lia)
    rw [wA (by lia)] at this;have ej:ib+1+(j - (ib+1))=j:=by lia
    simp only [ej] at this;have ne:=T.ne _ (bU ha) _ (bU h4);simp at this;lia
theorem Xd (C:Jf P w A s kd rk good){α : Type}{out:Array BW}{ia ib g:Nat}{K:BW->Option Nat->StateT Bw Sem α}{Q:α->Bw->Prop}(T:Two rk good a b)(hL:Av rk a b)(li:LI rk a b out ia ib)(hk:HY st=kd)
  (q:∀ y k st',gZ st st'->ia+k<a.size->ML rk a.toList b.toList (out++a.extract ia (ia+k)).toList (a.toList.drop (ia+k)) (b.toList.drop ib)->(∀ z∈a.toList.drop (ia+k),rk (b[ib]'li.ib).1<rk z.1)->wpS (Am P w) A E s (K y (Mk k)) Q st') :
  wpS (Am P w) A E s (LK g >>= fun _=>elem' b ib >>= fun y=>gal false y a ia (a.size - ia) 0 >>= K y) Q st:=by
 obtain ⟨h,h1,h2⟩:=li;refine Bm<|tU fun st1 s1=>?_
 refine Bm<|cu h2 ?_
 refine Bm<|Ay C (s1.2.1.trans hk) T.ga (T.gb _<|bU h2) (by lia) (by lia) (fun i j h3 h4 h5=>?_) fun k q1 q2 q3=>?_
 ·rw [wB (by lia)] at h5 |-
  have:=T.sa.le (i:=ia+i) (j:=ia+j) (by lia) (by lia)
  simp at h5 |-
  lia
 ·have lk:ia+k<a.size:=by
   refine Ld fun z=>?_;have:=q2 (a.size - 1 - ia) (by lia)
   rw [wB (by lia)] at this;have ej:ia+(a.size - 1 - ia)=a.size - 1:=by lia
   simp only [ej] at this;have:=hL (by lia) _ (bU h2)
   simp at *;lia
  refine q _ k st1 s1 lk (Xe (k:=k) T h (by lia) fun x hx y hy=>?_) fun y hy=>?_
  ·obtain ⟨j,h3,h4,rfl⟩:=ext_get (by lia) hx;obtain ⟨i,h5,h6,rfl⟩:=fY hy;have:=q2 j h3
   rw [wB (by lia)] at this;have:=T.sb.le h5 h6
   have:=T.ne _ (bU h4) _ (bU h2)
   simp at *;lia
  ·obtain ⟨j,h3,h4,rfl⟩:=fY hy;have:=q3 (j - ia) (by lia) (by lia)
   rw [wB (by lia)] at this;have ej:ia+(j - ia)=j:=by lia
   simp only [ej] at this
   simpa using this
theorem ext_nil (out a:Array BW)(i:Nat):out++a.extract i (i+0)=out:=by simp [Nat.min_le_left]
structure Go (rk:Yk->Nat) (a b:Array BW) (st:Bw) (n:Nat) {β : Type} (c:Option (Array BW)×Array BW×Nat×Nat×β) (st':Bw):Prop where
 sm:gZ st st'
 e:c.1=YK
 li:LI rk a b c.2.1 c.2.2.1 c.2.2.2.1
 le:n<=c.2.2.1+c.2.2.2.1
structure Dn (rk:Yk->Nat) (a b:Array BW) (st:Bw) {β : Type} (c:Option (Array BW)×β) (st':Bw):Prop where
 sm:gZ st st'
 r:∃ l,c.1=Mk l/\Je rk a.toList b.toList l.toList
theorem Go.mk' {out:Array BW}{st':Bw}{n ia ib:Nat}{β : Type}{c:β}(sm:gZ st st')(li:LI rk a b out ia ib)(h:n<=ia+ib):Go rk a b st n (YK,out,ia,ib,c) st':=⟨sm,rfl,li,h⟩
theorem Dn.mk' {l:Array BW}{st':Bw}{β : Type}{c:β}(sm:gZ st st')(h:Je rk a.toList b.toList l.toList):Dn rk a b st (Mk l,c) st':=⟨sm,_,rfl,h⟩
theorem Wz (C:Jf P w A s kd rk good){Q:Array BW->Bw->Prop}(T:Two rk good a b)(hL:Av rk a b)(ha:0<a.size)(hb:0<b.size)(hf:rk b[0].1<rk a[0].1)(hk:HY st=kd)
  (q:∀ r st',Je rk a.toList b.toList r.toList->gZ st st'->Q r st'):wpS (Am P w) A E s (mLo a b) Q st:=by
 have m0:ML rk a.toList b.toList (#[b[0]]:Array BW).toList (a.toList.drop 0) (b.toList.drop 1):=by
  refine Ow (out:=#[]) T ⟨[],[],rfl,rfl,.nil,.nil,fun _ h=>(nomatch h),fun _ h=>(nomatch h)⟩ hb fun y hy=>?_;obtain ⟨j,_,h4,rfl⟩:=fY hy;exact Ep hf<|T.sa.le (IK _) h4
 refine Bm<|wpS_lift<|LR ⟨rfl,Bm<|cu hb<|Jm (fun c1=>Bj<|q _ _ (oU T m0 c1)<|.refl _) fun c1=>Jm (fun c2=>Bj<|q _ _ (tW T hL m0 c2)<|.refl _) fun c2=>Bm<|Nj<|Bm<|LC (Lj (I:=fun x=>Go rk a b st<|1+x) (Q:=Dn rk a b st) (fun x c st' _ _ g=>?_) (fun c st' g=>?_)<|.mk' (.refl _) ⟨m0,Mi ha c2,Mi hb c1⟩ (Bp _)) ?_⟩
 ·refine Bm<|LC (Lj (I:=fun y=>Go rk a b st<|1+x+y) (Q:=fun c s=>Dn rk a b st c s\/Go rk a b st (2+x) c s) (fun y c st2 _ _ g2=>?_) (fun c st2 g2=>.inr ⟨g2.sm,g2.e,g2.li,Cg ?_ g2.le⟩)<|.mk' g.sm g.li g.le) ?_
  ·have h1:=g2.li.ia;have h2:=g2.li.ib;have hia:=Nat.lt_of_succ_lt h1;have hp (o) (h:o<=c.2.2.1+c.2.2.2.1+1):o<=c.2.2.1+1+c.2.2.2.1:=by lia
   have hq:2+x<=c.2.2.1+c.2.2.2.1+1:=by have:=g2.le;lia
   refine Bm<|cu h2<|Bm<|cu hia<|Bm<|w_lt C (g2.sm.2.1.trans hk) (T.gb _<|bU h2) (T.ga _<|bU hia)<|ifD (fun cb=>Bm<|cu h2 ?_) fun cb=>Bm<|cu hia ?_
   ·have m2:=Ow T g2.li.ml h2 fun y hy=>by
     obtain ⟨j,h3,h4,rfl⟩:=fY hy;exact Ep cb<|T.sa.le h3 h4
    refine Jm (fun e=>Bj<|.inl<|.mk' g2.sm (oU T m2 e)) fun e=>?_;have li2:LI rk a b _ _ _:=⟨m2,h1,Mi h2 e⟩
    exact g8 (Bj<|.inr<|.mk' g2.sm li2 hq)<|Bj<|.mk' g2.sm li2 (Nat.succ_le_succ g2.le)
   ·have m2:=Sx T g2.li.ml hia fun y hy=>by
     obtain ⟨j,h3,h4,rfl⟩:=fY hy;exact Mi (Cg (Nat.le_of_not_lt cb)<|T.sb.le h3 h4)<|T.ne _ (bU hia) _<|bU h4
    refine Jm (fun e=>Bj<|.inl<|.mk' g2.sm (tW T hL m2 e)) fun e=>?_;have li2:LI rk a b _ _ _:=⟨m2,Mi h1 e,h2⟩
    exact g8 (Bj<|.inr<|.mk' g2.sm li2 (hp _ hq))<|Bj<|.mk' g2.sm li2 (hp _<|Nat.succ_le_succ g2.le)
  ·lia
  ·rintro ⟨r,c⟩ st2 (⟨sm2,l,rfl,hr⟩ | g2)
   ·exact Bj<|.mk' sm2 hr
   ·cases g2.e
    refine Bm<|wpS_lift<|LR ⟨rfl,?_⟩
    refine Bm<|LC (Lj (I:=fun _=>Go rk a b st<|2+x) (Q:=fun c s=>Dn rk a b st c s\/Go rk a b st (2+x) c s) ?_ (fun _ _=>.inr)<|.mk' g2.sm g2.li g2.le) ?_
    ·rintro y ⟨_,out,ia,ib,mg,ac,bc⟩ st3 _ _ g3;have sm3:=g3.sm;have li3:LI rk a b out ia ib:=g3.li;have hp3:2+x<=ia+ib:=g3.le;clear g3;revert mg
     refine Yo (fun g mg=>Kf (g mg)<|g<|mg - 1) ?_;intro g;refine Xd (out:=out) (ia:=ia) (ib:=ib) C T hL li3 (sm3.2.1.trans hk) fun y k st4 s4 lk m4 lo=>?_;have sm4:=sm3.trans s4;have hi (i j) (h:ia<=i):2+x<=i+1+(ib+1+j):=by lia
     refine Nb (fun k0=>?_) fun k0=>Jm (fun e1=>Bj<|.inl<|.mk' sm4 (tW T hL m4 e1)) fun e1=>Jm (fun e=>absurd e<|Fw lk) fun _=>?_
     ·obtain rfl:=S9 k0;rw [ext_nil] at m4;have i1:=li3.ia;have hi:=fun j=>hi ia j (Bp _)
      refine Vc C T m4 i1 li3.ib (sm4.2.1.trans hk) lo (fun y h=>Bj<|.inl<|.mk' sm4 h) fun x' y' j j1 j2 m5 lo2=>Nb (fun j0=>?_) fun j0=>Jm (fun e2=>Bj<|.inl<|.mk' sm4 (oU T m5 e2)) fun e2=>Ir T hL m5 i1 (Mi j2 e2) lo2 (fun x' h=>Bj<|.inl<|.mk' sm4 h) (fun x' h=>Bj<|.inr<|.mk' sm4 h (hi j)) fun x' h=>Bj<|.mk' sm4 h (hi j)
      obtain rfl:=S9 j0;rw [ext_nil] at m5;exact Ir T hL m5 i1 j1 lo2 (fun x' h=>Bj<|.inl<|.mk' sm4 h) (fun x' h=>Bj<|.inr<|.mk' sm4 h (hi 0)) fun x' h=>Bj<|.mk' sm4 h (hi 0)
     ·have i1:=Mi lk e1;have hi:=fun j=>hi (ia+k) j (Ro _ _)
      refine Vc C T m4 i1 li3.ib (sm4.2.1.trans hk) lo (fun y h=>Bj<|.inl<|.mk' sm4 h) fun x' y' j j1 j2 m5 lo2=>Nb (fun j0=>?_) fun j0=>Jm (fun e2=>Bj<|.inl<|.mk' sm4 (oU T m5 e2)) fun e2=>Ir T hL m5 i1 (Mi j2 e2) lo2 (fun x' h=>Bj<|.inl<|.mk' sm4 h) (fun x' h=>Bj<|.inr<|.mk' sm4 h (hi j)) fun x' h=>Bj<|.mk' sm4 h (hi j)
      obtain rfl:=S9 j0;rw [ext_nil] at m5;exact Ir T hL m5 i1 j1 lo2 (fun x' h=>Bj<|.inl<|.mk' sm4 h) (fun x' h=>Bj<|.inr<|.mk' sm4 h (hi 0)) fun x' h=>Bj<|.mk' sm4 h (hi 0)
    ·rintro ⟨r,c⟩ st3 (⟨sm3,l,rfl,hr⟩ | g3)
     ·exact Bj<|.mk' sm3 hr
     ·cases g3.e
      exact Bm<|tU fun st4 s4=>Bj<|.mk' (g3.sm.trans s4) g3.li (Cg (by lia) g3.le)
 ·have h1:=g.li.ia;have h2:=g.li.ib;have:=g.le
  lia
 ·rintro ⟨_,_⟩ st' ⟨sm,r,rfl,hr⟩;exact Bj<|q r st' hr sm
end
variable {out : Array BW}
section
variable {rk:Yk->Nat}
def MH (rk:Yk->Nat)(A B o ah bh:List BW):Prop:=∃ a2 b2,A=ah++a2/\B=bh++b2/\o.Perm (a2++b2)/\SL rk o/\Be rk ah o/\Be rk bh o
theorem MH.swap {A o ah bh:List BW}(h:MH rk A B o ah bh):MH rk B A o bh ah:=by
 obtain ⟨a1,b1,e1,e2,p,s,q1,q2⟩:=h;exact ⟨b1,a1,e2,e1,p.trans List.perm_append_comm,s,q2,q1⟩
theorem MH.pA {A o xs ah bh:List BW}(sa:SL rk A)(h:MH rk A B o (ah++xs) bh)(hx:Be rk bh xs):MH rk A B (xs++o) ah bh:=by
 obtain ⟨a2,b2,e1,e2,p,s,q1,q2⟩:=h;have sx:SL rk (ah++xs):=by
  unfold SL at sa;rw [e1,Mz] at sa;exact sa.1
 unfold SL at sx;rw [Mz] at sx;refine ⟨xs++a2,b2,by rw [e1,Mh],e2,?_,?_,?_,?_⟩
 ·rw [Mh];exact p.append_left xs
 ·unfold SL;rw [Mz];exact ⟨sx.2.1,s,fun x hx y hy=>q1 x (Mv _ hx) y hy⟩
 ·intro x hx y hy;rcases Jr.mp hy with hy | hy
  ·exact sx.2.2 x hx y hy
  ·exact q1 x (Jc _ hx) y hy
 ·intro x hx' y hy;rcases Jr.mp hy with hy | hy
  ·exact hx x hx' y hy
  ·exact q2 x hx' y hy
theorem MH.pB {A o xs ah bh:List BW}(sb:SL rk B)(h:MH rk A B o ah (bh++xs))(hx:Be rk ah xs):MH rk A B (xs++o) ah bh:=(h.swap.pA sb hx).swap
theorem MH.fin {A o bh:List BW}(sb:SL rk B)(h:MH rk A B o [] bh):Je rk A B (bh++o):=by
 have h:MH rk A B o [] ([]++bh):=h;obtain ⟨a2,b2,e1,e2,p,s,_⟩:=h.pB sb fun _ h=>(nomatch h)
 rw [Rn] at e1 e2;rw [e1,e2];exact ⟨p,s⟩
theorem MH.fin2 {A o ah bh:List BW}(sa:SL rk A)(sb:SL rk B)(h:MH rk A B o ah bh)(hx:Be rk bh ah):Je rk A B (bh++ah++o):=by
 have h:MH rk A B o ([]++ah) bh:=h;rw [Mh];exact (h.pA sa hx).fin sb
end
section
variable {P:Bs}{w:Bh}{A:Bx}{E:Yk->ZG->Prop}{s:ZG}{rk:Yk->Nat}
theorem U5 {i:Nat}(h:i<a.size):a.toList.take (i+1)=a.toList.take i++[a[i]]:=by
 rw [JC,Gg (by simpa using h)];simp
theorem Xx (a:Array BW){i n:Nat}(h:i<=n):a.toList.take n=a.toList.take i++(a.extract i n).toList:=by
 rw [U4,Tq];have e:n=i+(n - i):=by lia
 conv=>lhs;rw [e,List.take_add]
theorem uh (a:Array BW)(n:Nat):(a.extract 0 n).toList=a.toList.take n:=by
 rw [U4,Tq];simp
theorem gq {n:Nat}{x:BW}(hx:x∈a.toList.take n):∃ j,j<n/\∃ hj:j<a.size,x=a[j]:=by
 obtain ⟨k,hk,e⟩:=RX.mp hx;rw [JV] at hk;simp at hk;refine ⟨k,by lia,by lia,?_⟩;rw [<-e,List.getElem_take];simp
theorem cN {i n:Nat}{x:BW}(h:n<=a.size)(hx:x∈(a.extract i n).toList):∃ j,i<=j/\j<n/\∃ hj:j<a.size,x=a[j]:=by
 obtain ⟨j,hj,e⟩:=Array.mem_iff_getElem.mp (Array.mem_def.mpr hx);have hj':i+j<n:=by simp at hj;lia
 exact ⟨i+j,by lia,hj',by lia,by rw [<-e];simp⟩
def za (rk:Yk->Nat)(a b:Array BW):Prop:=∀ (h:0<b.size),∀ x∈a.toList,rk b[0].1<rk x.1
structure HI (rk:Yk->Nat) (a b out:Array BW) (na nb:Nat):Prop where
 mh:MH rk a.toList b.toList out.toList.reverse (a.toList.take na) (b.toList.take nb)
 pa:0<na
 pb:1<nb
 la:na<=a.size
 lb:nb<=b.size
theorem Nf {na nb:Nat}(T:Two rk good a b)(h:MH rk a.toList b.toList out.toList.reverse (a.toList.take na) (b.toList.take nb))(h0:0<na)(hi:na<=a.size)(hx:∀ y∈b.toList.take nb,rk y.1<rk (a[na - 1]'(by omega)).1):MH rk a.toList b.toList (out.push (a[na - 1]'(by omega))).toList.reverse (a.toList.take (na - 1)) (b.toList.take nb):=by
 rw [jM,List.reverse_append];refine MH.pA T.sa (xs:=[a[na - 1]'(by lia)]) ?_ fun x hx' y hy=>?_
 ·have e:=U5 (a:=a) (i:=na - 1) (by lia);have e1:na - 1+1=na:=by lia
  rw [e1] at e;rw [<-e];exact h
 ·rw [Fd.mp hy];exact hx x hx'
theorem RP {na nb:Nat}(T:Two rk good a b)(h:MH rk a.toList b.toList out.toList.reverse (a.toList.take na) (b.toList.take nb))(h0:0<nb)(hi:nb<=b.size)(hx:∀ y∈a.toList.take na,rk y.1<rk (b[nb - 1]'(by omega)).1):MH rk a.toList b.toList (out.push (b[nb - 1]'(by omega))).toList.reverse (a.toList.take na) (b.toList.take (nb - 1)):=by
 rw [jM,List.reverse_append];refine MH.pB T.sb (xs:=[b[nb - 1]'(by lia)]) ?_ fun x hx' y hy=>?_
 ·have e:=U5 (a:=b) (i:=nb - 1) (by lia);have e1:nb - 1+1=nb:=by lia
  rw [e1] at e;rw [<-e];exact h
 ·rw [Fd.mp hy];exact hx x hx'
theorem FJ (out xs:Array BW):(out++xs.reverse).toList.reverse=xs.toList++out.toList.reverse:=by simp
theorem WR {na nb:Nat}(T:Two rk good a b)(h:MH rk a.toList b.toList out.toList.reverse (a.toList.take na) (b.toList.take nb))(hi:m<=na)(hx:Be rk (b.toList.take nb) (a.extract m na).toList):MH rk a.toList b.toList (out++(a.extract m na).reverse).toList.reverse (a.toList.take m) (b.toList.take nb):=by
 rw [FJ];refine MH.pA T.sa ?_ hx;rw [<-Xx a hi];exact h
theorem Xv {na nb:Nat}(T:Two rk good a b)(h:MH rk a.toList b.toList out.toList.reverse (a.toList.take na) (b.toList.take nb))(hi:m<=nb)(hx:Be rk (a.toList.take na) (b.extract m nb).toList):MH rk a.toList b.toList (out++(b.extract m nb).reverse).toList.reverse (a.toList.take na) (b.toList.take m):=by
 rw [FJ];refine MH.pB T.sb ?_ hx;rw [<-Xx b hi];exact h
theorem sO {na nb:Nat}(T:Two rk good a b)(h:MH rk a.toList b.toList out.toList.reverse (a.toList.take na) (b.toList.take nb))(e:na=0):Je rk a.toList b.toList (a.extract 0 na++b.extract 0 nb++out.reverse).toList:=by
 subst e;rw [Oq,Oq,uh,uh,List.take_zero,Rn,Array.toList_reverse];rw [List.take_zero] at h;exact h.fin T.sb
theorem j5 {na nb:Nat}(T:Two rk good a b)(hF:za rk a b)(hb:0<b.size)(h:MH rk a.toList b.toList out.toList.reverse (a.toList.take na) (b.toList.take nb))(e:nb=1):Je rk a.toList b.toList (b.extract 0 nb++a.extract 0 na++out.reverse).toList:=by
 rw [Oq,Oq,uh,uh,Array.toList_reverse];refine h.fin2 T.sa T.sb fun x hx y hy=>?_;obtain ⟨j,h1,h2,rfl⟩:=gq hx;have z:j=0:=by lia
 subst z;exact hF hb y<|T7 hy
theorem Io {α : Type}{na nb:Nat}[Decidable c]{E1 E2 E3:BW->StateT Bw Sem α}{Q:α->Bw->Prop}(T:Two rk good a b)(h:MH rk a.toList b.toList out.toList.reverse (a.toList.take na) (b.toList.take nb))(h1:0<na)(h2:1<nb)(h3:na<=a.size)(h4:nb<=b.size)
  (hx:∀ y∈b.toList.take nb,rk y.1<rk (a[na - 1]'(by omega)).1)
  (q1:∀ x,Je rk a.toList b.toList (a.extract 0 (na - 1)++b.extract 0 nb++(out.push x).reverse).toList->wpS (Am P w) A E s (E1 x) Q st)
  (q2:∀ x,HI rk a b (out.push x) (na - 1) nb->wpS (Am P w) A E s (E2 x) Q st) (q3:∀ x,HI rk a b (out.push x) (na - 1) nb->wpS (Am P w) A E s (E3 x) Q st) :
  wpS (Am P w) A E s (elem' a (na - 1) >>= fun x=>if (na - 1==0)=true then E1 x else if c then E2 x else E3 x) Q st:=by
 refine Bm<|cu (by lia) ?_
 have m:=Nf T h h1 h3 hx;by_cases e:na - 1=0
 ·exact NQ (by simpa using e)<|q1 _<|sO T m e
 ·refine Lr (by simpa using e) ?_;have li:HI rk a b (out.push (a[na - 1]'(by lia))) (na - 1) nb:=⟨m,by lia,h2,by lia,h4⟩
  exact g8 (q2 _ li)<|q3 _ li
theorem Ul (C:Jf P w A s kd rk good){α : Type}{na nb:Nat}{D1:BW->StateT Bw Sem α}{K:BW->BW->Option Nat->StateT Bw Sem α}{Q:α->Bw->Prop}(T:Two rk good a b)(hF:za rk a b)(h:MH rk a.toList b.toList out.toList.reverse (a.toList.take na) (b.toList.take nb))(h1:0<na)(h2:1<nb)(h3:na<=a.size)(h4:nb<=b.size)(hk:HY st=kd)
  (hx:∀ y∈a.toList.take na,rk y.1<rk (b[nb - 1]'(by omega)).1)
  (q1:∀ y,Je rk a.toList b.toList (b.extract 0 (nb - 1)++a.extract 0 na++(out.push y).reverse).toList->wpS (Am P w) A E s (D1 y) Q st)
  (q2:∀ x y m,1<nb - 1->0<m->m<=nb - 1->MH rk a.toList b.toList (out.push y++(b.extract m (nb - 1)).reverse).toList.reverse (a.toList.take na) (b.toList.take m)->(∀ z∈b.toList.take m,rk z.1<rk (a[na - 1]'(by omega)).1)->wpS (Am P w) A E s (K y x (Mk m)) Q st) :
  wpS (Am P w) A E s (elem' b (nb - 1) >>= fun y=>if (nb - 1==1)=true then D1 y else elem' a (na - 1) >>= fun x=>gal true x b 0 (nb - 1) (nb - 1 - 1) >>= K y x) Q st:=by
 refine Bm<|cu (by lia) ?_
 have m:=RP T h (by lia) h4 hx;by_cases c:nb - 1=1
 ·exact NQ (by simpa using c)<|q1 _<|j5 T hF (by lia) m c
 ·refine Lr (by simpa using c) ?_;have ha:na - 1<a.size:=by lia
  refine Bm<|cu ha ?_
  refine Bm<|Ay C hk T.gb (T.ga _<|bU ha) (by lia) (by lia) (fun i j h5 h6 h7=>?_) fun k k1 k2 k3=>?_
  ·rw [wA (by lia)] at h7 |-
   have:=T.sb.le (i:=0+i) (j:=0+j) (by lia) (by lia)
   simp at h7 this |-
   lia
  ·have kp:0<k:=by
    refine Ld fun z=>?_;have:=k3 0 (by lia) (by lia)
    rw [wA (by lia)] at this;have:=hF (by lia) _ (bU ha)
    simp at *;lia
   refine q2 _ _ k (by lia) kp k1 (Xv T m k1 fun x hx y hy=>?_) fun y hy=>?_
   ·obtain ⟨j,j1,j2,rfl⟩:=gq hx;obtain ⟨i,i1,i2,i3,rfl⟩:=cN (by lia) hy;have:=k3 i i1 (by lia)
    rw [wA (by lia)] at this;have:=T.sa.le (i:=j) (j:=na - 1) (by lia) ha
    have:=T.ne _ (bU ha) _ (bU i3)
    simp at *;lia
   ·obtain ⟨j,j1,j2,rfl⟩:=gq hy;have:=k2 j j1
    rw [wA (by lia)] at this
    simpa using this
theorem V0 (C:Jf P w A s kd rk good){α : Type}{na nb g:Nat}{K:BW->Option Nat->StateT Bw Sem α}{Q:α->Bw->Prop}(T:Two rk good a b)(li:HI rk a b out na nb)(hk:HY st=kd)
  (q:∀ y m st',gZ st st'->m<=na->MH rk a.toList b.toList (out++(a.extract m na).reverse).toList.reverse (a.toList.take m) (b.toList.take nb)->(∀ z∈a.toList.take m,rk z.1<rk (b[nb - 1]'(by have:=li.lb;have:=li.pb;omega)).1)->wpS (Am P w) A E s (K y (Mk m)) Q st') :
  wpS (Am P w) A E s (LK g >>= fun _=>elem' b (nb - 1) >>= fun y=>gal false y a 0 na (na - 1) >>= K y) Q st:=by
 obtain ⟨h,h1,h2,h3,h4⟩:=li;have hb:nb - 1<b.size:=by lia
 refine Bm<|tU fun st1 s1=>?_
 refine Bm<|cu hb ?_
 refine Bm<|Ay C (s1.2.1.trans hk) T.ga (T.gb _<|bU hb) (by lia) (by lia) (fun i j h5 h6 h7=>?_) fun k k1 k2 k3=>?_
 ·rw [wB (by lia)] at h7 |-
  have:=T.sa.le (i:=0+i) (j:=0+j) (by lia) (by lia)
  simp at h7 this |-
  lia
 ·refine q _ k st1 s1 k1 (WR T h k1 fun x hx y hy=>?_) fun y hy=>?_
  ·obtain ⟨j,j1,j2,rfl⟩:=gq hx;obtain ⟨i,i1,i2,i3,rfl⟩:=cN h3 hy;have:=k3 i i1 i2
   rw [wB (by lia)] at this;have:=T.sb.le (i:=j) (j:=nb - 1) (by lia) hb
   simp at *;lia
  ·obtain ⟨j,j1,j2,rfl⟩:=gq hy;have:=k2 j j1
   rw [wB (by lia)] at this;have:=T.ne _ (bU j2) _ (bU hb)
   simp at *;lia
theorem sE (out a:Array BW)(n:Nat):out++(a.extract n n).reverse=out:=by simp [Nat.min_le_left]
structure GoH (rk:Yk->Nat) (a b:Array BW) (st:Bw) (n:Nat) {β : Type} (c:Option (Array BW)×Nat×Nat×Array BW×β) (st':Bw):Prop where
 sm:gZ st st'
 e:c.1=YK
 li:HI rk a b c.2.2.2.1 c.2.1 c.2.2.1
 le:c.2.1+c.2.2.1+n<=a.size+b.size
theorem GoH.mk' {st':Bw}{n na nb:Nat}{β : Type}{c:β}(sm:gZ st st')(li:HI rk a b out na nb)(h:na+nb+n<=a.size+b.size):GoH rk a b st n (YK,na,nb,out,c) st':=⟨sm,rfl,li,h⟩
theorem nH1 {u v n y N:Nat}(p:0<u)(h:u+v+(1+n+y)<=N):u - 1+v+(1+n+(y+1))<=N:=by lia
theorem nH2 {u n y N:Nat}(h:u+(1+n+(y+1))<=N):u+(2+n)<=N:=by lia
theorem nH3 {u v N:Nat}(h:v<=N)(p:0<u)(g:u<=v):u - 1<N:=by lia
theorem XJ (C:Jf P w A s kd rk good){Q:Array BW->Bw->Prop}(T:Two rk good a b)(hL:Av rk a b)(hF:za rk a b)(ha:0<a.size)(hb:0<b.size)(hk:HY st=kd)
  (q:∀ r st',Je rk a.toList b.toList r.toList->gZ st st'->Q r st'):wpS (Am P w) A E s (mHi a b) Q st:=by
 have hl:a.size - 1<a.size:=Nat.sub_one_lt_of_lt ha;have m0:MH rk a.toList b.toList (#[a[a.size - 1]]:Array BW).toList.reverse (a.toList.take (a.size - 1)) (b.toList.take b.size):=
  Nf (out:=#[]) T ⟨[],[],by rw [Np,SJ (by simp)],by rw [Np,SJ (by simp)],.nil,.nil,fun _ _ _ h=>(nomatch h),fun _ _ _ h=>(nomatch h)⟩ ha (Bp _) fun y hy=>hL ha y (T7 hy)
 refine Bm<|wpS_lift<|LR ⟨rfl,Bm<|cu hl<|Jm (fun c1=>Bj<|q _ _ (sO T m0 c1)<|.refl _) fun c1=>Jm (fun c2=>Bj<|q _ _ (j5 T hF hb m0 c2)<|.refl _) fun c2=>Bm<|Nj<|Bm<|LC (Lj (I:=fun x=>GoH rk a b st<|1+x) (Q:=Dn rk a b st) (fun x c st' _ _ g=>?_) (fun c st' g=>?_)<|.mk' (.refl _) ⟨m0,Nat.pos_of_ne_zero c1,Mi hb<|Hf c2,Pq _ _,Bp _⟩ (by lia)) ?_⟩
 ·refine Bm<|LC (Lj (I:=fun y=>GoH rk a b st<|1+x+y) (Q:=fun c s=>Dn rk a b st c s\/GoH rk a b st (2+x) c s) (fun y c st2 _ _ g2=>?_) (fun c st2 g2=>.inr ⟨g2.sm,g2.e,g2.li,Cg (Nat.add_le_add_left ?_ _) g2.le⟩)<|.mk' g.sm g.li g.le) ?_
  ·have h1:=g2.li.pa;have h2:=g2.li.pb;have h3:=g2.li.la;have h4:=g2.li.lb;have h5:=g2.le;have hia:=nH3 h3 h1 (Bp _);have hib:=nH3 h4 (Nat.lt_of_succ_lt h2) (Bp _);refine Bm<|cu hib<|Bm<|cu hia<|Bm<|w_lt C (g2.sm.2.1.trans hk) (T.gb _<|bU hib) (T.ga _<|bU hia)<|ifD (fun cb=>Bm<|cu hia ?_) fun cb=>Bm<|cu hib ?_
   ·have m2:=Nf T g2.li.mh h1 h3 fun y hy=>by
     obtain ⟨j,j1,j2,rfl⟩:=gq hy;exact Mw (T.sb.le (Nat.le_sub_one_of_lt j1) hib) cb
    refine Jm (fun e=>Bj<|.inl<|.mk' g2.sm (sO T m2 e)) fun e=>?_;have li2:HI rk a b _ _ _:=⟨m2,Nat.pos_of_ne_zero e,h2,Lk hia,h4⟩
    have le:=nH1 h1 h5;exact g8 (Bj<|.inr<|.mk' g2.sm li2 (nH2 le))<|Bj<|.mk' g2.sm li2 le
   ·have m2:=RP T g2.li.mh (Nat.lt_of_succ_lt h2) h4 fun y hy=>by
     obtain ⟨j,j1,j2,rfl⟩:=gq hy;exact Mi (Cg (T.sa.le (Nat.le_sub_one_of_lt j1) hia)<|Nat.le_of_not_lt cb)<|T.ne _ (bU j2) _<|bU hib
    refine Jm (fun e=>Bj<|.inl<|.mk' g2.sm (j5 T hF hb m2 e)) fun e=>?_;have li2:HI rk a b _ _ _:=⟨m2,h1,Mi (Nat.le_sub_one_of_lt h2) (Hf e),h3,Lk hib⟩
    have le:=nH1 (Nat.lt_of_succ_lt h2) (Nat.add_comm c.2.1 _ ▸ h5);rw [Nat.add_comm (_ - 1)] at le;exact g8 (Bj<|.inr<|.mk' g2.sm li2 (nH2 le))<|Bj<|.mk' g2.sm li2 le
  ·lia
  ·rintro ⟨r,c⟩ st2 (⟨sm2,l,rfl,hr⟩ | g2)
   ·exact Bj<|.mk' sm2 hr
   ·cases g2.e
    refine Bm<|wpS_lift<|LR ⟨rfl,?_⟩
    refine Bm<|LC (Lj (I:=fun _=>GoH rk a b st<|2+x) (Q:=fun c s=>Dn rk a b st c s\/GoH rk a b st (2+x) c s) ?_ (fun _ _=>.inr)<|.mk' g2.sm g2.li g2.le) ?_
    ·rintro y ⟨_,na,nb,out,mg,ac,bc⟩ st3 _ _ g3;have sm3:=g3.sm;have li3:HI rk a b out na nb:=g3.li;have hp3:na+nb+(2+x)<=a.size+b.size:=g3.le;clear g3;revert mg
     refine Yo (fun g mg=>Kf (g mg)<|g<|mg - 1) ?_;intro g;refine V0 (out:=out) (na:=na) (nb:=nb) C T li3 (sm3.2.1.trans hk) fun y m st4 s4 lk m4 lo=>?_;have sm4:=sm3.trans s4;have hi (i j) (h:i<=na) (g:j<=nb - 1):i - 1+j+(2+x)<=a.size+b.size:=Cg (Nat.add_le_add_right (Nat.add_le_add (Cg (Pq _ _) h) (Cg g (Pq _ _))) _) hp3;refine Nb (fun k0=>?_) fun k0=>Jm (fun e1=>Bj<|.inl<|.mk' sm4 (sO T m4 e1)) fun e1=>?_
     ·obtain rfl:=Nat.le_antisymm lk (Nat.sub_eq_zero_iff_le.mp (S9 k0));rw [sE] at m4;have i1:=li3.pa;have i2:=Cg lk li3.la;refine Ul C T hF m4 i1 li3.pb i2 li3.lb (sm4.2.1.trans hk) lo (fun y h=>Bj<|.inl<|.mk' sm4 h) fun x' y' j j1 jp j2 m5 lo2=>?_;have j3:=Cg j2 (Cg (Pq _ _) li3.lb);refine Nb (fun j0=>?_) fun j0=>Jm (fun e2=>Bj<|.inl<|.mk' sm4 (j5 T hF hb m5 e2)) fun e2=>Jm (fun e=>absurd e<|IW jp) fun _=>Io T m5 i1 (Mi jp<|Hf e2) i2 j3 lo2 (fun x' h=>Bj<|.inl<|.mk' sm4 h) (fun x' h=>Bj<|.inr<|.mk' sm4 h (hi _ _ lk j2)) fun x' h=>Bj<|.mk' sm4 h (hi _ _ lk j2)
      obtain rfl:=Nat.le_antisymm j2 (Nat.sub_eq_zero_iff_le.mp (S9 j0));rw [sE] at m5;exact Io T m5 i1 j1 i2 j3 lo2 (fun x' h=>Bj<|.inl<|.mk' sm4 h) (fun x' h=>Bj<|.inr<|.mk' sm4 h (hi _ _ lk j2)) fun x' h=>Bj<|.mk' sm4 h (hi _ _ lk j2)
     ·have i1:=Nat.pos_of_ne_zero e1;have i2:=Cg lk li3.la;refine Ul C T hF m4 i1 li3.pb i2 li3.lb (sm4.2.1.trans hk) lo (fun y h=>Bj<|.inl<|.mk' sm4 h) fun x' y' j j1 jp j2 m5 lo2=>?_;have j3:=Cg j2 (Cg (Pq _ _) li3.lb);refine Nb (fun j0=>?_) fun j0=>Jm (fun e2=>Bj<|.inl<|.mk' sm4 (j5 T hF hb m5 e2)) fun e2=>Jm (fun e=>absurd e<|IW jp) fun _=>Io T m5 i1 (Mi jp<|Hf e2) i2 j3 lo2 (fun x' h=>Bj<|.inl<|.mk' sm4 h) (fun x' h=>Bj<|.inr<|.mk' sm4 h (hi _ _ lk j2)) fun x' h=>Bj<|.mk' sm4 h (hi _ _ lk j2)
      obtain rfl:=Nat.le_antisymm j2 (Nat.sub_eq_zero_iff_le.mp (S9 j0));rw [sE] at m5;exact Io T m5 i1 j1 i2 j3 lo2 (fun x' h=>Bj<|.inl<|.mk' sm4 h) (fun x' h=>Bj<|.inr<|.mk' sm4 h (hi _ _ lk j2)) fun x' h=>Bj<|.mk' sm4 h (hi _ _ lk j2)
    ·rintro ⟨r,c⟩ st3 (⟨sm3,l,rfl,hr⟩ | g3)
     ·exact Bj<|.mk' sm3 hr
     ·cases g3.e
      exact Bm<|tU fun st4 s4=>Bj<|.mk' (g3.sm.trans s4) g3.li (Cg (Nat.add_le_add_left (by lia) _) g3.le)
 ·have h1:=g.li.pa;have h2:=g.li.pb;have:=g.le
  lia
 ·rintro ⟨_,_⟩ st' ⟨sm,r,rfl,hr⟩;exact Bj<|q r st' hr sm
end
variable {na nb : Nat}
def mAt:Nat->StateT Bw Sem Bool:=sortPriv% PySem.Builtin.mergeAt
section
variable {P:Bs}{w:Bh}{A:Bx}{E:Yk->ZG->Prop}{s:ZG}{rk:Yk->Nat}
theorem abh {st2:Bw}{Q:PUnit->Bw->Prop}(h:Q ⟨⟩ st2):wpS (Am P w) A E s (set st2:StateT Bw Sem PUnit) Q st:=OJ (f:=fun _=>st2) h
theorem zX (s0:Nat):∀ (m:List BW) (j0:Nat) (arr:Array BW),s0+j0+m.length<=arr.size->((m.zipIdx j0).foldl (fun a (p:BW×Nat)=>a.setIfInBounds (s0+p.2) p.1) arr).toList=arr.toList.take (s0+j0)++m++arr.toList.drop (s0+j0+m.length)
 | [],j0,arr,h=>by simp
 | p::m,j0,arr,h=>by
  rw [Il] at h;rw [List.zipIdx_cons,List.foldl_cons,zX s0 m (j0+1) _ (by rw [Array.size_setIfInBounds];lia)];dsimp only;have e1:(arr.setIfInBounds (s0+j0) p).toList=arr.toList.set (s0+j0) p:=by simp
  have e2:s0+(j0+1)=s0+j0+1:=by lia
  rw [e1,e2,JC,List.getElem?_set_self (by simp;lia),List.take_set_of_le (Bp _),List.drop_set_of_lt (by lia)];have e3:s0+j0+1+m.length=s0+j0+(p::m).length:=by rw [Il];lia
  rw [e3];simp
theorem j7 {i j:Nat}(hj:j<=a.size)(h:bG rk a i j):SL rk (a.extract i j).toList:=by
 unfold SL;rw [Tt];intro p q hp hq hpq;have lp:(a.extract i j).toList.length=j - i:=by simp;lia
 have hq':q<j - i:=by rw [<-lp];exact hq
 have:=h (i+p) (i+q) (by lia) (by lia) (by lia)
 rw [fG (by lia),fG (by lia)] at this
 simpa using this
theorem aau {i j:Nat}{l1 l2 l:List BW}(e:a.toList=l1++l++l2)(e1:l1.length=i)(e2:l.length=j - i)(h:SL rk l):bG rk a i j:=by
 intro p q h1 h2 h3;have hl:∀ k (hk:k<l.length),Rk rk a (i+k)=rk (l[k]).1:=fun k hk=>by
  unfold Rk;have:a[i+k]?=Mk l[k]:=by
   rw [<-Qe,e,Mh,Nx (by lia),Nv (by lia)];have ek:i+k - l1.length=k:=by lia
   rw [ek,Gg hk]
  rw [this]
 have hp:=hl (p - i) (by lia);have hq:=hl (q - i) (by lia);have ep:i+(p - i)=p:=by lia
 have eq:i+(q - i)=q:=by lia
 rw [ep] at hp;rw [eq] at hq;rw [hp,hq];exact Tt.mp h _ _ (by lia) (by lia)<|by lia
theorem tu (a:Array BW){i j:Nat}(h:i<=j)(hj:j<=a.size):a.toList.drop i=(a.extract i j).toList++a.toList.drop j:=by
 have:=V2 a i (j - i) (by lia)
 have e:i+(j - i)=j:=by lia
 rw [e] at this;exact this
theorem kJ (a:Array BW){i j:Nat}(hj:j<=a.size):(a.extract i j).toList.length=j - i:=by simp;lia
structure Runs (rk:Yk->Nat) (a:Array BW) (sa k sb n' e:Nat):Prop where
 h1:sa+k<=sb
 h2:sb+n'<=e
 h3:e<=a.size
 r1:bG rk a sa sb
 r2:bG rk a sb e
 lo:∀ p,sa<=p->p<sa+k->Rk rk a p<Rk rk a sb
 hi:∀ p,sb+n'<=p->p<e->Rk rk a (sb - 1)<Rk rk a p
theorem bG.le {i j p q:Nat}(h:bG rk a i j)(h1:i<=p)(h2:p<=q)(h3:q<j):Rk rk a p<=Rk rk a q:=by
 rcases Nat.lt_or_ge p q with c | c
 ·exact Lk<|h p q h1 c h3
 ·have:p=q:=by lia
  subst this;exact Bp _
theorem zaX {α : Type}{t m1 m2 d:List α}(hl:m1.length=m2.length){q:Nat}(hq:q<t.length\/t.length+m1.length<=q):(t++m1++d)[q]?=(t++m2++d)[q]?:=by
 rcases hq with hq | hq
 ·rw [Mh,Mh,Nv hq,Nv hq]
 ·rw [Nx (by rw [HB];exact hq),Nx (by rw [HB,<-hl];exact hq),HB,HB,hl]
theorem zao {W:Array BW}{sa k sb n' e:Nat}{m:List BW}(R:Runs rk a sa k sb n' e)(hx:sa+k<sb)(M:Je rk (a.extract (sa+k) sb).toList (a.extract sb (sb+n')).toList m)(eW:W.toList=a.toList.take (sa+k)++m++a.toList.drop (sb+n')):Within a W sa e/\bG rk W sa e:=by
 obtain ⟨h1,h2,h3,r1,r2,lo,hi⟩:=R;have ea:a.toList=a.toList.take (sa+k)++((a.extract (sa+k) sb).toList++(a.extract sb (sb+n')).toList)++a.toList.drop (sb+n'):=by
  rw [Mh,Mh,<-tu a (by lia) (by lia),<-tu a h1 (by lia),UL]
 have lm:m.length=((a.extract (sa+k) sb).toList++(a.extract sb (sb+n')).toList).length:=M.1.length_eq;have lt:(a.toList.take (sa+k)).length=sa+k:=by rw [JV];simp;lia
 have lx:((a.extract (sa+k) sb).toList++(a.extract sb (sb+n')).toList).length=sb+n' - (sa+k):=by rw [HB,kJ a (by lia),kJ a (by lia)];lia
 refine ⟨⟨?_,fun q hq=>?_⟩,?_⟩
 ·rw [Array.perm_iff_toList_perm,eW];conv=>rhs;rw [ea]
  exact ((M.1.append_left _).append_right _)
 ·rw [<-Qe,<-Qe,eW];conv=>rhs;rw [ea]
  exact zaX lm (by rw [lt,lm,lx];lia)
 ·have et:a.toList.take (sa+k)=a.toList.take sa++(a.extract sa (sa+k)).toList:=Xx a (by lia);have ed:a.toList.drop (sb+n')=(a.extract (sb+n') e).toList++a.toList.drop e:=tu a h2 h3;have em:∀ z∈m,(∃ p,sa+k<=p/\p<sb/\rk z.1=Rk rk a p)\/∃ p,sb<=p/\p<sb+n'/\rk z.1=Rk rk a p:=fun z hz=>by
   rcases Jr.mp (M.1.mem_iff.mp hz) with hz | hz
   ·obtain ⟨p,p1,p2,p3,rfl⟩:=cN (by lia) hz;exact .inl ⟨p,p1,p2,(fG p3).symm⟩
   ·obtain ⟨p,p1,p2,p3,rfl⟩:=cN (by lia) hz;exact .inr ⟨p,p1,p2,(fG p3).symm⟩
  have ep:∀ z∈(a.extract sa (sa+k)).toList,∃ p,sa<=p/\p<sa+k/\rk z.1=Rk rk a p:=fun z hz=>by
   obtain ⟨p,p1,p2,p3,rfl⟩:=cN (by lia) hz;exact ⟨p,p1,p2,(fG p3).symm⟩
  have eq:∀ z∈(a.extract (sb+n') e).toList,∃ p,sb+n'<=p/\p<e/\rk z.1=Rk rk a p:=fun z hz=>by
   obtain ⟨p,p1,p2,p3,rfl⟩:=cN h3 hz;exact ⟨p,p1,p2,(fG p3).symm⟩
  have sp:SL rk (a.extract sa (sa+k)).toList:=j7 (by lia) fun p q q1 q2 q3=>r1 p q q1 q2 (by lia)
  have sq:SL rk (a.extract (sb+n') e).toList:=j7 h3 fun p q q1 q2 q3=>r2 p q (by lia) q2 q3
  refine aau (l1:=a.toList.take sa) (l:=(a.extract sa<|sa+k).toList++m++(a.extract (sb+n') e).toList) (l2:=a.toList.drop e) (by rw [eW,et,ed];simp only [Mh]) (by rw [JV];simp;lia) ?_ ?_
  ·rw [HB,HB,lm,lx,kJ a (by lia),kJ a h3];lia
  ·unfold SL at *;rw [Mz,Mz];refine ⟨⟨sp,M.2,fun u hu v hv=>?_⟩,sq,fun u hu v hv=>?_⟩
   ·obtain ⟨p,p1,p2,e1⟩:=ep u hu;rw [e1];have l1:=lo p p1 p2;rcases em v hv with ⟨q,q1,q2,e2⟩ | ⟨q,q1,q2,e2⟩ <;> rw [e2]
    ·exact r1 p q p1 (by lia) q2
    ·exact Ep l1<|r2.le (Bp _) q1<|by lia
   ·obtain ⟨q,q1,q2,e2⟩:=eq v hv;rw [e2];rcases Jr.mp hu with hu | hu
    ·obtain ⟨p,p1,p2,e1⟩:=ep u hu;rw [e1];exact Ep (lo p p1 p2)<|r2.le (Bp _) (by lia) q2
    ·rcases em u hu with ⟨p,p1,p2,e1⟩ | ⟨p,p1,p2,e1⟩ <;> rw [e1]
     ·exact Mw (r1.le (by lia) (by lia)<|by lia)<|hi q q1 q2
     ·exact r2 p q p1 (by lia) q2
theorem Xk (C:Jf P w A s kd rk good){i:Nat}{Q:Bool->Bw->Prop}{sa p sb p2:Nat}(ok:Jt kd rk good st)(e1:(Gf st)[i]?=Mk (sa,na,p))(e2:(Gf st)[i+1]?=Mk (sb,nb,p2))(hb:sb=sa+na)(h1:0<na)(h2:0<nb)(hz:sb+nb<=(BR st).size)(r1:bG rk (BR st) sa sb)(r2:bG rk (BR st) sb (sb+nb))
  (q:∀ st',Jt kd rk good st'->Within (BR st) (BR st') sa (sb+nb)->bG rk (BR st') sa (sb+nb)->Gf st'=((Gf st).setIfInBounds i (sa,na+nb,p)).eraseIdxIfInBounds (i+1)->Q true st'):wpS (Am P w) A E s (mAt i) Q st:=by
 refine Bm<|Nj ?_
 simp only [e1,e2];refine Bm<|abh ?_
 have hsb:sb<(BR st).size:=by lia
 have gd:∀ x∈(BR st).toList,good x.1:=ok.keys.good
 refine Bm<|cu (a:=BR st) hsb ?_
 refine Bm<|Ay (a:=BR st) C ok.kind gd (gd _<|bU hsb) (by lia) (by lia) (fun x y h5 h6 h7=>?_) fun k k1 k2 k3=>?_
 ·unfold Er at h7 |-
  have:=r1.le (p:=sa+x) (q:=sa+y) (by lia) (by lia) (by lia)
  simp at h7 |-
  lia
 have key:rk (BR st)[sb].1=Rk rk (BR st) sb:=(fG hsb).symm;have lo:∀ p,sa<=p->p<sa+k->Rk rk (BR st) p<Rk rk (BR st) sb:=fun p p1 p3=>by
  have:=k2 (p - sa) (by lia)
  have ep:sa+(p - sa)=p:=by lia
  unfold Er at this;rw [ep,key] at this;have ne:Rk rk (BR st) p≠Rk rk (BR st) sb:=fun z=>by have:=ok.keys.ne (by lia) hsb z;lia
  simp at this;lia
 have up:∀ p,sa+k<=p->p<sb->Rk rk (BR st) sb<Rk rk (BR st) p:=fun p p1 p3=>by
  have:=k3 (p - sa) (by lia) (by lia)
  have ep:sa+(p - sa)=p:=by lia
  unfold Er at this;rw [ep,key] at this
  simpa using this
 by_cases c:na - k=0
 ·refine NQ (by simpa using c)<|Bj<|q _ ⟨ok.kind,ok.failed,ok.keys⟩ (Within.refl _ _ _) (fun p q p1 p3 p4=>?_) rfl
  show Rk rk (BR st) p<Rk rk (BR st) q;by_cases c1:q<sb
  ·exact r1 p q p1 p3 c1
  ·by_cases c2:sb<=p
   ·exact r2 p q c2 p3 p4
   ·exact Ep (lo p p1<|by lia)<|r2.le (Bp _) (by lia) p4
 refine Lr (by simpa using c) ?_;have hl:sa+k+(na - k) - 1<(BR st).size:=by lia
 have el:sa+k+(na - k) - 1=sb - 1:=by lia
 refine Bm<|cu (a:=BR st) hl ?_
 have key2:rk ((BR st)[sa+k+(na - k) - 1]'hl).1=Rk rk (BR st) (sb - 1):=by rw [<-fG (rk:=rk) hl,el]
 refine Bm<|Ay (a:=BR st) C ok.kind gd (gd _<|bU hl) (by lia) (by lia) (fun x y h5 h6 h7=>?_) fun n' n1 n2 n3=>?_
 ·unfold Er at h7 |-
  have:=r2.le (p:=sb+x) (q:=sb+y) (by lia) (by lia) (by lia)
  simp at h7 |-
  lia
 have be:∀ p,sb<=p->p<sb+n'->Rk rk (BR st) p<Rk rk (BR st) (sb - 1):=fun p p1 p3=>by
  have:=n2 (p - sb) (by lia)
  have ep:sb+(p - sb)=p:=by lia
  unfold Er at this;rw [ep,key2] at this
  simpa using this
 have hi:∀ p,sb+n'<=p->p<sb+nb->Rk rk (BR st) (sb - 1)<Rk rk (BR st) p:=fun p p1 p3=>by
  have:=n3 (p - sb) (by lia) (by lia)
  have ep:sb+(p - sb)=p:=by lia
  unfold Er at this;rw [ep,key2] at this;have ne:Rk rk (BR st) p≠Rk rk (BR st) (sb - 1):=fun z=>by have:=ok.keys.ne (by lia) (by lia) z;lia
  simp at this;lia
 have np:0<n':=by
  refine Ld fun z=>?_;have:=hi sb (by lia) (by lia)
  have:=up (sb - 1) (by lia) (by lia)
  lia
 refine Lr (by simp;lia) ?_;have zx:((BR st).extract (sa+k) sb).size=sb - (sa+k):=by simp;lia
 have zy:((BR st).extract sb (sb+n')).size=n':=by simp;lia
 have T:Two rk good ((BR st).extract (sa+k) sb) ((BR st).extract sb (sb+n')):=⟨j7 (by lia) fun p q p1 p3 p4=>r1 p q (by lia) p3 p4,j7 (by lia) fun p q p1 p3 p4=>r2 p q p1 p3 (by lia),fun x hx=>by
   obtain ⟨p,_,_,p3,rfl⟩:=cN (by lia) hx;exact gd _<|bU p3,fun x hx=>by
   obtain ⟨p,_,_,p3,rfl⟩:=cN (by lia) hx;exact gd _<|bU p3,fun x hx y hy e=>by
   obtain ⟨p,p1,p3,p4,rfl⟩:=cN (by lia) hx;obtain ⟨q,q1,q3,q4,rfl⟩:=cN (by lia) hy;rw [<-fG (rk:=rk) p4,<-fG (rk:=rk) q4] at e;have:=ok.keys.ne p4 q4 e
   lia⟩
 have hL:Av rk ((BR st).extract (sa+k) sb) ((BR st).extract sb (sb+n')):=fun h z hz=>by
  obtain ⟨p,p1,p3,p4,rfl⟩:=cN (by lia) hz;have:=be p p1 p3
  rw [fG p4,fG (by lia)] at this;have ex:sa+k+(((BR st).extract (sa+k) sb).size - 1)=sb - 1:=by lia
  simpa only [Array.getElem_extract,ex] using this
 have hF:za rk ((BR st).extract (sa+k) sb) ((BR st).extract sb (sb+n')):=fun h z hz=>by
  obtain ⟨p,p1,p3,p4,rfl⟩:=cN (by lia) hz;have:=up p p1 p3
  rw [fG p4,fG hsb] at this
  simpa only [Array.getElem_extract,Nat.add_zero] using this
 have fin:∀ (m:Array BW) (st2:Bw),Je rk ((BR st).extract (sa+k) sb).toList ((BR st).extract sb (sb+n')).toList m.toList->BR st2=BR st->Within (BR st) (m.toList.zipIdx.foldl (fun a (p:BW×Nat)=>a.setIfInBounds (sa+k+p.2) p.1) (BR st2)) sa (sb+nb)/\bG rk (m.toList.zipIdx.foldl (fun a (p:BW×Nat)=>a.setIfInBounds (sa+k+p.2) p.1) (BR st2)) sa (sb+nb):=fun m st2 M ea=>by
  have lm:m.toList.length=sb+n' - (sa+k):=by rw [M.1.length_eq,HB,kJ _ (by lia),kJ _ (by lia)];lia
  rw [ea];refine zao ⟨by lia,by lia,hz,r1,r2,lo,hi⟩ (by lia) M ?_;rw [zX (sa+k) m.toList 0 (BR st) (by lia),Nat.add_zero];have e:sa+k+m.toList.length=sb+n':=by lia
  rw [e]
 have hx0:0<((BR st).extract (sa+k) sb).size:=by lia
 have hy0:0<((BR st).extract sb (sb+n')).size:=by lia
 refine g8 (Bm<|Wz C T hL hx0 hy0 (hF hy0 _<|bU hx0) ok.kind fun m st2 M sm=>?_)<|Bm<|XJ C T hL hF hx0 hy0 ok.kind fun m st2 M sm=>?_
 all_goals
  obtain ⟨f1,f2⟩:=fin m st2 M sm.1;have fl:failedOf st2=YK:=sm.2.2.1.trans ok.failed;refine Bm<|OJ<|Bm<|Nj<|Bj ?_
  show Q (failedOf st2).isNone _;rw [fl];exact q _ ⟨sm.2.1.trans ok.kind,fl,ok.keys.perm f1.perm⟩ f1 f2 sm.2.2.2
def Cont (rk:Yk->Nat)(a:Array BW):List (Nat×Nat×Nat)->Nat->Nat->Prop
 | [],i,j=>i=j
 | (s,n,_)::r,i,j=>s=i/\0<n/\bG rk a i (i+n)/\Cont rk a r (i+n) j
theorem sJ {a:Array BW}:∀ {ps:List (Nat×Nat×Nat)} {i j:Nat},Cont rk a ps i j->i+ps.length<=j
 | [],i,j,h=>by have h:i=j:=h;simp;lia
 | (s,n,p)::r,i,j,h=>by
  obtain ⟨_,h1,_,h2⟩:=h;have:=sJ h2
  simp;lia
theorem j4 {a:Array BW}:∀ {ps qs:List (Nat×Nat×Nat)} {i j:Nat},Cont rk a (ps++qs) i j↔∃ k,Cont rk a ps i k/\Cont rk a qs k j
 | [],qs,i,j=>⟨fun h=>⟨i,rfl,h⟩,fun ⟨k,e,h⟩=>by have e:i=k:=e;rw [e];exact h⟩
 | (s,n,p)::r,qs,i,j=>by
  constructor
  ·rintro ⟨h1,h2,h3,h4⟩;obtain ⟨k,a1,a2⟩:=j4.mp h4;exact ⟨k,⟨h1,h2,h3,a1⟩,a2⟩
  ·rintro ⟨k,⟨h1,h2,h3,h4⟩,h5⟩;exact ⟨h1,h2,h3,j4.mpr ⟨k,h4,h5⟩⟩
theorem pP {i j:Nat}(W:Within a b lo hi)(h:bG rk a i j)(o:j<=lo\/hi<=i):bG rk b i j:=fun p q h1 h2 h3=>by
 rw [yd (W.out p (by lia)),yd (W.out q (by lia))];exact h p q h1 h2 h3
theorem d9 {a b:Array BW}{lo hi:Nat}(W:Within a b lo hi):∀ {ps:List (Nat×Nat×Nat)} {i j:Nat},Cont rk a ps i j->(j<=lo\/hi<=i)->Cont rk b ps i j
 | [],i,j,h,_=>h
 | (s,n,p)::r,i,j,⟨h1,h2,h3,h4⟩,o=>⟨h1,h2,pP W h3 (by have:=sJ h4;lia),d9 W h4 (by lia)⟩
theorem sS {a:Array BW}{f:Nat×Nat×Nat->Nat×Nat×Nat}(hf:∀ x,(f x).1=x.1/\(f x).2.1=x.2.1):∀ {ps:List (Nat×Nat×Nat)} {k i j:Nat},Cont rk a ps i j->Cont rk a (ps.modify k f) i j
 | [],k,i,j,h=>by simpa using h
 | (s,n,p)::r,0,i,j,⟨h1,h2,h3,h4⟩=>by
  obtain ⟨e1,e2⟩:=hf (s,n,p);have e:f (s,n,p)=(s,n,(f (s,n,p)).2.2):=by
   rw [Prod.ext_iff,Prod.ext_iff];exact ⟨e1,e2,rfl⟩
  show Cont rk a (f (s,n,p)::r) i j;rw [e];exact ⟨h1,h2,h3,h4⟩
 | (s,n,p)::r,k+1,i,j,⟨h1,h2,h3,h4⟩=>⟨h1,h2,h3,sS hf h4⟩
theorem acE {α : Type}{l:List α}{i:Nat}(h:i+1<l.length):l=l.take i++l[i]::l[i+1]::l.drop (i+2):=by
 rw [<-RQ h,<-RQ (by lia),UL]
structure JI (kd:QW) (rk:Yk->Nat) (good:Yk->Prop) (a0:Array BW) (lo:Nat) (st:Bw):Prop where
 ok:Jt kd rk good st
 perm:(BR st).Perm a0
 cont:Cont rk (BR st) (Gf st).toList 0 lo
theorem yH (C:Jf P w A s kd rk good){i:Nat}{a0:Array BW}{Q:Bool->Bw->Prop}(J:JI kd rk good a0 lo st)(hl:lo<=a0.size)(hi:i+1<(Gf st).size)
  (q:∀ st',JI kd rk good a0 lo st'->Within (BR st) (BR st') 0 lo->(Gf st').size+1=(Gf st).size->Q true st'):wpS (Am P w) A E s (mAt i) Q st:=by
 obtain ⟨ok,pm,ct⟩:=J;have hi':i+1<(Gf st).toList.length:=by simpa using hi
 have es:=acE hi';obtain ⟨sa,na,p,hx⟩:∃ sa na p,(Gf st).toList[i]=(sa,na,p):=⟨_,_,_,rfl⟩
 obtain ⟨sb,nb,p2,hy⟩:∃ sb nb p2,(Gf st).toList[i+1]=(sb,nb,p2):=⟨_,_,_,rfl⟩
 rw [hx,hy] at es;have ct2:=ct;rw [es] at ct2;obtain ⟨k,c1,e1,n1,r1,e2,n2,r2,c2⟩:=j4.mp ct2;subst e1 e2;have hz:=sJ c2;have hs:=pm.size_eq;refine Xk C ok (sa:=sa) (na:=na) (p:=p) (sb:=sa+na) (nb:=nb) (p2:=p2) ?_ ?_ rfl n1 n2 (by lia) r1 r2 fun st' ok' W R e=>?_
 ·rw [<-Qe,Gg (by lia),hx]
 ·rw [<-Qe,Gg hi',hy]
 have lt:((Gf st).toList.take i).length=i:=by rw [JV];lia
 have el:(Gf st').toList=(Gf st).toList.take i++(sa,na+nb,p)::(Gf st).toList.drop (i+2):=by
  rw [e,Array.toList_eraseIdxIfInBounds,Array.toList_setIfInBounds];conv=>lhs;rw [es]
  rw [List.set_append_right _ _ (by lia),lt,Nat.sub_self,List.set_cons_zero,List.eraseIdx_append_of_length_le (by lia),lt];have:i+1 - i=1:=by lia
  rw [this];rfl
 refine q st' ⟨ok',W.perm.trans pm,?_⟩ (W.wide (IK _)<|by lia) ?_
 ·rw [el];refine j4.mpr ⟨sa,d9 W c1<|.inl<|Bp _,rfl,by lia,?_,?_⟩
  ·rw [<-Nat.add_assoc];exact R
  ·rw [<-Nat.add_assoc];exact d9 W c2 (.inr (Bp _))
 ·have l1:=congrArg Rg el;have l2:=congrArg Rg es;simp only [HB,Il,RT] at l1 l2;lia
theorem abf [Decidable c](i:Nat):(if c then i - 1 else i)<=i:=by split <;> lia
theorem lH {pd:Array (Nat×Nat×Nat)}(ok:Jt kd rk good st):Jt kd rk good (setPending st pd):=⟨ok.kind,ok.failed,ok.keys⟩
theorem Vk (C:Jf P w A s kd rk good){Q:Unit->Bw->Prop}(ok:Jt kd rk good st)(hp:Gf st = #[])(h2:2<=(BR st).size)
  (q:∀ st',(BR st').Perm (BR st)->failedOf st'=YK->bG rk (BR st') 0 (BR st).size->Q () st'):wpS (Am P w) A E s sortRuns' Q st:=by
 rw [sortRuns'_eq];refine Bm<|Nj ?_
 dsimp only;obtain ⟨a0,ea0⟩:∃ a0,BR st=a0:=⟨_,rfl⟩
 have J0:JI kd rk good a0 0 st:=⟨ok,by rw [ea0],by rw [hp];rfl⟩
 rw [ea0] at h2 q |-
 generalize hn:a0.size=N at *;generalize hmr:minRun' N N 0=mr at *;refine Bm (LC (Lj
  (I:=fun x c st'=>∃ lo,c=(YK,lo)/\JI kd rk good a0 lo st'/\lo<=N/\x<=lo)
  (Q:=fun c st'=>c=(YK,N)/\JI kd rk good a0 N st') ?_ ?_ ⟨0,rfl,J0,IK _,Bp _⟩) ?_)
 ·rintro x c st' _ hx ⟨lo,rfl,J,hlo,hxl⟩;dsimp only;by_cases c0:lo>=N
  ·have e:lo=N:=by lia
   subst e;exact NQ c0<|Bj ⟨rfl,J⟩
  refine Lr c0 ?_;have hsz:(BR st').size=N:=by rw [J.perm.size_eq,hn]
  refine Bm<|w_count C J.ok (by lia) (by lia) fun n b n1 n2 hw hr _=>?_
  dsimp only;have ok2:Jt kd rk good (Ht st' b):=J.ok.arr hw.perm;have fin:∀ (m:Nat) (st2:Bw),Jt kd rk good st2->(BR st2).Perm a0->Cont rk (BR st2) (Gf st2).toList 0 lo->bG rk (BR st2) lo (lo+m)->0<m->lo+m<=N->JI kd rk good a0 (lo+m) (setPending st2 ((Gf st2).push (lo,m,0))):=fun m st2 o2 p2 c2 r2 m0 m1=>by
   refine ⟨lH o2,p2,?_⟩;show Cont rk (BR st2) ((Gf st2).push (lo,m,0)).toList 0 (lo+m);rw [Array.toList_push];exact j4.mpr ⟨lo,c2,rfl,m0,r2,rfl⟩
  have back:∀ (m pw:Nat) (st2:Bw),JI kd rk good a0 lo st2->bG rk (BR st2) lo (lo+m)->0<m->lo+m<=N->wpS (Am P w) A E s (forIn [0:N] ((YK:Option Unit),()) fun _ _=>do
     let p:=Gf (<-get)
     match (if p.size>1 then p[p.size - 2]? else YK) with
     | some (_,_,older)=>if older<=pw then pure (ForInStep.done ((YK:Option Unit),())) else do
       let r <-mAt (p.size - 2)
       if (!r)=true then pure (ForInStep.done (Mk (),())) else pure (ForInStep.yield ((YK:Option Unit),()))
     | x=>pure (ForInStep.done ((YK:Option Unit),())))
    (fun c st3=>c=(YK,())/\JI kd rk good a0 lo st3/\bG rk (BR st3) lo (lo+m)) st2:=fun m pw st2 J2 R2 m0 m1=>by
   refine Lj (I:=fun _ c st3=>c=(YK,())/\JI kd rk good a0 lo st3/\bG rk (BR st3) lo (lo+m)) ?_ (fun c st3 h=>h) ⟨rfl,J2,R2⟩;rintro y c st3 _ hy ⟨rfl,J3,R3⟩;refine Bm<|Nj ?_
   dsimp only;by_cases hs:(Gf st3).size>1
   ·rw [if_pos hs];obtain ⟨a1,a2,a3,ex⟩:∃ a1 a2 a3,(Gf st3)[(Gf st3).size - 2]?=Mk (a1,a2,a3):=⟨_,_,_,Qh (by lia)⟩
    rw [ex];dsimp only;by_cases c3:a3<=pw
    ·exact NQ c3<|Bj ⟨rfl,J3,R3⟩
    ·refine Lr c3<|Bm<|yH C J3 (by lia) (by lia) fun st4 J4 W4 _=>?_
     exact Lr (by simp)<|Bj ⟨rfl,J4,pP W4 R3<|.inr<|Bp _⟩
   ·rw [if_neg hs];exact Bj ⟨rfl,J3,R3⟩
  by_cases c:n<mr
  ·refine NQ c<|Bm<|wpS_lift<|LR ⟨rfl,?_⟩
   refine Bm<|aeE C ok2 n1 (show n<=min (N - lo) mr by lia) (by show lo+min (N - lo) mr<=b.size;rw [hw.size];lia) hr fun b2 hw2 hr2=>?_
   refine Lr (by simp) ?_;have W:Within (BR st') b2 lo (lo+(N - lo)):=hw.trans (hw2.wide (Bp _) (by lia));have J2:JI kd rk good a0 lo (Ht (Ht st' b) b2):=⟨ok2.arr hw2.perm,W.perm.trans J.perm,d9 W J.cont (.inl (Bp _))⟩
   refine Bm<|Nj ?_
   cases hbk:(Gf (Ht (Ht st' b) b2)).back? with
   | none=>exact Bm (OJ (Bj ⟨_,rfl,fin (min (N - lo) mr) _ J2.ok J2.perm J2.cont hr2 (by lia) (by lia),by lia,by lia⟩))
   | some t=>
    obtain ⟨s1,l1,p1⟩:=t;dsimp only;refine Bm<|LC (back (min (N - lo) mr) _ _ J2 hr2 (by lia)<|by lia) ?_
    rintro c st3 ⟨rfl,J3,R3⟩;dsimp only;refine Bm<|OJ<|Bm<|OJ<|Bj ⟨_,rfl,fin (min (N - lo) mr) (setPending st3 _) (lH J3.ok) J3.perm ?_ R3 (by lia)<|by lia,by lia,by lia⟩
    show Cont rk (BR st3) ((Gf st3).modify _ _).toList 0 lo;rw [Array.toList_modify];refine @sS rk (BR st3) _ ?_ _ _ _ _ J3.cont;exact fun _=>⟨rfl,rfl⟩
  ·refine Lr c ?_;have J2:JI kd rk good a0 lo (Ht st' b):=⟨ok2,hw.perm.trans J.perm,d9 hw J.cont (.inl (Bp _))⟩
   refine Bm<|Nj ?_
   cases hbk:(Gf (Ht st' b)).back? with
   | none=>exact Bm (OJ (Bj ⟨_,rfl,fin n _ J2.ok J2.perm J2.cont hr (by lia) (by lia),by lia,by lia⟩))
   | some t=>
    obtain ⟨s1,l1,p1⟩:=t;dsimp only;refine Bm<|LC (back n _ _ J2 hr (by lia)<|by lia) ?_
    rintro c st3 ⟨rfl,J3,R3⟩;dsimp only;refine Bm<|OJ<|Bm<|OJ<|Bj ⟨_,rfl,fin n (setPending st3 _) (lH J3.ok) J3.perm ?_ R3 (by lia)<|by lia,by lia,by lia⟩
    show Cont rk (BR st3) ((Gf st3).modify _ _).toList 0 lo;rw [Array.toList_modify];refine @sS rk (BR st3) _ ?_ _ _ _ _ J3.cont;exact fun _=>⟨rfl,rfl⟩
 ·rintro c st' ⟨lo,rfl,J,hlo,hxl⟩;have e:lo=N:=by lia
  subst e;exact ⟨rfl,J⟩
 ·rintro c st' ⟨rfl,J⟩;dsimp only;refine Bm (LC (Lj
   (I:=fun x c st2=>c=(YK,())/\JI kd rk good a0 N st2/\(Gf st2).size+x<=N) (Q:=fun c st2=>c=(YK,())/\JI kd rk good a0 N st2/\(Gf st2).size<=1) ?_ ?_ ⟨rfl,J,?_⟩) ?_)
  ·rintro x c st2 _ hx ⟨rfl,J2,hl⟩;refine Bm<|Nj ?_
   by_cases c1:(Gf st2).size<=1
   ·exact NQ c1<|Bj ⟨rfl,J2,c1⟩
   ·refine Lr c1<|Bm<|yH C J2 (by lia) ?_ fun st4 J4 _ e4=>Lr (by simp)<|Bj ⟨rfl,J4,by lia⟩
    exact Mw (Nat.add_le_add_right (abf _) 1)<|by lia
  ·rintro c st2 ⟨rfl,J2,hl⟩;exact ⟨rfl,J2,by lia⟩
  ·have:=sJ J.cont
   simp at this;lia
  ·rintro c st2 ⟨rfl,J2,hl⟩;refine Bj<|q _ J2.perm J2.ok.failed ?_
   have ct:=J2.cont;match hl2:(Gf st2).toList,ct with
   | [],ct=>
    have ct:0=N:=ct;lia
   | [(s1,l1,p1)],⟨_,_,r,e⟩=>
    have e:0+l1=N:=e;rw [e] at r;exact r
   | _::_::_,_=>
    have:=congrArg Rg hl2
    simp at this;lia
end
def Jl:List Int->List Int->Option Bool
 | a::k,b::l=>if a=b then Jl k l else Mk (decide (a<b))
 | _,_=>YK
theorem Gq:∀ k l:List Int,(match Jl k l with | some r=>r | none=>decide (k.length<l.length))=decide (k<l)
 | [],[]=>by simp [Jl]
 | [],b::l=>by simp [Jl]
 | a::k,[]=>by simp [Jl]
 | a::k,b::l=>by
  unfold Jl;by_cases e:a=b
  ·subst e;rw [if_pos rfl];have:=Gq k l
   simp only [Il,Nat.add_lt_add_iff_right];rw [this];exact decide_eq_decide.mpr (by rw [Mg];simp [Int.lt_irrefl])
  ·rw [if_neg e];exact decide_eq_decide.mpr (by rw [Mg];simp [e])
section
variable {P:Bs}{w:Bh}{A:Bx}{E:Yk->ZG->Prop}{s:ZG}
def vq (h:Heap)(v:Yk)(k:List Int):Prop:=∃ a o its n,v=.ref a/\h.get? a=Mk o/\o.cls=.type "tuple"/\o.data=.seq its n/\Az (k.map V.int) its.toList
theorem zaQ {a b:Int}{t u:Tok}{Q:Bool->ZG->Prop}(h:Q (decide (a<b)) s):Al (Am P w) A (oneLt' false (.int a t) (.int b u)) Q E s:=by
 rw [oneLt'_eq];simp only [Ny,if_false];exact Zi<|wpAny_richCompare_same (typeIs_int s a t) (typeIs_int s b u) slot_int_lt<|call_int_lt ⟨by simp,RM h⟩
theorem Dv {f:(Yk×Yk)×Nat->Option Bool×Unit->Sem (ForInStep (Option Bool×Unit))}
  (hf:∀ (a b:Int) (t u:Tok) (i:Nat) (R:ForInStep (Option Bool×Unit)->ZG->Prop),R (if a=b then .yield (YK,()) else .done (Mk (decide (a<b)),())) s->Al (Am P w) A (f ((.int a t,.int b u),i) (YK,())) R E s) :
  ∀ {k l:List Int} {ps qs:List Yk} {j:Nat},Az (k.map V.int) ps->Az (l.map V.int) qs->∀ {R:Option Bool×Unit->ZG->Prop},R (Jl k l,()) s->Al (Am P w) A (forIn ((ps.zip qs).zipIdx j) (YK,()) f) R E s
 | [],l,ps,qs,j,hp,hq,R,q=>by
  cases hp;rw [List.zip_nil_left,List.zipIdx_nil,Qp];exact BP q
 | a::k,[],ps,qs,j,hp,hq,R,q=>by
  cases hq;rw [List.zip_nil_right,List.zipIdx_nil,Qp];exact BP q
 | a::k,b::l,ps,qs,j,hp,hq,R,q=>by
  cases hp with
  | cons r1 hp=>
   cases hq with
   | cons r2 hq=>
    obtain ⟨t,rfl⟩:=r1;obtain ⟨u,rfl⟩:=r2;rw [List.zip_cons_cons,List.zipIdx_cons,RJ];refine Zi<|hf a b t u j _ ?_
    unfold Jl at q;by_cases e:a=b
    ·rw [if_pos e] at q |-
     exact Dv hf hp hq q
    ·rw [if_neg e] at q |-
     exact BP q
theorem afm {fo:Bool}{x y:Yk}{k l:List Int}{Q:Bool->ZG->Prop}(hx:vq s.heap x k)(hy:vq s.heap y l)(q:Q (decide (k<l)) s):Al (Am P w) A (keyLt' (tuples' fo) x y) Q E s:=by
 obtain ⟨a,o,its,n,rfl,ga,_,da,va⟩:=hx;obtain ⟨b,u,jts,m,rfl,gb,_,db,vb⟩:=hy;refine Zi<|listItems_at ga da<|Zi<|listItems_at gb db<|Zi<|Dv (fun c d t u i R hR=>?_) va vb ?_
 ·dsimp only;refine Zi<|wpAny_eqBool_int ?_
  by_cases e:c=d
  ·rw [if_pos e] at hR;rw [show (c==d)=true by simpa using e];exact BP hR
  ·rw [if_neg e] at hR;rw [show (c==d)=false by simpa using e];refine Zi ?_;cases hb:(fo&&i==0) with
   | true=>exact oneLt_int (BP hR)
   | false=>exact zaQ (BP hR)
 ·have e:=Gq k l;have la:its.size=k.length:=by have:=va.length;simpa using this.symm
  have lb:jts.size=l.length:=by have:=vb.length;simpa using this.symm
  rw [<-e] at q;dsimp only;cases c:Jl k l with
  | some r=>rw [c] at q;exact BP q
  | none=>rw [c] at q;rw [la,lb];exact BP q
theorem zaq {x:Yk}{i:Int}{k:List Int}{Q:Option Yk->ZG->Prop}(hx:vq s.heap x (i::k))(q:∀ t,Q (Mk (.int i t)) s):Al (Am P w) A (firstOfTuple' x) Q E s:=by
 obtain ⟨a,o,its,n,rfl,ga,ca,da,va⟩:=hx;refine Zi<|Mf (T := "tuple") ⟨o,ga,ca⟩ ?_
 rw [if_neg (by decide)];refine Zi<|listItems_at ga da ?_
 obtain ⟨xs⟩:=its;cases va with
 | cons r _=>
  obtain ⟨t,rfl⟩:=r;exact BP<|q t
theorem qO:∀ {vs:List Yk} {ks:List (List Int)} {Q:List (Option Yk)->ZG->Prop},JB (fun k v=>vq s.heap v k) ks vs->(∀ k∈ks,k≠[])->(∀ us:List Yk,us.length=vs.length->(∀ u∈us,∃ i t,u=.int i t)->Q (us.map Mk) s)->Al (Am P w) A (vs.mapM firstOfTuple') Q E s
 | [],_,Q,h,_,q=>by
  cases h;exact BP<|q [] rfl fun _ h=>nomatch h
 | v::vs,ks,Q,h,hn,q=>by
  cases h with
  | @cons k _ ks' _ r h=>
   rw [List.mapM_cons];obtain ⟨i,k',rfl⟩:∃ i k',k=i::k':=QD (hn k JK)
   refine Zi<|zaq r fun t=>Zi ?_
   refine qO h (fun k hk=>hn k<|Hs _ hk) fun us hl hu=>BP ?_;refine q (.int i t::us) (by simp [hl]) fun u hm=>?_;rcases El.mp hm with rfl | hm
   ·exact ⟨i,t,rfl⟩
   ·exact hu u hm
theorem u5:∀ {us:List Yk} {Q:List Yk->ZG->Prop},(∀ u∈us,∃ i t,u=Value.int i t)->Q (us.map fun _=>.type "int") s->Al (Am P w) A (us.mapM typeOf) Q E s
 | [],Q,_,q=>BP q
 | u::us,Q,h,q=>by
  rw [List.mapM_cons];obtain ⟨i,t,rfl⟩:=h u JK;exact Zi<|Mf (typeIs_int s i t)<|Zi<|u5 (fun v hv=>h v<|Hs _ hv)<|BP q
theorem abO {vs:List Yk}{ks:List (List Int)}{Q:QW->ZG->Prop}(h:JB (fun k v=>vq s.heap v k) ks vs)(hn:∀ k∈ks,k≠[])(h1:1<=vs.length)(q:Q (tuples' true) s):Al (Am P w) A (keyKind' vs.toArray) Q E s:=by
 rw [keyKind'_eq,List.mapM_toArray];refine Zi<|wpAny_map ?_
 refine qO h hn fun us hl hu=>?_;rw [if_pos (by simp)];refine Zi<|LR<|Zi ?_
 have ef:(us.map Mk).toArray.filterMap id=us.toArray:=by
  rw [List.filterMap_toArray];simp
 rw [ef,oneTypeOnly'_eq,List.mapM_toArray];refine Zi<|wpAny_map<|u5 hu ?_
 obtain ⟨u,us',rfl⟩:∃ u us',us=u::us':=QD fun e=>by rw [e] at hl;simp at hl;lia
 show Al _ _ (pure (if _ then Mk (Value.type "int") else YK)) _ _ s;rw [if_pos (by simp)];exact BP<|BP q
end
variable {ks : List (List Int)}{l : List Int}
section
variable {P:Bs}{w:Bh}{A:Bx}{E:Yk->ZG->Prop}{s:ZG}
def Ef (ks:List (List Int))(k:List Int):Nat:=ks.countP fun l=>decide (l<k)
theorem wK {k l:List Int}(h:k<l):∀ ks:List (List Int),Ef ks k<=Ef ks l/\(k∈ks->Ef ks k<Ef ks l)
 | []=>⟨Bp _,fun h=>nomatch h⟩
 | a::as=>by
  obtain ⟨i1,i2⟩:=wK h as;unfold Ef at *;rw [List.countP_cons,List.countP_cons];by_cases c:a<k
  ·have c2:a<l:=List.lt_trans c h;rw [if_pos (decide_eq_true c),if_pos (decide_eq_true c2)];refine ⟨by lia,fun hm=>?_⟩;rcases El.mp hm with e | hm
   ·exact absurd c (by rw [e];exact List.lt_irrefl a)
   ·have:=i2 hm
    lia
  ·rw [if_neg (by simpa using c)];refine ⟨by split <;> lia,fun hm=>?_⟩;rcases El.mp hm with e | hm
   ·subst e;rw [if_pos (decide_eq_true h)];lia
   ·have:=i2 hm
    split <;> lia
theorem sI {k:List Int}(hk:k∈ks):Ef ks k<Ef ks l↔k<l:=by
 refine ⟨fun h=>?_,fun h=>(wK h ks).2 hk⟩;refine Ld fun c=>?_;have c:l<=k:=List.not_lt.mp c;by_cases e:l=k
 ·subst e;exact absurd h (M4 _)
 ·have c2:l<k:=Ld fun c3=>e (List.le_antisymm c (List.not_lt.mp c3))
  exact absurd h<|Nat.not_lt.mpr (wK c2 ks).1
theorem vq.fn {h:Heap}{v:Yk}{k:List Int}(x:vq h v k)(y:vq h v l):k=l:=by
 obtain ⟨a,o,its,n,rfl,ga,_,da,va⟩:=x;obtain ⟨b,u,jts,m,e,gb,_,db,vb⟩:=y;cases e;rw [ga] at gb;cases gb;rw [da] at db;cases db;have go:∀ {k l:List Int} {xs:List Yk},Az (k.map V.int) xs->Az (l.map V.int) xs->k=l:=by
  intro k;induction k with
  | nil=>
   intro l xs h1 h2;cases h1;cases l with
   | nil=>rfl
   | cons b l=>cases h2
  | cons a k ih=>
   intro l xs h1 h2;cases h1 with
   | cons r1 h1=>
    cases l with
    | nil=>cases h2
    | cons b l=>
     cases h2 with
     | cons r2 h2=>
      obtain ⟨t,e1⟩:=r1;obtain ⟨u,e2⟩:=r2;rw [e1] at e2;cases e2;rw [ih h1 h2]
 exact go va vb
theorem vq.of {h h':Heap}{v:Yk}{k:List Int}(x:vq h v k)(e:∀ b o,v=.ref b->o.cls=.type "tuple"->h.get? b=Mk o->h'.get? b=Mk o):vq h' v k:=by
 obtain ⟨a,o,its,n,rfl,ga,ca,r⟩:=x;exact ⟨a,o,its,n,rfl,e a o rfl ca ga,ca,r⟩
structure KyT (T:Heap->Yk->List Int->Prop):Prop where
 fn:∀ {h:Heap} {v:Yk} {k l:List Int},T h v k->T h v l->k=l
 of:∀ {h h':Heap} {v:Yk} {k:List Int},T h v k->(∀ b o,o.cls=.type "tuple"->h.get? b=Mk o->h'.get? b=Mk o)->T h' v k
abbrev MJ (T:Heap->Yk->List Int->Prop)(h:Heap):List (List Int)->List Yk->Prop:=JB fun k v=>T h v k
theorem fM {α β : Type}{F G:α->β->Prop}:∀ {as:List α} {bs:List β},JB F as bs->(∀ a b,b∈bs->F a b->G a b)->JB G as bs
 | [],_,h,_=>by cases h;exact .nil
 | a::as,_,h,g=>by
  cases h with
  | cons r h=>exact .cons (g _ _ JK r) (fM h fun a b hb=>g a b (Hs _ hb))
section
variable {T:Heap->Yk->List Int->Prop}(F:KyT T)
include F
open Classical in
noncomputable def keyV (_:KyT T)(h:Heap)(v:Yk):List Int:=if e:∃ k,T h v k then e.choose else []
theorem sU {h:Heap}{v:Yk}{k:List Int}(x:T h v k):keyV F h v=k:=by
 unfold keyV;have e:∃ k,T h v k:=⟨k,x⟩
 rw [dif_pos e,F.fn e.choose_spec x]
theorem keys_map {h:Heap}:∀ {ks:List (List Int)} {vs:List Yk},MJ T h ks vs->ks=vs.map (keyV F h)/\∀ v∈vs,∃ k∈ks,T h v k
 | [],_,p=>by cases p;exact ⟨rfl,fun _ h=>nomatch h⟩
 | k::ks,_,p=>by
  cases p with
  | cons r p=>
   obtain ⟨e,g⟩:=keys_map p;refine ⟨by rw [Bf,sU F r,<-e],fun v hv=>?_⟩;rcases El.mp hv with rfl | hv
   ·exact ⟨k,JK,r⟩
   ·obtain ⟨l,hl,x⟩:=g v hv;exact ⟨l,Hs _ hl,x⟩
theorem qR {h:Heap}:∀ {vs:List Yk},(∀ v∈vs,∃ k,T h v k)->MJ T h (vs.map (keyV F h)) vs
 | [],_=>.nil
 | v::vs,g=>by
  obtain ⟨k,x⟩:=g v JK;exact .cons (by rw [sU F x];exact x)<|qR fun u hu=>g u<|Hs _ hu
noncomputable def rkV (F:KyT T)(h:Heap)(ks:List (List Int))(v:Yk):Nat:=Ef ks (keyV F h v)
theorem afd {h:Heap}{vs:List Yk}(p:MJ T h ks vs)(hp:b.Perm (Ly vs))(hr:bG (rkV F h ks) b 0 vs.length):
  ∃ ks',MJ T h ks' (b.map (·.2)).toList/\ks'.Perm ks/\ks'.Pairwise (· < ·)/\(b.map (·.2)).toList.Perm vs:=by
 obtain ⟨ek,g⟩:=keys_map F p;have hl:=Array.perm_iff_toList_perm.mp hp;have ep:(Ly vs).toList=vs.map fun v=>(v,v):=by
  have z:∀ l:List Yk,l.zip l=l.map fun v=>(v,v):=fun l=>by
   induction l with
   | nil=>rfl
   | cons a l ih=>rw [List.zip_cons_cons,ih];rfl
  unfold Ly;rw [Array.toList_zip];exact z vs
 rw [ep] at hl;have same:∀ x∈b.toList,x.1=x.2/\x.2∈vs:=fun x hx=>by
  obtain ⟨v,hv,rfl⟩:=Cr.mp (hl.mem_iff.mp hx);exact ⟨rfl,hv⟩
 have po:(b.toList.map (·.2)).Perm vs:=by
  have:=hl.map (·.2)
  rw [Ho] at this
  simpa [Function.comp_def] using this
 rw [Array.toList_map];refine ⟨(b.toList.map (·.2)).map (keyV F h),qR F fun v hv=>?_,?_,?_,po⟩
 ·obtain ⟨k,_,x⟩:=g v (po.mem_iff.mp hv);exact ⟨k,x⟩
 ·rw [ek];exact po.map _
 ·rw [Ho,Q8,Tt];intro i j hi hj hij;have hb:b.toList.length=vs.length:=by have:=po.length_eq;simpa using this
  have:=hr i j (IK _) hij (by rw [<-hb];exact hj)
  rw [fG (by simpa using hi),fG (by simpa using hj)] at this;have e1:=same b[i] (by simp);have e2:=same b[j] (by simp);rw [e1.1,e2.1] at this;exact (sI (by rw [ek];exact Cr.mpr ⟨_,e1.2,rfl⟩)).mp this
theorem zaI {h:Heap}{KS:List (List Int)}{vs:List Yk}(p:MJ T h ks vs):((Ly vs).toList.map fun x=>rkV F h KS x.1)=ks.map (Ef KS):=by
 have ep:(Ly vs).toList.map (·.1)=vs:=by
  unfold Ly;rw [Array.toList_zip,List.map_fst_zip (Bp _)]
 rw [(keys_map F p).1,Ho];conv=>rhs;rw [<-ep]
 rw [Ho];rfl
end
theorem aev (nd:ks.Nodup):(ks.map (Ef ks)).Nodup:=by
 unfold List.Nodup;rw [Q8];refine List.Pairwise.imp_of_mem (fun {k l} hk hl ne e=>ne ?_) nd;have n1:¬ k<l:=fun c=>by have:=(sI hk).mpr c;lia
 have n2:¬ l<k:=fun c=>by have:=(sI hl).mpr c;lia
 exact List.le_antisymm (List.not_lt.mp n2)<|List.not_lt.mp n1
abbrev Pn (h:Heap)(a:Addr)(vs:List Yk):Heap:=((h.update a (Obj.mapSeq fun _=>#[])).push (MP "tuple" vs.toArray 0)).push (MP "list" #[] 0)
structure SkT (P:Bs) (w:Bh) (A:Bx) {T:Heap->Yk->List Int->Prop} (F:KyT T) (kd:QW) (ks:List (List Int)) (vs:List Yk):Prop where
 kind:∀ {E:Yk->ZG->Prop} {s:ZG} {Q:QW->ZG->Prop},2<=vs.length->MJ T s.heap ks vs->Q kd s->Al (Am P w) A (keyKind' vs.toArray) Q E s
 cmp:∀ {s:ZG},MJ T s.heap ks vs->Jf P w A s kd (rkV F s.heap ks) (·∈vs)
theorem aaF {T:Heap->Yk->List Int->Prop}{F:KyT T}{a:Addr}{vs:List Yk}{n:Nat}{R:Fin->ZG->Prop}(S:SkT P w A F kd ks vs)(ho:s.heap.get? a=Mk (MP "list" vs.toArray n))(p:MJ T s.heap ks vs)(nd:ks.Nodup)(hz:vs.length<=CR)
  (q:∀ (out:Array Yk) (ks':List (List Int)),MJ T s.heap ks' out.toList->ks'.Perm ks->ks'.Pairwise (· < ·)->out.toList.Perm vs->R (.done (.ret .none)) { s with heap:=sortedHeap s.heap a vs out }) :
  Al (Am P w) A (O6.«list.sort» ⟨[.ref a],[]⟩) R E s:=by
 have la:a<s.heap.objs.size:=CK ho;rw [list_sort_plain];refine Zi<|listItems_at ho rfl<|Zi<|listUpdate_at ho rfl ?_ (by simpa using hz)<|IK _
 obtain ⟨e1,h1⟩:∃ e1,(s.heap.update a (Obj.mapSeq fun _=>#[])).get? a=Mk (MP "list" #[] e1):=⟨_,get?_update_seq ho (fun _=>#[])⟩
 refine Zi<|seqEpoch_at h1 rfl<|Zi<|wpAny_newTuple<|Zi<|wpAny_newList<|Im ?_
 have h6:(Pn s.heap a vs).get? a=Mk (MP "list" #[] e1):=CT _ (CT _ h1);have keep:∀ b o,o.cls=.type "tuple"->s.heap.get? b=Mk o->(Pn s.heap a vs).get? b=Mk o:=fun b o hc hb=>by
  have ne:b≠a:=fun e=>by rw [e,ho] at hb;cases hb;simp at hc
  exact CT _<|CT _<|(Ln _ _<|Hf ne).trans hb
 have p6:MJ T (Pn s.heap a vs) ks vs:=fM p fun k v _ x=>F.of x keep
 show Al (Am P w) A _ R E { s with heap:=Pn s.heap a vs };dsimp only;have size:vs.toArray.size=vs.length:=by simp
 have fin:∀ b:Array BW,b.Perm (Ly vs)->bG (rkV F (Pn s.heap a vs) ks) b 0 vs.length->R (.done (.ret .none)) { s with heap:=sortedHeap s.heap a vs (b.map (·.2)) }:=fun b hp hr=>by
  obtain ⟨ks',g1,g2,g3,g4⟩:=afd F p6 hp hr;refine q _ ks' (fM g1 fun k v hv x=>?_) g2 g3 g4;obtain ⟨l,_,y⟩:=(keys_map F p).2 v (g4.mem_iff.mp hv);exact F.fn (F.of y keep) x ▸ y
 by_cases h2:vs.toArray.size<2
 ·rw [if_pos h2,if_pos h2];refine Zi<|BP ?_
  rw [StateT.run_pure];refine Zi<|BP ?_
  dsimp only;refine Zi<|seqEpoch_at h6 rfl<|Zi<|listUpdate_at h6 rfl ?_ (hsz2:=?_)
  ·simp only [bne_self_eq_false,Ny,if_false];refine BP<|fin (vs.toArray.zip vs.toArray) (Array.Perm.refl _) fun u v _ h3 h4=>?_
   lia
  ·rw [Array.size_map];show (Ly vs).size<=_;rw [pairsOf_size];lia
 ·rw [if_neg h2,if_neg h2];refine Zi<|S.kind (by lia) p6<|Zi ?_
  have ep:(Ly vs).toList.map (·.1)=vs:=by
   unfold Ly;rw [Array.toList_zip,List.map_fst_zip (Bp _)]
  have ok:Jt kd (rkV F (Pn s.heap a vs) ks) (·∈vs) (SortSt.mk' kd (Ly vs) #[] 7 YK):=⟨rfl,rfl,⟨fun x hx=>by show x.1∈vs;rw [<-ep];exact Cr.mpr ⟨x,hx,rfl⟩,by
   rw [zaI F p6];exact aev nd⟩⟩
  have zp:(Ly vs).size=vs.length:=pairsOf_size _;refine Hx (Vk (s:={ s with heap:=Pn s.heap a vs }) (Q:=fun _ st'=>(BR st').Perm (Ly vs)/\failedOf st'=YK/\bG (rkV F (Pn s.heap a vs) ks) (BR st') 0 vs.length) (S.cmp p6) ok rfl (by show 2<=(Ly vs).size;lia) fun st' g1 g2 g3=>⟨g1,g2,by rw [<-zp];exact g3⟩) (fun r s' hr=>?_) fun _ _ e=>e
  ·obtain ⟨r1,st'⟩:=r;obtain ⟨rfl,g1,g2,g3⟩:=hr;dsimp only;refine Zi<|seqEpoch_at h6 rfl<|Zi<|listUpdate_at h6 rfl ?_ (hsz2:=?_)
   ·rw [g2];simp only [bne_self_eq_false,Ny,if_false];exact BP<|fin _ g1 g3
   ·rw [Array.size_map,g1.size_eq,zp];lia
theorem aap {T:Heap->Yk->List Int->Prop}{F:KyT T}{v:Yk}{vs:List Yk}{Q:Yk->ZG->Prop}(S:SkT P w A.in1.in1 F kd ks vs)
  (col:∀ {E:Yk->ZG->Prop} {Q:List Yk->ZG->Prop},(∀ h' tk,(∀ b o,s.heap.get? b=Mk o->h'.get? b=Mk o)->s.heap.objs.size<h'.objs.size->Q vs { s with heap:=h',toks:=tk })->Al (Am P w) A.in1 (collect v) Q E s)
  (p:MJ T s.heap ks vs) (nd:ks.Nodup) (hz:vs.length<=CR)
  (q:∀ (h':Heap) (tk:Nat) (l:Addr) (out:Array Yk) (ks':List (List Int)) (c:Nat),(∀ b o,s.heap.get? b=Mk o->h'.get? b=Mk o)->s.heap.objs.size<=l->h'.get? l=Mk (MP "list" out c)->MJ T s.heap ks' out.toList->ks'.Perm ks->ks'.Pairwise (· < ·)->out.toList.Perm vs->Q (.ref l) { s with heap:=h',toks:=tk }) :
  Al (Am P w) A (call (.builtin "sorted") [v]) Q E s:=by
 refine Calls.call_function_entry kind_sorted plain_sorted entry_sorted (args_sorted1 _) ?_;unfold O6.«sorted»;refine Zi (m:=checkCount "sorted" 1 1 _)<|BP ?_
 refine Zi<|col fun h1 tk k1 lt1=>Zi<|wpAny_newList ?_
 have ho:(h1.push (MP "list" vs.toArray 0)).get? h1.objs.size=Mk (MP "list" vs.toArray 0):=Ej _ rfl;have k2:∀ b o,s.heap.get? b=Mk o->(h1.push (MP "list" vs.toArray 0)).get? b=Mk o:=fun b o hb=>CT _ (k1 b o hb)
 have p2:MJ T (h1.push (MP "list" vs.toArray 0)) ks vs:=fM p fun k v _ y=>F.of y fun b o _ hb=>k2 b o hb
 show Al _ _ _ _ _ { s with heap:=h1.push (MP "list" vs.toArray 0),toks:=tk };refine Zi<|Im<|Nq slot_list_sort ⟨_,ho,rfl⟩ entry_list_sort (aaF (s:={ s with heap:=h1.push (MP "list" vs.toArray 0),toks:=tk }) S ho p2 nd hz fun out ks' g1 g2 g3 g4=>⟨_,rfl,BP ⟨_,rfl,?_⟩⟩)<|args_list_sort _
 obtain ⟨c,e⟩:=sortedHeap_at (a:=h1.objs.size) (vs:=vs) (out:=out) ho;refine q _ tk _ out ks' c (fun b o hb=>?_) (Lk lt1) e ?_ g2 g3 g4
 ·have lt:=CK (k1 b o hb);rw [sortedHeap_old (Fw lt) (Ep lt (by rw [size_push'];exact QK _))];exact k2 b o hb
 ·refine fM g1 fun k v hv y=>?_;obtain ⟨l,_,z⟩:=(keys_map F p).2 v (g4.mem_iff.mp hv);exact F.fn (F.of z fun b o _ hb=>k2 b o hb) y ▸ z
theorem oA:KyT vq:=⟨vq.fn,fun x k=>x.of fun b o _ hc hb=>k b o hc hb⟩
theorem Vo {vs:List Yk}(hn:2<=ks.length->∀ k∈ks,k≠[]):SkT P w A oA (tuples' true) ks vs:=by
 refine ⟨fun h2 p q=>abO p (hn (by rw [p.length];exact h2)) (Lk h2) q,fun p E Q x y mx my q=>?_⟩;obtain ⟨k,hk,hx⟩:=(keys_map oA p).2 x mx;obtain ⟨l,_,hy⟩:=(keys_map oA p).2 y my;refine afm hx hy ?_;unfold rkV at q;rw [sU oA hx,sU oA hy] at q;rw [<-decide_eq_decide.mpr (sI (ks:=ks) (l:=l) hk)];exact q
theorem aaB {es:Array Nk}{Q:Yk->ZG->Prop}(hh:A.handled=YK)(nd0:(d==LQ)=false)(x:Bl s.heap d es ep)(hz:es.size<=CR)
  (p:JB (fun k v=>vq s.heap v k) ks (es.toList.map (·.key))) (hne:2<=ks.length->∀ k∈ks,k≠[]) (nd:ks.Nodup)
  (q:∀ (h':Heap) (tk:Nat) (l:Addr) (out:Array Yk) (ks':List (List Int)) (c:Nat),(∀ b o,s.heap.get? b=Mk o->h'.get? b=Mk o)->s.heap.objs.size<=l->h'.get? l=Mk (MP "list" out c)->JB (fun k v=>vq s.heap v k) ks' out.toList->ks'.Perm ks->ks'.Pairwise (· < ·)->out.toList.Perm (es.toList.map (·.key))->Q (.ref l) { s with heap:=h',toks:=tk }) :
  Al (Am P w) A (call (.builtin "sorted") [.ref d]) Q E s:=aap (Vo hne) (xQ (A:=A.in1) hh nd0 x hz) p nd (by simpa using hz) q
end
theorem aaC {α β : Type}{f:α->β}{l l':List β}(h:l'.Perm l):∀ {xs:List α},l=xs.map f->∃ ys:List α,ys.Perm xs/\l'=ys.map f:=by
 induction h with
 | nil=>
  intro xs e;cases xs with
  | nil=>exact ⟨[],.refl _,rfl⟩
  | cons x xs=>simp at e
 | cons a h ih=>
  intro xs e;cases xs with
  | nil=>simp at e
  | cons x xs=>
   rw [Bf] at e;obtain ⟨e1,e2⟩:=Lb e;obtain ⟨ys,p,e3⟩:=ih e2;exact ⟨x::ys,p.cons x,by rw [Bf,<-e1,<-e3]⟩
 | swap a b l=>
  intro xs e;match xs with
  | []=>simp at e
  | [x]=>simp at e
  | x::y::xs=>
   rw [Bf,Bf] at e;obtain ⟨e1,e2⟩:=Lb e;obtain ⟨e2,e3⟩:=Lb e2;exact ⟨y::x::xs,.swap x y xs,by rw [Bf,Bf,<-e1,<-e2,<-e3]⟩
 | trans h1 h2 i1 i2=>
  intro xs e;obtain ⟨ys,p,e1⟩:=i2 e;obtain ⟨zs,p2,e2⟩:=i1 e1;exact ⟨zs,p2.trans p,e2⟩
section
variable {X:Cx}{K:Ar}
theorem aej {afG:List (Addr×Obj)}{Z : St}{H:Hp}{s:ZG}{b:Addr}{k:List Int}(I:AP X afG Z H s)(h:Ed X.K H b (k.map V.int)):vq s.heap (.ref b) k:=by
 obtain ⟨its,r,⟨o,ho,hc,n,hd⟩,_⟩:=I.tuple h;exact ⟨b,o,its.toArray,n,rfl,ho,hc,hd,by simpa using r⟩
def wZ (ks:List (List Int)):Prop:=2<=ks.length->∀ k∈ks,k≠[]
theorem aaO (hc:X.calm=true):jo X (.builtin "sorted") (fun vs H Q=>∃ a xs,vs=[.ref a]/\H a=Mk (.ext (w6 a xs))/\GX X.K H xs/\wZ (xs.map (·.1)) /\
  ∀ ys:List (List Int×Addr×Yk),ys.Perm xs->(ys.map (·.1)).Pairwise (· < ·)->∀ l,H l=YK->Q (.ref l) (CJ H l (.lst (ys.map fun y=>V.ref y.2.1)))):=by
 intro afG s Z H vs us Q I r ⟨a,xs,ev,hx,hk,c1,q⟩;subst ev;obtain ⟨u,rfl,ru⟩:=vals1 r;cases ru;obtain ⟨⟨z,y,nd,o,es,ep,g1,g2,g3,g4⟩,_⟩:=I.hok a _ hx;have ek:es.toList.map (·.key)=xs.map fun x=>Value.ref x.2.1:=by
  rw [g4,Ho];rfl
 have p:∀ zs:List (List Int×Addr×Yk),(∀ x∈zs,x∈xs)->JB (fun k v=>vq s.heap v k) (zs.map (·.1)) (zs.map fun x=>Value.ref x.2.1):=fun zs hz=>by
  induction zs with
  | nil=>exact .nil
  | cons x zs ih=>exact .cons (aej I (hk x (hz x JK))) (ih fun y hy=>hz y (Hs _ hy))
 have le:es.size=xs.length:=by rw [<-RT,g4,Cm]
 refine aaB (I.ok.hd hc) y ⟨o,g1,g2,g3⟩ (by rw [le];exact z) (ks:=xs.map (·.1)) (by rw [ek];exact p xs fun _ h=>h) (show 2<=(xs.map (·.1)).length->∀ k∈xs.map (·.1),k≠[] from c1) nd fun h' tk l out ks' c keep hl e pr pm pw po=>?_;rw [ek] at po;obtain ⟨ys,py,eo⟩:=aaC po rfl;have hy:=p ys fun x hx=>py.mem_iff.mp hx
 have eks:ks'=ys.map (·.1):=by
  rw [eo] at pr;exact (keys_map oA pr).1.trans (keys_map oA hy).1.symm
 rw [eks] at pw;refine ⟨.ref l,_,I.laid (t':=tk) keep hl<|show dX X.prog X.w _ h' _ (.lst<|ys.map fun y=>V.ref y.2.1) from ⟨by rw [Cm,py.length_eq];exact z,out.toList,c,?_,by simpa using e⟩,rfl,q ys py pw l<|I.hok.fresh hl⟩;rw [eo];clear eo pr eks pw hy py po;induction ys with
 | nil=>exact .nil
 | cons y ys ih=>exact .cons rfl ih
def z9:MC:=fun ws h Q=>match ws with
 | [.loc n]=>(match h.c n with
  | some (.dtt kvs)=>wZ (kvs.map (·.1))/\∀ ks:List (List Int),ks.Perm (kvs.map (·.1))->ks.Pairwise (· < ·)->Q (.lst (ks.map fun k=>.tup (k.map .int))) h
  | _=>False)
 | _=>False
theorem zbe (hc:X.calm=true):lO X (.builtin "sorted") z9:=⟨_,aaO hc,by
 intro H μ h vs ws Qw Q R r m k;unfold z9 at m;split at m
 ·rename_i n;split at m
  ·rename_i kvs ec;obtain ⟨p,xs,vs',hp,hx,e1,e2,r3,r4⟩:=R.dttAt ec;obtain ⟨v,rfl,r1⟩:=jP r;rw [kI] at r1;obtain ⟨p',rfl,hp'⟩:=r1;have ep:p'=p:=by rw [hp] at hp';exact (Eb hp').symm
   subst ep;obtain ⟨m1,m2⟩:=m;rw [e1] at m1 m2;refine ⟨p',xs,rfl,hx,jg e1 r3,m1,fun ys py pw l hl=>?_⟩;refine k _ _ ⟨μ,_,h,(Ex.laid hl).ext,R.laid hl,?_,m2 (ys.map (·.1)) (py.map _) pw⟩;refine .lstNew R hl ?_;have kk:=jg e1 r3;have go:∀ zs:List (List Int×Addr×Yk),(∀ z∈zs,z∈xs)->aO X.K H μ ((zs.map (·.1)).map fun k=>W.tup (k.map .int)) (zs.map fun y=>V.ref y.2.1):=fun zs hz=>by
    induction zs with
    | nil=>exact .nil
    | cons z zs ih=>
     refine aO.cons ?_<|ih fun y hy=>hz y<|Hs _ hy
     rw [kI];exact ⟨z.2.1,z.1.map V.int,rfl,kk z<|hz z JK,oW _⟩
   exact go ys fun z hz=>py.mem_iff.mp hz
  ·exact m.elim
 ·exact m.elim⟩
end
section
variable {X:Cx}{o:Expr}{ma:MA}{apos afJ:Pos}
def Ca:MM:=fun x ws h Q=>match x,ws with
 | .loc n,[y,z]=>(match h.c n,Ke y with
  | some (.dtt kvs),Mk k=>Q ((wH kvs k).getD z) h
  | _,_=>False)
 | _,_=>False
def GC (h:Gh)(x:W)(P:Prop):Prop:=match x with
 | .loc n=>(match h.c n with
  | some (.dtt _)=>P
  | _=>False)
 | _=>False
def VD (r:MM)(mo:ME)(ma:MA):ME:=fun Z h Q=>mo Z h fun x h1=>GC h1 x (ma Z h1 fun xs h2=>r x xs h2 Q)
theorem JX (hu:X.A.units+30<HF)(ho:DE X o mo)(ha:IV X [e1,e2] ma)
  (hbase:QF o "get" X.env (eval o X.env)=eval o X.env:=by rfl)
  (hfew:((En afJ (Bo [e1,e2] X.env)).all (fun x=>!x.1)&&(backToKw afJ (QJ [] X.env)).all (fun x=>x.1.isSome)
   && decide (([e1,e2]:List Expr).length+([]:List Jx).length+(if ([]:List Jx).isEmpty then 0 else 1)<30))=true:=by rfl)
  (hline:(apos.endLine==afJ.line)=true:=by rfl) (hst:Bo [e1,e2] X.env=(false,eval e1 X.env)::Bo [e2] X.env:=by rfl) (hplain:(En afJ (Bo [e2] X.env)).any (·.1)=false:=by rfl) :
  DE X (.Call (.Attribute o "get" apos) [e1,e2] [] afJ) (VD Ca mo ma):=by
 intro afG s Z H Q I ⟨μ,h,Zw,Qw,R,S,m,k⟩;refine U8 hbase hfew hline rfl<|CV (ho afG s Z H _ I ⟨μ,h,Zw,_,R,S,m,fun _ _ z=>z⟩) fun u s1 ⟨x,H1,I1,rx,μ1,wx,h1,e1',R1,r1,il⟩=>?_
 unfold GC at il;split at il
 ·rename_i n;split at il
  ·rename_i kv0 ec0;have r0:=r1;rw [kI] at r1;obtain ⟨a,rfl,ha'⟩:=r1;obtain rfl:u=Value.ref a:=rx;obtain ⟨p,xs,vs,hp,hx,_⟩:=R1.dttAt ec0;have ep:p=a:=by rw [ha'] at hp;exact (Eb hp).symm
   subst ep;obtain ⟨⟨z,y,nd,ob,es,epo,g1,g2,g3,g4⟩,_⟩:=I1.hok p _ hx;refine ⟨"dict", "dict.get",PySem.F.plainAttrs_dict,Te,PySem.F.type_dict_get,⟨ob,g1,g2.1⟩,fun b e=>by cases e;exact ⟨ob,g1,g2.2.1⟩,?_⟩;have hA:=ha afJ afG s1 Z H1 _ I1 ⟨μ1,h1,Zw,_,R1,S.ext e1',il,fun _ _ z=>z⟩;rw [hst] at hA |-
   refine TF (by show (false||(En afJ<|Bo [e2] X.env).any (·.1))=false;rw [hplain] <;> rfl)<|T8 ?_
   refine CV hA fun us s2 ⟨ys,H2,I2,r2,μ2,ws,h2,e2',R2,rs,m2⟩=>?_;unfold Ca at m2;split at m2
   ·rename_i n' y' z' e3;cases e3;split at m2
    ·rename_i kvs kk ec ek;obtain ⟨v1,v2,rfl,ry,rz⟩:=Ak rs;obtain ⟨b,rfl,hb⟩:=nG ry ek;obtain ⟨u1,u2,rfl,ru1,ru2⟩:=vals2 r2;cases ru1;obtain ⟨p2,xs2,vs2,hp2,hx2,q1,q2,q3,q4⟩:=R2.dttAt ec;have r0':=e2'.r _ _ r0;rw [kI] at r0';obtain ⟨a2,ea,ha2⟩:=r0';cases ea;have ep2:p2=p:=by rw [ha2] at hp2;exact (Eb hp2).symm
     subst ep2;obtain ⟨_,hd2,dd⟩:=wz I2 hx2 (jg q1 q3);obtain ⟨t1,t2⟩:=rR q1 q2 q4 kk;refine call_meetsIn Te dd.typeIs PySem.F.entry_dict_get (PySem.F.args_dict_get_3 _ _ _) (meetsH_dict_get_default (tupleKind<|intKind X.prog X.w) p2 b hd2 u2) ⟨tupleKind_room_in1<|by lia,kk,xs2,vd I2 hb,dd,?_⟩;cases ev:wH kvs kk with
     | some wv=>
      rw [ev] at m2;obtain ⟨pp,v,a1,a2,a3⟩:=t1 wv ev;rw [a1];exact ⟨v,H2,I2.tok _,a2,k _ _ ⟨μ2,wv,h2,e1'.trans e2',R2,a3,m2⟩⟩
     | none=>
      rw [ev] at m2 t2;have a1:atKey xs2 kk=YK:=by
       cases e:atKey xs2 kk with
       | none=>rfl
       | some _=>rw [e] at t2;cases t2
      rw [a1];exact ⟨v2,H2,I2.tok _,ru2,k _ _ ⟨μ2,z',h2,e1'.trans e2',R2,rz,m2⟩⟩
    ·exact m2.elim
   ·exact m2.elim
  ·exact il.elim
 ·exact il.elim
end
section
variable {X:Cx}{K:Ar}
variable {o e:Expr}{ma:MA}{apos afJ:Pos}
end
section
variable {prog:Bs}{w:Bh}{A:Bx}{E:Yk->ZG->Prop}{I:Addr}{ns:List Int}{its:List Yk}
end
variable {I : Addr}
section
variable {X:Cx}
end
section
open AutoSeq1 (wpAny_loadPart')
end
section
variable {prog:Bs}{w:Bh}{A:Bx}{E:Yk->ZG->Prop}{s:ZG}
end
section
variable {X:Cx}{K:Ar}
end
section
variable {prog:Bs}{w:Bh}{A:Bx}{its:List Yk}
end
section
variable {X:Cx}{K:Ar}
def Ye (h:Gh)(x y:W):Option Src:=match pB x,y with
 | some as,.loc n=>(match h.c n with
  | some (.lst bs)=>Mk ⟨lR as bs,Mk (n,bs)⟩
  | _=>YK)
 | _,_=>YK
end
section
variable {X:Cx}
end
section
variable {prog:Bs}{w:Bh}{A:Bx}{E:Yk->ZG->Prop}{s:ZG}
theorem nR:Qj (.type "tuple") "keys" = pure YK:=by rw [typeLookup_type,Tz];kernel_rfl
theorem qj:Qj (.type "list") "keys" = pure YK:=by rw [typeLookup_type,Tz];kernel_rfl
theorem zaj {a:Addr}{o:Obj}{xs:Array Yk}{k:Nat}{Q:Option Yk->ZG->Prop}(hx:s.heap.get? a=Mk o)(hc:o.cls=.type "tuple")(hdat:o.data=.seq xs k)(hd:o.dict=YK)(hA:A.handled=YK)
  (h:∀ h' tk,(∀ b ob,s.heap.get? b=Mk ob->h'.get? b=Mk ob)->Q YK { s with heap:=h',toks:=tk }):Al (Am prog w) A (getAttr? (.ref a) "keys") Q E s:=by
 obtain ⟨c,dct,dat,sl⟩:=o;simp only at hc hdat hd;subst hc hdat hd;obtain ⟨hp,g,d,tk,os⟩:=s;have hT:∀ tk',(⟨hp,g,d,tk',os⟩:ZG).TypeIs (.ref a) "tuple":=fun _=>⟨_,hx,rfl⟩
 have f1:=sub_AttributeError;have f3:=F.slot_tuple_getattribute.lookup;have f4:=F.slot_tuple_getattribute.bind (.ref a);have f5:=am_tuple_getattr_none;unfold getAttr? getAttrBy? getAttrBy;repeat (any_goals (first | assumption | exact hT _ | ((with_reducible show Al _ _ (call (Value.builtin "tuple.__getattribute__") _ _) _ _ _);refine call_meets F.slot_tuple_getattribute (hT _) am_entry_tuple_getattribute (F.args_tuple_getattribute_2 _ _) (meets_getattribute_miss_tuple a xs k sl "keys" _ nR (by decide) (by size_fits)) ⟨hx,hA,fun h' tk' e hx'=>?_⟩) | wp_step))
 obtain ⟨t',u',he⟩:=hx'.there;show Al _ _ (getattributeRaised _ _ _ _ _ _ _) _ _ _;unfold getattributeRaised;repeat (any_goals (first | assumption | wp_step))
 exact h _ _ hx'.keeps
theorem qF {a:Addr}{o:Obj}{xs:Array Yk}{k:Nat}{Q:Option Yk->ZG->Prop}(hx:s.heap.get? a=Mk o)(hc:o.cls=.type "list")(hdat:o.data=.seq xs k)(hd:o.dict=YK)(hA:A.handled=YK)
  (h:∀ h' tk,(∀ b ob,s.heap.get? b=Mk ob->h'.get? b=Mk ob)->Q YK { s with heap:=h',toks:=tk }):Al (Am prog w) A (getAttr? (.ref a) "keys") Q E s:=by
 obtain ⟨c,dct,dat,sl⟩:=o;simp only at hc hdat hd;subst hc hdat hd;obtain ⟨hp,g,d,tk,os⟩:=s;have hT:∀ tk',(⟨hp,g,d,tk',os⟩:ZG).TypeIs (.ref a) "list":=fun _=>⟨_,hx,rfl⟩
 have f1:=sub_AttributeError;have f3:=F.slot_list_getattribute.lookup;have f4:=F.slot_list_getattribute.bind (.ref a);have f5:=am_list_getattr_none;unfold getAttr? getAttrBy? getAttrBy;repeat (any_goals (first | assumption | exact hT _ | ((with_reducible show Al _ _ (call (Value.builtin "list.__getattribute__") _ _) _ _ _);refine call_meets F.slot_list_getattribute (hT _) am_entry_list_getattribute (F.args_list_getattribute_2 _ _) (meets_getattribute_miss_list a xs k sl "keys" _ qj (by decide) (by size_fits)) ⟨hx,hA,fun h' tk' e hx'=>?_⟩) | wp_step))
 obtain ⟨t',u',he⟩:=hx'.there;show Al _ _ (getattributeRaised _ _ _ _ _ _ _) _ _ _;unfold getattributeRaised;repeat (any_goals (first | assumption | wp_step))
 exact h _ _ hx'.keeps
theorem jU:entryFor table "dict.update.loop" = Mk O6.«dict.update.loop»:=entryFor_of_tree (by kernel_rfl)
theorem cT:plainId "dict.update.loop" = true:=by decide +kernel
abbrev Lp (prog:Bs)(w:Bh):=tupleKind (intKind prog w)
theorem Gz {h h':Heap}{k:List Int}{a:Addr}(x:(Lp prog w).is h k a)(m:∀ b o,h.get? b=Mk o->h'.get? b=Mk o):(Lp prog w).is h' k a:=by
 obtain ⟨o,its,n,ho,r⟩:=x;exact ⟨o,its,n,m _ _ ho,r⟩
theorem rm {h0 h h':Heap}{xs:List (List Int×Addr×Yk)}(x:R0 (Lp prog w) h d xs)(hd:∀ o,h.get? d=Mk o->h'.get? d=Mk o)(hk:∀ y∈xs,(Lp prog w).is h' y.1 y.2.1):R0 (Lp prog w) h' d xs:=by
 obtain ⟨o,es,ep,e1,e2,e3,e4,_,e6⟩:=x;exact ⟨o,es,ep,hd o e1,e2,e3,e4,hk,e6⟩
theorem zaB {afH:Array Yk}{fp:List Addr}{St:Nat->Heap->Prop}(W:Walks prog w A.in1 I fp [I] afH.size (fun i v=>afH[i]?=Mk v) St)(hdf:d∉fp)(hu:A.in1.units<HF)(h0:Heap)(hd0:h0.get? d=YK)(hI0:h0.get? I=YK)
  {ps:List (List Int×Addr×Yk)} (hp:afH.size=ps.length) (hk:∀ (j:Nat) (p:List Int×Addr×Yk),ps[j]?=Mk p->∃ q,afH[j]?=Mk (.ref q)/\IsTup h0 q #[.ref p.2.1,p.2.2]/\(Lp prog w).is h0 p.1 p.2.1) (nd:(ps.map (·.1)).Nodup) (hz:ps.length<=CR) :
  ∀ (k j:Nat) (s:ZG) (t:Tok),ps.length - j=k->j<=ps.length->St j s.heap->R0 (Lp prog w) s.heap d (ps.take j)->(∀ b o,h0.get? b=Mk o->s.heap.get? b=Mk o) ->
  (∀ h' tk,R0 (Lp prog w) h' d ps->(∀ b o,h0.get? b=Mk o->h'.get? b=Mk o)->R (.ok (.ret .none)) { s with heap:=h',toks:=tk }) ->
  Li (Am prog w) A (.builtin "dict.update.loop" ⟨[.ref d,.ref I,.int (j:Int) t,.none],[]⟩) R s:=by
 have dI:d≠I:=fun e=>hdf (W.sub d (by rw [e];simp))
 have keys:∀ (j:Nat) (h':Heap),(∀ b o,h0.get? b=Mk o->h'.get? b=Mk o)->∀ y∈ps.take j,(Lp prog w).is h' y.1 y.2.1:=fun j h' m y hy=>by
  obtain ⟨i,hi,e⟩:=RX.mp (T7 hy);obtain ⟨q,_,_,hq⟩:=hk i y (by rw [<-e];exact Gg hi);exact Gz hq m
 intro k;induction k with
 | zero=>
  intro j s t hkj hj st hm h00 hR;have ej:j=ps.length:=by lia
  refine Ov jU ?_;rw [Q7 cT _];show Al _ A.in1 (Jo (.ref I) >>= _) _ _ s;refine Zi<|W.done s _ _ (by rw [hp,<-ej];exact st) fun h' tk hk'=>?_
  have m:∀ b o,h0.get? b=Mk o->h'.get? b=Mk o:=fun b o e=>hk' b o (by intro z;rw [Fd.mp z,hI0] at e;cases e) (h00 b o e)
  have hm':R0 (Lp prog w) h' d ps:=by
   rw [ej,Jb] at hm;refine rm (h0:=h0) hm (fun o e=>hk' d o (by simpa using dI) e) fun y hy=>keys ps.length h' m y (by rw [Jb];exact hy)
  exact Zi<|BP<|BP<|hR h' tk hm' m
 | succ k ih=>
  intro j s t hkj hj st hm h00 hR;have hlt:j<ps.length:=by lia
  have ep:ps[j]?=Mk ps[j]:=Gg hlt;generalize ps[j]=p at ep;obtain ⟨q,eq,hq,hkey⟩:=hk j p ep;refine Ov jU ?_;rw [Q7 cT _];show Al _ A.in1 (Jo (.ref I) >>= _) _ _ s;refine Zi<|W.item j s _ _ (by rw [hp];exact hlt) st fun v h' tk hP st' hk'=>?_
  have ev:v=.ref q:=by rw [eq] at hP;exact (Eb hP).symm
  subst ev;have m:∀ b o,h0.get? b=Mk o->h'.get? b=Mk o:=fun b o e=>hk' b o (by intro z;rw [Fd.mp z,hI0] at e;cases e) (h00 b o e)
  have hm':R0 (Lp prog w) h' d (ps.take j):=rm (h0:=h0) hm (fun o e=>hk' d o (by simpa using dI) e) (keys j h' m);obtain ⟨oq,goq,cq,nq,dq⟩:=hq;have goq':=m _ _ goq;refine Zi<|Im<|Zi<|wpAny_tryCatch ?_
  unfold Builtin.Dict.pairItems;refine Zi<|Mf (T := "tuple") ⟨oq,goq',cq⟩ ?_
  rw [if_pos (by decide)];refine Zi<|Od goq' dq<|BP ?_
  show Al _ _ (Ni [_,_] (dictSet d _ _)) _ _ _;have hno:atKey (ps.take j) p.1=YK:=by
   unfold atKey;rw [Option.map_eq_none_iff,List.find?_eq_none];intro y hy;have hn:p.1∉(ps.take j).map (·.1):=by
    have e1:ps=ps.take j++p::ps.drop (j+1):=by
     conv=>lhs;rw [<-UL j ps]
     congr 1
     rw [RQ hlt];congr 1
     rw [Gg hlt] at ep;exact Eb ep
    rw [e1,Em,SX] at nd;intro z;exact nd.2.2 _ z p.1 (by simp) rfl
   intro z;exact hn<|Cr.mpr ⟨y,hy,by simpa using z⟩
  refine Im<|wpAny_dictSet_heap (hsz:=by rw [JV];lia) hu (Gz hkey m) hm' fun h2 hd2 hs2=>?_
  rw [storedH_new hno] at hd2;have et:ps.take j++[(p.1,p.2.1,p.2.2)]=ps.take (j+1):=by rw [JC,ep];rfl
  rw [et] at hd2;have keep2:∀ b o,b≠d->h'.get? b=Mk o->h2.get? b=Mk o:=fun b o hb e=>hs2.extBut b o hb e
  refine BP ⟨Ob cT _,?_⟩;have ej:((j:Int)+1)=((j+1:Nat):Int):=by lia
  show Li _ _ (.builtin "dict.update.loop" ⟨[.ref d,.ref I,.int ((j:Int)+1) 0,.none],[]⟩) _ _;rw [ej];refine ih (j+1) _ 0 (by lia) hlt (W.frame _ _ _ st' fun b hb o e=>keep2 b o (fun z=>hdf<|z ▸ hb) e) hd2 (fun b o e=>keep2 b o (fun z=>by rw [z,hd0] at e;cases e)<|m b o e) fun h3 tk3 d3 m3=>hR h3 tk3 d3 m3
theorem sH {T:Addr}{afH:Array Yk}{Q:Yk->ZG->Prop}(hh:A.handled=YK)(hu:A.units+30<HF)
  (src:(∃ o n,s.heap.get? T=Mk o/\o.cls=.type "tuple"/\o.data=.seq afH n/\o.dict=YK)\/(∃ o n,s.heap.get? T=Mk o/\o.cls=.type "list"/\o.data=.seq afH n/\o.dict=YK))
  {ps:List (List Int×Addr×Yk)} (hp:afH.size=ps.length) (hk:∀ (j:Nat) (p:List Int×Addr×Yk),ps[j]?=Mk p->∃ q,afH[j]?=Mk (.ref q)/\IsTup s.heap q #[.ref p.2.1,p.2.2]/\(Lp prog w).is s.heap p.1 p.2.1) (nd:(ps.map (·.1)).Nodup) (hz:ps.length<=CR)
  (h:∀ h' tk,R0 (Lp prog w) h' s.heap.objs.size ps->(∀ b o,s.heap.get? b=Mk o->h'.get? b=Mk o)->Q (.ref s.heap.objs.size) { s with heap:=h',toks:=tk }) :
  Al (Am prog w) A (call (.type "dict") [.ref T]) Q E s:=by
 have hhA:A.in1.in1.handled=YK:=hh;have hu2:A.in1.in1.units<HF:=by
  have:A.in1.in1.units=A.units+1+1:=rfl
  lia
 have hT0:T<s.heap.objs.size:=by
  rcases src with ⟨o,_,e,_⟩ | ⟨o,_,e,_⟩ <;> exact CK e
 refine callType_codes (Q₁:=fun obj s₁=>obj=.ref s.heap.objs.size/\s₁ = { s with heap:=s.heap.push { cls:=.type "dict",data:=.dict #[] } }) F.kt_called_dict (F.kt_typeCall_dict_1 _) F.entry_dict_init (kt_code_dict_new _ ⟨rfl,rfl⟩) ?_;rintro obj s₁ ⟨rfl,rfl⟩;have hTd:({ s with heap:=s.heap.push { cls:=.type "dict",data:=.dict #[] } }:ZG).TypeIs (.ref s.heap.objs.size) "dict":=⟨_,Ej _ rfl,rfl⟩
 refine ⟨hTd,F.args_dict_init_2 _ _,?_⟩;unfold O6.«dict.__init__»;refine Zi ?_;unfold Builtin.Dict.selfAndRest;refine Zi<|wpAny_notOrdered_dict hTd ?_
 show Al _ _ (pure (s.heap.objs.size,[Value.ref T])) _ _ _;refine BP ?_;show Al _ _ (Ug "dict.__init__" s.heap.objs.size (.ref T) [] .none) _ _ _;unfold Ug;have loop:∀ (h1:Heap) (tk1:Nat),(∀ b ob,(s.heap.push { cls:=.type "dict",data:=.dict #[] }).get? b=Mk ob->h1.get? b=Mk ob)->∀ (h2:Heap) (fp:List Addr) (St:Nat->Heap->Prop),h1.objs.size∉([s.heap.objs.size]:List Addr)->(∀ b ob,h1.get? b=Mk ob->h2.get? b=Mk ob)->s.heap.objs.size∉fp->Walks prog w A.in1.in1 h1.objs.size fp [h1.objs.size] afH.size (fun i v=>afH[i]?=Mk v) St->St 0 h2 ->
   Li (Am prog w) A.in1 (.builtin "dict.update.loop" ⟨[.ref s.heap.objs.size,.ref h1.objs.size,JT 0,.none],[]⟩) (wants (fun r s₂=>r=.none/\Q (.ref s.heap.objs.size) s₂) E) { s with heap:=h2,toks:=tk1 }:=by
  intro h1 tk1 m1 h2 fp St hne m2 hfp W st;have hd1:=m1 _ _ (Ej s.heap (o:={ cls:=.type "dict",data:=.dict #[] }) rfl);refine zaB (A:=A.in1) W hfp hu2 s.heap (RW<|Bp _) (RW<|Lk<|CK hd1) hp hk nd hz ps.length 0 _ _ rfl (IK _) st ?_ (fun b o e=>m2 b o<|m1 b o<|CT _ e) fun h' tk d m=>⟨rfl,h h' tk d m⟩;exact ⟨_,#[],0,m2 _ _ hd1,⟨rfl,rfl,rfl⟩,rfl,rfl,(fun x hx=>absurd hx Ja),Pr⟩
 rcases src with ⟨o,n,g1,g2,g3,g4⟩ | ⟨o,n,g1,g2,g3,g4⟩
 ·have g1':(s.heap.push { cls:=.type "dict",data:=.dict #[] }).get? T=Mk o:=CT _ g1;refine Zi<|Mf (T := "tuple") ⟨o,g1',g2⟩ ?_
  rw [if_pos (by decide)];refine Zi<|zaj g1' g2 g3 g4 hhA fun h1 tk1 m1=>?_
  rw [if_pos (show (YK:Option Yk).isNone=true from rfl)];refine Zi<|LR ?_
  have hT:h1.IsTuple T afH:=⟨o,m1 _ _ g1',g2,n,g3⟩
  refine Zi<|wpAny_pyIter_tuple hT ?_
  have hlt:T<h1.objs.size:=CK (m1 _ _ g1');have hd1:=CK (m1 _ _ (Ej s.heap (o:={ cls:=.type "dict",data:=.dict #[] }) rfl));refine BP ⟨Ob cT _,?_⟩;exact loop h1 tk1 m1 _ _ _ (by simpa using IW hd1) (fun b ob e=>CT _ e) (by simp only [El,Ja,or_false,not_or];exact ⟨Fw hd1,IW hT0⟩) (Walks.tuple hhA _ T (Fw hlt) afH) ⟨⟨_,Ej _ rfl,rfl,rfl⟩,hT.push _⟩
 ·have g1':(s.heap.push { cls:=.type "dict",data:=.dict #[] }).get? T=Mk o:=CT _ g1;refine Zi<|Mf (T := "list") ⟨o,g1',g2⟩ ?_
  rw [if_pos (by decide)];refine Zi<|qF g1' g2 g3 g4 hhA fun h1 tk1 m1=>?_
  rw [if_pos (show (YK:Option Yk).isNone=true from rfl)];refine Zi<|LR ?_
  have hT:h1.IsList T afH:=⟨o,m1 _ _ g1',g2,n,g3⟩
  refine Zi<|RL hT ?_
  have hlt:T<h1.objs.size:=CK (m1 _ _ g1');have hd1:=CK (m1 _ _ (Ej s.heap (o:={ cls:=.type "dict",data:=.dict #[] }) rfl));refine BP ⟨Ob cT _,?_⟩;exact loop h1 tk1 m1 _ _ _ (by simpa using IW hd1) (fun b ob e=>CT _ e) (by simp only [El,Ja,or_false,not_or];exact ⟨Fw hd1,IW hT0⟩) (Walks.list hhA _ T (Fw hlt) afH) ⟨⟨_,Ej _ rfl,rfl,rfl⟩,hT.push _⟩
end
section
variable {X:Cx}{K:Ar}
abbrev Qn (K:Ar)(H:Hp)(y:V)(p:List Int×Addr×V):Prop:=∃ q,y=V.ref q/\Ed K H q [.ref p.2.1,p.2.2]/\Ed K H p.2.1 (p.1.map V.int)
theorem uQ {afG:List (Addr×Obj)}{Z : St}{H:Hp}{s:ZG}(I:AP X afG Z H s):∀ {ys:List V} {ps:List (List Int×Addr×V)} {its:List Yk},Az ys its->JB (Qn X.K H) ys ps ->
  ∃ xs:List (List Int×Addr×Yk),xs.map (·.1)=ps.map (·.1)/\xs.map (·.2.1)=ps.map (·.2.1)/\Az (ps.map (·.2.2)) (xs.map (·.2.2))/\∀ (j:Nat) (p:List Int×Addr×Yk),xs[j]?=Mk p->∃ q,its[j]?=Mk (.ref q)/\IsTup s.heap q #[.ref p.2.1,p.2.2]/\(Lp X.prog X.w).is s.heap p.1 p.2.1
 | _,_,_,.nil,.nil=>⟨[],rfl,rfl,.nil,fun j p e=>by simp at e⟩
 | _,_,_,.cons r rv,.cons (b:=p) hp pp=>by
  obtain ⟨xs,a1,a2,a3,a4⟩:=uQ I rv pp;obtain ⟨q,rfl,h1,h2⟩:=hp;cases r;obtain ⟨js,r2,ht,_⟩:=I.tuple h1;cases r2 with
  | cons r3 r4=>
   cases r4 with
   | cons r5 r6=>
    cases r6;cases r3;rename_i v;refine ⟨(p.1,p.2.1,v)::xs,by simp [a1],by simp [a2],.cons r5 a3,fun j z e=>?_⟩;cases j with
    | zero=>
     simp at e;subst e;exact ⟨q,rfl,ht,vd I h2⟩
    | succ j=>
     obtain ⟨q',b1,b2⟩:=a4 j z (by simpa using e);exact ⟨q',by simpa using b1,b2⟩
theorem aaH (hc:X.calm=true)(hu:X.A.units+30<HF):jo X (.type "dict") (fun vs H Q=>∃ (T:Addr) (ys:List V) (ps:List (List Int×Addr×V)),vs=[.ref T]/\(GK X.K H T ys\/Ed X.K H T ys)/\JB (Qn X.K H) ys ps/\(ps.map (·.1)).Nodup /\
  ∀ d,H d=YK->∀ xs:List (List Int×Addr×Yk),xs.map (·.1)=ps.map (·.1)->xs.map (·.2.1)=ps.map (·.2.1)->Az (ps.map (·.2.2)) (xs.map (·.2.2))->Q (.ref d) (CJ H d (.ext (w6 d xs)))):=by
 intro afG s Z H vs us Q I r ⟨T,ys,ps,ev,hS,pp,nd,q⟩;subst ev;obtain ⟨u,rfl,ru⟩:=vals1 r;cases ru;have key:∀ its:List Yk,Az ys its->ys.length<=CR->((∃ o n,s.heap.get? T=Mk o/\o.cls=.type "tuple"/\o.data=.seq its.toArray n/\o.dict=YK)\/(∃ o n,s.heap.get? T=Mk o/\o.cls=.type "list"/\o.data=.seq its.toArray n/\o.dict=YK))->Al (Am X.prog X.w) X.A (call (.type "dict") [.ref T]) (EP X afG Z Q) X.xe s:=fun its rv hz src=>by
  obtain ⟨xs,a1,a2,a3,a4⟩:=uQ I rv pp;have e1:ys.length=its.length:=rv.length;have e2:ys.length=ps.length:=Rv pp;have e3:xs.length=ps.length:=by have:=congrArg Rg a1;simpa using this
  refine sH (I.ok.hd hc) hu src (ps:=xs) (by rw [Gm];lia) (fun j p e=>by
   obtain ⟨q,b1,b2⟩:=a4 j p e;exact ⟨q,by rw [List.getElem?_toArray];exact b1,b2⟩) (by rw [a1];exact nd) (by lia) fun h' tk d m=>?_
  have y:(s.heap.objs.size==LQ)=false:=(uw (P:=X.prog) (w:=X.w) (H:=H) s.heap I.big).2.1;exact ⟨.ref s.heap.objs.size,_,I.laid (a:=s.heap.objs.size) (o:=.ext (w6 s.heap.objs.size xs)) (t':=tk) m (Bp _)<|wQ (P:=X.prog) (w:=X.w) (by lia) y d,rfl,q _ (I.hok.fresh<|Bp _) xs a1 a2 a3⟩
 rcases hS with hS | hS
 ·obtain ⟨its,rv,⟨o,n,g1,g2,g3,g4⟩,hz⟩:=I.list hS;exact key its rv hz<|.inr ⟨o,n,g1,g2,g4,g3⟩
 ·obtain ⟨its,rv,⟨o,g1,g2,⟨n,g3⟩,g4⟩,hz⟩:=I.tupO hS;exact key its rv hz<|.inl ⟨o,n,g1,g2,g3,g4⟩
def lX:List W->Option (List (List Int×W))
 | []=>Mk []
 | .tup [k,v]::r=>(match Ke k with
  | some ks=>(lX r).map ((ks,v)::·)
  | none=>YK)
 | _=>YK
theorem vU {H:Hp}{μ : Mu}:∀ {us:List W} {ys:List V} {ps:List (List Int×W)},aO K H μ us ys->lX us=Mk ps->∃ qs:List (List Int×Addr×V),JB (Qn K H) ys qs/\qs.map (·.1)=ps.map (·.1)/\aO K H μ (ps.map fun x=>W.tup (x.1.map W.int)) (qs.map fun x=>V.ref x.2.1)/\aO K H μ (ps.map (·.2)) (qs.map (·.2.2))
 | [],ys,ps,r,e=>by
  rw [aO] at r;cases e;subst r;exact ⟨[],.nil,rfl,by rw [Hq,Hq,aO],by rw [Hq,Hq,aO]⟩
 | w::us,ys,ps,r,e=>by
  rw [aO] at r;obtain ⟨y,yr,rfl,ra,r⟩:=r;unfold lX at e;split at e
  ·rename_i h;cases h
  ·rename_i k v us' h;cases h;split at e
   ·rename_i ks ek;cases q:lX us with
    | none=>rw [q] at e;cases e
    | some cs=>
     rw [q] at e;cases (show Mk ((ks,v)::cs)=Mk ps from e)
     obtain ⟨qs,p1,p2,p3,p4⟩:=vU r q;rw [kI] at ra;obtain ⟨b,zs,rfl,hb,rz⟩:=ra;obtain ⟨z1,z2,rfl,rk,rw'⟩:=Ak rz;obtain ⟨kb,rfl,hkb⟩:=nG rk ek;refine ⟨(ks,kb,z2)::qs,.cons ⟨b,rfl,hb,hkb⟩ p1,by simp [p2],?_,?_⟩
     ·rw [Bf,Bf,aO];exact ⟨_,_,rfl,by rw [kI];exact ⟨kb,_,rfl,hkb,uy ks⟩,p3⟩
     ·rw [Bf,Bf,aO];exact ⟨_,_,rfl,rw',p4⟩
   ·cases e
  ·cases e
def yK:MC:=fun ws h Q=>match ws with
 | [w]=>(match view h w with
  | some us=>(match lX us with
   | some ps=>(ps.map (·.1)).Nodup/\Q (.loc h.nx) (h.new (.dtt ps))
   | none=>False)
  | none=>False)
 | _=>False
theorem abG (hc:X.calm=true)(hu:X.A.units+30<HF):lO X (.type "dict") yK:=⟨_,aaH hc hu,by
 intro H μ h vs ws Qw Q R r m k;unfold yK at m;split at m
 ·split at m
  ·split at m
   ·rename_i w _ us ev _ ps ek;obtain ⟨v,e,rv⟩:=jP r;obtain ⟨p,ys,ex,hs,rs⟩:=xq R rv ev;obtain ⟨qs,p1,p2,p3,p4⟩:=vU rs ek;subst e ex;refine ⟨p,ys,qs,rfl,hs,p1,by rw [p2];exact m.1,fun d hd xs a1 a2 a3=>?_⟩;have xt:=(Ex.newCell (o:=.ext (w6 d xs)) R hd).ext;have e3:(xs.map fun x=>V.ref x.2.1)=qs.map fun x=>V.ref x.2.1:=by
     have:(xs.map (·.2.1)).map V.ref=(qs.map (·.2.1)).map V.ref:=by rw [a2]
     rw [Ho,Ho] at this;exact this
    have R1:Bq X.K (μ.put h.nx d) (CJ H d (.ext (w6 d xs))) (h.new (.dtt ps)):=R.newCell hd trivial ⟨xs,qs.map (·.2.2),bf,(by rw [a1,p2]),a3,by rw [e3];exact xt.s p3,xt.s p4⟩;exact k _ _ ⟨_,.loc h.nx,_,xt,R1,by rw [kI];exact ⟨d,rfl,Mu.put_same⟩,m.2⟩
   ·exact m.elim
  ·exact m.elim
 ·exact m.elim⟩
end
section
variable {prog:Bs}{w:Bh}{A:Bx}{E:Yk->ZG->Prop}{s:ZG}{r l:Addr}{afH:Array Yk}
theorem xP {Q:List Yk->ZG->Prop}(hh:A.handled=YK)(hit:s.heap.IsRevIter r l ((afH.size:Int) - 1))(hl:s.heap.IsList l afH)(hne:l≠r)(hn:afH.size<=CR)
  (hQ:∀ (h':Heap) (tk:Nat) (acc':Array Yk),s.heap.objs.size<h'.objs.size->(∀ b o,b≠r->s.heap.get? b=Mk o->h'.get? b=Mk o)->ItemsOf (fun i v=>afH[afH.size - 1 - i]?=Mk v) acc' afH.size->Q acc'.toList { s with heap:=h',toks:=tk }):Al (Am prog w) A (collect (.ref r)) Q E s:=by
 have lr:r<s.heap.objs.size:=by obtain ⟨_,e,_⟩:=hit;exact CK e
 have ll:l<s.heap.objs.size:=by obtain ⟨_,e,_⟩:=hl;exact CK e
 unfold collect;refine Zi<|wpAny_runValue<|Ov F.entry_proto_collect ?_
 rw [Q7 F.plain_proto_collect _];show Al _ A.in1 (newList [] >>= fun l=>again (.builtin "list.__iadd__" ⟨[l,.ref r],[]⟩)) _ _ s;refine Zi<|Js ?_
 refine BP ⟨Ob F.plain_list_iadd _,Ov F.entry_list_iadd ?_⟩;rw [Q7 F.plain_list_iadd _];show Al _ A.in1 (Uk (.ref s.heap.objs.size) (.ref r) (.ref s.heap.objs.size)) _ _ _;have hS₁ : (s.heap.push { cls:=.type "list",data:=.seq ([]:List Yk).toArray }).get? s.heap.objs.size=Mk { cls:=.type "list",data:=.seq #[] 0 }:=Ej _ rfl;refine aat (A:=A) (R:=fun (r:TY) s'=>match r with
  | .ok (.ret v)=>Al (Am prog w) A (match v with
   | .ref a=>do
    match (<-load a).data with
    | .seq xs _=>pure xs.toList
    | _=>unsupported "internal:collect"
   | _=>unsupported "internal:collect") Q E s'
  | .ok _=>False
  | .error e=>E e s') (s:={ s with heap:=s.heap.push { cls:=.type "list",data:=.seq ([]:List Yk).toArray } }) hh (hit.at fun o e=>CT _ e) (hl.at fun o e=>CT _ e) hne _ (IW lr) (IW ll) _ _ hS₁ (fun h' tk acc' c' hk hS' hacc=>?_) hn
 show Al _ A (load s.heap.objs.size >>= _) _ _ _;refine Zi<|wpAny_load hS' ?_
 exact BP<|hQ h' tk acc' (CK hS') (fun b o hb e=>hk b o (Fw<|CK e) hb<|CT _ e) hacc
theorem wO {Q₁ : Yk->ZG->Prop}(hh:A.handled=YK)(hit:s.heap.IsRevIter r l ((afH.size:Int) - 1))(hl:s.heap.IsList l afH)(hne:l≠r)(hn:afH.size<=CR)
  (h:∀ (h':Heap) (tk:Nat) (acc':Array Yk),s.heap.objs.size<h'.objs.size->(∀ b o,b≠r->s.heap.get? b=Mk o->h'.get? b=Mk o)->ItemsOf (fun i v=>afH[afH.size - 1 - i]?=Mk v) acc' afH.size->Q₁ (.ref h'.objs.size) { s with heap:=h'.push { cls:=.type "tuple",data:=.seq acc' },toks:=tk }) :
  Li (Am prog w) A (.call (.builtin "tuple.__new__") ⟨[.type "tuple",.ref r],[]⟩) (wants Q₁ E) s:=by
 refine codeAny_of_tree ?_;show Al _ A.in1 (do checkBuiltinCall "tuple.__new__" ⟨[.type "tuple",.ref r],[]⟩;again (.builtin "tuple.__new__" ⟨[.type "tuple",.ref r],[]⟩)) _ _ s;refine Zi<|wpAny_of_eq (F.newCall_tuple_1 _)<|BP ⟨Ob F.plain_tuple_new _,Ov F.entry_tuple_new ?_⟩
 rw [Q7 F.plain_tuple_new _];have hsub:=sub_tuple_self;have hinit:=init_tuple_lookup;have hmh:=madeHere_tuple;have hTI:=hit.typeIs;have hhA:A.in1.handled=YK:=hh
 wp_walk using Mf hTI,xP hhA hit hl hne hn
 intro h' tk acc hs hm hacc;show Al _ _ (Qi acc.toList.toArray >>= fun v=>ret v) _ _ _;unfold Qi;refine Zi<|Js ?_ (by show acc.toList.toArray.size<=CR;simp only [Array.toArray_toList];rw [hacc.1];exact hn)
 refine BP ?_;have e:acc.toList.toArray=acc:=by simp
 rw [e];exact h h' tk acc hs hm hacc
theorem wJ {Q:Yk->ZG->Prop}(hh:A.handled=YK)(hit:s.heap.IsRevIter r l ((afH.size:Int) - 1))(hl:s.heap.IsList l afH)(hne:l≠r)(hn:afH.size<=CR)
  (h:∀ (h':Heap) (tk:Nat) (acc':Array Yk),s.heap.objs.size<h'.objs.size->(∀ b o,b≠r->s.heap.get? b=Mk o->h'.get? b=Mk o)->ItemsOf (fun i v=>afH[afH.size - 1 - i]?=Mk v) acc' afH.size->Q (.ref h'.objs.size) { s with heap:=h'.push { cls:=.type "tuple",data:=.seq acc' },toks:=tk }) :
  Al (Am prog w) A (call (.type "tuple") [.ref r]) Q E s:=by
 refine callType_codes (Q₁:=fun obj s₁=>s₁.TypeIs obj "tuple"/\Q obj s₁) F.called_tuple (F.typeCall_tuple_1 _) F.entry_object_init
  (wO (A:=A.in1) hh hit hl hne hn fun h' tk acc hs hm hacc=>⟨⟨_,Ej _ rfl,rfl⟩,h h' tk acc hs hm hacc⟩) fun obj s₁ h₁=>?_
 exact ⟨h₁.1,F.args_object_init_2 obj _,object_init_meets F.called_tuple.init.lookup F.called_tuple.made (by decide) prog w A.in1 _ s₁ ⟨h₁.1,rfl,h₁.2⟩⟩
end
section
variable {X:Cx}
def uf (me:ME):ME:=fun Z h Q=>me Z h fun x h1=>match eH h1 x with
 | some us=>Q (.tup us.reverse) h1
 | none=>False
theorem zT {me:ME}{p p' pos pos':Pos}(hc:X.calm=true)(hl:Gl X "tuple")(hlm:X.mg "tuple" = YK)(hr:Gl X "reversed")(hrm:X.mg "reversed" = YK)(he:DE X e1 me)
  (h1:Bo [.Call (.Name "reversed" p') [e1] [] pos'] X.env=(false,eval (.Call (.Name "reversed" p') [e1] [] pos') X.env)::Bo [] X.env:=by rfl) (hp1:(En pos (Bo [] X.env)).any (·.1)=false:=by rfl)
  (h2:Bo [e1] X.env=(false,eval e1 X.env)::Bo [] X.env:=by rfl) (hp2:(En pos' (Bo [] X.env)).any (·.1)=false:=by rfl) :
  DE X (.Call (.Name "tuple" p) [.Call (.Name "reversed" p') [e1] [] pos'] [] pos) (uf me):=by
 intro afG s Z H Q I ⟨μ,g,Zw,Qw,R,S,m,q⟩;refine R7<|pN I hl hlm Ma ?_ (by decide)<|by decide
 refine TK ?_ h1 hp1;rw [h1];show Al _ _ (spliced ((false,eval _ X.env)::En pos (Bo [] X.env))) _ _ s;refine Calls.spliced_cons ?_;refine R7<|pN I hr hrm boot_reversed ?_ (by decide)<|by decide
 refine TK ?_ h2 hp2;rw [h2];show Al _ _ (spliced ((false,eval e1 X.env)::En pos' (Bo [] X.env))) _ _ s;refine Calls.spliced_cons<|CV (he afG s Z H _ I ⟨μ,g,Zw,_,R,S,m,fun v H1 z=>z⟩) fun u s1 ⟨x,H1,I1,rx,μ1,wx,g1,x1,R1,r1,m1⟩=>?_
 refine Calls.spliced_nil ?_;split at m1
 ·rename_i us ev;obtain ⟨a,xs,ex,hs,rs⟩:=cR R1 r1 ev;subst ex;obtain rfl:u=Value.ref a:=rx;obtain ⟨its,r,pl,hz⟩:=I1.list hs;have afI:=r.length;refine call_reversed_list pl.isList ?_;refine Calls.spliced_nil ?_;have la:a<s1.heap.objs.size:=by obtain ⟨_,e,_⟩:=pl.isList;exact CK e
  have gi:(s1.heap.push (revObj a ((its.toArray.size:Int) - 1))).IsRevIter s1.heap.objs.size a ((its.toArray.size:Int) - 1):=⟨_,Ej _ rfl,rfl,rfl⟩
  refine wJ (I1.ok.hd hc) gi (pl.isList.at fun o e=>CT _ e) (Fw la) (by rw [Gm,<-afI];exact hz) fun h' tk acc' hsz kp it=>?_;have ea:acc'.toList=its.reverse:=by
   refine List.ext_getElem? fun j=>?_;by_cases hj:j<its.length
   ·have hj':j<acc'.toList.length:=by rw [RT,it.1,Gm];exact hj
    have h3:=it.2 j (acc'.toList[j]) (by rw [<-Qe];exact Gg hj');rw [Gg hj',List.getElem?_reverse hj,<-h3,Gm];simp
   ·rw [Ra (by rw [RT,it.1,Gm];lia),Ra (by rw [List.length_reverse];lia)]
  have kp':∀ b o,s1.heap.get? b=Mk o->h'.get? b=Mk o:=fun b o eb=>kp b o (Fw (CK eb)) (CT _ eb)
  have hge:s1.heap.objs.size<=h'.objs.size:=by
   have:(s1.heap.push (revObj a ((its.toArray.size:Int) - 1))).objs.size=s1.heap.objs.size+1:=Mr _ _
   rw [this] at hsz;lia
  have hf:H1 h'.objs.size=YK:=I1.hok.fresh hge;refine ⟨.ref h'.objs.size,_,I1.laid (a:=h'.objs.size) (o:=.tup xs.reverse) (t':=tk) (fun b o eb=>CT _<|kp' b o eb) hge<|show dX X.prog X.w _ _ _ (.tup xs.reverse) from ⟨by rw [List.length_reverse];exact hz,acc'.toList,by rw [ea];exact zaV r,by simpa using GD.new h' acc'⟩,rfl,?_⟩;exact q _ _ ⟨μ1,.tup us.reverse,g1,x1.trans (Ex.laid hf).ext,R1.laid hf,.tupNew hf<|zP rs,m1⟩
 ·exact m1.elim
end
section
variable {P:Bs}{w:Bh}{A:Bx}{E:Yk->ZG->Prop}{s:ZG}
end
section
variable {X:Cx}{K:Ar}
def yD {β : Type}(kvs:List (Key×β))(ks:List Int):Prop:=kvs.map (·.1)=ks.map Sum.inl
theorem yq {ks:List Int}:∀ {kvs:List (Key×V)} {vs:List (Key×Yk)} {ks:List Int},KV kvs vs->yD kvs ks->vs.map (·.1)=ks.map Sum.inl
 | [],_,ks,.nil,e=>by
  have:ks=[]:=by cases ks with
   | nil=>rfl
   | cons a l=>simp [yD] at e
  subst this;rfl
 | x::kvs,_,ks,.cons r t,e=>by
  cases ks with
  | nil=>simp [yD] at e
  | cons k ks=>
   unfold yD at e;rw [Bf,Bf] at e;obtain ⟨e1,e2⟩:=Lb e;rw [Bf,Bf,yq (ks:=ks) t e2,<-r.1,e1]
theorem vg:∀ {es:List Nk} {vs:List (Key×Yk)} {ks:List Int},PySem.Pairs (bM X.prog X.w) es vs->vs.map (·.1)=ks.map Sum.inl->Az (ks.map V.int) (es.map (·.key))/\es.length=vs.length
 | _,_,ks,.nil,e=>by
  have:ks=[]:=by cases ks with
   | nil=>rfl
   | cons a l=>simp at e
  subst this;exact ⟨.nil,rfl⟩
 | _,_,ks,.cons h1 h2 t,e=>by
  cases ks with
  | nil=>simp at e
  | cons k ks=>
   rw [Bf,Bf] at e;obtain ⟨e1,e2⟩:=Lb e;obtain ⟨i1,i2⟩:=vg (ks:=ks) t e2;refine ⟨.cons ?_ i1,by rw [Il,Il,i2]⟩;rcases bQ h1 with ⟨i,u,q1,q2⟩ | ⟨x,u,q1,q2⟩
   ·rw [e1] at q1;injection q1 with q1
    exact ⟨u,by rw [q1];exact q2⟩
   ·rw [e1] at q1;exact nomatch q1
def zab:MC:=fun ws h Q=>match ws with
 | [.loc n]=>(match h.c n with
  | some (.dct kvs)=>∃ ks:List Int,yD kvs ks/\∀ js:List Int,js.Perm ks->js.Pairwise (· < ·)->Q (.lst (js.map .int)) h
  | _=>False)
 | _=>False
theorem zE {H:Hp}{μ : Mu}:∀ {kvs:List (Key×W)} {kvv:List (Key×V)} {ks:List Int},ji K H μ kvs kvv->yD kvs ks->yD kvv ks
 | [],_,ks,.nil,e=>e
 | x::kvs,_,ks,.cons r t,e=>by
  cases ks with
  | nil=>simp [yD] at e
  | cons k ks=>
   unfold yD at e |-
   rw [Bf,Bf] at e;obtain ⟨e1,e2⟩:=Lb e;have:=zE (ks:=ks) t e2
   unfold yD at this;rw [Bf,Bf,this,<-r.1,e1]
end
section
variable {X:Cx}{o:Expr}{ma:MA}{apos afJ:Pos}
def Jp:MM:=fun x ws h Q=>match x,ws with
 | .loc n,[y,z]=>(match h.c n,PK y with
  | some (.dct kvs),Mk k=>Q ((oH kvs k).getD z) h
  | _,_=>False)
 | _,_=>False
def Bv (h:Gh)(x:W)(P:Prop):Prop:=match x with
 | .loc n=>(match h.c n with
  | some (.dct _)=>P
  | _=>False)
 | _=>False
def Ui (r:MM)(mo:ME)(ma:MA):ME:=fun Z h Q=>mo Z h fun x h1=>Bv h1 x (ma Z h1 fun xs h2=>r x xs h2 Q)
theorem rC {K:Ar}{H:Hp}{μ : Mu}{k:Key}:∀ {kvs:List (Key×W)} {kvv:List (Key×V)},ji K H μ kvs kvv->(∀ w,oH kvs k=Mk w->∃ v,Ck kvv k=Mk v/\kI K H μ w v)/\(oH kvs k=YK->Ck kvv k=YK)
 | [],_,.nil=>⟨fun w e=>by simp [oH] at e,fun _=>rfl⟩
 | x::kvs,y::_,.cons r t=>by
  obtain ⟨i1,i2⟩:=rC (k:=k) t;unfold oH Ck at *;rw [M7,M7];by_cases c:x.1=k
  ·have c2:y.1=k:=r.1.symm.trans c;rw [decide_eq_true c];simp only [c2,decide_true];exact ⟨fun w e=>by cases e;exact ⟨_,rfl,r.2⟩,fun e=>by cases e⟩
  ·have c2:¬ y.1=k:=fun e=>c (r.1.trans e)
   rw [decide_eq_false c];simp only [c2,decide_false];exact ⟨i1,i2⟩
theorem abZ (hu:X.A.units+30<HF)(ho:DE X o mo)(ha:IV X [e1,e2] ma)
  (hbase:QF o "get" X.env (eval o X.env)=eval o X.env:=by rfl)
  (hfew:((En afJ (Bo [e1,e2] X.env)).all (fun x=>!x.1)&&(backToKw afJ (QJ [] X.env)).all (fun x=>x.1.isSome)
   && decide (([e1,e2]:List Expr).length+([]:List Jx).length+(if ([]:List Jx).isEmpty then 0 else 1)<30))=true:=by rfl)
  (hline:(apos.endLine==afJ.line)=true:=by rfl) (hst:Bo [e1,e2] X.env=(false,eval e1 X.env)::Bo [e2] X.env:=by rfl) (hplain:(En afJ (Bo [e2] X.env)).any (·.1)=false:=by rfl) :
  DE X (.Call (.Attribute o "get" apos) [e1,e2] [] afJ) (Ui Jp mo ma):=by
 intro afG s Z H Q I ⟨μ,h,Zw,Qw,R,S,m,k⟩;refine U8 hbase hfew hline rfl<|CV (ho afG s Z H _ I ⟨μ,h,Zw,_,R,S,m,fun _ _ z=>z⟩) fun u s1 ⟨x,H1,I1,rx,μ1,wx,h1,e1',R1,r1,il⟩=>?_
 unfold Bv at il;split at il
 ·rename_i n;split at il
  ·rename_i kv0 ec0;have r0:=r1;rw [kI] at r1;obtain ⟨a,rfl,ha'⟩:=r1;obtain rfl:u=Value.ref a:=rx;obtain ⟨p,kvv,hp,hx,_⟩:=R1.dctAt ec0;have ep:p=a:=by rw [ha'] at hp;exact (Eb hp).symm
   subst ep;obtain ⟨z,y,vs0,W3,dd0⟩:=Aj I1.hok hx;obtain ⟨ob,es,epo,g1,g2,_⟩:=id dd0;refine ⟨"dict", "dict.get",PySem.F.plainAttrs_dict,Te,PySem.F.type_dict_get,⟨ob,g1,g2.1⟩,fun b e=>by cases e;exact ⟨ob,g1,g2.2.1⟩,?_⟩;have hA:=ha afJ afG s1 Z H1 _ I1 ⟨μ1,h1,Zw,_,R1,S.ext e1',il,fun _ _ z=>z⟩;rw [hst] at hA |-
   refine TF (by show (false||(En afJ<|Bo [e2] X.env).any (·.1))=false;rw [hplain] <;> rfl)<|T8 ?_
   refine CV hA fun us s2 ⟨ys,H2,I2,r2,μ2,ws,h2,e2',R2,rs,m2⟩=>?_;unfold Jp at m2;split at m2
   ·rename_i n' y' z' e3;cases e3;split at m2
    ·rename_i kvs kk ec ek;obtain ⟨v1,v2,rfl,ry,rz⟩:=Ak rs;have ev1:=jK ry ek;subst ev1;obtain ⟨u1,u2,rfl,ru1,ru2⟩:=vals2 r2;obtain ⟨p2,kvv2,hp2,hx2,rf2⟩:=R2.dctAt ec;have r0':=e2'.r _ _ r0;rw [kI] at r0';obtain ⟨a2,ea,ha2⟩:=r0';cases ea;have ep2:p2=p:=by rw [ha2] at hp2;exact (Eb hp2).symm
     subst ep2;obtain ⟨z2,hd2,vs2,rel2,dd⟩:=Aj I2.hok hx2;obtain ⟨t1,t2⟩:=rC (k:=kk) rf2;refine call_meetsIn Te dd.typeIs PySem.F.entry_dict_get (PySem.F.args_dict_get_3 _ _ _) (meets_dict_get_default (bM X.prog X.w) p2 (Fv ru1) hd2 u2) ⟨_,dd.mapOf,?_⟩;have hv:=(rel2.val kk).getD ru2;cases ev:oH kvs kk with
     | some wv=>
      rw [ev] at m2;obtain ⟨v,a1,a3⟩:=t1 wv ev;rw [a1] at hv;exact ⟨v,H2,I2.tok _,hv,k _ _ ⟨μ2,wv,h2,e1'.trans e2',R2,a3,m2⟩⟩
     | none=>
      rw [ev] at m2;rw [t2 ev] at hv;exact ⟨v2,H2,I2.tok _,hv,k _ _ ⟨μ2,z',h2,e1'.trans e2',R2,rz,m2⟩⟩
    ·exact m2.elim
   ·exact m2.elim
  ·exact il.elim
 ·exact il.elim
end
section
variable {prog:Bs}{w:Bh}{A:Bx}{E:Yk->ZG->Prop}{ns:List Int}{its:List Yk}
end
section
variable {X:Cx}
end
section
variable {X:Cx}{a b o i:Expr}{td ty:TE}{pos:Pos}
end
section
variable {P:Bs}{w:Bh}{A:Bx}{E:Yk->ZG->Prop}{s:ZG}
end
section
variable {X:Cx}
end
section
variable {X:Cx}{e e3 e4:Expr}{es:List Expr}{mc md:ME}{pos:Pos}{k:Nat}{zl:List Str}{x:Str}{p:Pos}
theorem aC (h1:DE X e ma)(h2:IV X es mr)(s:Cq e=false:=by with_unfolding_all rfl):IV X (e::es) (aA ma mr):=ak h1 h2 (aj s)
theorem a1 (h1:DE X e ma)(s:Cq e=false:=by with_unfolding_all rfl):IV X [e] (aA ma aY):=aC h1 au s
theorem a2 (h1:DE X e ma)(h2:DE X e2 mb)(s1:Cq e=false:=by with_unfolding_all rfl)(s2:Cq e2=false:=by with_unfolding_all rfl):IV X [e,e2] (aA ma (aA mb aY)):=aC h1 (a1 h2 s2) s1
theorem a3 (h1:DE X e ma)(h2:DE X e2 mb)(h3:DE X e3 mc)(s1:Cq e=false:=by with_unfolding_all rfl)(s2:Cq e2=false:=by with_unfolding_all rfl)(s3:Cq e3=false:=by with_unfolding_all rfl):IV X [e,e2,e3] (aA ma (aA mb (aA mc aY))):=aC h1 (a2 h2 h3 s2 s3) s1
theorem dct {T:String}{mc:MC}(hc:lO X (.type T) mc)(hv:Pu x=Mk (.type T))(ha:IV X (e::es) mr)(z:∀ n∈zl,X.mg n=YK:=by with_unfolding_all assumption)(hz:x∈zl:=by decide)(hg:Gl X x:=by with_unfolding_all rfl)(hn:x ≠ "__name__":=by decide)(hdb:(x==("__debug__" : Str))=false:=by decide)
  (h1:Cq e=false:=by with_unfolding_all rfl) (h2:noStar es=true:=by with_unfolding_all rfl):DE X (.Call (.Name x p) (e::es) [] pos) (Fz mc mr):=cH hc hg (z _ hz) hv ha hn hdb (aj h1) (aB h2)
theorem hh (hc:X.calm=true:=by with_unfolding_all assumption):X.calm=true:=hc
end
section
variable {X:Cx}{e:Expr}
def Ol (m:ME):MT:=fun Z h Q=>m Z h fun w h1=>match w with
 | .loc n=>(match h1.c n with
  | some (.dct kvs)=>Q (!kvs.isEmpty) h1
  | _=>False)
 | _=>False
theorem zaW {K:Ar}{H:Hp}{kvs:List (Key×W)}(r:ji K H μ kvs kvv):kvs.isEmpty=kvv.isEmpty:=by
 cases r <;> rfl
theorem afj (he:DE X e ma)(h:∀ whole,isTrue e X.env whole=(do let v <-whole;standAt e.pos;Ni [v] (truthy v)):=by intro _;rfl):DT X e (Ol ma):=(yX he h).of fun Z H Q ⟨μ,g,Zw,Qw,R,S,m,q⟩=>by
 refine ⟨μ,g,Zw,_,R,S,m,fun v H1 ⟨μ1,w,h1,e1,R1,r1,m1⟩=>?_⟩;split at m1
 ·rename_i n;split at m1
  ·rename_i kvs ec;rw [kI] at r1;obtain ⟨p,ev,hm⟩:=r1;subst ev;obtain ⟨p',kvv,hm',hx,rf⟩:=R1.dctAt ec;have ep:p'=p:=by rw [hm] at hm';exact (Eb hm').symm
   subst ep;exact ⟨_,.inr<|.inr ⟨kvv,hx,by rw [zaW rf]⟩,q _ _ ⟨μ1,h1,e1,R1,m1⟩⟩
  ·exact m1.elim
 ·exact m1.elim
end
def Kz (kvs:List (Key×W))(k:Key):List (Key×W):=kvs.filter fun kv=>decide (kv.1≠k)
theorem yw {K:Ar}{H:Hp}{μ : Mu}{k:Key}:∀ {kvs:List (Key×W)} {kvv:List (Key×V)},ji K H μ kvs kvv->ji K H μ (Kz kvs k) (xW kvv k)
 | [],_,.nil=>.nil
 | x::kvs,y::_,.cons r t=>by
  have i:=yw (k:=k) t;unfold Kz xW at *;rw [QV,QV,r.1];split
  ·exact .cons r i
  ·exact i
section
variable {X:Cx}{o:Expr}{ma:MA}{apos afJ:Pos}
def Jw:MM:=fun x ws h Q=>match x,ws with
 | .loc n,[y]=>(match h.c n,PK y with
  | some (.dct kvs),Mk k=>(match oH kvs k with
   | some v=>Q v (h.set n (.dct (Kz kvs k)))
   | none=>False)
  | _,_=>False)
 | _,_=>False
theorem aea (ho:DE X o mo)(ha:IV X [e1] ma)
  (hbase:QF o "pop" X.env (eval o X.env)=eval o X.env:=by rfl)
  (hfew:((En afJ (Bo [e1] X.env)).all (fun x=>!x.1)&&(backToKw afJ (QJ [] X.env)).all (fun x=>x.1.isSome)
   && decide (([e1]:List Expr).length+([]:List Jx).length+(if ([]:List Jx).isEmpty then 0 else 1)<30))=true:=by rfl)
  (hline:(apos.endLine==afJ.line)=true:=by rfl) (hst:Bo [e1] X.env=(false,eval e1 X.env)::Bo [] X.env:=by rfl) (hplain:(En afJ (Bo [] X.env)).any (·.1)=false:=by rfl) :
  DE X (.Call (.Attribute o "pop" apos) [e1] [] afJ) (Ui Jw mo ma):=by
 intro afG s Z H Q I ⟨μ,h,Zw,Qw,R,S,m,k⟩;refine U8 hbase hfew hline rfl<|CV (ho afG s Z H _ I ⟨μ,h,Zw,_,R,S,m,fun _ _ z=>z⟩) fun u s1 ⟨x,H1,I1,rx,μ1,wx,h1,e1',R1,r1,il⟩=>?_
 unfold Bv at il;split at il
 ·rename_i n;split at il
  ·rename_i kv0 ec0;have r0:=r1;rw [kI] at r1;obtain ⟨a,rfl,ha'⟩:=r1;obtain rfl:u=Value.ref a:=rx;obtain ⟨p,kvv,hp,hx,_⟩:=R1.dctAt ec0;have ep:p=a:=by rw [ha'] at hp;exact (Eb hp).symm
   subst ep;obtain ⟨z,y,vs0,W3,dd0⟩:=Aj I1.hok hx;obtain ⟨ob,es,epo,g1,g2,_⟩:=id dd0;refine ⟨"dict", "dict.pop",PySem.F.plainAttrs_dict,PySem.F.slot_dict_pop,PySem.F.type_dict_pop,⟨ob,g1,g2.1⟩,fun b e=>by cases e;exact ⟨ob,g1,g2.2.1⟩,?_⟩;have hA:=ha afJ afG s1 Z H1 _ I1 ⟨μ1,h1,Zw,_,R1,S.ext e1',il,fun _ _ z=>z⟩;rw [hst] at hA |-
   refine TF (by show (false||(En afJ<|Bo [] X.env).any (·.1))=false;rw [hplain] <;> rfl)<|T8 ?_
   refine CV hA fun us s2 ⟨ys,H2,I2,r2,μ2,ws,h2,e2',R2,rs,m2⟩=>?_;unfold Jw at m2;split at m2
   ·rename_i n' y' e3;cases e3;split at m2
    ·rename_i kvs kk ec ek;split at m2
     ·rename_i wv ev;obtain ⟨v1,rfl,ry⟩:=jP rs;have ev1:=jK ry ek;subst ev1;obtain ⟨u1,rfl,ru1⟩:=vals1 r2;obtain ⟨p2,kvv2,hp2,hx2,rf2⟩:=R2.dctAt ec;have r0':=e2'.r _ _ r0;rw [kI] at r0';obtain ⟨a2,ea,ha2⟩:=r0';cases ea;have ep2:p2=p:=by rw [ha2] at hp2;exact (Eb hp2).symm
      subst ep2;obtain ⟨v,a1,a3⟩:=(rC (k:=kk) rf2).1 wv ev;have xt:=(Ex.write (o:=.dK (xW kvv2 kk)) R2 hp2).ext;refine adT (more:=[]) I2 hx2 ru1 a1 (.inl rfl) fun w' s' I3 rw'=>⟨v,_,I3,rw',k _ _ ⟨μ2,wv,_,(e1'.trans e2').trans xt,R2.write (c:=.dct (Kz kvs kk)) hp2 trivial ⟨_,bf,?_⟩,xt.r _ _ a3,m2⟩⟩;exact yw<|Paired.mapP rf2 fun _ _ z=>⟨z.1,xt.r _ _ z.2⟩
     ·exact m2.elim
    ·exact m2.elim
   ·exact m2.elim
  ·exact il.elim
 ·exact il.elim
end
section
variable {X:Cx}
theorem aas (hc:X.calm=true):jo X (.builtin "max") (fun vs H Q=>∃ a kvs ks,vs=[.ref a]/\H a=Mk (.dK kvs)/\yD kvs ks/\0<ks.length/\∀ M,M∈ks->(∀ a,a∈ks->a<=M)->Q (.int M) H):=by
 intro afG s Z H vs us Q I r ⟨a,kvs,ks,ev,hx,hi,hne,q⟩;subst ev;obtain ⟨u,rfl,ru⟩:=vals1 r;cases ru;obtain ⟨z,y,vs,rel,dd⟩:=Aj I.hok hx;have kk:=yq (ks:=ks) rel hi;obtain ⟨o,es,ep,g1,g2,g3,_,g4,g5⟩:=dd;obtain ⟨p1,p2⟩:=vg (X:=X) g4 kk;have x:Bl s.heap a es ep:=⟨o,g1,g2,g3⟩
 have lt:a<s.heap.objs.size:=CK g1;have le:ks.length=es.size:=by have:=p1.length;simpa using this
 have num:∀ i v,(∃ h:i<es.size,v=es[i].key)->∃ t,v=.int (ks.getD i 0) t:=fun i v ⟨h,e⟩=>by
  obtain ⟨u,eu,t,et⟩:=p1.get (i:=i) (x:=.int (ks.getD i 0)) (by rw [Hi,Gg (by lia),M9,Gg (by lia)];rfl);rw [Hi,Gg (by simpa using h)] at eu;refine ⟨t,?_⟩;rw [e,<-et]
  simpa using eu
 refine call_max_walk<|yu y x ?_
 refine ⟨_,_,_,_,_,_,_,rfl,vM (A:=X.A.in1) (I.ok.hd hc) _ a (Fw lt) es ep,⟨⟨_,Ej _ rfl,rfl,rfl⟩,x.of fun o e=>CT _ e⟩,fun b hb=>?_,by lia,CmpOf.ints_gt (fun i=>ks.getD i 0) num,fun v h' tk hP hk=>?_⟩
 ·rw [Mr];rcases El.mp hb with rfl | hb
  ·exact Nat.lt_succ_self _
  ·rw [Fd.mp hb];exact Nat.lt_succ_of_lt lt
 ·obtain ⟨h1,h2⟩:=argBest_gt (fun i=>ks.getD i 0) (es.size - 1);obtain ⟨t,rfl⟩:=num _ _ hP;obtain ⟨hb,_⟩:=hP;refine ⟨.int _,H,I.kept (h':=h') (t':=tk)<|fun b ob e=>hk b ob (by rw [Fd];exact Fw (CK e))<|CT _ e,⟨t,rfl⟩,q _ ?_ fun b hb'=>?_⟩
  ·rw [M9,Gg (by lia)];exact PB _
  ·obtain ⟨j,hj,e⟩:=RX.mp hb';have:=h2 j (by lia)
   rw [M9 (l:=ks) (i:=j),Gg hj] at this;rw [<-e];exact this
def Jz:MC:=fun ws h Q=>match ws with
 | [.loc n]=>(match h.c n with
  | some (.dct kvs)=>∃ ks:List Int,yD kvs ks/\0<ks.length/\∀ M,M∈ks->(∀ a,a∈ks->a<=M)->Q (.int M) h
  | _=>False)
 | _=>False
theorem aeH (hc:X.calm=true):lO X (.builtin "max") Jz:=⟨_,aas hc,by
 intro H μ h vs ws Qw Q R r m k;unfold Jz at m;split at m
 ·rename_i n;split at m
  ·rename_i kvs ec;obtain ⟨p,kvv,hp,hx,rf⟩:=R.dctAt ec;obtain ⟨v,rfl,r1⟩:=jP r;rw [kI] at r1;obtain ⟨p',rfl,hp'⟩:=r1;have ep:p'=p:=by rw [hp] at hp';exact (Eb hp').symm
   subst ep;obtain ⟨ks,m1,m2,m3⟩:=m;exact ⟨p',kvv,ks,rfl,hx,zE rf m1,m2,fun M h1 h2=>k _ _<|.int R<|m3 M h1 h2⟩
  ·exact m.elim
 ·exact m.elim⟩
end
section
variable {prog:Bs}{w:Bh}{A:Bx}{E:Yk->ZG->Prop}{s:ZG}
theorem qW {h h':Heap}{xs:List (Key×Yk)}(x:h.DictOf (bM prog w) d xs)(hd:∀ o,h.get? d=Mk o->h'.get? d=Mk o):h'.DictOf (bM prog w) d xs:=by
 obtain ⟨o,es,ep,e1,r⟩:=x;exact ⟨o,es,ep,hd o e1,r⟩
theorem wu (vs rs:List (Key×Yk))(p:Key×Yk):Lx vs (rs++[p])=stored (Lx vs rs) p.1 p.2:=by
 unfold Lx;rw [Qg];rfl
theorem zaG (vs:List (Key×Yk))(k:Key)(v:Yk):(stored vs k v).length<=vs.length+1:=by
 unfold stored;split
 ·rw [Cm];lia
 ·simp
theorem qC:∀ (rs vs:List (Key×Yk)),(Lx vs rs).length<=vs.length+rs.length
 | [],vs=>by simp [Lx]
 | r::rs,vs=>by
  have:=qC rs (stored vs r.1 r.2)
  have:=zaG vs r.1 r.2
  show (Lx (stored vs r.1 r.2) rs).length<=_;rw [Il];lia
theorem aaA {afH:Array Yk}{fp:List Addr}{St:Nat->Heap->Prop}(W:Walks prog w A.in1 I fp [I] afH.size (fun i v=>afH[i]?=Mk v) St)(hdf:d∉fp)(h0:Heap)(hd0:h0.get? d=YK)(hI0:h0.get? I=YK)
  {ps:List (Key×Yk)} (hp:afH.size=ps.length) (hk:∀ (j:Nat) (p:Key×Yk),ps[j]?=Mk p->∃ q kv,afH[j]?=Mk (.ref q)/\IsTup h0 q #[kv,p.2]/\(bM prog w).is p.1 kv=true) (hz:ps.length<=CR) :
  ∀ (k j:Nat) (s:ZG) (t:Tok),ps.length - j=k->j<=ps.length->St j s.heap->s.heap.DictOf (bM prog w) d (Lx [] (ps.take j))->(∀ b o,h0.get? b=Mk o->s.heap.get? b=Mk o) ->
  (∀ h' tk,h'.DictOf (bM prog w) d (Lx [] ps)->(∀ b o,h0.get? b=Mk o->h'.get? b=Mk o)->R (.ok (.ret .none)) { s with heap:=h',toks:=tk }) ->
  Li (Am prog w) A (.builtin "dict.update.loop" ⟨[.ref d,.ref I,.int (j:Int) t,.none],[]⟩) R s:=by
 have dI:d≠I:=fun e=>hdf (W.sub d (by rw [e];simp))
 intro k;induction k with
 | zero=>
  intro j s t hkj hj st hm h00 hR;have ej:j=ps.length:=by lia
  refine Ov jU ?_;rw [Q7 cT _];show Al _ A.in1 (Jo (.ref I) >>= _) _ _ s;refine Zi<|W.done s _ _ (by rw [hp,<-ej];exact st) fun h' tk hk'=>?_
  have m:∀ b o,h0.get? b=Mk o->h'.get? b=Mk o:=fun b o e=>hk' b o (by intro z;rw [Fd.mp z,hI0] at e;cases e) (h00 b o e)
  have hm':h'.DictOf (bM prog w) d (Lx [] ps):=by
   rw [ej,Jb] at hm;exact qW hm fun o e=>hk' d o (by simpa using dI) e
  exact Zi<|BP<|BP<|hR h' tk hm' m
 | succ k ih=>
  intro j s t hkj hj st hm h00 hR;have hlt:j<ps.length:=by lia
  have ep:ps[j]?=Mk ps[j]:=Gg hlt;generalize ps[j]=p at ep;obtain ⟨q,kv,eq,hq,hkey⟩:=hk j p ep;refine Ov jU ?_;rw [Q7 cT _];show Al _ A.in1 (Jo (.ref I) >>= _) _ _ s;refine Zi<|W.item j s _ _ (by rw [hp];exact hlt) st fun v h' tk hP st' hk'=>?_
  have ev:v=.ref q:=by rw [eq] at hP;exact (Eb hP).symm
  subst ev;have m:∀ b o,h0.get? b=Mk o->h'.get? b=Mk o:=fun b o e=>hk' b o (by intro z;rw [Fd.mp z,hI0] at e;cases e) (h00 b o e)
  have hm':h'.DictOf (bM prog w) d (Lx [] (ps.take j)):=qW hm fun o e=>hk' d o (by simpa using dI) e
  obtain ⟨oq,goq,cq,nq,dq⟩:=hq;have goq':=m _ _ goq;refine Zi<|Im<|Zi<|wpAny_tryCatch ?_
  unfold Builtin.Dict.pairItems;refine Zi<|Mf (T := "tuple") ⟨oq,goq',cq⟩ ?_
  rw [if_pos (by decide)];refine Zi<|Od goq' dq<|BP ?_
  show Al _ _ (Ni [_,_] (dictSet d _ _)) _ _ _;refine Im<|wpAny_dictSet_pairs (hsz:=Cg (qC _ _) (by rw [JV,T3];lia)) hkey hm' fun h2 hd2 hs2=>?_
  have et:stored (Lx [] (ps.take j)) p.1 p.2=Lx [] (ps.take (j+1)):=by
   have e1:ps.take (j+1)=ps.take j++[p]:=by rw [JC,ep];rfl
   rw [e1];exact (wu _ _ _).symm
  rw [et] at hd2;have keep2:∀ b o,b≠d->h'.get? b=Mk o->h2.get? b=Mk o:=fun b o hb e=>hs2.extBut b o hb e
  refine BP ⟨Ob cT _,?_⟩;have ej:((j:Int)+1)=((j+1:Nat):Int):=by lia
  show Li _ _ (.builtin "dict.update.loop" ⟨[.ref d,.ref I,.int ((j:Int)+1) 0,.none],[]⟩) _ _;rw [ej];refine ih (j+1) _ 0 (by lia) hlt (W.frame _ _ _ st' fun b hb o e=>keep2 b o (fun z=>hdf<|z ▸ hb) e) hd2 (fun b o e=>keep2 b o (fun z=>by rw [z,hd0] at e;cases e)<|m b o e) fun h3 tk3 d3 m3=>hR h3 tk3 d3 m3
theorem qm {T:Addr}{afH:Array Yk}{Q:Yk->ZG->Prop}(hh:A.handled=YK)(hu:A.units+30<HF)
  (src:∃ o n,s.heap.get? T=Mk o/\o.cls=.type "list"/\o.data=.seq afH n/\o.dict=YK)
  {ps:List (Key×Yk)} (hp:afH.size=ps.length) (hk:∀ (j:Nat) (p:Key×Yk),ps[j]?=Mk p->∃ q kv,afH[j]?=Mk (.ref q)/\IsTup s.heap q #[kv,p.2]/\(bM prog w).is p.1 kv=true) (hz:ps.length<=CR)
  (h:∀ h' tk,h'.DictOf (bM prog w) s.heap.objs.size (Lx [] ps)->(∀ b o,s.heap.get? b=Mk o->h'.get? b=Mk o)->Q (.ref s.heap.objs.size) { s with heap:=h',toks:=tk }) :
  Al (Am prog w) A (call (.type "dict") [.ref T]) Q E s:=by
 have hhA:A.in1.in1.handled=YK:=hh;have hu2:A.in1.in1.units<HF:=by
  have:A.in1.in1.units=A.units+1+1:=rfl
  lia
 have hT0:T<s.heap.objs.size:=by
  obtain ⟨o,_,e,_⟩:=src;exact CK e
 refine callType_codes (Q₁:=fun obj s₁=>obj=.ref s.heap.objs.size/\s₁ = { s with heap:=s.heap.push { cls:=.type "dict",data:=.dict #[] } }) F.kt_called_dict (F.kt_typeCall_dict_1 _) F.entry_dict_init (kt_code_dict_new _ ⟨rfl,rfl⟩) ?_;rintro obj s₁ ⟨rfl,rfl⟩;have hTd:({ s with heap:=s.heap.push { cls:=.type "dict",data:=.dict #[] } }:ZG).TypeIs (.ref s.heap.objs.size) "dict":=⟨_,Ej _ rfl,rfl⟩
 refine ⟨hTd,F.args_dict_init_2 _ _,?_⟩;unfold O6.«dict.__init__»;refine Zi ?_;unfold Builtin.Dict.selfAndRest;refine Zi<|wpAny_notOrdered_dict hTd ?_
 show Al _ _ (pure (s.heap.objs.size,[Value.ref T])) _ _ _;refine BP ?_;show Al _ _ (Ug "dict.__init__" s.heap.objs.size (.ref T) [] .none) _ _ _;unfold Ug;have loop:∀ (h1:Heap) (tk1:Nat),(∀ b ob,(s.heap.push { cls:=.type "dict",data:=.dict #[] }).get? b=Mk ob->h1.get? b=Mk ob)->∀ (h2:Heap) (fp:List Addr) (St:Nat->Heap->Prop),h1.objs.size∉([s.heap.objs.size]:List Addr)->(∀ b ob,h1.get? b=Mk ob->h2.get? b=Mk ob)->s.heap.objs.size∉fp->Walks prog w A.in1.in1 h1.objs.size fp [h1.objs.size] afH.size (fun i v=>afH[i]?=Mk v) St->St 0 h2 ->
   Li (Am prog w) A.in1 (.builtin "dict.update.loop" ⟨[.ref s.heap.objs.size,.ref h1.objs.size,JT 0,.none],[]⟩) (wants (fun r s₂=>r=.none/\Q (.ref s.heap.objs.size) s₂) E) { s with heap:=h2,toks:=tk1 }:=by
  intro h1 tk1 m1 h2 fp St hne m2 hfp W st;have hd1:=m1 _ _ (Ej s.heap (o:={ cls:=.type "dict",data:=.dict #[] }) rfl);refine aaA (A:=A.in1) W hfp s.heap (RW<|Bp _) (RW<|Lk<|CK hd1) hp hk hz ps.length 0 _ _ rfl (IK _) st ?_ (fun b o e=>m2 b o<|m1 b o<|CT _ e) fun h' tk d m=>⟨rfl,h h' tk d m⟩;exact ⟨_,#[],0,m2 _ _ hd1,⟨rfl,rfl,rfl⟩,rfl,fun _ he=>by simp at he,.nil,Pr⟩
 obtain ⟨o,n,g1,g2,g3,g4⟩:=src;have g1':(s.heap.push { cls:=.type "dict",data:=.dict #[] }).get? T=Mk o:=CT _ g1;refine Zi<|Mf (T := "list") ⟨o,g1',g2⟩ ?_
 rw [if_pos (by decide)];refine Zi<|qF g1' g2 g3 g4 hhA fun h1 tk1 m1=>?_
 rw [if_pos (show (YK:Option Yk).isNone=true from rfl)];refine Zi<|LR ?_
 have hT:h1.IsList T afH:=⟨o,m1 _ _ g1',g2,n,g3⟩
 refine Zi<|RL hT ?_
 have hlt:T<h1.objs.size:=CK (m1 _ _ g1');have hd1:=CK (m1 _ _ (Ej s.heap (o:={ cls:=.type "dict",data:=.dict #[] }) rfl));refine BP ⟨Ob cT _,?_⟩;exact loop h1 tk1 m1 _ _ _ (by simpa using IW hd1) (fun b ob e=>CT _ e) (by simp only [El,Ja,or_false,not_or];exact ⟨Fw hd1,IW hT0⟩) (Walks.list hhA _ T (Fw hlt) afH) ⟨⟨_,Ej _ rfl,rfl,rfl⟩,hT.push _⟩
end
section
variable {X:Cx}{K:Ar}
def Oc (K:Ar)(H:Hp)(y:V)(p:Key×V):Prop:=∃ q,y=V.ref q/\Ed K H q [kV p.1,p.2]
theorem vD {afG:List (Addr×Obj)}{Z : St}{H:Hp}{s:ZG}(I:AP X afG Z H s):∀ {ys:List V} {ps:List (Key×V)} {its:List Yk},Az ys its->JB (Oc X.K H) ys ps ->
  ∃ xs:List (Key×Yk),KV ps xs/\∀ (j:Nat) (p:Key×Yk),xs[j]?=Mk p->∃ q kv,its[j]?=Mk (.ref q)/\IsTup s.heap q #[kv,p.2]/\(bM X.prog X.w).is p.1 kv=true
 | _,_,_,.nil,.nil=>⟨[],.nil,fun j p e=>by simp at e⟩
 | _,_,_,.cons r rv,.cons (b:=p) hp pp=>by
  obtain ⟨xs,a1,a4⟩:=vD I rv pp;obtain ⟨q,rfl,h1⟩:=hp;cases r;obtain ⟨js,r2,ht,_⟩:=I.tuple h1;cases r2 with
  | cons r3 r4=>
   cases r4 with
   | cons r5 r6=>
    cases r6;rename_i kv v;refine ⟨(p.1,v)::xs,.cons ⟨rfl,r5⟩ a1,fun j z e=>?_⟩;cases j with
    | zero=>
     simp at e;subst e;exact ⟨q,kv,rfl,ht,Fv r3⟩
    | succ j=>
     obtain ⟨q',kv',b1,b2⟩:=a4 j z (by simpa using e);exact ⟨q',kv',by simpa using b1,b2⟩
theorem aam (hc:X.calm=true)(hu:X.A.units+30<HF):jo X (.type "dict") (fun vs H Q=>∃ (T:Addr) (ys:List V) (ps:List (Key×V)),vs=[.ref T]/\GK X.K H T ys/\JB (Oc X.K H) ys ps /\
  ∀ d,H d=YK->Q (.ref d) (CJ H d (.dK (jT [] ps)))):=by
 intro afG s Z H vs us Q I r ⟨T,ys,ps,ev,hS,pp,q⟩;subst ev;obtain ⟨u,rfl,ru⟩:=vals1 r;cases ru;obtain ⟨its,rv,⟨o,n,g1,g2,g3,g4⟩,hz⟩:=I.list hS;obtain ⟨xs,a1,a4⟩:=vD I rv pp;have e1:ys.length=its.length:=rv.length;have e2:ys.length=ps.length:=Rv pp;have e3:ps.length=xs.length:=a1.length;refine qm (I.ok.hd hc) hu ⟨o,n,g1,g2,g4,g3⟩ (ps:=xs) (by rw [Gm];lia) (fun j p e=>by
  obtain ⟨q,kv,b1,b2⟩:=a4 j p e;exact ⟨q,kv,by rw [List.getElem?_toArray];exact b1,b2⟩) (by lia) fun h' tk d m=>?_
 have y:(s.heap.objs.size==LQ)=false:=(uw (P:=X.prog) (w:=X.w) (H:=H) s.heap I.big).2.1;have ml:=jG ps [];rw [T3] at ml;exact ⟨.ref s.heap.objs.size,_,I.laid (a:=s.heap.objs.size) (o:=.dK (jT [] ps)) (t':=tk) m (Bp _)<|Dq (by lia) y (KV.merge a1 .nil) d,rfl,q _<|I.hok.fresh<|Bp _⟩
def mJ:List W->Option (List (Key×W))
 | []=>Mk []
 | .tup [k,v]::r=>(match PK k with
  | some ks=>(mJ r).map ((ks,v)::·)
  | none=>YK)
 | _=>YK
def gU (kvs more:List (Key×W)):List (Key×W):=more.foldl (fun acc kv=>G4 acc kv.1 kv.2) kvs
theorem ji.merge {H:Hp}{μ : Mu}:∀ {more:List (Key×W)} {mv:List (Key×V)} {kvs:List (Key×W)} {kvv:List (Key×V)},ji K H μ more mv->ji K H μ kvs kvv->ji K H μ (gU kvs more) (jT kvv mv)
 | [],_,_,_,.nil,r=>r
 | x::more,y::mv,kvs,kvv,.cons a t,r=>by
  have:=ji.merge t (r.put a.2 x.1)
  show ji K H μ (gU (G4 kvs x.1 x.2) more) (jT (HX kvv y.1 y.2) mv);rw [<-a.1];exact this
theorem u0 {H:Hp}{μ : Mu}:∀ {us:List W} {ys:List V} {ps:List (Key×W)},aO K H μ us ys->mJ us=Mk ps->∃ qs:List (Key×V),JB (Oc K H) ys qs/\ji K H μ ps qs
 | [],ys,ps,r,e=>by
  rw [aO] at r;cases e;subst r;exact ⟨[],.nil,.nil⟩
 | w::us,ys,ps,r,e=>by
  rw [aO] at r;obtain ⟨y,yr,rfl,ra,r⟩:=r;unfold mJ at e;split at e
  ·rename_i h;cases h
  ·rename_i k v us' h;cases h;split at e
   ·rename_i ks ek;cases q:mJ us with
    | none=>rw [q] at e;cases e
    | some cs=>
     rw [q] at e;cases (show Mk ((ks,v)::cs)=Mk ps from e)
     obtain ⟨qs,p1,p2⟩:=u0 r q;rw [kI] at ra;obtain ⟨b,zs,rfl,hb,rz⟩:=ra;obtain ⟨z1,z2,rfl,rk,rw'⟩:=Ak rz;have e1:=jK rk ek;subst e1;exact ⟨(ks,z2)::qs,.cons ⟨b,rfl,hb⟩ p1,.cons ⟨rfl,rw'⟩ p2⟩
   ·cases e
  ·cases e
def yL:MC:=fun ws h Q=>match ws with
 | [w]=>(match eH h w with
  | some us=>(match mJ us with
   | some ps=>Q (.loc h.nx) (h.new (.dct (gU [] ps)))
   | none=>False)
  | none=>False)
 | _=>False
theorem acK (hc:X.calm=true)(hu:X.A.units+30<HF):lO X (.type "dict") yL:=⟨_,aam hc hu,by
 intro H μ h vs ws Qw Q R r m k;unfold yL at m;split at m
 ·split at m
  ·split at m
   ·rename_i w _ us ev _ ps ek;obtain ⟨v,e,rv⟩:=jP r;obtain ⟨p,ys,ex,hs,rs⟩:=cR R rv ev;obtain ⟨qs,p1,p2⟩:=u0 rs ek;subst e ex;refine ⟨p,ys,qs,rfl,hs,p1,fun d hd=>?_⟩;have xt:=(Ex.newCell (o:=.dK (jT [] qs)) R hd).ext;have R1:Bq X.K (μ.put h.nx d) (CJ H d (.dK (jT [] qs))) (h.new (.dct (gU [] ps))):=R.newCell hd trivial ⟨_,bf,ji.merge (Paired.mapP p2 fun _ _ z=>⟨z.1,xt.r _ _ z.2⟩) .nil⟩;exact k _ _ ⟨_,.loc h.nx,_,xt,R1,by rw [kI];exact ⟨d,rfl,Mu.put_same⟩,m⟩
   ·exact m.elim
  ·exact m.elim
 ·exact m.elim⟩
end
section
variable {X:Cx}{c:Expr}{t:MT}
theorem zal {body:List Stmt}{m1:CN->MS}{pos:Pos}(hp:Ud (Am X.prog X.w) X.A X.env X.xe)(hΓ : ∀ Z,Γ Z)(hc:DT X c t)(hb:Ju X Γ body m1):DSx X Γ (.While c body [] pos) (fun E=>Kp t (m1 E)):=(abJ hp hc hb).of fun D Z H ⟨_,μ,h,Zw,Dw,E,R,S,m,k,kx⟩=>by
 obtain ⟨Wm,⟨m0,w0⟩,turn⟩:=m;refine ⟨fun n Z' H'=>DN X.K H μ (Wm n) Z' H',⟨m0,μ,Zw,h,.refl,R,S,w0⟩,fun n Z1 H1 ⟨μ1,Zw1,h1,e1,R1,S1,w1⟩=>?_⟩;refine ⟨μ1,h1,Zw1,_,R1,S1,turn n Zw1 h1 w1,fun b H2 ⟨μ2,h2,e2,R2,q⟩=>?_⟩;have e12:=e1.trans e2;cases b with
 | true=>
  dsimp only;rw [if_pos rfl];have again:∀ (Z':St) (H':Hp),DN X.K H2 μ2 (fun Z' h'=>∃ m',m'<n/\Wm m' Z' h') Z' H'->∃ m',m'<n/\DN X.K H μ (Wm m') Z' H':=fun Z' H' ⟨μ3,Zw3,h3,e3,R3,S3,m',hm,w3⟩=>
   ⟨m',hm,μ3,Zw3,h3,e12.trans e3,R3,S3,w3⟩
  exact ⟨fun Z' H'=>∃ m',m'<n/\DN X.K H μ (Wm m') Z' H',fun _ _ z=>z,hΓ _,μ2,h2,Zw1,_,E,R2,S1.ext e2,q.1 rfl,⟨again,fun v H' z=>k.rt _ _<|z.trans e12,fun Z' H' z=>k.nx _ _<|z.trans e12,again⟩,fun ev s' z=>kx ev s'<|z.trans e12⟩
 | false=>
  dsimp only;rw [if_neg Hu];exact k.nx _ _ ⟨μ2,Zw1,h2,e12,R2,S1.ext e2,q.2 rfl⟩
end
end L2
namespace My
open PySem L2 PyProof.Rows
def top (i:Nat):Stmt:=PySem.Challenge.pw_easelroom_k55_parted.main.body.getD i (.Pass ⟨0,0,0,0⟩)
abbrev nM:Stmt:=top 9
theorem uL:bI ["powers", "key", "power"] ["powers"] (aU nM):=⟨rfl,rfl,rfl,by decide +kernel,rfl,by decide +kernel,by decide +kernel⟩
abbrev iR:Stmt:=top 10
theorem oM:bI ["key", "letters", "powers", "taken"] ["key", "letters"] (aU iR):=⟨rfl,rfl,rfl,by decide +kernel,rfl,by decide +kernel,by decide +kernel⟩
abbrev dh:Stmt:=top 11
theorem gP:bI ["one"] ["one"] (aU dh):=⟨rfl,rfl,rfl,by decide +kernel,rfl,by decide +kernel,by decide +kernel⟩
abbrev dB:Stmt:=top 12
theorem iI:bI ["powers", "number", "lead", "rest"] ["powers", "number", "lead"] (aU dB):=⟨rfl,rfl,rfl,by decide +kernel,rfl,by decide +kernel,by decide +kernel⟩
abbrev gn:Stmt:=top 13
theorem mO:bI ["left", "terms", "shift", "factor", "key", "number", "place", "rest"] ["left", "terms", "shift", "factor"] (aU gn):=⟨rfl,rfl,rfl,by decide +kernel,rfl,by decide +kernel,by decide +kernel⟩
abbrev nj:Stmt:=top 14
theorem vO:bI ["one", "other", "lead", "terms", "left", "found", "greatest", "term"] ["one", "other"] (aU nj):=⟨rfl,rfl,rfl,by decide +kernel,rfl,by decide +kernel,by decide +kernel⟩
abbrev nF:Stmt:=top 16
theorem vh:bI ["_law_script", "_law_k"] ["_law_script", "_law_k"] (aU nF):=⟨rfl,rfl,rfl,by decide +kernel,rfl,by decide +kernel,by decide +kernel⟩
abbrev jO:Stmt:=top 17
theorem qU:bI ["_law_script", "_law_k", "_law_many", "_law_left", "_law_free", "_law_seed", "_law_found", "_law_j", "_law_near"] ["_law_script", "_law_k", "_law_many"] (aU jO):=⟨rfl,rfl,rfl,by decide +kernel,rfl,by decide +kernel,by decide +kernel⟩
abbrev iM:Stmt:=top 18
theorem pD:bI ["_law_x"] ["_law_x"] (aU iM):=⟨rfl,rfl,rfl,by decide +kernel,rfl,by decide +kernel,by decide +kernel⟩
abbrev je:Stmt:=top 19
theorem pG:bI ["_law_x", "_law_letters", "_law_most", "_law_found", "_law_k"] ["_law_x", "_law_letters", "_law_most"] (aU je):=⟨rfl,rfl,rfl,by decide +kernel,rfl,by decide +kernel,by decide +kernel⟩
abbrev gw:Stmt:=top 20
theorem mL:bI ["_law_found"] ["_law_found"] (aU gw):=⟨rfl,rfl,rfl,by decide +kernel,rfl,by decide +kernel,by decide +kernel⟩
abbrev uz:Stmt:=top 21
theorem zA:bI ["_law_script", "_law_k", "_law_letters", "_law_many", "_law_most", "_law_found", "_law_j", "_law_x"] ["_law_script", "_law_k", "_law_letters", "_law_many", "_law_most"] (aU uz):=⟨rfl,rfl,rfl,by decide +kernel,rfl,by decide +kernel,by decide +kernel⟩
abbrev iJ:Stmt:=top 22
theorem nP:bI ["_law_found", "_law_due", "_law_k", "_law_term"] ["_law_found", "_law_due"] (aU iJ):=⟨rfl,rfl,rfl,by decide +kernel,rfl,by decide +kernel,by decide +kernel⟩
abbrev gA:Stmt:=top 23
theorem mj:bI ["_law_one", "_law_other", "_law_found", "_law_powers_here", "_law_number_here", "_law_others", "_law_factor", "_law_both"] ["_law_one", "_law_other"] (aU gA):=⟨rfl,rfl,rfl,by decide +kernel,rfl,by decide +kernel,by decide +kernel⟩
abbrev j8:Stmt:=top 24
theorem qG:bI ["_law_one", "_law_other", "_law_found", "_law_powers_here", "_law_number_here"] ["_law_one", "_law_other"] (aU j8):=⟨rfl,rfl,rfl,by decide +kernel,rfl,by decide +kernel,by decide +kernel⟩
abbrev iY:Stmt:=top 25
theorem oJ:bI ["_law_script", "_law_letters", "_law_found"] ["_law_script", "_law_letters"] (aU iY):=⟨rfl,rfl,rfl,by decide +kernel,rfl,by decide +kernel,by decide +kernel⟩
abbrev nA:Stmt:=top 26
theorem vp:bI ["_law_script", "_law_letters", "_law_other", "_law_found", "_law_powers_here", "_law_factor"] ["_law_script", "_law_letters", "_law_other"] (aU nA):=⟨rfl,rfl,rfl,by decide +kernel,rfl,by decide +kernel,by decide +kernel⟩
abbrev nH:Stmt:=top 27
theorem uX:bI ["_law_one", "_law_other", "e"] ["_law_one", "_law_other"] (aU nH):=⟨rfl,rfl,rfl,by decide +kernel,rfl,by decide +kernel,by decide +kernel⟩
abbrev cX:Stmt:=top 28
theorem gC:bI ["_law_script", "_law_letters", "_law_low", "_law_many", "_law_one", "_law_other", "_law_due", "_law_field", "_law_size", "_law_k", "_law_long", "_law_shifted", "_law_far", "_law_near"] ["_law_script", "_law_letters"] (aU cX):=⟨rfl,rfl,rfl,by decide +kernel,rfl,by decide +kernel,by decide +kernel⟩
abbrev Hl:Stmt:=top 29
theorem Kc:bI ["_law_script", "_law_letters", "_law_one", "_law_other", "_law_both", "_law_rest_here", "_law_number_here", "_law_doubled", "_law_more"] ["_law_script"] (aU Hl):=⟨rfl,rfl,rfl,by decide +kernel,rfl,by decide +kernel,by decide +kernel⟩
def qN (E:CN):MS:=
  (fJ (aH 1))
def tL:Bd:=HD 1 3 false fun E=>
  (bR (cP (mC (.int 0)) (Ai 1))
  (bR (uD (Jj (aH 0)) (Ai 2) (cP (BJ bL (BJ wg (aH 1) (mC (.int 65536))) (aH 2)) (Ai 1)))
  (qN E)))
def iV:Bd:=tL
def lW (E:CN):MS:=
  (fJ (uf (aH 2)))
def lG:Bd:=HD 2 4 true fun E=>
  (bR (cP (vK aY) (Ai 2))
  (bR (uD (lN (aA (aH 1) aY)) (Ai 3) (bR (pL (J5 fB (aH 2) (aA (BJ kO (aH 0) (mC (.int 65536))) aY)))
  (cP (BJ wX (aH 0) (mC (.int 65536))) (Ai 0))))
  (lW E)))
def iZ:Bd:=lG
def fj (aft:Bd):Bd:=HD 1 1 false fun E=>
  (fJ (JN (Pj 2) [] (Jj (aH 0)) Dz (dW (aA (bH aft E (aA (aH 0) aY)) (aA (aH 1) aY)))))
def cM:Bd:=fj iV
def gB (E:CN):MS:=
  (fJ (dW (aA (aH 3) (aA (BJ wX (aH 1) (BJ Fy (aH 2) (mC (.int 1)))) aY))))
def fD:Bd:=HD 3 4 false fun E=>
  (bR (cP (Fz gQ (aA (JN (Pj 2) [] (Q0 (aA (aH 0) (aA (BJ Fy (aH 2) (mC (.int 0))) aY))) Dz (BJ yG (aH 0) (aH 1))) aY)) (Ai 3))
  (bR (lU (Lq (dH (BJ Ii (BJ kO (aH 1) (BJ Fy (aH 2) (mC (.int 1)))) (mC (.int 0)))) (uN (Fz U0 (aA (JN ow1 [] (Jj (aH 3)) Dz (BJ kLt (aH 0) (mC (.int 0)))) aY)))) (fJ (mC .non)) dY)
  (gB E)))
def dG:Bd:=fD
def jx:Bd:=HD 4 8 false fun E=>
  (uD (Jj (aH 1)) (qp 2 (mX (Ai 4) (mX (Ai 5) M6))) (bR (cP (BJ bL (aH 4) (aH 2)) (Ai 6))
  (bR (cP (BJ yG (Ui Jp (aH 0) (aA (aH 6) (aA (mC (.int 0)) aY))) (BJ wg (aH 3) (aH 5))) (Ai 7))
  (lU (dH (BJ Jv (aH 7) (mC (.int 0)))) (pL (Ui Jw (aH 0) (aA (aH 6) aY))) (cP (aH 7) (K5 (aH 0) (aH 6) JG))))))
def fX:Bd:=jx
def qD (aft afA afz afC afB:Bd)(E:CN):MS:=
  (fJ (uf (aH 5)))
def qy (aft afA afz afC afB:Bd)(E:CN):MS:=
  (bR (cP (BJ Fy (aH 1) (mUn U9 (mC (.int 1)))) (Ai 2))
  (bR (cP (bH afz EF (aA (aH 1) aY)) (Ai 3))
  (bR (cP (Fz yL (aA (bH afz EF (aA (aH 0) aY)) aY)) (Ai 4))
  (bR (cP (vK aY) (Ai 5))
  (bR (Kp (Ol (aH 4)) (bR (cP (Fz Jz (aA (aH 4) aY)) (Ai 6))
  (bR (cP (bH afC EF (aA (bH afA EF (aA (aH 6) (aA (Fz Hj (aA (BJ Fy (aH 2) (mC (.int 0))) aY)) aY))) (aA (BJ Vz (aH 4) (aH 6)) (aA (aH 2) aY)))) (Ai 7))
  (bR (lU (dH (BJ kIs (aH 7) (mC .non))) (fJ (mC .non)) dY)
  (bR (lU (dH (BJ Jv (Fz Hj (aA (aH 5) aY)) (mC (.int 600)))) (zG "TooMuch" E) dY)
  (bR (pL (J5 fB (aH 5) (aA (aH 7) aY)))
  (pL (bH afB EF (aA (aH 4) (aA (aH 3) (aA (bH aft EF (aA (BJ Fy (aH 7) (mC (.int 0))) aY)) (aA (BJ Fy (aH 7) (mC (.int 1))) aY))))))))))))
  (qD aft afA afz afC afB E))))))
def jY (aft afA afz afC afB:Bd):Bd:=HD 2 8 true fun E=>
  (bR (lU (Bc (uN (aH 1))) (zG "NoPart" E) dY)
  (qy aft afA afz afC afB E))
def bN:Bd:=jY iV iZ cM dG fX
def abe (E:CN):MS:=
  (fJ (mC (.int 0)))
def Ab:Bd:=HD 2 2 false fun E=>
  (bR (lU (dH (BJ kLt (aH 1) (Fz Hj (aA (aH 0) aY)))) (fJ (BJ Fy (aH 0) (aH 1))) dY)
  (abe E))
def bK:Bd:=Ab
def wk (afn:Bd)(E:CN):MS:=
  (fJ (aH 6))
def uE (afn:Bd):Bd:=HD 3 9 true fun E=>
  (bR (cP (bH afn E (aA (aH 0) (aA (aH 1) aY))) (Ai 3))
  (bR (cP (BJ kGt (Uc (aH 3)) (BJ wg (mC (.int 107)) (aH 2))) (Ai 4))
  (bR (cP (BJ kO (BJ bL (BJ bL (aH 3) (BJ wg (mC (.int 7919)) (aH 1))) (mC (.int 11))) (mC (.int 4294967291))) (Ai 5))
  (bR (cP (vK aY) (Ai 6))
  (bR (uD (lN (aA (aH 2) aY)) (Ai 7) (lU (uN (aH 4)) (bR (pL (J5 fB (aH 6) (aA (BJ kO (aH 3) (BJ Ie (mC (.int 10)) (mC (.int 32)))) aY)))
  (cP (BJ wX (aH 3) (BJ Ie (mC (.int 10)) (mC (.int 32)))) (Ai 3))) (bR (cP (BJ kO (BJ bL (BJ bL (BJ wg (aH 5) (mC (.int 69069))) (mC (.int 362437))) (BJ wg (aH 7) (aH 7))) (mC (.int 4294967291))) (Ai 5))
  (bR (cP (BJ kO (BJ wg (aH 5) (BJ bL (BJ bL (BJ wX (aH 5) (mC (.int 4096))) (aH 7)) (mC (.int 1)))) (mC (.int 999999999989))) (Ai 8))
  (pL (J5 fB (aH 6) (aA (BJ kO (BJ wg (BJ wg (aH 8) (BJ bL (aH 8) (mC (.int 7)))) (BJ bL (aH 5) (mC (.int 1)))) (BJ Ie (mC (.int 10)) (mC (.int 32)))) aY)))))))
  (wk afn E))))))
def gM:Bd:=uE bK
def lJ:Bd:=HD 1 1 false fun E=>
  (fJ (BJ Fy (Rt (aA (BJ yG (BJ kO (BJ wX (aH 0) (mC (.int 3))) (mC (.int 7))) (mC (.int 3))) (aA (BJ yG (BJ kO (BJ wX (aH 0) (mC (.int 3))) (mC (.int 201))) (mC (.int 100))) (aA (BJ yG (BJ kO (BJ wX (aH 0) (mC (.int 3))) (BJ wg (mC (.int 2)) (BJ Ie (mC (.int 10)) (mC (.int 30))))) (BJ Ie (mC (.int 10)) (mC (.int 30)))) aY)))) (BJ kO (aH 0) (mC (.int 3)))))
def jd:Bd:=lJ
def mz (E:CN):MS:=
  (fJ (Fz gQ (aA (aH 3) aY)))
def lg:Bd:=HD 3 5 true fun E=>
  (bR (cP (vK aY) (Ai 3))
  (bR (uD (lN (aA (aH 1) aY)) (Ai 4) (bR (pL (J5 fB (aH 3) (aA (BJ kO (aH 0) (BJ bL (aH 2) (mC (.int 1)))) aY)))
  (cP (BJ wX (aH 0) (BJ bL (aH 2) (mC (.int 1)))) (Ai 0))))
  (mz E)))
def iW:Bd:=lg
def jw:Bd:=HD 1 1 false fun E=>
  (fJ (Fz gQ (aA (JN ow1 [0] (Jj (Fz z9 (aA (aH 0) aY))) (dH (BJ Ii (BJ Ji (aH 1) (aH 0)) (mC (.int 0)))) (dW (aA (aH 0) (aA (BJ Ji (aH 1) (aH 0)) aY)))) aY)))
def bF:Bd:=jw
def uR (afF afD afE afp:Bd)(E:CN):MS:=
  (fJ (bH afp E (aA (aH 5) aY)))
def wR (afF afD afE afp:Bd):Bd:=HD 5 8 false fun E=>
  (bR (cP Bt (Ai 5))
  (bR (uD (lN (aA (aH 3) aY)) (Ai 6) (bR (cP (bH afF E (aA (aH 0) (aA (BJ bL (aH 1) (aH 6)) (aA (mC (.int 2)) aY)))) (Ai 7))
  (cP (bH afD E (aA (BJ Fy (aH 7) (mC (.int 1))) aY)) (K5 (aH 5) (bH afE E (aA (BJ Fy (aH 7) (mC (.int 0))) (aA (aH 2) (aA (aH 4) aY)))) oh))))
  (uR afF afD afE afp E)))
def fW:Bd:=wR gM jd iW bF
def lV (E:CN):MS:=
  (fJ (mC (.bl true)))
def lQ (E:CN):MS:=
  (bR (uD (lN (aA (Fz Hj (aA (aH 1) aY)) aY)) (Ai 2) (bR (cP (BJ Fy (aH 0) (aH 2)) (Ai 3))
  (bR (lU (Lq (Bc (uN (Fz JF (aA (aH 3) (aA (mC (.ty "tuple")) aY))))) (Lq (dH (BJ Ii (Fz Hj (aA (aH 3) aY)) (mC (.int 2)))) (Lq (Bc (uN (Fz JF (aA (BJ Fy (aH 3) (mC (.int 0))) (aA (mC (.ty "tuple")) aY))))) (dH (BJ Ii (aH 3) (BJ Fy (aH 1) (aH 2))))))) (fJ (mC (.bl false))) dY)
  (lU (Bc (uN (Fz Vg (aA (JN ow1 [] (Jj (BJ bL (BJ Fy (aH 3) (mC (.int 0))) (mSl QZ (aH 3) (Fl (mC (.int 1))) pI))) Dz (NZ (Fz JF (aA (aH 0) (aA (mC (.ty "int")) aY))) (Lh (Fz JF (aA (aH 0) (aA (mC (.ty "bool")) aY)))))) aY)))) (fJ (mC (.bl false))) dY))))
  (lV E))
def lB:Bd:=HD 2 4 false fun E=>
  (bR (lU (Lq (Bc (uN (Fz JF (aA (aH 0) (aA (mC (.ty "tuple")) aY))))) (dH (BJ Ii (Fz Hj (aA (aH 0) aY)) (Fz Hj (aA (aH 1) aY))))) (fJ (mC (.bl false))) dY)
  (lQ E))
def cG:Bd:=lB
def j9 (afp:Bd)(E:CN):MS:=
  (fJ (bH afp E (aA (aH 2) aY)))
def jq (afp:Bd):Bd:=HD 2 8 false fun E=>
  (bR (cP Bt (Ai 2))
  (bR (uD (Jj (aH 0)) (qp 2 (mX (Ai 3) (mX (Ai 4) M6))) (uD (Jj (aH 1)) (qp 2 (mX (Ai 5) (mX (Ai 6) M6))) (bR (cP (Fz gQ (aA (JN (Pj 2) [] (Q0 (aA (aH 3) (aA (aH 5) aY))) Dz (BJ bL (aH 0) (aH 1))) aY)) (Ai 7))
  (cP (BJ bL (VD Ca (aH 2) (aA (aH 7) (aA (mC (.int 0)) aY))) (BJ wg (aH 4) (aH 6))) (K5 (aH 2) (aH 7) oh)))))
  (j9 afp E)))
def cZ:Bd:=jq bF
def oN (afp:Bd)(E:CN):MS:=
  (fJ (bH afp E (aA (aH 2) aY)))
def oE (afp:Bd):Bd:=HD 2 5 true fun E=>
  (bR (cP (Fz yK (aA (aH 0) aY)) (Ai 2))
  (bR (uD (Jj (aH 1)) (qp 2 (mX (Ai 3) (mX (Ai 4) M6))) (cP (BJ bL (VD Ca (aH 2) (aA (aH 3) (aA (mC (.int 0)) aY))) (aH 4)) (K5 (aH 2) (aH 3) oh)))
  (oN afp E)))
def fL:Bd:=oE bF
def mF (afn afs:Bd)(E:CN):MS:=
  (fJ (aH 2))
def lK (afn afs:Bd):Bd:=HD 2 3 false fun E=>
  (bR (cP (bH afs E (aA (aH 0) (aA (mC (.int 20)) (aA (aH 1) (aA (BJ bL (mC (.int 1)) (BJ kO (bH afn E (aA (aH 0) (aA (mC (.int 2)) aY))) (mC (.int 6)))) (aA (mC (.int 3)) aY)))))) (Ai 2))
  (bR (lU (dH (BJ Jv (aH 2) (dW aY))) (fJ (dW (aA (dW (aA (BJ Ga (dW (aA (mC (.int 0)) aY)) (aH 1)) (aA (BJ yG (mC (.int 1)) (BJ wg (mC (.int 2)) (BJ kO (BJ wX (bH afn E (aA (aH 0) (aA (mC (.int 2)) aY))) (mC (.int 6))) (mC (.int 2))))) aY))) aY))) dY)
  (mF afn afs E)))
def iU:Bd:=lK bK fW
def qT (afn afp afs:Bd)(E:CN):MS:=
  (fJ (bH afp E (aA (aH 3) aY)))
def qK (afn afp afs:Bd)(E:CN):MS:=
  (bR (cP Bt (Ai 3))
  (bR (uD (Jj (bH afs E (aA (aH 0) (aA (mC (.int 30)) (aA (aH 1) (aA (BJ kO (bH afn E (aA (aH 0) (aA (mC (.int 3)) aY))) (mC (.int 5))) (aA (mC (.int 3)) aY))))))) (qp 2 (mX (Ai 4) (mX (Ai 5) M6))) (cP (aH 5) (K5 (aH 3) (BJ bL (dW (aA (BJ kO (BJ Fy (aH 4) (mC (.int 0))) (BJ Fy (BJ Fy (BJ Fy (aH 2) (mUn U9 (mC (.int 1)))) (mC (.int 0))) (mC (.int 0)))) aY)) (mSl QZ (aH 4) (Fl (mC (.int 1))) pI)) oh)))
  (qT afn afp afs E)))
def sG (afn afp afs:Bd):Bd:=HD 3 6 false fun E=>
  (bR (lU (Lq (dH (BJ Jv (aH 1) (mC (.int 0)))) (dH (BJ Jv (BJ Fy (BJ Fy (BJ Fy (aH 2) (mUn U9 (mC (.int 1)))) (mC (.int 0))) (mC (.int 0))) (mC (.int 0))))) (fJ (dW aY)) dY)
  (qK afn afp afs E))
def m7:Bd:=sG bK bF fW
def aaR (afo:Bd)(E:CN):MS:=
  (fJ (mC (.str "told")))
def jF (afo:Bd):Bd:=HD 2 3 false fun E=>
  (bR (V3 2 "EaselError" (fun E=>(pL (bH afo E (aA (aH 0) (aA (aH 1) aY))))) (bR (lU (Lq (uN (BL (fun n=>((Fe n "Nothing")||((Fe n "Stuck")||false))) (aH 2))) (Bc (uN (BL (fun n=>true) (aH 2))))) (fJ (mC (.str "other"))) dY)
  (bR (lU (dH (BJ Jv (BL (fun n=>(Fe n "NoPart")) (aH 2)) (BL (fun n=>(Fe n "TooMuch")) (aH 2)))) (fJ (mC (.str "other"))) dY)
  (fJ (BJ Fy (Rt (aA (mC (.str "too much")) (aA (mC (.str "no part")) aY))) (Fz Qv (aA (BL (fun n=>(Fe n "NoPart")) (aH 2)) aY)))))))
  (aaR afo E))
def fV:Bd:=jF bN
def cV (afo afn afp afq afr:Bd)(E:CN):MS:=
  (bR (cP (dW (aA (BJ bL (dW (aA (mC (.int 60)) (aA (mC (.int 0)) aY))) (aH 2)) (aA (mC (.int 1)) aY))) (Ai 12))
  (bR (cP (dW (aA (dW (aA (BJ bL (dW (aA (mC (.int 0)) (aA (mC (.int 0)) aY))) (aH 2)) (aA (mC (.int 1)) aY))) (aA (dW (aA (BJ bL (dW (aA (mC (.int 0)) (aA (mC (.int 1)) aY))) (aH 2)) (aA (mC (.int 1)) aY))) (aA (dW (aA (BJ bL (dW (aA (mC (.int 1)) (aA (mC (.int 0)) aY))) (aH 2)) (aA (mC (.int 1)) aY))) aY)))) (Ai 13))
  (fJ (BJ Jv (bH afr E (aA (dW (aA (aH 12) aY)) (aA (aH 13) aY))) (mC (.str "too much"))))))
def cQ (afo afn afp afq afr:Bd)(E:CN):MS:=
  (bR (cP (bH afp E (aA (aH 7) aY)) (Ai 10))
  (bR (cP (Fz gQ (aA (JN (Pj 2) [] (Jj (aH 10)) Dz (dW (aA (BJ bL (dW (aA (BJ bL (BJ Fy (aH 0) (mC (.int 0))) (mC (.int 1))) aY)) (mSl QZ (aH 0) (Fl (mC (.int 1))) pI)) (aA (aH 1) aY)))) aY)) (Ai 11))
  (bR (lU (Bc (uN (bH afq E (aA (bH afo E (aA (aH 11) (aA (dW (aA (dW (aA (BJ bL (dW (aA (mC (.int 1)) (aA (mC (.int 0)) aY))) (aH 2)) (aA (mC (.int 1)) aY))) aY)) aY))) (aA (aH 10) aY))))) (fJ (mC (.bl false))) dY)
  (cV afo afn afp afq afr E))))
def cY (afo afn afp afq afr:Bd)(E:CN):MS:=
  (bR (cP Bt (Ai 7))
  (bR (cP (BJ bL (mC (.int 590)) (BJ kO (BJ wX (bH afn E (aA (aH 0) (aA (mC (.int 5)) aY))) (mC (.int 472))) (mC (.int 11)))) (Ai 8))
  (bR (uD (lN (aA (aH 8) aY)) (Ai 9) (cP (BJ bL (mC (.int 1)) (BJ kO (aH 9) (mC (.int 5)))) (K5 (aH 7) (BJ bL (dW (aA (BJ wX (aH 9) (mC (.int 50))) (aA (BJ kO (aH 9) (mC (.int 50))) aY))) (aH 2)) oh)))
  (cQ afo afn afp afq afr E))))
def fK (afo afn afp afq afr:Bd)(E:CN):MS:=
  (bR (cP (BJ Ga (dW (aA (mC (.int 0)) aY)) (BJ yG (aH 1) (mC (.int 2)))) (Ai 2))
  (bR (cP (BJ bL (mC (.int 2)) (BJ kO (BJ wX (bH afn E (aA (aH 0) (aA (mC (.int 5)) aY))) (mC (.int 8))) (mC (.int 59)))) (Ai 3))
  (bR (cP (dW (aA (dW (aA (BJ bL (dW (aA (mC (.int 0)) (aA (aH 3) aY))) (aH 2)) (aA (BJ yG (mC (.int 0)) (mC (.int 1))) aY))) (aA (dW (aA (BJ bL (dW (aA (aH 3) (aA (mC (.int 0)) aY))) (aH 2)) (aA (mC (.int 1)) aY))) aY))) (Ai 4))
  (bR (cP (dW (aA (dW (aA (BJ bL (dW (aA (mC (.int 0)) (aA (mC (.int 1)) aY))) (aH 2)) (aA (BJ yG (mC (.int 0)) (mC (.int 1))) aY))) (aA (dW (aA (BJ bL (dW (aA (mC (.int 1)) (aA (mC (.int 0)) aY))) (aH 2)) (aA (mC (.int 1)) aY))) aY))) (Ai 5))
  (bR (cP (Fz gQ (aA (JN ow1 [2,3] (lN (aA (aH 3) aY)) Dz (dW (aA (BJ bL (dW (aA (aH 0) (aA (BJ yG (BJ yG (aH 2) (mC (.int 1))) (aH 0)) aY))) (aH 1)) (aA (mC (.int 1)) aY)))) aY)) (Ai 6))
  (bR (lU (Bc (uN (bH afq E (aA (bH afo E (aA (aH 4) (aA (aH 5) aY))) (aA (aH 6) aY))))) (fJ (mC (.bl false))) dY)
  (cY afo afn afp afq afr E)))))))
def d7 (afo afn afp afq afr:Bd):Bd:=HD 2 14 false fun E=>
  (bR (lU (Lq (dH (BJ kLt (aH 1) (mC (.int 2)))) (dH (BJ Ii (BJ kO (bH afn E (aA (aH 0) (aA (mC (.int 5)) aY))) (mC (.int 8))) (mC (.int 3))))) (fJ (mC (.bl true))) dY)
  (fK afo afn afp afq afr E))
def cW:Bd:=d7 bN bK bF cG fV
def yN (afo afn afs afq afv afu afy afw afr afx:Bd)(E:CN):MS:=
  (fJ (bH afq E (aA (bH afo E (aA (aH 4) (aA (aH 3) aY))) (aA (aH 2) aY))))
def mZ (afo afn afs afq afv afu afy afw afr afx:Bd)(E:CN):MS:=
  (bR (lU (Lq (dH (BJ Ii (bH afr E (aA (aH 4) (aA (dW aY) aY))) (mC (.str "no part")))) (Lq (dH (BJ Ii (bH afr E (aA (dW aY) (aA (dW aY) aY))) (mC (.str "no part")))) (Bc (uN (bH afx E (aA (aH 0) (aA (aH 1) aY))))))) (fJ (mC (.bl false))) dY)
  (yN afo afn afs afq afv afu afy afw afr afx E))
def sy (afo afn afs afq afv afu afy afw afr afx:Bd)(E:CN):MS:=
  (bR (cP (BJ bL (mC (.int 2)) (BJ kO (bH afn E (aA (aH 0) (aA (mC (.int 4)) aY))) (BJ Ie (mC (.int 10)) (mC (.int 20))))) (Ai 6))
  (bR (cP (Fz gQ (aA (JN (Pj 2) [6] (Jj (aH 3)) Dz (dW (aA (aH 0) (aA (BJ wg (aH 1) (aH 2)) aY)))) aY)) (Ai 7))
  (bR (cP (bH afu E (aA (bH afv E (aA (aH 2) (aA (aH 7) aY))) (aA (dW (aA (dW (aA (BJ Ga (dW (aA (mC (.int 0)) aY)) (aH 1)) (aA (mC (.int 1)) aY))) aY)) aY))) (Ai 8))
  (bR (lU (dH (BJ Bb (bH afo E (aA (aH 8) (aA (aH 7) aY))) (mC .non))) (fJ (mC (.bl false))) dY)
  (mZ afo afn afs afq afv afu afy afw afr afx E)))))
def DR (afo afn afs afq afv afu afy afw afr afx:Bd)(E:CN):MS:=
  (bR (cP (bH afw E (aA (aH 0) (aA (aH 1) (aA (aH 3) aY)))) (Ai 5))
  (bR (lU (Wn (dH (BJ Ii (aH 5) (dW aY))) (dH (BJ Bb (bH afo E (aA (bH afu E (aA (aH 4) (aA (aH 5) aY))) (aA (aH 3) aY))) (mC .non)))) (fJ (mC (.bl false))) dY)
  (sy afo afn afs afq afv afu afy afw afr afx E)))
def NP (afo afn afs afq afv afu afy afw afr afx:Bd):Bd:=HD 1 9 false fun E=>
  (bR (cP (BJ kO (bH afn E (aA (aH 0) (aA (mC (.int 0)) aY))) (mC (.int 9))) (Ai 1))
  (bR (cP (bH afs E (aA (aH 0) (aA (mC (.int 6)) (aA (aH 1) (aA (BJ kO (bH afn E (aA (aH 0) (aA (mC (.int 1)) aY))) (mC (.int 11))) (aA (mC (.int 3)) aY)))))) (Ai 2))
  (bR (cP (bH afy E (aA (aH 0) (aA (aH 1) aY))) (Ai 3))
  (bR (cP (bH afv E (aA (aH 2) (aA (aH 3) aY))) (Ai 4))
  (bR (lU (Lq (Bc (uN (bH afq E (aA (bH afo E (aA (aH 4) (aA (aH 3) aY))) (aA (aH 2) aY))))) (dH (BJ Ii (bH afo E (aA (dW aY) (aA (aH 3) aY))) (dW aY)))) (fJ (mC (.bl false))) dY)
  (DR afo afn afs afq afv afu afy afw afr afx E))))))
def Jk:Bd:=NP bN bK fW cG cZ fL iU m7 fV cW
structure Ad where
 f_packed:Addr
 d_packed:Ei
 f_unpacked:Addr
 d_unpacked:Ei
 f_packed_terms:Addr
 d_packed_terms:Ei
 f_part_of_term:Addr
 d_part_of_term:Ei
 f_take_away:Addr
 d_take_away:Ei
 f_parted:Addr
 d_parted:Ei
 f_l_cell:Addr
 d_l_cell:Ei
 f_l_draws:Addr
 d_l_draws:Ei
 f_l_number:Addr
 d_l_number:Ei
 f_l_powers:Addr
 d_l_powers:Ei
 f_l_ordered:Addr
 d_l_ordered:Ei
 f_l_sum:Addr
 d_l_sum:Ei
 f_l_is_sum:Addr
 d_l_is_sum:Ei
 f_l_product:Addr
 d_l_product:Ei
 f_l_added:Addr
 d_l_added:Ei
 f_l_second:Addr
 d_l_second:Ei
 f_l_rest:Addr
 d_l_rest:Ei
 f_l_word:Addr
 d_l_word:Ei
 f_l_longs_right:Addr
 d_l_longs_right:Ei
 f_law:Addr
 d_law:Ei
 a_MOST_TERMS:Tok
 a_FIELD:Tok
 x_EaselError:Addr
 x_Nothing:Addr
 x_Stuck:Addr
 x_NoPart:Addr
 x_TooMuch:Addr
structure Txt (K:Ar) (mg:Str->Option Yk) (t:Ad):Prop where
 F_packed:Hg K "packed" "packed" nM t.f_packed t.d_packed
 iV:mg "packed" = Mk (.ref t.f_packed)
 b_packed:Binds K t.d_packed ["powers"] []
 F_unpacked:Hg K "unpacked" "unpacked" iR t.f_unpacked t.d_unpacked
 iZ:mg "unpacked" = Mk (.ref t.f_unpacked)
 b_unpacked:Binds K t.d_unpacked ["key", "letters"] []
 F_packed_terms:Hg K "packed_terms" "packed_terms" dh t.f_packed_terms t.d_packed_terms
 cM:mg "packed_terms" = Mk (.ref t.f_packed_terms)
 b_packed_terms:Binds K t.d_packed_terms ["one"] []
 F_part_of_term:Hg K "part_of_term" "part_of_term" dB t.f_part_of_term t.d_part_of_term
 dG:mg "part_of_term" = Mk (.ref t.f_part_of_term)
 b_part_of_term:Binds K t.d_part_of_term ["powers", "number", "lead"] []
 F_take_away:Hg K "take_away" "take_away" gn t.f_take_away t.d_take_away
 fX:mg "take_away" = Mk (.ref t.f_take_away)
 b_take_away:Binds K t.d_take_away ["left", "terms", "shift", "factor"] []
 F_parted:Hg K "parted" "parted" nj t.f_parted t.d_parted
 bN:mg "parted" = Mk (.ref t.f_parted)
 b_parted:Binds K t.d_parted ["one", "other"] []
 F_l_cell:Hg K "_law_cell" "_law_cell" nF t.f_l_cell t.d_l_cell
 bK:mg "_law_cell" = Mk (.ref t.f_l_cell)
 b_l_cell:Binds K t.d_l_cell ["_law_script", "_law_k"] []
 F_l_draws:Hg K "_law_draws" "_law_draws" jO t.f_l_draws t.d_l_draws
 gM:mg "_law_draws" = Mk (.ref t.f_l_draws)
 b_l_draws:Binds K t.d_l_draws ["_law_script", "_law_k", "_law_many"] []
 F_l_number:Hg K "_law_number" "_law_number" iM t.f_l_number t.d_l_number
 jd:mg "_law_number" = Mk (.ref t.f_l_number)
 b_l_number:Binds K t.d_l_number ["_law_x"] []
 F_l_powers:Hg K "_law_powers" "_law_powers" je t.f_l_powers t.d_l_powers
 iW:mg "_law_powers" = Mk (.ref t.f_l_powers)
 b_l_powers:Binds K t.d_l_powers ["_law_x", "_law_letters", "_law_most"] []
 F_l_ordered:Hg K "_law_ordered" "_law_ordered" gw t.f_l_ordered t.d_l_ordered
 bF:mg "_law_ordered" = Mk (.ref t.f_l_ordered)
 b_l_ordered:Binds K t.d_l_ordered ["_law_found"] []
 F_l_sum:Hg K "_law_sum" "_law_sum" uz t.f_l_sum t.d_l_sum
 fW:mg "_law_sum" = Mk (.ref t.f_l_sum)
 b_l_sum:Binds K t.d_l_sum ["_law_script", "_law_k", "_law_letters", "_law_many", "_law_most"] []
 F_l_is_sum:Hg K "_law_is_sum" "_law_is_sum" iJ t.f_l_is_sum t.d_l_is_sum
 cG:mg "_law_is_sum" = Mk (.ref t.f_l_is_sum)
 b_l_is_sum:Binds K t.d_l_is_sum ["_law_found", "_law_due"] []
 F_l_product:Hg K "_law_product" "_law_product" gA t.f_l_product t.d_l_product
 cZ:mg "_law_product" = Mk (.ref t.f_l_product)
 b_l_product:Binds K t.d_l_product ["_law_one", "_law_other"] []
 F_l_added:Hg K "_law_added" "_law_added" j8 t.f_l_added t.d_l_added
 fL:mg "_law_added" = Mk (.ref t.f_l_added)
 b_l_added:Binds K t.d_l_added ["_law_one", "_law_other"] []
 F_l_second:Hg K "_law_second" "_law_second" iY t.f_l_second t.d_l_second
 iU:mg "_law_second" = Mk (.ref t.f_l_second)
 b_l_second:Binds K t.d_l_second ["_law_script", "_law_letters"] []
 F_l_rest:Hg K "_law_rest" "_law_rest" nA t.f_l_rest t.d_l_rest
 m7:mg "_law_rest" = Mk (.ref t.f_l_rest)
 b_l_rest:Binds K t.d_l_rest ["_law_script", "_law_letters", "_law_other"] []
 F_l_word:Hg K "_law_word" "_law_word" nH t.f_l_word t.d_l_word
 fV:mg "_law_word" = Mk (.ref t.f_l_word)
 b_l_word:Binds K t.d_l_word ["_law_one", "_law_other"] []
 F_l_longs_right:Hg K "_law_longs_right" "_law_longs_right" cX t.f_l_longs_right t.d_l_longs_right
 cW:mg "_law_longs_right" = Mk (.ref t.f_l_longs_right)
 b_l_longs_right:Binds K t.d_l_longs_right ["_law_script", "_law_letters"] []
 F_law:Hg K "law" "law" Hl t.f_law t.d_law
 Jk:mg "law" = Mk (.ref t.f_law)
 b_law:Binds K t.d_law ["_law_script"] []
 z_ValueError:mg "ValueError" = YK
 z_all:mg "all" = YK
 z_any:mg "any" = YK
 z_bool:mg "bool" = YK
 z_dict:mg "dict" = YK
 z_int:mg "int" = YK
 z_isinstance:mg "isinstance" = YK
 z_len:mg "len" = YK
 z_max:mg "max" = YK
 z_range:mg "range" = YK
 z_reversed:mg "reversed" = YK
 z_sorted:mg "sorted" = YK
 z_tuple:mg "tuple" = YK
 z_zip:mg "zip" = YK
 g_MOST_TERMS:mg "MOST_TERMS" = Mk (.int 600 t.a_MOST_TERMS)
 g_FIELD:mg "FIELD" = Mk (.int 65536 t.a_FIELD)
 xm_EaselError:mg "EaselError" = Mk (.ref t.x_EaselError)
 xd_EaselError:tZ K t.x_EaselError "EaselError" = true
 xm_Nothing:mg "Nothing" = Mk (.ref t.x_Nothing)
 xd_Nothing:tZ K t.x_Nothing "Nothing" = true
 xm_Stuck:mg "Stuck" = Mk (.ref t.x_Stuck)
 xd_Stuck:tZ K t.x_Stuck "Stuck" = true
 xm_NoPart:mg "NoPart" = Mk (.ref t.x_NoPart)
 xd_NoPart:tZ K t.x_NoPart "NoPart" = true
 xc_NoPart:qu K t.x_NoPart "NoPart" = true
 xq_NoPart:Qc K t.x_NoPart N8 "ValueError.__new__" = true
 xm_TooMuch:mg "TooMuch" = Mk (.ref t.x_TooMuch)
 xd_TooMuch:tZ K t.x_TooMuch "TooMuch" = true
 xc_TooMuch:qu K t.x_TooMuch "TooMuch" = true
 xq_TooMuch:Qc K t.x_TooMuch N8 "ValueError.__new__" = true
section
variable {P:Bs}{w:Bh}{K:Ar}{mg:Str->Option Yk}{base:Heap}{t:Ad}
theorem vI (T:Txt K mg t):eU P w K mg base GZ 10 t.f_packed t.d_packed ["powers"] (lift K iV):=by
 have nd:=uL.nd;refine rB (k:=9) T.F_packed uL fun cdv A outer s H E hr=>?_;have hc:=hr.calm (by decide);refine aG ?_ ?_
 ·exact (aR (i:=1) nd (by rfl) (by exact Or.inl rfl) aF)
 refine aG ?_ ?_
 ·exact (gG Ms hc (fP<|dv 0<|pv 0) (cC<|bV (i:=2) nd (by rfl)<|by exact Or.inl rfl)<|aN<|aR (i:=1) nd (by rfl) (by exact Or.inl rfl)<|bB bw (bB kh (dv 1<|pv 1)<|dc (v:=.int 65536) (gk (by rfl) T.g_FIELD ⟨_,rfl⟩)<|fun _ _=>VN)<|dv 2<|pv 2)
 refine aN ?_;exact (bC<|dv 1<|pv 1)
theorem wN (T:Txt K mg t):eU P w K mg base GZ 10 t.f_unpacked t.d_unpacked ["key", "letters"] (lift K iZ):=by
 have nd:=oM.nd;refine rB (k:=9) T.F_unpacked oM fun cdv A outer s H E hr=>?_;have hc:=hr.calm (by decide);refine aG ?_ ?_
 ·exact (aR (i:=2) nd (by rfl) (by exact Or.inl rfl)<|yZ au)
 refine aG ?_ ?_
 ·exact (gG Ms hc (dN (by rfl) (by exact T.z_range) (ak (dv 1 (pv 1)) au (aj (by rfl))) (j6 (by rfl))) (cC (bV (i:=3) nd (by rfl) (by exact Or.inl rfl))) (aG (jt (jQ (dv 2 (pv 2)) (ak (bB dR (dv 0 (pv 0)) (dc (v:=.int 65536) (gk (by rfl) T.g_FIELD ⟨_,rfl⟩) (fun _ _=>VN))) au (aj (by rfl))) (by rfl) (Aq (by rfl)) (by rfl) (aj (by rfl)) (by rfl)))
  (aN (aR (i:=0) nd (by rfl) (by exact Or.inl rfl) (bB kY (dv 0 (pv 0)) (dc (v:=.int 65536) (gk (by rfl) T.g_FIELD ⟨_,rfl⟩) (fun _ _=>VN)))))))
 refine aN ?_;exact (bC<|zT hc (by rfl) (by exact T.z_tuple) (by rfl) (by exact T.z_reversed) (dv 2<|pv 2) (aj<|by rfl) (aB<|by rfl) (aj<|by rfl)<|aB<|by rfl)
theorem iD (T:Txt K mg t):eU P w K mg base GZ 11 t.f_packed_terms t.d_packed_terms ["one"] (lift K cM):=by
 have nd:=gP.nd;refine rB (k:=10) T.F_packed_terms gP fun cdv A outer s H E hr=>?_;have hc:=hr.calm (by decide);refine aN ?_;exact (bC<|CW [] hc (cI<|by rfl) Ax (Cd hc<|cI<|by rfl) (fP<|dv 0<|pv 0) (fun _ _ _ _=>fH)<|fun _ _ _ _=>(aX<|ak (aW ((vI T).mono (by decide)) hr (by rfl) (by exact T.iV) (by exact T.F_packed.kp) (by exact T.b_packed) (ak (dv 0<|pv 0) au<|aj<|by rfl) (by decide) (aj<|by rfl)<|aB<|by rfl) (ak (dv 1<|pv 1) au<|aj<|by rfl)<|aj<|by rfl))
theorem pF (T:Txt K mg t):eU P w K mg base GZ 10 t.f_part_of_term t.d_part_of_term ["powers", "number", "lead"] (lift K dG):=by
 have nd:=iI.nd;refine rB (k:=9) T.F_part_of_term iI fun cdv A outer s H E hr=>?_;have hc:=hr.calm (by decide);refine aG ?_ ?_
 ·exact (aR (i:=3) nd (by rfl) (by exact Or.inl rfl)<|cH fZ (by rfl) (by exact T.z_tuple) Ma (ak (CW [] hc (cI<|by rfl) Ax (Cd hc<|cI<|by rfl) (La (by rfl) (by exact T.z_zip) (ak (dv 0<|pv 0) (ak (mW (dv 2<|pv 2) aF (by intro _ _;rfl)) au<|aj<|by rfl)<|aj<|by rfl) (aj<|by rfl)<|aB<|by rfl) (fun _ _ _ _=>fH)<|fun _ _ _ _=>(bB jh (dv 0<|pv 0)<|dv 1<|pv 1)) au<|aj<|by rfl) (by decide) (by decide) (aj<|by rfl)<|aB<|by rfl)
 refine aG ?_ ?_
 ·exact (fC (pJ (cJ (G5<|jD hr) (bB dR (dv 1<|pv 1)<|mW (dv 2<|pv 2) aF (by intro _ _;rfl)) aF<|cj _)<|lY<|eY<|cL (Wa hc) (by rfl) (by exact T.z_any) boot_any (ak (CW [] hc (cI<|by rfl) GR (GQ<|cI<|by rfl) (fP<|dv 3<|pv 3) (fun _ _ _ _=>fH)<|fun _ _ _ _=>(M8 W9 (dv 0<|pv 0) aF<|cj _)) au<|aj<|by rfl) (by decide) (by decide) (aj<|by rfl)<|aB<|by rfl).pt (aN<|bC Eu) bW)
 refine aN ?_;exact (bC<|aX<|ak (dv 3<|pv 3) (ak (bB kY (dv 1<|pv 1)<|mW (dv 2<|pv 2) aF (by intro _ _;rfl)) au<|aj<|by rfl)<|aj<|by rfl)
theorem uV (T:Txt K mg t):eU P w K mg base GZ 10 t.f_take_away t.d_take_away ["left", "terms", "shift", "factor"] (lift K fX):=by
 have nd:=mO.nd;refine rB (k:=9) T.F_take_away mO fun cdv A outer s H E hr=>?_;have hc:=hr.calm (by decide);refine aN ?_;exact (gG Ms hc (fP (dv 1 (pv 1))) (oY hc (dF (cC (bV (i:=4) nd (by rfl) (by exact Or.inl rfl))) (dF (cC (bV (i:=5) nd (by rfl) (by exact Or.inl rfl))) oF))) (aG (aR (i:=6) nd (by rfl) (by exact Or.inl rfl) (bB bw (dv 4 (pv 4)) (dv 2 (pv 2))))
  (aG (aR (i:=7) nd (by rfl) (by exact Or.inl rfl) (bB jh (abZ (jD hr) (dv 0 (pv 0)) (ak (dv 6 (pv 6)) (ak aF au (aj (by rfl))) (aj (by rfl))) (by rfl) (Oe (by rfl) (by rfl)) (by rfl) (aj (by rfl)) (aB (by rfl))) (bB kh (dv 3 (pv 3)) (dv 5 (pv 5)))))
  (aN (fC (cJ (KZ (jD hr)) (dv 7 (pv 7)) aF (cj _)) (aN (jt (aea (dv 0 (pv 0)) (ak (dv 6 (pv 6)) au (aj (by rfl))) (by rfl) (Aq (by rfl)) (by rfl) (aj (by rfl)) (by rfl)))) (aN (qz (dv 7 (pv 7)) (q9 (dv 0 (pv 0)) (dv 6 (pv 6)) set_dict acD))))))))
theorem qw (T:Txt K mg t):eU P w K mg base (CXX P w) 12 t.f_parted t.d_parted ["one", "other"] (Ao K bN):=by
 have nd:=vO.nd;refine Xm (k:=11) T.F_parted vO fun cdv A outer s H E hr=>?_;have hc:=hr.calm (by decide);refine cD (fun _=>trivial) ?_ ?_
 ·exact (JZ (iG<|eY<|dv 1<|pv 1) (jH<|uF hc (by rfl) T.xm_NoPart T.xq_NoPart T.xc_NoPart) zc)
 refine cD (fun _=>trivial) ?_ ?_
 ·exact (jk<|aR (i:=2) nd (by rfl) (by exact Or.inl rfl)<|mW (dv 1<|pv 1) (MN aF) (by intro _ _;rfl))
 refine cD (fun _=>trivial) ?_ ?_
 ·exact (jk<|aR (i:=3) nd (by rfl) (by exact Or.inl rfl)<|aW ((iD T).mono (by decide)) hr (by rfl) (by exact T.cM) (by exact T.F_packed_terms.kp) (by exact T.b_packed_terms) (ak (dv 1<|pv 1) au<|aj<|by rfl) (by decide) (aj<|by rfl)<|aB<|by rfl)
 refine cD (fun _=>trivial) ?_ ?_
 ·exact (jk<|aR (i:=4) nd (by rfl) (by exact Or.inl rfl)<|cH (acK hc<|jD hr) (by rfl) (by exact T.z_dict) boot_dict (ak (aW ((iD T).mono (by decide)) hr (by rfl) (by exact T.cM) (by exact T.F_packed_terms.kp) (by exact T.b_packed_terms) (ak (dv 0<|pv 0) au<|aj<|by rfl) (by decide) (aj<|by rfl)<|aB<|by rfl) au<|aj<|by rfl) (by decide) (by decide) (aj<|by rfl)<|aB<|by rfl)
 refine cD (fun _=>trivial) ?_ ?_
 ·exact (jk<|aR (i:=5) nd (by rfl) (by exact Or.inl rfl)<|yZ au)
 refine cD (fun _=>trivial) ?_ ?_
 ·exact (zal PassesOwn.leaving (fun _=>trivial) (afj (dv 4 (pv 4))) (cD (fun _=>trivial) (jk (aR (i:=6) nd (by rfl) (by exact Or.inl rfl) (cL (aeH hc) (by rfl) (by exact T.z_max) boot_max (ak (dv 4 (pv 4)) au (aj (by rfl))) (by decide) (by decide) (aj (by rfl)) (aB (by rfl)))))
  (cD (fun _=>trivial) (jk (aR (i:=7) nd (by rfl) (by exact Or.inl rfl) (aW ((pF T).mono (by decide)) hr (by rfl) (by exact T.dG) (by exact T.F_part_of_term.kp) (by exact T.b_part_of_term) (ak (aW ((wN T).mono (by decide)) hr (by rfl) (by exact T.iZ) (by exact T.F_unpacked.kp) (by exact T.b_unpacked) (ak (dv 6 (pv 6)) (ak (cL xO (by rfl) (by exact T.z_len) R8 (ak (mW (dv 2 (pv 2)) aF (by intro _ _;rfl)) au (aj (by rfl))) (by decide) (by decide) (aj (by rfl)) (aB (by rfl))) au (aj (by rfl))) (aj (by rfl))) (by decide) (aj (by rfl)) (aB (by rfl))) (ak (Xf (dv 4 (pv 4)) (dv 6 (pv 6)) (by intro _ _;rfl)) (ak (dv 2 (pv 2)) au (aj (by rfl))) (aj (by rfl))) (aj (by rfl))) (by decide) (aj (by rfl)) (aB (by rfl)))))
  (cD (fun _=>trivial) (jk (fC (cJ ZF (dv 7 (pv 7)) Eu (cj _)) (aN (bC Eu)) bW))
  (cD (fun _=>trivial) (JZ (cJ (KZ (jD hr)) (cL xO (by rfl) (by exact T.z_len) R8 (ak (dv 5 (pv 5)) au (aj (by rfl))) (by decide) (by decide) (aj (by rfl)) (aB (by rfl))) (dc (v:=.int 600) (gk (by rfl) T.g_MOST_TERMS ⟨_,rfl⟩) (fun _ _=>VN)) (cj _)) (jH (uF hc (by rfl) T.xm_TooMuch T.xq_TooMuch T.xc_TooMuch)) zc)
  (cD (fun _=>trivial) (jk (jt (jQ (dv 5 (pv 5)) (ak (dv 7 (pv 7)) au (aj (by rfl))) (by rfl) (Aq (by rfl)) (by rfl) (aj (by rfl)) (by rfl))))
  (jH (jk (jt (aW ((uV T).mono (by decide)) hr (by rfl) (by exact T.fX) (by exact T.F_take_away.kp) (by exact T.b_take_away) (ak (dv 4 (pv 4)) (ak (dv 3 (pv 3)) (ak (aW ((vI T).mono (by decide)) hr (by rfl) (by exact T.iV) (by exact T.F_packed.kp) (by exact T.b_packed) (ak (mW (dv 7 (pv 7)) aF (by intro _ _;rfl)) au (aj (by rfl))) (by decide) (aj (by rfl)) (aB (by rfl))) (ak (mW (dv 7 (pv 7)) aF (by intro _ _;rfl)) au (aj (by rfl))) (aj (by rfl))) (aj (by rfl))) (aj (by rfl))) (by decide) (aj (by rfl)) (aB (by rfl))))))))))))
 refine jH ?_;exact (jk<|bC<|zT hc (by rfl) (by exact T.z_tuple) (by rfl) (by exact T.z_reversed) (dv 5<|pv 5) (aj<|by rfl) (aB<|by rfl) (aj<|by rfl)<|aB<|by rfl)
theorem dJ (T:Txt K mg t):eU P w K mg base GZ 12 t.f_parted t.d_parted ["one", "other"] (lift K bN):=(qw T).tame
theorem cA (T:Txt K mg t):eU P w K mg base GZ 10 t.f_l_cell t.d_l_cell ["_law_script", "_law_k"] (lift K bK):=by
 have nd:=vh.nd;refine rB (k:=9) T.F_l_cell vh fun cdv A outer s H E hr=>?_;have hc:=hr.calm (by decide);refine aG ?_ ?_
 ·exact (fC (cJ W9 (dv 1<|pv 1) (cL xO (by rfl) (by exact T.z_len) R8 (ak (dv 0<|pv 0) au<|aj<|by rfl) (by decide) (by decide) (aj<|by rfl)<|aB<|by rfl)<|cj _) (aN<|bC<|mW (dv 0<|pv 0) (dv 1<|pv 1) (by intro _ _;rfl)) bW)
 refine aN ?_;exact (bC aF)
theorem zaf (T:Txt K mg t):eU P w K mg base GZ 11 t.f_l_draws t.d_l_draws ["_law_script", "_law_k", "_law_many"] (lift K gM):=by
 have nd:=qU.nd;refine rB (k:=10) T.F_l_draws qU fun cdv A outer s H E hr=>?_;have hc:=hr.calm (by decide);refine aG ?_ ?_
 ·exact (aR (i:=3) nd (by rfl) (by exact Or.inl rfl)<|aW ((cA T).mono (by decide)) hr (by rfl) (by exact T.bK) (by exact T.F_l_cell.kp) (by exact T.b_l_cell) (ak (dv 0<|pv 0) (ak (dv 1<|pv 1) au<|aj<|by rfl)<|aj<|by rfl) (by decide) (aj<|by rfl)<|aB<|by rfl)
 refine aG ?_ ?_
 ·exact (aR (i:=4) nd (by rfl) (by exact Or.inl rfl)<|M8 Y9 (acS<|dv 3<|pv 3) (bB kh aF<|dv 2<|pv 2)<|cj _)
 refine aG ?_ ?_
 ·exact (aR (i:=5) nd (by rfl) (by exact Or.inl rfl)<|bB dR (bB bw (bB bw (dv 3<|pv 3)<|bB kh aF<|dv 1<|pv 1) aF) aF)
 refine aG ?_ ?_
 ·exact (aR (i:=6) nd (by rfl) (by exact Or.inl rfl)<|yZ au)
 refine aG ?_ ?_
 ·exact (gG Ms hc (dN (by rfl) (by exact T.z_range) (ak (dv 2 (pv 2)) au (aj (by rfl))) (j6 (by rfl))) (cC (bV (i:=7) nd (by rfl) (by exact Or.inl rfl))) (aN (fC (eY (dv 4 (pv 4))) (aG (jt (jQ (dv 6 (pv 6)) (ak (bB dR (dv 3 (pv 3)) (bB Aw aF aF)) au (aj (by rfl))) (by rfl) (Aq (by rfl)) (by rfl) (aj (by rfl)) (by rfl)))
  (aN (aR (i:=3) nd (by rfl) (by exact Or.inl rfl) (bB kY (dv 3 (pv 3)) (bB Aw aF aF))))) (aG (aR (i:=5) nd (by rfl) (by exact Or.inl rfl) (bB dR (bB bw (bB bw (bB kh (dv 5 (pv 5)) aF) aF) (bB kh (dv 7 (pv 7)) (dv 7 (pv 7)))) aF))
  (aG (aR (i:=8) nd (by rfl) (by exact Or.inl rfl) (bB dR (bB kh (dv 5 (pv 5)) (bB bw (bB bw (bB kY (dv 5 (pv 5)) aF) (dv 7 (pv 7))) aF)) aF))
  (aN (jt (jQ (dv 6 (pv 6)) (ak (bB dR (bB kh (bB kh (dv 8 (pv 8)) (bB bw (dv 8 (pv 8)) aF)) (bB bw (dv 5 (pv 5)) aF)) (bB Aw aF aF)) au (aj (by rfl))) (by rfl) (Aq (by rfl)) (by rfl) (aj (by rfl)) (by rfl)))))))))
 refine aN ?_;exact (bC<|dv 6<|pv 6)
theorem wD (T:Txt K mg t):eU P w K mg base GZ 10 t.f_l_number t.d_l_number ["_law_x"] (lift K jd):=by
 have nd:=pD.nd;refine rB (k:=9) T.F_l_number pD fun cdv A outer s H E hr=>?_;have hc:=hr.calm (by decide);refine aN ?_;exact (bC<|mW (Tw<|ak (bB jh (bB dR (bB kY (dv 0<|pv 0) aF) aF) aF) (ak (bB jh (bB dR (bB kY (dv 0<|pv 0) aF) aF) aF) (ak (bB jh (bB dR (bB kY (dv 0<|pv 0) aF)<|bB kh aF<|bB Aw aF aF)<|bB Aw aF aF) au<|aj<|by rfl)<|aj<|by rfl)<|aj<|by rfl) (bB dR (dv 0<|pv 0) aF) (by intro _ _;rfl))
theorem wj (T:Txt K mg t):eU P w K mg base GZ 10 t.f_l_powers t.d_l_powers ["_law_x", "_law_letters", "_law_most"] (lift K iW):=by
 have nd:=pG.nd;refine rB (k:=9) T.F_l_powers pG fun cdv A outer s H E hr=>?_;have hc:=hr.calm (by decide);refine aG ?_ ?_
 ·exact (aR (i:=3) nd (by rfl) (by exact Or.inl rfl)<|yZ au)
 refine aG ?_ ?_
 ·exact (gG Ms hc (dN (by rfl) (by exact T.z_range) (ak (dv 1 (pv 1)) au (aj (by rfl))) (j6 (by rfl))) (cC (bV (i:=4) nd (by rfl) (by exact Or.inl rfl))) (aG (jt (jQ (dv 3 (pv 3)) (ak (bB dR (dv 0 (pv 0)) (bB bw (dv 2 (pv 2)) aF)) au (aj (by rfl))) (by rfl) (Aq (by rfl)) (by rfl) (aj (by rfl)) (by rfl)))
  (aN (aR (i:=0) nd (by rfl) (by exact Or.inl rfl) (bB kY (dv 0 (pv 0)) (bB bw (dv 2 (pv 2)) aF))))))
 refine aN ?_;exact (bC<|cH fZ (by rfl) (by exact T.z_tuple) Ma (ak (dv 3<|pv 3) au<|aj<|by rfl) (by decide) (by decide) (aj<|by rfl)<|aB<|by rfl)
theorem dM (T:Txt K mg t):eU P w K mg base GZ 10 t.f_l_ordered t.d_l_ordered ["_law_found"] (lift K bF):=by
 have nd:=mL.nd;refine rB (k:=9) T.F_l_ordered mL fun cdv A outer s H E hr=>?_;have hc:=hr.calm (by decide);refine aN ?_;exact (bC<|cH fZ (by rfl) (by exact T.z_tuple) Ma (ak (CW [0] hc (cI<|by rfl) GR (GQ<|cI<|by rfl) (fP<|cL (zbe hc) (by rfl) (by exact T.z_sorted) PyProof.Rows.boot_sorted (ak (dv 0<|pv 0) au<|aj<|by rfl) (by decide) (by decide) (aj<|by rfl)<|aB<|by rfl) (fun _ _ _ _=>(abQ<|cJ (G5<|jD hr) (T5 (jD hr) (dv 1<|pv 1) (dv 0<|pv 0) (by intro _ _;rfl)) aF<|cj _))<|fun _ _ _ _=>(aX<|ak (dv 0<|pv 0) (ak (T5 (jD hr) (dv 1<|pv 1) (dv 0<|pv 0) (by intro _ _;rfl)) au<|aj<|by rfl)<|aj<|by rfl)) au<|aj<|by rfl) (by decide) (by decide) (aj<|by rfl)<|aB<|by rfl)
theorem sV (T:Txt K mg t):eU P w K mg base GZ 12 t.f_l_sum t.d_l_sum ["_law_script", "_law_k", "_law_letters", "_law_many", "_law_most"] (lift K fW):=by
 have nd:=zA.nd;refine rB (k:=11) T.F_l_sum zA fun cdv A outer s H E hr=>?_;have hc:=hr.calm (by decide);refine aG ?_ ?_
 ·first
  | (with_reducible exact (aR (hs:=by with_unfolding_all rfl) (hf:=by with_unfolding_all first | exact .inl rfl | exact .inr rfl) (i:=5) (by with_unfolding_all exact nd) (by with_unfolding_all rfl) (by with_unfolding_all exact Or.inl rfl) mH))
  | (exact (aR (i:=5) nd (by rfl) (by exact Or.inl rfl) mH))
 refine aG ?_ ?_
 ·exact (gG Ms hc (dN (by rfl) (by exact T.z_range) (ak (dv 3 (pv 3)) au (aj (by rfl))) (j6 (by rfl))) (cC (bV (i:=6) nd (by rfl) (by exact Or.inl rfl))) (aG (aR (i:=7) nd (by rfl) (by exact Or.inl rfl) (aW ((zaf T).mono (by decide)) hr (by rfl) (by exact T.gM) (by exact T.F_l_draws.kp) (by exact T.b_l_draws) (ak (dv 0 (pv 0)) (ak (bB bw (dv 1 (pv 1)) (dv 6 (pv 6))) (ak aF au (aj (by rfl))) (aj (by rfl))) (aj (by rfl))) (by decide) (aj (by rfl)) (aB (by rfl))))
  (aN (qz (aW ((wD T).mono (by decide)) hr (by rfl) (by exact T.jd) (by exact T.F_l_number.kp) (by exact T.b_l_number) (ak (mW (dv 7 (pv 7)) aF (by intro _ _;rfl)) au (aj (by rfl))) (by decide) (aj (by rfl)) (aB (by rfl))) (q9 (dv 5 (pv 5)) (aW ((wj T).mono (by decide)) hr (by rfl) (by exact T.iW) (by exact T.F_l_powers.kp) (by exact T.b_l_powers) (ak (mW (dv 7 (pv 7)) aF (by intro _ _;rfl)) (ak (dv 2 (pv 2)) (ak (dv 4 (pv 4)) au (aj (by rfl))) (aj (by rfl))) (aj (by rfl))) (by decide) (aj (by rfl)) (aB (by rfl))) (iH (jD hr)) jZ)))))
 refine aN ?_;exact (bC<|aW ((dM T).mono (by decide)) hr (by rfl) (by exact T.bF) (by exact T.F_l_ordered.kp) (by exact T.b_l_ordered) (ak (dv 5<|pv 5) au<|aj<|by rfl) (by decide) (aj<|by rfl)<|aB<|by rfl)
theorem eE (T:Txt K mg t):eU P w K mg base GZ 10 t.f_l_is_sum t.d_l_is_sum ["_law_found", "_law_due"] (lift K cG):=by
 have nd:=nP.nd;refine rB (k:=9) T.F_l_is_sum nP fun cdv A outer s H E hr=>?_;have hc:=hr.calm (by decide);refine aG ?_ ?_
 ·exact (fC (pJ (iG<|eY<|cL Dm (by rfl) (by exact T.z_isinstance) R9 (ak (dv 0<|pv 0) (ak (dc (kj (v:=.ty "tuple") (by rfl) (by exact T.z_tuple) Ma<|by rfl)<|fun _ _=>by rw [kI]) au<|aj<|by rfl)<|aj<|by rfl) (by decide) (by decide) (aj<|by rfl)<|aB<|by rfl)<|lY<|cJ (G5<|jD hr) (cL xO (by rfl) (by exact T.z_len) R8 (ak (dv 0<|pv 0) au<|aj<|by rfl) (by decide) (by decide) (aj<|by rfl)<|aB<|by rfl) (cL xO (by rfl) (by exact T.z_len) R8 (ak (dv 1<|pv 1) au<|aj<|by rfl) (by decide) (by decide) (aj<|by rfl)<|aB<|by rfl)<|cj _).pt (aN<|bC Ci) bW)
 refine aG ?_ ?_
 ·exact (gG Ms hc (dN (by rfl) (by exact T.z_range) (ak (cL xO (by rfl) (by exact T.z_len) R8 (ak (dv 1 (pv 1)) au (aj (by rfl))) (by decide) (by decide) (aj (by rfl)) (aB (by rfl))) au (aj (by rfl))) (j6 (by rfl))) (cC (bV (i:=2) nd (by rfl) (by exact Or.inl rfl))) (aG (aR (i:=3) nd (by rfl) (by exact Or.inl rfl) (mW (dv 0 (pv 0)) (dv 2 (pv 2)) (by intro _ _;rfl)))
  (aG (fC (pJ (iG (eY (cL Dm (by rfl) (by exact T.z_isinstance) R9 (ak (dv 3 (pv 3)) (ak (dc (kj (v:=.ty "tuple") (by rfl) (by exact T.z_tuple) Ma (by rfl)) (fun _ _=>by rw [kI])) au (aj (by rfl))) (aj (by rfl))) (by decide) (by decide) (aj (by rfl)) (aB (by rfl))))) (pJ (cJ (G5 (jD hr)) (cL xO (by rfl) (by exact T.z_len) R8 (ak (dv 3 (pv 3)) au (aj (by rfl))) (by decide) (by decide) (aj (by rfl)) (aB (by rfl))) aF (cj _)) (pJ (iG (eY (cL Dm (by rfl) (by exact T.z_isinstance) R9 (ak (mW (dv 3 (pv 3)) aF (by intro _ _;rfl)) (ak (dc (kj (v:=.ty "tuple") (by rfl) (by exact T.z_tuple) Ma (by rfl)) (fun _ _=>by rw [kI])) au (aj (by rfl))) (aj (by rfl))) (by decide) (by decide) (aj (by rfl)) (aB (by rfl))))) (lY (cJ (G5 (jD hr)) (dv 3 (pv 3)) (mW (dv 1 (pv 1)) (dv 2 (pv 2)) (by intro _ _;rfl)) (cj _)))))).pt (aN (bC Ci)) bW)
  (aN (fC (iG (eY (cL (Xl hc) (by rfl) (by exact T.z_all) boot_all (ak (CW [] hc (cI (by rfl)) GR (GQ (cI (by rfl))) (fP (bB bw (mW (dv 3 (pv 3)) aF (by intro _ _;rfl)) (Ib (dv 3 (pv 3)) (rZ aF) ud))) (fun _ _ _ _=>fH) (fun _ _ _ _=>(Ww (cL Dm (by rfl) (by exact T.z_isinstance) R9 (ak (dv 0 (pv 0)) (ak (dc (kj (v:=.ty "int") (by rfl) (by exact T.z_int) boot_int (by rfl)) (fun _ _=>by rw [kI])) au (aj (by rfl))) (aj (by rfl))) (by decide) (by decide) (aj (by rfl)) (aB (by rfl))) (VR (Xy (cL Dm (by rfl) (by exact T.z_isinstance) R9 (ak (dv 0 (pv 0)) (ak (dc (kj (v:=.ty "bool") (by rfl) (by exact T.z_bool) boot_bool (by rfl)) (fun _ _=>by rw [kI])) au (aj (by rfl))) (aj (by rfl))) (by decide) (by decide) (aj (by rfl)) (aB (by rfl)))))))) au (aj (by rfl))) (by decide) (by decide) (aj (by rfl)) (aB (by rfl))))) (aN (bC Ci)) bW)))))
 refine aN ?_;exact (bC Ci)
theorem gW (T:Txt K mg t):eU P w K mg base GZ 11 t.f_l_product t.d_l_product ["_law_one", "_law_other"] (lift K cZ):=by
 have nd:=mj.nd;refine rB (k:=10) T.F_l_product mj fun cdv A outer s H E hr=>?_;have hc:=hr.calm (by decide);refine aG ?_ ?_
 ·first
  | (with_reducible exact (aR (hs:=by with_unfolding_all rfl) (hf:=by with_unfolding_all first | exact .inl rfl | exact .inr rfl) (i:=2) (by with_unfolding_all exact nd) (by with_unfolding_all rfl) (by with_unfolding_all exact Or.inl rfl) mH))
  | (exact (aR (i:=2) nd (by rfl) (by exact Or.inl rfl) mH))
 refine aG ?_ ?_
 ·exact (gG Ms hc (fP (dv 0 (pv 0))) (oY hc (dF (cC (bV (i:=3) nd (by rfl) (by exact Or.inl rfl))) (dF (cC (bV (i:=4) nd (by rfl) (by exact Or.inl rfl))) oF))) (aN (gG Ms hc (fP (dv 1 (pv 1))) (oY hc (dF (cC (bV (i:=5) nd (by rfl) (by exact Or.inl rfl))) (dF (cC (bV (i:=6) nd (by rfl) (by exact Or.inl rfl))) oF))) (aG (aR (i:=7) nd (by rfl) (by exact Or.inl rfl) (cH fZ (by rfl) (by exact T.z_tuple) Ma (ak (CW [] hc (cI (by rfl)) Ax (Cd hc (cI (by rfl))) (La (by rfl) (by exact T.z_zip) (ak (dv 3 (pv 3)) (ak (dv 5 (pv 5)) au (aj (by rfl))) (aj (by rfl))) (aj (by rfl)) (aB (by rfl))) (fun _ _ _ _=>fH) (fun _ _ _ _=>(bB bw (dv 0 (pv 0)) (dv 1 (pv 1))))) au (aj (by rfl))) (by decide) (by decide) (aj (by rfl)) (aB (by rfl))))
  (aN (qz (bB bw (JX (jD hr) (dv 2 (pv 2)) (ak (dv 7 (pv 7)) (ak aF au (aj (by rfl))) (aj (by rfl))) (by rfl) (Oe (by rfl) (by rfl)) (by rfl) (aj (by rfl)) (aB (by rfl))) (bB kh (dv 4 (pv 4)) (dv 6 (pv 6)))) (q9 (dv 2 (pv 2)) (dv 7 (pv 7)) (iH (jD hr)) jZ)))))))
 refine aN ?_;exact (bC<|aW ((dM T).mono (by decide)) hr (by rfl) (by exact T.bF) (by exact T.F_l_ordered.kp) (by exact T.b_l_ordered) (ak (dv 2<|pv 2) au<|aj<|by rfl) (by decide) (aj<|by rfl)<|aB<|by rfl)
theorem lA (T:Txt K mg t):eU P w K mg base GZ 11 t.f_l_added t.d_l_added ["_law_one", "_law_other"] (lift K fL):=by
 have nd:=qG.nd;refine rB (k:=10) T.F_l_added qG fun cdv A outer s H E hr=>?_;have hc:=hr.calm (by decide);refine aG ?_ ?_
 ·exact (aR (i:=2) nd (by rfl) (by exact Or.inl rfl)<|cH (abG hc<|jD hr) (by rfl) (by exact T.z_dict) boot_dict (ak (dv 0<|pv 0) au<|aj<|by rfl) (by decide) (by decide) (aj<|by rfl)<|aB<|by rfl)
 refine aG ?_ ?_
 ·exact (gG Ms hc (fP<|dv 1<|pv 1) (oY hc<|dF (cC<|bV (i:=3) nd (by rfl)<|by exact Or.inl rfl)<|dF (cC<|bV (i:=4) nd (by rfl)<|by exact Or.inl rfl) oF)<|aN<|qz (bB bw (JX (jD hr) (dv 2<|pv 2) (ak (dv 3<|pv 3) (ak aF au<|aj<|by rfl)<|aj<|by rfl) (by rfl) (Oe (by rfl)<|by rfl) (by rfl) (aj<|by rfl)<|aB<|by rfl)<|dv 4<|pv 4)<|q9 (dv 2<|pv 2) (dv 3<|pv 3) (iH<|jD hr) jZ)
 refine aN ?_;exact (bC<|aW ((dM T).mono (by decide)) hr (by rfl) (by exact T.bF) (by exact T.F_l_ordered.kp) (by exact T.b_l_ordered) (ak (dv 2<|pv 2) au<|aj<|by rfl) (by decide) (aj<|by rfl)<|aB<|by rfl)
theorem xV (T:Txt K mg t):eU P w K mg base GZ 13 t.f_l_second t.d_l_second ["_law_script", "_law_letters"] (lift K iU):=by
 have nd:=oJ.nd;refine rB (k:=12) T.F_l_second oJ fun cdv A outer s H E hr=>?_;have hc:=hr.calm (by decide);refine aG ?_ ?_
 ·exact (aR (i:=2) nd (by rfl) (by exact Or.inl rfl)<|aW ((sV T).mono (by decide)) hr (by rfl) (by exact T.fW) (by exact T.F_l_sum.kp) (by exact T.b_l_sum) (ak (dv 0<|pv 0) (ak aF (ak (dv 1<|pv 1) (ak (bB bw aF<|bB dR (aW ((cA T).mono (by decide)) hr (by rfl) (by exact T.bK) (by exact T.F_l_cell.kp) (by exact T.b_l_cell) (ak (dv 0<|pv 0) (ak aF au<|aj<|by rfl)<|aj<|by rfl) (by decide) (aj<|by rfl)<|aB<|by rfl) aF) (ak aF au<|aj<|by rfl)<|aj<|by rfl)<|aj<|by rfl)<|aj<|by rfl)<|aj<|by rfl) (by decide) (aj<|by rfl)<|aB<|by rfl)
 refine aG ?_ ?_
 ·first
  | (with_reducible exact (fC (cJ (KZ (by with_unfolding_all exact jD hr)) (dv 2 (by with_unfolding_all exact pv 2)) (aX au) (by with_unfolding_all exact cj _)) (aN (bC (aX (ak (aX (ak (bB uI (aX (ak aF au (aj (by with_unfolding_all rfl)))) (dv 1 (by with_unfolding_all exact pv 1))) (ak (bB jh aF (bB kh aF (bB dR (bB kY (aW (k:=12) (by with_unfolding_all exact (cA T).mono (by decide)) (by with_unfolding_all exact hr) (by with_unfolding_all rfl) (by with_unfolding_all exact T.bK) (by with_unfolding_all exact T.F_l_cell.kp) (by with_unfolding_all exact T.b_l_cell) (ak (dv 0 (by with_unfolding_all exact pv 0)) (ak aF au (aj (by with_unfolding_all rfl))) (aj (by with_unfolding_all rfl))) (by decide) (aj (by with_unfolding_all rfl)) (aB (by with_unfolding_all rfl))) aF) aF))) au (aj (by with_unfolding_all rfl))) (aj (by with_unfolding_all rfl)))) au (aj (by with_unfolding_all rfl)))))) bW))
  | (exact (fC (cJ (KZ (jD hr)) (dv 2 (pv 2)) (aX au) (cj _)) (aN (bC (aX (ak (aX (ak (bB uI (aX (ak aF au (aj (by rfl)))) (dv 1 (pv 1))) (ak (bB jh aF (bB kh aF (bB dR (bB kY (aW ((cA T).mono (by decide)) hr (by rfl) (by exact T.bK) (by exact T.F_l_cell.kp) (by exact T.b_l_cell) (ak (dv 0 (pv 0)) (ak aF au (aj (by rfl))) (aj (by rfl))) (by decide) (aj (by rfl)) (aB (by rfl))) aF) aF))) au (aj (by rfl))) (aj (by rfl)))) au (aj (by rfl)))))) bW))
 refine aN ?_;exact (bC<|dv 2<|pv 2)
theorem aaG (T:Txt K mg t):eU P w K mg base GZ 13 t.f_l_rest t.d_l_rest ["_law_script", "_law_letters", "_law_other"] (lift K m7):=by
 have nd:=vp.nd;refine rB (k:=12) T.F_l_rest vp fun cdv A outer s H E hr=>?_;have hc:=hr.calm (by decide);refine aG ?_ ?_
 ·exact (fC (pJ (cJ (KZ<|jD hr) (dv 1<|pv 1) aF<|cj _)<|lY<|cJ (KZ<|jD hr) (mW (mW (mW (dv 2<|pv 2) (MN aF) (by intro _ _;rfl)) aF (by intro _ _;rfl)) aF (by intro _ _;rfl)) aF<|cj _).pt (aN<|bC<|aX au) bW)
 refine aG ?_ ?_
 ·first
  | (with_reducible exact (aR (hs:=by with_unfolding_all rfl) (hf:=by with_unfolding_all first | exact .inl rfl | exact .inr rfl) (i:=3) (by with_unfolding_all exact nd) (by with_unfolding_all rfl) (by with_unfolding_all exact Or.inl rfl) mH))
  | (exact (aR (i:=3) nd (by rfl) (by exact Or.inl rfl) mH))
 refine aG ?_ ?_
 ·exact (gG Ms hc (fP<|aW ((sV T).mono (by decide)) hr (by rfl) (by exact T.fW) (by exact T.F_l_sum.kp) (by exact T.b_l_sum) (ak (dv 0<|pv 0) (ak aF (ak (dv 1<|pv 1) (ak (bB dR (aW ((cA T).mono (by decide)) hr (by rfl) (by exact T.bK) (by exact T.F_l_cell.kp) (by exact T.b_l_cell) (ak (dv 0<|pv 0) (ak aF au<|aj<|by rfl)<|aj<|by rfl) (by decide) (aj<|by rfl)<|aB<|by rfl) aF) (ak aF au<|aj<|by rfl)<|aj<|by rfl)<|aj<|by rfl)<|aj<|by rfl)<|aj<|by rfl) (by decide) (aj<|by rfl)<|aB<|by rfl) (oY hc<|dF (cC<|bV (i:=4) nd (by rfl)<|by exact Or.inl rfl)<|dF (cC<|bV (i:=5) nd (by rfl)<|by exact Or.inl rfl) oF)<|aN<|qz (dv 5<|pv 5)<|q9 (dv 3<|pv 3) (bB bw (aX<|ak (bB dR (mW (dv 4<|pv 4) aF (by intro _ _;rfl))<|mW (mW (mW (dv 2<|pv 2) (MN aF) (by intro _ _;rfl)) aF (by intro _ _;rfl)) aF (by intro _ _;rfl)) au<|aj<|by rfl)<|Ib (dv 4<|pv 4) (rZ aF) ud) (iH<|jD hr) jZ)
 refine aN ?_;exact (bC<|aW ((dM T).mono (by decide)) hr (by rfl) (by exact T.bF) (by exact T.F_l_ordered.kp) (by exact T.b_l_ordered) (ak (dv 3<|pv 3) au<|aj<|by rfl) (by decide) (aj<|by rfl)<|aB<|by rfl)
theorem oX (T:Txt K mg t):eU P w K mg base GZ 13 t.f_l_word t.d_l_word ["_law_one", "_law_other"] (lift K fV):=by
 have nd:=uX.nd;refine rB (k:=12) T.F_l_word uX fun cdv A outer s H E hr=>?_;have hc:=hr.calm (by decide);refine aG ?_ ?_
 ·exact (aey (i:=2) nd (by rfl) (by rfl) (by rfl) T.xm_EaselError T.xd_EaselError ⟨rfl,rfl⟩ rfl (fun afG xe Z0=>(jH (adn (zbb ((qw T).mono (by decide)) hr (by rfl) (by exact T.bN) (by exact T.F_parted.kp) (by exact T.b_parted) (ak (dv 0 (pv 0)) (ak (dv 1 (pv 1)) au (aj (by rfl))) (aj (by rfl))) (by decide) (aj (by rfl)) (aB (by rfl)))))) (fun a o u=>by
  have hr:=zaZ (a:=a) hr (by decide);exact (aG (fC (pJ (eY (Ut (by rfl) (by exact T.z_isinstance) (dv 2 (pv 2)) (N7.cons (gk (v:=.ref t.x_Nothing) (by rfl) T.xm_Nothing (by rfl)) (Br.own T.xd_Nothing) (N7.cons (gk (v:=.ref t.x_Stuck) (by rfl) T.xm_Stuck (by rfl)) (Br.own T.xd_Stuck) N7.nil (aj (by rfl))) (aj (by rfl))) (by exact Nat.le_of_ble_eq_true rfl) (aj (by rfl)) (aj (by rfl)) (aB (by rfl)))) (lY (iG (eY (z7 (by rfl) (by exact T.z_isinstance) (dv 2 (pv 2)) (kj (v:=.ty "ValueError") (by rfl) (by exact T.z_ValueError) PyProof.Rows.Boot.«ValueError» (by rfl)) Br.val (aj (by rfl)) (aj (by rfl)) (aB (by rfl))))))).pt (aN (bC rG)) bW)
  (aG (fC (cJ (KZ (jD hr)) (z7 (by rfl) (by exact T.z_isinstance) (dv 2 (pv 2)) (gk (v:=.ref t.x_NoPart) (by rfl) T.xm_NoPart (by rfl)) (Br.own T.xd_NoPart) (aj (by rfl)) (aj (by rfl)) (aB (by rfl))) (z7 (by rfl) (by exact T.z_isinstance) (dv 2 (pv 2)) (gk (v:=.ref t.x_TooMuch) (by rfl) T.xm_TooMuch (by rfl)) (Br.own T.xd_TooMuch) (aj (by rfl)) (aj (by rfl)) (aB (by rfl))) (cj _)) (aN (bC rG)) bW)
  (aN (bC (mW (Tw (ak rG (ak rG au (aj (by rfl))) (aj (by rfl)))) (cH Yc (by rfl) (by exact T.z_int) boot_int (ak (z7 (by rfl) (by exact T.z_isinstance) (dv 2 (pv 2)) (gk (v:=.ref t.x_NoPart) (by rfl) T.xm_NoPart (by rfl)) (Br.own T.xd_NoPart) (aj (by rfl)) (aj (by rfl)) (aB (by rfl))) au (aj (by rfl))) (by decide) (by decide) (aj (by rfl)) (aB (by rfl))) (by intro _ _;rfl))))))))
 refine aN ?_;exact (bC rG)
theorem mR (T:Txt K mg t):eU P w K mg base GZ 14 t.f_l_longs_right t.d_l_longs_right ["_law_script", "_law_letters"] (lift K cW):=by
 have nd:=gC.nd;refine rB (k:=13) T.F_l_longs_right gC fun cdv A outer s H E hr=>?_;have hc:=hr.calm (by decide);refine aG ?_ ?_
 ·exact (fC (pJ (cJ W9 (dv 1<|pv 1) aF<|cj _)<|lY<|cJ (G5<|jD hr) (bB dR (aW ((cA T).mono (by decide)) hr (by rfl) (by exact T.bK) (by exact T.F_l_cell.kp) (by exact T.b_l_cell) (ak (dv 0<|pv 0) (ak aF au<|aj<|by rfl)<|aj<|by rfl) (by decide) (aj<|by rfl)<|aB<|by rfl) aF) aF<|cj _).pt (aN<|bC Ci) bW)
 refine aG ?_ ?_
 ·exact (aR (i:=2) nd (by rfl) (by exact Or.inr rfl)<|bB uI (aX<|ak aF au<|aj<|by rfl)<|bB jh (dv 1<|pv 1) aF)
 refine aG ?_ ?_
 ·exact (aR (i:=3) nd (by rfl) (by exact Or.inr rfl)<|bB bw aF<|bB dR (bB kY (aW ((cA T).mono (by decide)) hr (by rfl) (by exact T.bK) (by exact T.F_l_cell.kp) (by exact T.b_l_cell) (ak (dv 0<|pv 0) (ak aF au<|aj<|by rfl)<|aj<|by rfl) (by decide) (aj<|by rfl)<|aB<|by rfl) aF) aF)
 refine aG ?_ ?_
 ·first
  | (with_reducible exact (aR (hs:=by with_unfolding_all rfl) (hf:=by with_unfolding_all first | exact .inl rfl | exact .inr rfl) (i:=4) (by with_unfolding_all exact nd) (by with_unfolding_all rfl) (by with_unfolding_all exact Or.inl rfl) (aX (ak (aX (ak (bB bw (aX (ak aF (ak (dv 3 (by with_unfolding_all exact pv 3)) au (aj (by with_unfolding_all rfl))) (aj (by with_unfolding_all rfl)))) (dv 2 (by with_unfolding_all exact pv 2))) (ak (bB jh aF aF) au (aj (by with_unfolding_all rfl))) (aj (by with_unfolding_all rfl)))) (ak (aX (ak (bB bw (aX (ak (dv 3 (by with_unfolding_all exact pv 3)) (ak aF au (aj (by with_unfolding_all rfl))) (aj (by with_unfolding_all rfl)))) (dv 2 (by with_unfolding_all exact pv 2))) (ak aF au (aj (by with_unfolding_all rfl))) (aj (by with_unfolding_all rfl)))) au (aj (by with_unfolding_all rfl))) (aj (by with_unfolding_all rfl))))))
  | (exact (aR (i:=4) nd (by rfl) (by exact Or.inl rfl) (aX (ak (aX (ak (bB bw (aX (ak aF (ak (dv 3 (pv 3)) au (aj (by rfl))) (aj (by rfl)))) (dv 2 (pv 2))) (ak (bB jh aF aF) au (aj (by rfl))) (aj (by rfl)))) (ak (aX (ak (bB bw (aX (ak (dv 3 (pv 3)) (ak aF au (aj (by rfl))) (aj (by rfl)))) (dv 2 (pv 2))) (ak aF au (aj (by rfl))) (aj (by rfl)))) au (aj (by rfl))) (aj (by rfl))))))
 refine aG ?_ ?_
 ·first
  | (with_reducible exact (aR (hs:=by with_unfolding_all rfl) (hf:=by with_unfolding_all first | exact .inl rfl | exact .inr rfl) (i:=5) (by with_unfolding_all exact nd) (by with_unfolding_all rfl) (by with_unfolding_all exact Or.inl rfl) (aX (ak (aX (ak (bB bw (aX (ak aF (ak aF au (aj (by with_unfolding_all rfl))) (aj (by with_unfolding_all rfl)))) (dv 2 (by with_unfolding_all exact pv 2))) (ak (bB jh aF aF) au (aj (by with_unfolding_all rfl))) (aj (by with_unfolding_all rfl)))) (ak (aX (ak (bB bw (aX (ak aF (ak aF au (aj (by with_unfolding_all rfl))) (aj (by with_unfolding_all rfl)))) (dv 2 (by with_unfolding_all exact pv 2))) (ak aF au (aj (by with_unfolding_all rfl))) (aj (by with_unfolding_all rfl)))) au (aj (by with_unfolding_all rfl))) (aj (by with_unfolding_all rfl))))))
  | (exact (aR (i:=5) nd (by rfl) (by exact Or.inl rfl) (aX (ak (aX (ak (bB bw (aX (ak aF (ak aF au (aj (by rfl))) (aj (by rfl)))) (dv 2 (pv 2))) (ak (bB jh aF aF) au (aj (by rfl))) (aj (by rfl)))) (ak (aX (ak (bB bw (aX (ak aF (ak aF au (aj (by rfl))) (aj (by rfl)))) (dv 2 (pv 2))) (ak aF au (aj (by rfl))) (aj (by rfl)))) au (aj (by rfl))) (aj (by rfl))))))
 refine aG ?_ ?_
 ·first
  | (with_reducible exact (aR (hs:=by with_unfolding_all rfl) (hf:=by with_unfolding_all first | exact .inl rfl | exact .inr rfl) (i:=6) (by with_unfolding_all exact nd) (by with_unfolding_all rfl) (by with_unfolding_all exact Or.inl rfl) (cH fZ (by with_unfolding_all rfl) (by with_unfolding_all exact T.z_tuple) Ma (ak (CW (hs:=by with_unfolding_all (intro _;rfl)) [2,3] (by with_unfolding_all exact hc) (by with_unfolding_all exact cI rfl) GR (GQ (by with_unfolding_all exact cI rfl)) (dN (by with_unfolding_all rfl) (by with_unfolding_all exact T.z_range) (ak (dv 3 (by with_unfolding_all exact pv 3)) au (aj (by with_unfolding_all rfl))) (j6 (by with_unfolding_all rfl))) (fun _ _ _ _=>fH) (fun _ _ _ _=>(aX (ak (bB bw (aX (ak (dv 0 (by with_unfolding_all exact pv 0)) (ak (bB jh (bB jh (dv 2 (by with_unfolding_all exact pv 2)) aF) (dv 0 (by with_unfolding_all exact pv 0))) au (aj (by with_unfolding_all rfl))) (aj (by with_unfolding_all rfl)))) (dv 1 (by with_unfolding_all exact pv 1))) (ak aF au (aj (by with_unfolding_all rfl))) (aj (by with_unfolding_all rfl)))))) au (aj (by with_unfolding_all rfl))) (by decide) (by decide) (aj (by with_unfolding_all rfl)) (aB (by with_unfolding_all rfl)))))
  | (exact (aR (i:=6) nd (by rfl) (by exact Or.inl rfl) (cH fZ (by rfl) (by exact T.z_tuple) Ma (ak (CW [2,3] hc (cI (by rfl)) GR (GQ (cI (by rfl))) (dN (by rfl) (by exact T.z_range) (ak (dv 3 (pv 3)) au (aj (by rfl))) (j6 (by rfl))) (fun _ _ _ _=>fH) (fun _ _ _ _=>(aX (ak (bB bw (aX (ak (dv 0 (pv 0)) (ak (bB jh (bB jh (dv 2 (pv 2)) aF) (dv 0 (pv 0))) au (aj (by rfl))) (aj (by rfl)))) (dv 1 (pv 1))) (ak aF au (aj (by rfl))) (aj (by rfl)))))) au (aj (by rfl))) (by decide) (by decide) (aj (by rfl)) (aB (by rfl)))))
 refine aG ?_ ?_
 ·exact (fC (iG<|eY<|aW ((eE T).mono (by decide)) hr (by rfl) (by exact T.cG) (by exact T.F_l_is_sum.kp) (by exact T.b_l_is_sum) (ak (aW ((dJ T).mono (by decide)) hr (by rfl) (by exact T.bN) (by exact T.F_parted.kp) (by exact T.b_parted) (ak (dv 4<|pv 4) (ak (dv 5<|pv 5) au<|aj<|by rfl)<|aj<|by rfl) (by decide) (aj<|by rfl)<|aB<|by rfl) (ak (dv 6<|pv 6) au<|aj<|by rfl)<|aj<|by rfl) (by decide) (aj<|by rfl)<|aB<|by rfl) (aN<|bC Ci) bW)
 refine aG ?_ ?_
 ·first
  | (with_reducible exact (aR (hs:=by with_unfolding_all rfl) (hf:=by with_unfolding_all first | exact .inl rfl | exact .inr rfl) (i:=7) (by with_unfolding_all exact nd) (by with_unfolding_all rfl) (by with_unfolding_all exact Or.inl rfl) mH))
  | (exact (aR (i:=7) nd (by rfl) (by exact Or.inl rfl) mH))
 refine aG ?_ ?_
 ·exact (aR (i:=8) nd (by rfl) (by exact Or.inl rfl)<|bB bw aF<|bB dR (bB kY (aW ((cA T).mono (by decide)) hr (by rfl) (by exact T.bK) (by exact T.F_l_cell.kp) (by exact T.b_l_cell) (ak (dv 0<|pv 0) (ak aF au<|aj<|by rfl)<|aj<|by rfl) (by decide) (aj<|by rfl)<|aB<|by rfl) aF) aF)
 refine aG ?_ ?_
 ·exact (gG Ms hc (dN (by rfl) (by exact T.z_range) (ak (dv 8<|pv 8) au<|aj<|by rfl)<|j6<|by rfl) (cC<|bV (i:=9) nd (by rfl)<|by exact Or.inl rfl)<|aN<|qz (bB bw aF<|bB dR (dv 9<|pv 9) aF)<|q9 (dv 7<|pv 7) (bB bw (aX<|ak (bB kY (dv 9<|pv 9) aF) (ak (bB dR (dv 9<|pv 9) aF) au<|aj<|by rfl)<|aj<|by rfl)<|dv 2<|pv 2) (iH<|jD hr) jZ)
 refine aG ?_ ?_
 ·exact (aR (i:=10) nd (by rfl) (by exact Or.inl rfl)<|aW ((dM T).mono (by decide)) hr (by rfl) (by exact T.bF) (by exact T.F_l_ordered.kp) (by exact T.b_l_ordered) (ak (dv 7<|pv 7) au<|aj<|by rfl) (by decide) (aj<|by rfl)<|aB<|by rfl)
 refine aG ?_ ?_
 ·first
  | (with_reducible exact (aR (hs:=by with_unfolding_all rfl) (hf:=by with_unfolding_all first | exact .inl rfl | exact .inr rfl) (i:=11) (by with_unfolding_all exact nd) (by with_unfolding_all rfl) (by with_unfolding_all exact Or.inl rfl) (cH fZ (by with_unfolding_all rfl) (by with_unfolding_all exact T.z_tuple) Ma (ak (CW (hs:=by with_unfolding_all (intro _;rfl)) [] (by with_unfolding_all exact hc) (by with_unfolding_all exact cI rfl) Ax (Cd (by with_unfolding_all exact hc) (by with_unfolding_all exact cI rfl)) (fP (dv 10 (by with_unfolding_all exact pv 10))) (fun _ _ _ _=>fH) (fun _ _ _ _=>(aX (ak (bB bw (aX (ak (bB bw (mW (dv 0 (by with_unfolding_all exact pv 0)) aF (by with_unfolding_all (intro _ _;rfl))) aF) au (aj (by with_unfolding_all rfl)))) (Ib (dv 0 (by with_unfolding_all exact pv 0)) (rZ aF) ud)) (ak (dv 1 (by with_unfolding_all exact pv 1)) au (aj (by with_unfolding_all rfl))) (aj (by with_unfolding_all rfl)))))) au (aj (by with_unfolding_all rfl))) (by decide) (by decide) (aj (by with_unfolding_all rfl)) (aB (by with_unfolding_all rfl)))))
  | (exact (aR (i:=11) nd (by rfl) (by exact Or.inl rfl) (cH fZ (by rfl) (by exact T.z_tuple) Ma (ak (CW [] hc (cI (by rfl)) Ax (Cd hc (cI (by rfl))) (fP (dv 10 (pv 10))) (fun _ _ _ _=>fH) (fun _ _ _ _=>(aX (ak (bB bw (aX (ak (bB bw (mW (dv 0 (pv 0)) aF (by intro _ _;rfl)) aF) au (aj (by rfl)))) (Ib (dv 0 (pv 0)) (rZ aF) ud)) (ak (dv 1 (pv 1)) au (aj (by rfl))) (aj (by rfl)))))) au (aj (by rfl))) (by decide) (by decide) (aj (by rfl)) (aB (by rfl)))))
 refine aG ?_ ?_
 ·first
  | (with_reducible exact (fC (iG (eY (h:=by with_unfolding_all (intro _;rfl)) (aW (k:=13) (by with_unfolding_all exact (eE T).mono (by decide)) (by with_unfolding_all exact hr) (by with_unfolding_all rfl) (by with_unfolding_all exact T.cG) (by with_unfolding_all exact T.F_l_is_sum.kp) (by with_unfolding_all exact T.b_l_is_sum) (ak (aW (k:=13) (by with_unfolding_all exact (dJ T).mono (by decide)) (by with_unfolding_all exact hr) (by with_unfolding_all rfl) (by with_unfolding_all exact T.bN) (by with_unfolding_all exact T.F_parted.kp) (by with_unfolding_all exact T.b_parted) (ak (dv 11 (by with_unfolding_all exact pv 11)) (ak (aX (ak (aX (ak (bB bw (aX (ak aF (ak aF au (aj (by with_unfolding_all rfl))) (aj (by with_unfolding_all rfl)))) (dv 2 (by with_unfolding_all exact pv 2))) (ak aF au (aj (by with_unfolding_all rfl))) (aj (by with_unfolding_all rfl)))) au (aj (by with_unfolding_all rfl)))) au (aj (by with_unfolding_all rfl))) (aj (by with_unfolding_all rfl))) (by decide) (aj (by with_unfolding_all rfl)) (aB (by with_unfolding_all rfl))) (ak (dv 10 (by with_unfolding_all exact pv 10)) au (aj (by with_unfolding_all rfl))) (aj (by with_unfolding_all rfl))) (by decide) (aj (by with_unfolding_all rfl)) (aB (by with_unfolding_all rfl))))) (aN (bC Ci)) bW))
  | (exact (fC (iG (eY (aW ((eE T).mono (by decide)) hr (by rfl) (by exact T.cG) (by exact T.F_l_is_sum.kp) (by exact T.b_l_is_sum) (ak (aW ((dJ T).mono (by decide)) hr (by rfl) (by exact T.bN) (by exact T.F_parted.kp) (by exact T.b_parted) (ak (dv 11 (pv 11)) (ak (aX (ak (aX (ak (bB bw (aX (ak aF (ak aF au (aj (by rfl))) (aj (by rfl)))) (dv 2 (pv 2))) (ak aF au (aj (by rfl))) (aj (by rfl)))) au (aj (by rfl)))) au (aj (by rfl))) (aj (by rfl))) (by decide) (aj (by rfl)) (aB (by rfl))) (ak (dv 10 (pv 10)) au (aj (by rfl))) (aj (by rfl))) (by decide) (aj (by rfl)) (aB (by rfl))))) (aN (bC Ci)) bW))
 refine aG ?_ ?_
 ·first
  | (with_reducible exact (aR (hs:=by with_unfolding_all rfl) (hf:=by with_unfolding_all first | exact .inl rfl | exact .inr rfl) (i:=12) (by with_unfolding_all exact nd) (by with_unfolding_all rfl) (by with_unfolding_all exact Or.inl rfl) (aX (ak (bB bw (aX (ak aF (ak aF au (aj (by with_unfolding_all rfl))) (aj (by with_unfolding_all rfl)))) (dv 2 (by with_unfolding_all exact pv 2))) (ak aF au (aj (by with_unfolding_all rfl))) (aj (by with_unfolding_all rfl))))))
  | (exact (aR (i:=12) nd (by rfl) (by exact Or.inl rfl) (aX (ak (bB bw (aX (ak aF (ak aF au (aj (by rfl))) (aj (by rfl)))) (dv 2 (pv 2))) (ak aF au (aj (by rfl))) (aj (by rfl))))))
 refine aG ?_ ?_
 ·first
  | (with_reducible exact (aR (hs:=by with_unfolding_all rfl) (hf:=by with_unfolding_all first | exact .inl rfl | exact .inr rfl) (i:=13) (by with_unfolding_all exact nd) (by with_unfolding_all rfl) (by with_unfolding_all exact Or.inl rfl) (aX (ak (aX (ak (bB bw (aX (ak aF (ak aF au (aj (by with_unfolding_all rfl))) (aj (by with_unfolding_all rfl)))) (dv 2 (by with_unfolding_all exact pv 2))) (ak aF au (aj (by with_unfolding_all rfl))) (aj (by with_unfolding_all rfl)))) (ak (aX (ak (bB bw (aX (ak aF (ak aF au (aj (by with_unfolding_all rfl))) (aj (by with_unfolding_all rfl)))) (dv 2 (by with_unfolding_all exact pv 2))) (ak aF au (aj (by with_unfolding_all rfl))) (aj (by with_unfolding_all rfl)))) (ak (aX (ak (bB bw (aX (ak aF (ak aF au (aj (by with_unfolding_all rfl))) (aj (by with_unfolding_all rfl)))) (dv 2 (by with_unfolding_all exact pv 2))) (ak aF au (aj (by with_unfolding_all rfl))) (aj (by with_unfolding_all rfl)))) au (aj (by with_unfolding_all rfl))) (aj (by with_unfolding_all rfl))) (aj (by with_unfolding_all rfl))))))
  | (exact (aR (i:=13) nd (by rfl) (by exact Or.inl rfl) (aX (ak (aX (ak (bB bw (aX (ak aF (ak aF au (aj (by rfl))) (aj (by rfl)))) (dv 2 (pv 2))) (ak aF au (aj (by rfl))) (aj (by rfl)))) (ak (aX (ak (bB bw (aX (ak aF (ak aF au (aj (by rfl))) (aj (by rfl)))) (dv 2 (pv 2))) (ak aF au (aj (by rfl))) (aj (by rfl)))) (ak (aX (ak (bB bw (aX (ak aF (ak aF au (aj (by rfl))) (aj (by rfl)))) (dv 2 (pv 2))) (ak aF au (aj (by rfl))) (aj (by rfl)))) au (aj (by rfl))) (aj (by rfl))) (aj (by rfl))))))
 refine aN ?_;exact (bC<|M8 (KZ<|jD hr) (aW ((oX T).mono (by decide)) hr (by rfl) (by exact T.fV) (by exact T.F_l_word.kp) (by exact T.b_l_word) (ak (aX<|ak (dv 12<|pv 12) au<|aj<|by rfl) (ak (dv 13<|pv 13) au<|aj<|by rfl)<|aj<|by rfl) (by decide) (aj<|by rfl)<|aB<|by rfl) rG<|cj _)
theorem aeT (T:Txt K mg t):eU P w K mg base GZ 15 t.f_law t.d_law ["_law_script"] (lift K Jk):=by
 have nd:=Kc.nd;refine rB (k:=14) T.F_law Kc fun cdv A outer s H E hr=>?_;have hc:=hr.calm (by decide);refine aG ?_ ?_
 ·exact (aR (i:=1) nd (by rfl) (by exact Or.inl rfl)<|bB dR (aW ((cA T).mono (by decide)) hr (by rfl) (by exact T.bK) (by exact T.F_l_cell.kp) (by exact T.b_l_cell) (ak (dv 0<|pv 0) (ak aF au<|aj<|by rfl)<|aj<|by rfl) (by decide) (aj<|by rfl)<|aB<|by rfl) aF)
 refine aG ?_ ?_
 ·exact (aR (i:=2) nd (by rfl) (by exact Or.inl rfl)<|aW ((sV T).mono (by decide)) hr (by rfl) (by exact T.fW) (by exact T.F_l_sum.kp) (by exact T.b_l_sum) (ak (dv 0<|pv 0) (ak aF (ak (dv 1<|pv 1) (ak (bB dR (aW ((cA T).mono (by decide)) hr (by rfl) (by exact T.bK) (by exact T.F_l_cell.kp) (by exact T.b_l_cell) (ak (dv 0<|pv 0) (ak aF au<|aj<|by rfl)<|aj<|by rfl) (by decide) (aj<|by rfl)<|aB<|by rfl) aF) (ak aF au<|aj<|by rfl)<|aj<|by rfl)<|aj<|by rfl)<|aj<|by rfl)<|aj<|by rfl) (by decide) (aj<|by rfl)<|aB<|by rfl)
 refine aG ?_ ?_
 ·exact (aR (i:=3) nd (by rfl) (by exact Or.inl rfl)<|aW ((xV T).mono (by decide)) hr (by rfl) (by exact T.iU) (by exact T.F_l_second.kp) (by exact T.b_l_second) (ak (dv 0<|pv 0) (ak (dv 1<|pv 1) au<|aj<|by rfl)<|aj<|by rfl) (by decide) (aj<|by rfl)<|aB<|by rfl)
 refine aG ?_ ?_
 ·exact (aR (i:=4) nd (by rfl) (by exact Or.inl rfl)<|aW ((gW T).mono (by decide)) hr (by rfl) (by exact T.cZ) (by exact T.F_l_product.kp) (by exact T.b_l_product) (ak (dv 2<|pv 2) (ak (dv 3<|pv 3) au<|aj<|by rfl)<|aj<|by rfl) (by decide) (aj<|by rfl)<|aB<|by rfl)
 refine aG ?_ ?_
 ·exact (fC (pJ (iG<|eY<|aW ((eE T).mono (by decide)) hr (by rfl) (by exact T.cG) (by exact T.F_l_is_sum.kp) (by exact T.b_l_is_sum) (ak (aW ((dJ T).mono (by decide)) hr (by rfl) (by exact T.bN) (by exact T.F_parted.kp) (by exact T.b_parted) (ak (dv 4<|pv 4) (ak (dv 3<|pv 3) au<|aj<|by rfl)<|aj<|by rfl) (by decide) (aj<|by rfl)<|aB<|by rfl) (ak (dv 2<|pv 2) au<|aj<|by rfl)<|aj<|by rfl) (by decide) (aj<|by rfl)<|aB<|by rfl)<|lY<|cJ (G5<|jD hr) (aW ((dJ T).mono (by decide)) hr (by rfl) (by exact T.bN) (by exact T.F_parted.kp) (by exact T.b_parted) (ak (aX au) (ak (dv 3<|pv 3) au<|aj<|by rfl)<|aj<|by rfl) (by decide) (aj<|by rfl)<|aB<|by rfl) (aX au)<|cj _).pt (aN<|bC Ci) bW)
 refine aG ?_ ?_
 ·exact (aR (i:=5) nd (by rfl) (by exact Or.inl rfl)<|aW ((aaG T).mono (by decide)) hr (by rfl) (by exact T.m7) (by exact T.F_l_rest.kp) (by exact T.b_l_rest) (ak (dv 0<|pv 0) (ak (dv 1<|pv 1) (ak (dv 3<|pv 3) au<|aj<|by rfl)<|aj<|by rfl)<|aj<|by rfl) (by decide) (aj<|by rfl)<|aB<|by rfl)
 refine aG ?_ ?_
 ·exact (fC (Ve (cJ (G5<|jD hr) (dv 5<|pv 5) (aX au)<|cj _)<|abM<|cJ Kr (aW ((dJ T).mono (by decide)) hr (by rfl) (by exact T.bN) (by exact T.F_parted.kp) (by exact T.b_parted) (ak (aW ((lA T).mono (by decide)) hr (by rfl) (by exact T.fL) (by exact T.F_l_added.kp) (by exact T.b_l_added) (ak (dv 4<|pv 4) (ak (dv 5<|pv 5) au<|aj<|by rfl)<|aj<|by rfl) (by decide) (aj<|by rfl)<|aB<|by rfl) (ak (dv 3<|pv 3) au<|aj<|by rfl)<|aj<|by rfl) (by decide) (aj<|by rfl)<|aB<|by rfl) Eu<|cj _).pt (aN<|bC Ci) bW)
 refine aG ?_ ?_
 ·exact (aR (i:=6) nd (by rfl) (by exact Or.inr rfl)<|bB bw aF<|bB dR (aW ((cA T).mono (by decide)) hr (by rfl) (by exact T.bK) (by exact T.F_l_cell.kp) (by exact T.b_l_cell) (ak (dv 0<|pv 0) (ak aF au<|aj<|by rfl)<|aj<|by rfl) (by decide) (aj<|by rfl)<|aB<|by rfl)<|bB Aw aF aF)
 refine aG ?_ ?_
 ·exact (aR (i:=7) nd (by rfl) (by exact Or.inl rfl)<|cH fZ (by rfl) (by exact T.z_tuple) Ma (ak (CW [6] hc (cI<|by rfl) Ax (Cd hc<|cI<|by rfl) (fP<|dv 3<|pv 3) (fun _ _ _ _=>fH)<|fun _ _ _ _=>(aX<|ak (dv 0<|pv 0) (ak (bB kh (dv 1<|pv 1)<|dv 2<|pv 2) au<|aj<|by rfl)<|aj<|by rfl)) au<|aj<|by rfl) (by decide) (by decide) (aj<|by rfl)<|aB<|by rfl)
 refine aG ?_ ?_
 ·first
  | (with_reducible exact (aR (hs:=by with_unfolding_all rfl) (hf:=by with_unfolding_all first | exact .inl rfl | exact .inr rfl) (i:=8) (by with_unfolding_all exact nd) (by with_unfolding_all rfl) (by with_unfolding_all exact Or.inl rfl) (aW (k:=14) (by with_unfolding_all exact (lA T).mono (by decide)) (by with_unfolding_all exact hr) (by with_unfolding_all rfl) (by with_unfolding_all exact T.fL) (by with_unfolding_all exact T.F_l_added.kp) (by with_unfolding_all exact T.b_l_added) (ak (aW (k:=14) (by with_unfolding_all exact (gW T).mono (by decide)) (by with_unfolding_all exact hr) (by with_unfolding_all rfl) (by with_unfolding_all exact T.cZ) (by with_unfolding_all exact T.F_l_product.kp) (by with_unfolding_all exact T.b_l_product) (ak (dv 2 (by with_unfolding_all exact pv 2)) (ak (dv 7 (by with_unfolding_all exact pv 7)) au (aj (by with_unfolding_all rfl))) (aj (by with_unfolding_all rfl))) (by decide) (aj (by with_unfolding_all rfl)) (aB (by with_unfolding_all rfl))) (ak (aX (ak (aX (ak (bB uI (aX (ak aF au (aj (by with_unfolding_all rfl)))) (dv 1 (by with_unfolding_all exact pv 1))) (ak aF au (aj (by with_unfolding_all rfl))) (aj (by with_unfolding_all rfl)))) au (aj (by with_unfolding_all rfl)))) au (aj (by with_unfolding_all rfl))) (aj (by with_unfolding_all rfl))) (by decide) (aj (by with_unfolding_all rfl)) (aB (by with_unfolding_all rfl)))))
  | (exact (aR (i:=8) nd (by rfl) (by exact Or.inl rfl) (aW ((lA T).mono (by decide)) hr (by rfl) (by exact T.fL) (by exact T.F_l_added.kp) (by exact T.b_l_added) (ak (aW ((gW T).mono (by decide)) hr (by rfl) (by exact T.cZ) (by exact T.F_l_product.kp) (by exact T.b_l_product) (ak (dv 2 (pv 2)) (ak (dv 7 (pv 7)) au (aj (by rfl))) (aj (by rfl))) (by decide) (aj (by rfl)) (aB (by rfl))) (ak (aX (ak (aX (ak (bB uI (aX (ak aF au (aj (by rfl)))) (dv 1 (pv 1))) (ak aF au (aj (by rfl))) (aj (by rfl)))) au (aj (by rfl)))) au (aj (by rfl))) (aj (by rfl))) (by decide) (aj (by rfl)) (aB (by rfl)))))
 refine aG ?_ ?_
 ·exact (fC (cJ Kr (aW ((dJ T).mono (by decide)) hr (by rfl) (by exact T.bN) (by exact T.F_parted.kp) (by exact T.b_parted) (ak (dv 8<|pv 8) (ak (dv 7<|pv 7) au<|aj<|by rfl)<|aj<|by rfl) (by decide) (aj<|by rfl)<|aB<|by rfl) Eu<|cj _) (aN<|bC Ci) bW)
 refine aG ?_ ?_
 ·exact (fC (pJ (cJ (G5<|jD hr) (aW ((oX T).mono (by decide)) hr (by rfl) (by exact T.fV) (by exact T.F_l_word.kp) (by exact T.b_l_word) (ak (dv 4<|pv 4) (ak (aX au) au<|aj<|by rfl)<|aj<|by rfl) (by decide) (aj<|by rfl)<|aB<|by rfl) rG<|cj _)<|pJ (cJ (G5<|jD hr) (aW ((oX T).mono (by decide)) hr (by rfl) (by exact T.fV) (by exact T.F_l_word.kp) (by exact T.b_l_word) (ak (aX au) (ak (aX au) au<|aj<|by rfl)<|aj<|by rfl) (by decide) (aj<|by rfl)<|aB<|by rfl) rG<|cj _)<|lY<|iG<|eY<|aW ((mR T).mono (by decide)) hr (by rfl) (by exact T.cW) (by exact T.F_l_longs_right.kp) (by exact T.b_l_longs_right) (ak (dv 0<|pv 0) (ak (dv 1<|pv 1) au<|aj<|by rfl)<|aj<|by rfl) (by decide) (aj<|by rfl)<|aB<|by rfl).pt (aN<|bC Ci) bW)
 refine aN ?_;exact (bC<|aW ((eE T).mono (by decide)) hr (by rfl) (by exact T.cG) (by exact T.F_l_is_sum.kp) (by exact T.b_l_is_sum) (ak (aW ((dJ T).mono (by decide)) hr (by rfl) (by exact T.bN) (by exact T.F_parted.kp) (by exact T.b_parted) (ak (dv 4<|pv 4) (ak (dv 3<|pv 3) au<|aj<|by rfl)<|aj<|by rfl) (by decide) (aj<|by rfl)<|aB<|by rfl) (ak (dv 2<|pv 2) au<|aj<|by rfl)<|aj<|by rfl) (by decide) (aj<|by rfl)<|aB<|by rfl)
end
variable {mg : Str->Option Yk}
def fO (x:Str)(s:Stmt)(oc:Yk)(od:Option Addr)(kV dc pm:Yk)(an:Option Addr)(cd ct:Yk)(sl:Array (Option Yk)):Option Obj:=Mk ⟨oc,od,.func (Ql x x (pR s) (iu s) (aU s) .none kV dc pm an cd ct),sl⟩
def sR (f:Addr):Option (Option Yk):=Mk (Mk (.ref f))
open PySem.W (nsIn codeIn keepIn) in
theorem all_mk {l:PySem.W.OpenLaw}{w:Bh}{K:Ar}{h:Heap}{fa:Addr}(hlaw:∀ ns:List Int,ns.length<=63->Jk [.kls (ns.map W.int)] g0 (fun w _=>w=.bl true) EF)(X:K.In h)(G:h.Ns DK mg)(hfa:mg "law" = Mk (.ref fa))
  {f0 f1 f2 f3 f4 f5 f6 f7 f8 f9 f10 f11 f12 f13 f14 f15 f16 f17 f18 f19:Addr} {od0 an0 od1 an1 od2 an2 od3 an3 od4 an4 od5 an5 od6 an6 od7 an7 od8 an8 od9 an9 od10 an10 od11 an11 od12 an12 od13 an13 od14 an14 od15 an15 od16 an16 od17 an17 od18 an18 od19 an19:Option Addr} {sl0 sl1 sl2 sl3 sl4 sl5 sl6 sl7 sl8 sl9 sl10 sl11 sl12 sl13 sl14 sl15 sl16 sl17 sl18 sl19:Array (Option Yk)} {oc0 kV0 dc0 pm0 cd0 ct0 oc1 kV1 dc1 pm1 cd1 ct1 oc2 kV2 dc2 pm2 cd2 ct2 oc3 kV3 dc3 pm3 cd3 ct3 oc4 kV4 dc4 pm4 cd4 ct4 oc5 kV5 dc5 pm5 cd5 ct5 oc6 kV6 dc6 pm6 cd6 ct6 oc7 kV7 dc7 pm7 cd7 ct7 oc8 kV8 dc8 pm8 cd8 ct8 oc9 kV9 dc9 pm9 cd9 ct9 oc10 kV10 dc10 pm10 cd10 ct10 oc11 kV11 dc11 pm11 cd11 ct11 oc12 kV12 dc12 pm12 cd12 ct12 oc13 kV13 dc13 pm13 cd13 ct13 oc14 kV14 dc14 pm14 cd14 ct14 oc15 kV15 dc15 pm15 cd15 ct15 oc16 kV16 dc16 pm16 cd16 ct16 oc17 kV17 dc17 pm17 cd17 ct17 oc18 kV18 dc18 pm18 cd18 ct18 oc19 kV19 dc19 pm19 cd19 ct19:Yk}
  {n_MOST_TERMS:Tok}
  {n_FIELD:Tok}
  {x_EaselError:Addr}
  {x_Nothing:Addr}
  {x_Stuck:Addr}
  {x_NoPart:Addr}
  {x_TooMuch:Addr}
  (a0:nsIn K DK "packed" = sR f0) (l0:K.lookup f0=fO "packed" nM oc0 od0 kV0 dc0 pm0 an0 cd0 ct0 sl0) (c0:codeIn K cd0 "packed" = true) (k0:keepIn K (.ref f0)=true)
  (a1:nsIn K DK "unpacked" = sR f1) (l1:K.lookup f1=fO "unpacked" iR oc1 od1 kV1 dc1 pm1 an1 cd1 ct1 sl1) (c1:codeIn K cd1 "unpacked" = true) (k1:keepIn K (.ref f1)=true)
  (a2:nsIn K DK "packed_terms" = sR f2) (l2:K.lookup f2=fO "packed_terms" dh oc2 od2 kV2 dc2 pm2 an2 cd2 ct2 sl2) (c2:codeIn K cd2 "packed_terms" = true) (k2:keepIn K (.ref f2)=true)
  (a3:nsIn K DK "part_of_term" = sR f3) (l3:K.lookup f3=fO "part_of_term" dB oc3 od3 kV3 dc3 pm3 an3 cd3 ct3 sl3) (c3:codeIn K cd3 "part_of_term" = true) (k3:keepIn K (.ref f3)=true)
  (a4:nsIn K DK "take_away" = sR f4) (l4:K.lookup f4=fO "take_away" gn oc4 od4 kV4 dc4 pm4 an4 cd4 ct4 sl4) (c4:codeIn K cd4 "take_away" = true) (k4:keepIn K (.ref f4)=true)
  (a5:nsIn K DK "parted" = sR f5) (l5:K.lookup f5=fO "parted" nj oc5 od5 kV5 dc5 pm5 an5 cd5 ct5 sl5) (c5:codeIn K cd5 "parted" = true) (k5:keepIn K (.ref f5)=true)
  (a6:nsIn K DK "_law_cell" = sR f6) (l6:K.lookup f6=fO "_law_cell" nF oc6 od6 kV6 dc6 pm6 an6 cd6 ct6 sl6) (c6:codeIn K cd6 "_law_cell" = true) (k6:keepIn K (.ref f6)=true)
  (a7:nsIn K DK "_law_draws" = sR f7) (l7:K.lookup f7=fO "_law_draws" jO oc7 od7 kV7 dc7 pm7 an7 cd7 ct7 sl7) (c7:codeIn K cd7 "_law_draws" = true) (k7:keepIn K (.ref f7)=true)
  (a8:nsIn K DK "_law_number" = sR f8) (l8:K.lookup f8=fO "_law_number" iM oc8 od8 kV8 dc8 pm8 an8 cd8 ct8 sl8) (c8:codeIn K cd8 "_law_number" = true) (k8:keepIn K (.ref f8)=true)
  (a9:nsIn K DK "_law_powers" = sR f9) (l9:K.lookup f9=fO "_law_powers" je oc9 od9 kV9 dc9 pm9 an9 cd9 ct9 sl9) (c9:codeIn K cd9 "_law_powers" = true) (k9:keepIn K (.ref f9)=true)
  (a10:nsIn K DK "_law_ordered" = sR f10) (l10:K.lookup f10=fO "_law_ordered" gw oc10 od10 kV10 dc10 pm10 an10 cd10 ct10 sl10) (c10:codeIn K cd10 "_law_ordered" = true) (k10:keepIn K (.ref f10)=true)
  (a11:nsIn K DK "_law_sum" = sR f11) (l11:K.lookup f11=fO "_law_sum" uz oc11 od11 kV11 dc11 pm11 an11 cd11 ct11 sl11) (c11:codeIn K cd11 "_law_sum" = true) (k11:keepIn K (.ref f11)=true)
  (a12:nsIn K DK "_law_is_sum" = sR f12) (l12:K.lookup f12=fO "_law_is_sum" iJ oc12 od12 kV12 dc12 pm12 an12 cd12 ct12 sl12) (c12:codeIn K cd12 "_law_is_sum" = true) (k12:keepIn K (.ref f12)=true)
  (a13:nsIn K DK "_law_product" = sR f13) (l13:K.lookup f13=fO "_law_product" gA oc13 od13 kV13 dc13 pm13 an13 cd13 ct13 sl13) (c13:codeIn K cd13 "_law_product" = true) (k13:keepIn K (.ref f13)=true)
  (a14:nsIn K DK "_law_added" = sR f14) (l14:K.lookup f14=fO "_law_added" j8 oc14 od14 kV14 dc14 pm14 an14 cd14 ct14 sl14) (c14:codeIn K cd14 "_law_added" = true) (k14:keepIn K (.ref f14)=true)
  (a15:nsIn K DK "_law_second" = sR f15) (l15:K.lookup f15=fO "_law_second" iY oc15 od15 kV15 dc15 pm15 an15 cd15 ct15 sl15) (c15:codeIn K cd15 "_law_second" = true) (k15:keepIn K (.ref f15)=true)
  (a16:nsIn K DK "_law_rest" = sR f16) (l16:K.lookup f16=fO "_law_rest" nA oc16 od16 kV16 dc16 pm16 an16 cd16 ct16 sl16) (c16:codeIn K cd16 "_law_rest" = true) (k16:keepIn K (.ref f16)=true)
  (a17:nsIn K DK "_law_word" = sR f17) (l17:K.lookup f17=fO "_law_word" nH oc17 od17 kV17 dc17 pm17 an17 cd17 ct17 sl17) (c17:codeIn K cd17 "_law_word" = true) (k17:keepIn K (.ref f17)=true)
  (a18:nsIn K DK "_law_longs_right" = sR f18) (l18:K.lookup f18=fO "_law_longs_right" cX oc18 od18 kV18 dc18 pm18 an18 cd18 ct18 sl18) (c18:codeIn K cd18 "_law_longs_right" = true) (k18:keepIn K (.ref f18)=true)
  (a19:nsIn K DK "law" = sR f19) (l19:K.lookup f19=fO "law" Hl oc19 od19 kV19 dc19 pm19 an19 cd19 ct19 sl19) (c19:codeIn K cd19 "law" = true) (k19:keepIn K (.ref f19)=true)
  (z_ValueError:JD K DK "ValueError" = Mk YK)
  (z_all:JD K DK "all" = Mk YK)
  (z_any:JD K DK "any" = Mk YK)
  (z_bool:JD K DK "bool" = Mk YK)
  (z_dict:JD K DK "dict" = Mk YK)
  (z_int:JD K DK "int" = Mk YK)
  (z_isinstance:JD K DK "isinstance" = Mk YK)
  (z_len:JD K DK "len" = Mk YK)
  (z_max:JD K DK "max" = Mk YK)
  (z_range:JD K DK "range" = Mk YK)
  (z_reversed:JD K DK "reversed" = Mk YK)
  (z_sorted:JD K DK "sorted" = Mk YK)
  (z_tuple:JD K DK "tuple" = Mk YK)
  (z_zip:JD K DK "zip" = Mk YK)
  (gk_MOST_TERMS:JD K DK "MOST_TERMS" = Mk (Mk (.int 600 n_MOST_TERMS)))
  (gk_FIELD:JD K DK "FIELD" = Mk (Mk (.int 65536 n_FIELD)))
  (gx_EaselError:nsIn K DK "EaselError" = sR x_EaselError) (xd_EaselError:tZ K x_EaselError "EaselError" = true)
  (gx_Nothing:nsIn K DK "Nothing" = sR x_Nothing) (xd_Nothing:tZ K x_Nothing "Nothing" = true)
  (gx_Stuck:nsIn K DK "Stuck" = sR x_Stuck) (xd_Stuck:tZ K x_Stuck "Stuck" = true)
  (gx_NoPart:nsIn K DK "NoPart" = sR x_NoPart) (xd_NoPart:tZ K x_NoPart "NoPart" = true)
  (xc_NoPart:qu K x_NoPart "NoPart" = true) (xq_NoPart:Qc K x_NoPart N8 "ValueError.__new__" = true)
  (gx_TooMuch:nsIn K DK "TooMuch" = sR x_TooMuch) (xd_TooMuch:tZ K x_TooMuch "TooMuch" = true)
  (xc_TooMuch:qu K x_TooMuch "TooMuch" = true) (xq_TooMuch:Qc K x_TooMuch N8 "ValueError.__new__" = true)
  : ∃ fd:Ei,(∀ (s:ZG) (v:Yk),BindsTo s fd ⟨[v],[]⟩ [("_law_script",v)])/\∀ base:Heap,K.In base->base.Ns DK mg->eU l.prog w K mg base GZ 15 fa fd ["_law_script"] (Hr K):=by
 have e:=hfa.symm.trans (HW X G a19);cases e;have F0:=cO (st:=nM) l0 c0 k0;have b0:=F0.binds (ps:=["powers"]) fun _ _ _ _ _ _ us hl=>match us,hl with | [_],_=>rfl
 have F1:=cO (st:=iR) l1 c1 k1;have b1:=F1.binds (ps:=["key", "letters"]) fun _ _ _ _ _ _ us hl=>match us,hl with | [_,_],_=>rfl
 have F2:=cO (st:=dh) l2 c2 k2;have b2:=F2.binds (ps:=["one"]) fun _ _ _ _ _ _ us hl=>match us,hl with | [_],_=>rfl
 have F3:=cO (st:=dB) l3 c3 k3;have b3:=F3.binds (ps:=["powers", "number", "lead"]) fun _ _ _ _ _ _ us hl=>match us,hl with | [_,_,_],_=>rfl
 have F4:=cO (st:=gn) l4 c4 k4;have b4:=F4.binds (ps:=["left", "terms", "shift", "factor"]) fun _ _ _ _ _ _ us hl=>match us,hl with | [_,_,_,_],_=>rfl
 have F5:=cO (st:=nj) l5 c5 k5;have b5:=F5.binds (ps:=["one", "other"]) fun _ _ _ _ _ _ us hl=>match us,hl with | [_,_],_=>rfl
 have F6:=cO (st:=nF) l6 c6 k6;have b6:=F6.binds (ps:=["_law_script", "_law_k"]) fun _ _ _ _ _ _ us hl=>match us,hl with | [_,_],_=>rfl
 have F7:=cO (st:=jO) l7 c7 k7;have b7:=F7.binds (ps:=["_law_script", "_law_k", "_law_many"]) fun _ _ _ _ _ _ us hl=>match us,hl with | [_,_,_],_=>rfl
 have F8:=cO (st:=iM) l8 c8 k8;have b8:=F8.binds (ps:=["_law_x"]) fun _ _ _ _ _ _ us hl=>match us,hl with | [_],_=>rfl
 have F9:=cO (st:=je) l9 c9 k9;have b9:=F9.binds (ps:=["_law_x", "_law_letters", "_law_most"]) fun _ _ _ _ _ _ us hl=>match us,hl with | [_,_,_],_=>rfl
 have F10:=cO (st:=gw) l10 c10 k10;have b10:=F10.binds (ps:=["_law_found"]) fun _ _ _ _ _ _ us hl=>match us,hl with | [_],_=>rfl
 have F11:=cO (st:=uz) l11 c11 k11;have b11:=F11.binds (ps:=["_law_script", "_law_k", "_law_letters", "_law_many", "_law_most"]) fun _ _ _ _ _ _ us hl=>match us,hl with | [_,_,_,_,_],_=>rfl
 have F12:=cO (st:=iJ) l12 c12 k12;have b12:=F12.binds (ps:=["_law_found", "_law_due"]) fun _ _ _ _ _ _ us hl=>match us,hl with | [_,_],_=>rfl
 have F13:=cO (st:=gA) l13 c13 k13;have b13:=F13.binds (ps:=["_law_one", "_law_other"]) fun _ _ _ _ _ _ us hl=>match us,hl with | [_,_],_=>rfl
 have F14:=cO (st:=j8) l14 c14 k14;have b14:=F14.binds (ps:=["_law_one", "_law_other"]) fun _ _ _ _ _ _ us hl=>match us,hl with | [_,_],_=>rfl
 have F15:=cO (st:=iY) l15 c15 k15;have b15:=F15.binds (ps:=["_law_script", "_law_letters"]) fun _ _ _ _ _ _ us hl=>match us,hl with | [_,_],_=>rfl
 have F16:=cO (st:=nA) l16 c16 k16;have b16:=F16.binds (ps:=["_law_script", "_law_letters", "_law_other"]) fun _ _ _ _ _ _ us hl=>match us,hl with | [_,_,_],_=>rfl
 have F17:=cO (st:=nH) l17 c17 k17;have b17:=F17.binds (ps:=["_law_one", "_law_other"]) fun _ _ _ _ _ _ us hl=>match us,hl with | [_,_],_=>rfl
 have F18:=cO (st:=cX) l18 c18 k18;have b18:=F18.binds (ps:=["_law_script", "_law_letters"]) fun _ _ _ _ _ _ us hl=>match us,hl with | [_,_],_=>rfl
 have F19:=cO (st:=Hl) l19 c19 k19;have b19:=F19.binds (ps:=["_law_script"]) fun _ _ _ _ _ _ us hl=>match us,hl with | [_],_=>rfl
 have T:Txt K mg ⟨f0,_,f1,_,f2,_,f3,_,f4,_,f5,_,f6,_,f7,_,f8,_,f9,_,f10,_,f11,_,f12,_,f13,_,f14,_,f15,_,f16,_,f17,_,f18,_,fa,_,n_MOST_TERMS,n_FIELD,x_EaselError,x_Nothing,x_Stuck,x_NoPart,x_TooMuch⟩:=⟨F0,HW X G a0,b0,F1,HW X G a1,b1,F2,HW X G a2,b2,F3,HW X G a3,b3,F4,HW X G a4,b4,F5,HW X G a5,b5,F6,HW X G a6,b6,F7,HW X G a7,b7,F8,HW X G a8,b8,F9,HW X G a9,b9,F10,HW X G a10,b10,F11,HW X G a11,b11,F12,HW X G a12,b12,F13,HW X G a13,b13,F14,HW X G a14,b14,F15,HW X G a15,b15,F16,HW X G a16,b16,F17,HW X G a17,b17,F18,HW X G a18,b18,F19,HW X G a19,b19,M5 X G z_ValueError,M5 X G z_all,M5 X G z_any,M5 X G z_bool,M5 X G z_dict,M5 X G z_int,M5 X G z_isinstance,M5 X G z_len,M5 X G z_max,M5 X G z_range,M5 X G z_reversed,M5 X G z_sorted,M5 X G z_tuple,M5 X G z_zip,HW X G gk_MOST_TERMS,HW X G gk_FIELD,HW X G gx_EaselError,xd_EaselError,HW X G gx_Nothing,xd_Nothing,HW X G gx_Stuck,xd_Stuck,HW X G gx_NoPart,xd_NoPart,xc_NoPart,xq_NoPart,HW X G gx_TooMuch,xd_TooMuch,xc_TooMuch,xq_TooMuch⟩
 exact ⟨_,fun s v=>.of_eq rfl,fun base _ _=>aco hlaw<|aeT T⟩
variable {XP : (Str->Option Yk)->Heap->Prop}
theorem walk {l:PySem.W.OpenLaw}{q:Bs}{loose:List Str}{YP:Bh->Heap->Prop}{d:DefRec}{K:Params->Ar}(hn:l.most=Mk 63)(hdf:d.params.defaults=[])
  (hY:∀ (w:Bh) (h:Heap),YP w h->(K w.params).In h)
  (F:∀ (w:Bh) (mg:Str->Option Yk) (fa:Addr) (h:Heap),(K w.params).In h->h.Ns DK mg->mg d.name=Mk (.ref fa) ->
   ∃ fd:Ei,(∀ (s:ZG) (u:Yk),BindsTo s fd ⟨[u],[]⟩ [("_law_script",u)])/\∀ base:Heap,(K w.params).In base->base.Ns DK mg->eU l.prog w (K w.params) mg base GZ 15 fa fd ["_law_script"] (Hr (K w.params))) :
  PySem.W.WalkO q loose XP YP l.row.toRowW d [] (fun f vs=>PySem.call f vs):=
 L2.Gw (n:=63) (k:=15) (x := "_law_script") (CX:=fun _=>GZ) (sp:=fun w=>Hr (K w.params)) hn (by decide) hdf ⟨fun _=>rfl,by decide,by decide⟩ hY F (fun _ _ a ns hl hO hS=>⟨a,ns,rfl,hS,hO,hl,fun _=>rfl⟩) fun _ _ _ _ _ z=>z
local macro_rules | `(tactic| trivial) => `(tactic| with_reducible exact Sm.lit (by decide))
local macro_rules | `(tactic| trivial) => `(tactic| with_reducible exact Sm.zero)
local macro_rules | `(tactic| trivial) => `(tactic| with_reducible exact Sm.neg (by trivial))
local macro_rules | `(tactic| trivial) => `(tactic| with_reducible exact Sm.sub (by trivial) (by trivial))
local macro_rules | `(tactic| trivial) => `(tactic| with_reducible exact Sm.add (by trivial) (by trivial))
local macro_rules | `(tactic| trivial) => `(tactic| with_reducible exact Sm.mul (by trivial) (by trivial))
local macro_rules | `(tactic| trivial) => `(tactic| with_reducible assumption)
theorem Bk (h:Gh)(n:Nat)(c:Cell):(h.set n c).c n=Mk c:=by show (if n=n then Mk c else h.c n)=Mk c;rw [if_pos rfl]
variable {h : Gh}{m n : Nat}
theorem qP {c:Cell}(e:m≠n):(h.set n c).c m=h.c m:=by show (if m=n then Mk c else h.c m)=_;rw [if_neg e]
theorem DP (h:Gh)(c:Cell):(h.new c).c h.nx=Mk c:=by show (if h.nx=h.nx then Mk c else h.c h.nx)=Mk c;rw [if_pos rfl]
theorem vP {c:Cell}(e:m≠h.nx):(h.new c).c m=h.c m:=by show (if m=h.nx then Mk c else h.c m)=_;rw [if_neg e]
variable {ws : List W}
theorem yI (e:h.c n=Mk (.lst ws)):view h (.loc n)=Mk ws:=by simp only [view,eH,e]
theorem yh {a b:Int}(h:0<b):a.fmod b=a % b:=Int.fmod_eq_emod_of_nonneg a (Int.le_of_lt h)
theorem uc {a b:Int}(h:0<b):a.fdiv b=a / b:=Int.fdiv_eq_ediv_of_nonneg a (Int.le_of_lt h)
variable {c : Bool}
theorem S8 {A B:Prop}(e:c=true)(h:A):GF c A B:=by subst e;exact h
theorem Wt {c:Prop}[Decidable c]{A B:Prop}(h1:c->A)(h2:¬ c->B):GF (decide c) A B:=by
 by_cases h:c
 ·rw [decide_eq_true h];exact h1 h
 ·rw [decide_eq_false h];exact h2 h
variable {g : MG}{b : MS}
theorem iB {ws0:List W}{D:bT}(I:Nat->Sw->Gh->Prop)
  (step:∀ (i:Nat) (w:W) (Z : Sw) (h:Gh) (N:Sw->Gh->Prop),(∀ Z' h',I (i+1) Z' h'->N Z' h')->ws[i]?=Mk w->I i Z h->g w Z h fun Z1 h1=>b { D with nx:=N,ct:=N,bk:=D.nx } Z1 h1)
  (fin:∀ Z h,I ws.length Z h->D.nx Z h):∀ {Z : Sw} {h:Gh},I 0 Z h->gJ ⟨ws0,YK⟩ g b D ws Z h:=by
 induction ws generalizing I with
 | nil=>intro Z h h0;exact fin Z h h0
 | cons w ws ih=>
  intro Z h h0;refine step 0 w Z h _ (fun Z' h' q=>?_) rfl h0;exact ih (fun i=>I<|i+1) (fun i w Z h N hN e hi=>step (i+1) w Z h N hN (by simpa using e) hi) (fun Z h q=>fin Z h q) q
variable {ix : List Nat}{te : ME}{tt : MT}{Z : Sw}{own : W->Option (List W)}{Q : WK}
theorem jL {ws0:List W}(I:Nat->List W->Gh->Prop)
  (step:∀ (i:Nat) (w:W) (acc:List W) (h:Gh) (N:List W->Gh->Prop),(∀ acc' h',I (i+1) acc' h'->N acc' h')->ws[i]?=Mk w->I i acc h ->
   ∃ vs,own w=Mk vs/\tt (vs.map Mk++tM ix Z) h fun c h1=>GF c (te (vs.map Mk++tM ix Z) h1 fun v h2=>N (acc++[v]) h2) (N acc h1))
  (fin:∀ acc h,I ws.length acc h->Q (.lst acc) h):∀ {acc:List W} {h:Gh},I 0 acc h->ql ⟨ws0,YK⟩ own ix tt te Z Q ws acc h:=by
 induction ws generalizing I with
 | nil=>intro acc h h0;exact fin acc h h0
 | cons w ws ih=>
  intro acc h h0;obtain ⟨vs,ev,q⟩:=step 0 w acc h _ (fun acc' h' q=>ih (fun i=>I (i+1)) (fun i w acc h N hN e hi=>step (i+1) w acc h N hN (by simpa using e) hi) (fun acc h q=>fin acc h q) q) rfl h0;show (match own w with
   | some vs=>_
   | none=>False)
  rw [ev];exact q
variable {i : Nat}{w : W}
theorem Ag {lo:Int}(e:(zj lo n)[i]?=Mk w):i<n/\w=.int (lo+(i:Int)):=by
 have hi:i<n:=by
  have:=(PJ.mp e).1
  simpa [zj] using this
 unfold zj at e;rw [Hi,List.getElem?_range hi] at e;exact ⟨hi,(Eb e).symm⟩
theorem rH {lo:Int}:(zj lo n).length=n:=by simp [zj]
variable {j : Int}{ma : MA}
theorem oG {D:bT}(hm:∀ R,ma Z h R=R [.int j] h)(h1:-(2^62)<=j)(h2:j<2^62)(I:Nat->Sw->Gh->Prop)
  (step:∀ (i:Nat) (Z : Sw) (h:Gh) (N:Sw->Gh->Prop),(∀ Z' h',I (i+1) Z' h'->N Z' h')->i<j.toNat->I i Z h->g (.int (i:Int)) Z h fun Z1 h1=>b { D with nx:=N,ct:=N,bk:=D.nx } Z1 h1)
  (fin:∀ Z h,I j.toNat Z h->D.nx Z h) (h0:I 0 Z h):uD (lN ma) g b D Z h:=by
 unfold uD lN;rw [hm];refine Dk.mk h1 h2 ?_;refine iB I (fun i w Z h N hN e hi=>?_) (fun Z h q=>fin Z h (by rw [rH] at q;exact q)) h0;obtain ⟨hlt,rfl⟩:=Ag e;rw [Int.zero_add];exact step i Z h N hN hlt hi
variable {ns : List Int}
theorem abT {k:Int}(h0:0<=k)(h1:k<((ns.map W.int).length:Int)):JQ (ns.map W.int) k=Mk (.int (ns.getD k.toNat 0)):=by
 have hk:k.toNat<ns.length:=by rw [Cm] at h1;lia
 have e:(ns.map W.int)[k.toNat]?=Mk (.int (ns.getD k.toNat 0)):=by
  rw [Hi,Gg hk,M9,Gg hk];rfl
 have:=Fx e
 rwa [show ((k.toNat:Nat):Int)=k by lia] at this
theorem ints_get (e:(ns.map W.int)[i]?=Mk w):∃ n,ns[i]?=Mk n/\w=.int n:=by
 rw [Hi] at e;cases q:ns[i]? with
 | none=>rw [q] at e;cases e
 | some n=>rw [q] at e;exact ⟨n,rfl,(Eb e).symm⟩
theorem pH (a b:Int):Cp (.int a) (.int b)=(a==b):=by rw [Cp]
abbrev Tr:=Int×Int×Int
def tl (t:Tr):List Int:=[t.1,t.2.1,t.2.2]
def tw (t:Tr):W:=.tup [.int t.1,.int t.2.1,.int t.2.2]
def sc (k:Int)(t:Tr):Tr:=(t.1*k,t.2.1*k,t.2.2*k)
def crs (p q:Tr):Tr:=(p.2.1*q.2.2 - p.2.2*q.2.1,p.2.2*q.1 - p.1*q.2.2,p.1*q.2.1 - p.2.1*q.1)
def dt3 (p q:Tr):Int:=p.1*q.1+p.2.1*q.2.1+p.2.2*q.2.2
variable {p : Tr}
theorem ray {q:Tr}(hp:p≠(0,0,0))(h:crs p q=(0,0,0)):∃ s t:Int,s≠0/\sc s q=sc t p:=by
 obtain ⟨a,b,c⟩:=p;obtain ⟨x,y,z⟩:=q;have h1:b*z - c*y=0:=congrArg (·.1) h;have h2:c*x - a*z=0:=congrArg (·.2.1) h;have h3:a*y - b*x=0:=congrArg (·.2.2) h;by_cases ha:a=0
 ·by_cases hb:b=0
  ·by_cases hc:c=0
   ·exact absurd (by rw [ha,hb,hc]) hp
   ·refine ⟨c,z,hc,?_⟩;simp only [sc];refine Prod.ext ?_ (Prod.ext ?_ ?_) <;> simp only <;> grind
  ·refine ⟨b,y,hb,?_⟩;simp only [sc];refine Prod.ext ?_ (Prod.ext ?_ ?_) <;> simp only <;> grind
 ·refine ⟨a,x,ha,?_⟩;simp only [sc];refine Prod.ext ?_ (Prod.ext ?_ ?_) <;> simp only <;> grind
theorem flat {n q r:Tr}(hn:n≠(0,0,0))(hp:dt3 n p=0)(hq:dt3 n q=0)(hr:dt3 n r=0):dt3 (crs p q) r=0:=by
 obtain ⟨n1,n2,n3⟩:=n;obtain ⟨p1,p2,p3⟩:=p;obtain ⟨q1,q2,q3⟩:=q;obtain ⟨r1,r2,r3⟩:=r;simp only [dt3,crs] at *;generalize hd:(p2*q3 - p3*q2)*r1+(p3*q1 - p1*q3)*r2+(p1*q2 - p2*q1)*r3=d;have e1:n1*d=0:=by grind
 have e2:n2*d=0:=by grind
 have e3:n3*d=0:=by grind
 by_cases h:d=0
 ·exact h
 ·have f:∀ x:Int,x*d=0->x=0:=fun x e=>by
   rcases Int.mul_eq_zero.mp e with e | e
   ·exact e
   ·exact absurd e h
  exact absurd (by rw [f _ e1,f _ e2,f _ e3]) hn
theorem RB (p q:Tr):Cp (tw p) (tw q)=decide (p=q):=by
 obtain ⟨a,b,c⟩:=p;obtain ⟨x,y,z⟩:=q;unfold tw;rw [Cp,pU,pU,pU,pU,pH,pH,pH];by_cases ha:a=x <;> by_cases hb:b=y <;> by_cases hc:c=z <;> simp [ha,hb,hc]
theorem vJ (e:h.c n=Mk (.lst ws)):eH h (.loc n)=Mk ws:=by simp only [eH,e]
theorem wF:∀ bs:List Bool,G6 (bs.map W.bl)=Mk bs
 | []=>rfl
 | b::bs=>by rw [Bf,G6,wF bs];rfl
theorem Vm {us:List W}(e:h.c n=Mk (.lst us))(hz:us.length<CR)(k:Q .non (h.set n (.lst (us++[w])))):fB (.loc n) [w] h Q:=by
 show (match h.c n with
  | some (Cell.lst us)=>_
  | _=>False)
 rw [e];exact ⟨hz,k⟩
theorem aeP (hm:∀ R,ma Z h R=R [.int j] h)(h1:-(2^62)<=j)(h2:j<2^62)(hz:j.toNat<=CR)(I:Nat->List W->Gh->Prop)
  (step:∀ (i:Nat) (acc:List W) (h:Gh) (N:List W->Gh->Prop),(∀ acc' h',I (i+1) acc' h'->N acc' h')->i<j.toNat->I i acc h ->
   ∃ vs,own (.int (i:Int))=Mk vs/\tt (vs.map Mk++tM ix Z) h fun c h1=>GF c (te (vs.map Mk++tM ix Z) h1 fun v h2=>N (acc++[v]) h2) (N acc h1))
  (fin:∀ acc h,I j.toNat acc h->Q (.lst acc) h) (h0:I 0 [] h):JN own ix (lN ma) tt te Z h Q:=by
 unfold JN lN;rw [hm];refine Dk.mk h1 h2<|gK.mk (by rw [rH];exact hz) ?_
 refine jL I (fun i w acc h N hN e hi=>?_) (fun acc h q=>fin acc h (by rw [rH] at q;exact q)) h0;obtain ⟨hlt,rfl⟩:=Ag e;rw [Int.zero_add];exact step i acc h N hN hlt hi
theorem c32:(10:Int)^(32:Int).toNat=100000000000000000000000000000000:=by decide
theorem c30:(10:Int)^(30:Int).toNat=1000000000000000000000000000000:=by decide
theorem c9:(10:Int)^(9:Int).toNat=1000000000:=by decide
def lM (c:Bd):Prop:=∀ {h:Gh} {ns:List Int} {k:Int} {Q:WK} {E:CN},0<=k->Q (.int (ns.getD k.toNat 0)) h->c [.kls (ns.map .int),.int k] h Q E
theorem vf:lM Ab:=by
 intro h ns k Q E h0 q;show br (decide (k<((ns.map W.int).length:Int))) _ _;refine G7 (fun hk=>?_)<|fun hk=>?_
 ·conv=>whnf
  rw [abT h0 hk];exact q
 ·have e:ns.getD k.toNat 0=0:=by
   rw [M9,Ra (by rw [Cm] at hk;lia)];rfl
  rw [e] at q;exact q
theorem d8 (a:Int){b:Int}(h:0<b):0<=a.fmod b/\a.fmod b<b:=by
 rw [yh h];exact ⟨Int.emod_nonneg _ (by lia),Int.emod_lt_of_pos _ h⟩
def xR (c:Bd):Prop:=∀ {h:Gh} {ns:List Int} {k many:Int} {Q:WK} {E:CN},0<=k->k<=1000->0<=many->many<=1000 ->
 (∀ xs:List Int,(xs.length:Int)=many->Q (.lst (xs.map .int)) h)->c [.kls (ns.map .int),.int k,.int many] h Q E
theorem aeb {cl:Bd}(hcl:lM cl):xR (uE cl):=by
 intro h ns k many Q E k0 k1 m0 m1 q;show cl [.kls (ns.map .int),.int k] h _ _;refine hcl k0 ?_;generalize ns.getD k.toNat 0=left;have p62:(2:Int)^62=4611686018427387904:=by decide
 refine And.intro (.of (m:=64) (n:=10) (.lit rfl) (iy (by lia)<|by lia) (by decide)<|by decide) ?_;refine And.intro (.of (m:=64) (n:=10) (.lit rfl) (iy (by lia)<|by lia) (by decide)<|by decide) ?_;refine And.intro (show (4294967291:Int)≠0 by decide) ?_;generalize decide (107*many<(RZ left:Nat))=free;obtain ⟨s0,s1⟩:=d8 (left+7919*k+11) (b:=4294967291) (by decide);generalize (left+7919*k+11).fmod 4294967291=seed at *;dsimp only [Ai,bR,cP,vK,aY];refine gK.mk (by decide) ?_;have f32:(10:Int)^(32:Int).toNat≠0:=by rw [c32];decide
 have s32:Sm 8000 ((10:Int)^(32:Int).toNat):=by rw [c32];unfold Sm;decide +kernel
 refine oG (j:=many) (fun _=>rfl) (by lia) (by lia) (fun i Z h'=>∃ (xs:List Int) (left seed:Int) (o7 o8:Option W),xs.length=i/\0<=seed/\seed<4294967291/\h'.c h.nx=Mk (.lst (xs.map .int))/\(∀ n,n≠h.nx->h'.c n=h.c n) /\
  Z = [Mk (.kls (ns.map .int)),Mk (.int k),Mk (.int many),Mk (.int left),Mk (.bl free),Mk (.int seed),Mk (.loc h.nx),o7,o8]) ?_ ?_ ⟨[],left,seed,YK,YK,rfl,s0,s1,DP _ _,fun n hn=>vP hn,rfl⟩
 ·rintro i Z h' N hN hi ⟨xs,left,seed,o7,o8,hl,s0,s1,hc,ho,rfl⟩;have hi:(i:Int)<many:=by lia
  have sz:(xs.map W.int).length<CR:=by rw [Cm,hl];exact Ep (show i<1000 by lia) (by decide)
  have app:∀ (x:Int) (left' seed':Int) (o7 o8:Option W),0<=seed'->seed'<4294967291->N [Mk (.kls (ns.map .int)),Mk (.int k),Mk (.int many),Mk (.int left'),Mk (.bl free),Mk (.int seed'),Mk (.loc h.nx),o7,o8] (h'.set h.nx (.lst (xs.map .int++[.int x]))):=by
   intro x left' seed' o7 o8 h0 h1;refine hN _ _ ⟨xs++[x],left',seed',o7,o8,by simp [hl],h0,h1,by rw [Bk];simp,fun n hn=>by rw [qP hn];exact ho n hn,rfl⟩
  refine ⟨fun _=>?_,fun _=>?_⟩
  ·show (match h'.c h.nx with
    | some (Cell.lst us)=>_
    | _=>False)
   rw [hc];refine And.intro ⟨by decide,by decide,by decide⟩<|And.intro f32 ?_
   show (match h'.c h.nx with
    | some (Cell.lst us)=>_
    | _=>False)
   rw [hc];refine And.intro sz ?_;refine And.intro ⟨by decide,by decide,by decide⟩<|And.intro ⟨f32,8000,by decide,s32⟩ ?_
   exact app _ _ _ _ _ s0 s1
  ·refine And.intro (.of (m:=32) (n:=64) (iy (by lia)<|by lia) (.lit rfl) (by decide)<|by decide) ?_;refine And.intro (.of (m:=10) (n:=10) (iy (by lia)<|by lia) (iy (by lia)<|by lia) (by decide)<|by decide) ?_;refine And.intro (show (4294967291:Int)≠0 by decide) ?_;obtain ⟨t0,t1⟩:=d8 (seed*69069+362437+(i:Int)*(i:Int)) (b:=4294967291) (by decide);generalize (seed*69069+362437+(i:Int)*(i:Int)).fmod 4294967291=sd at *;refine And.intro ⟨by decide,64,by decide,.lit rfl⟩ ?_;have d0:0<=sd.fdiv 4096:=by rw [uc (by decide)];lia
   have d1:sd.fdiv 4096<4294967291:=by rw [uc (by decide)];lia
   refine And.intro (.of (m:=32) (n:=40) (iy (by lia)<|by lia) (iy (by lia)<|by lia) (by decide)<|by decide) ?_;refine And.intro (show (999999999989:Int)≠0 by decide) ?_;obtain ⟨n0,n1⟩:=d8 (sd*(sd.fdiv 4096+(i:Int)+1)) (b:=999999999989) (by decide);generalize (sd*(sd.fdiv 4096+(i:Int)+1)).fmod 999999999989=nr at *;show (match h'.c h.nx with
    | some (Cell.lst us)=>_
    | _=>False)
   rw [hc];have sn:Sm 41 nr:=iy (by lia) (by lia);have sn7:Sm 41 (nr+7):=iy (by lia) (by lia);refine And.intro (.of sn sn7 (by decide)<|by decide) ?_;refine And.intro (.of (n:=33) (sn.mul sn7) (iy (by lia)<|by lia) (by decide)<|by decide) ?_;refine And.intro ⟨by decide,by decide,by decide⟩<|And.intro f32 ?_
   show (match h'.c h.nx with
    | some (Cell.lst us)=>_
    | _=>False)
   rw [hc];exact And.intro sz<|app _ _ _ _ _ t0 t1
 ·rintro Z h' ⟨xs,left,seed,o7,o8,hl,s0,s1,hc,ho,rfl⟩;refine ⟨fun n c hn e=>by rw [ho n<|by lia];exact e,.inr ⟨h.nx,_,rfl,Bp _,hc,?_,q xs<|by lia⟩⟩;have:∀ ys:List Int,JL h.nx (ys.map W.int):=fun ys=>by
   induction ys with
   | nil=>exact trivial
   | cons y ys ih=>exact ⟨trivial,ih⟩
  exact this xs
def tK (Q:Bool->Gh->Prop):WK:=fun w h=>match w with
 | .bl c=>Q c h
 | _=>False
def uK (Q:Bool->Gh->Prop):WK:=fun w h=>match Vx h w with
 | some b=>Q b h
 | none=>False
def aK (b:ME)(Z : Sw)(Q:WK):WK:=fun x h=>match x with
 | .bl true=>b Z h Q
 | .bl false=>Q (.bl false) h
 | _=>False
def oK (b:ME)(Z : Sw)(Q:WK):WK:=fun x h=>match x with
 | .bl false=>b Z h Q
 | .bl true=>Q (.bl true) h
 | _=>False
def nK (Q:WK):WK:=fun x h=>match x with
 | .bl c=>Q (.bl (!c)) h
 | _=>False
def iK (R:Src->Gh->Prop):WK:=fun w h=>match RV h w with
 | some s=>R s h
 | none=>False
def xK (f:Str->Bool)(Q:WK):WK:=fun w h=>match w with
 | .exc n=>Q (.bl (f n)) h
 | .exa n _=>Q (.bl (f n)) h
 | _=>False
def pK (Q:Option Int->Gh->Prop):WK:=fun w h=>match w with
 | .int i=>Q (Mk i) h
 | _=>False
def YB (g:MG)(b:MS)(D:bT)(Z : Sw):Src->Gh->Prop:=fun s h=>gJ s g b D s.ws Z h
def lcK (own:W->Option (List W))(ix:List Nat)(tt:MT)(te:ME)(Z : Sw)(Q:WK):Src->Gh->Prop:=fun s h=>gK s.ws.length (ql s own ix tt te Z Q s.ws [] h)
def rgK (R:Src->Gh->Prop):List W->Gh->Prop:=fun ws h=>match ws with
 | [.int j]=>Dk j (R ⟨zj 0 j.toNat,YK⟩ h)
 | _=>False
def zpK (R:Src->Gh->Prop):List W->Gh->Prop:=fun ws h=>match ws with
 | [x,y]=>(match K4 h x y with
  | some s=>R s h
  | none=>False)
 | _=>False
theorem aM {m u:MS}{D:bT}(x:m { D with nx:=u D } Z h):bR m u D Z h:=x
variable {N : Sw->Gh->Prop}
theorem bY {b c:Sw->Gh->Prop}{r:WK}(x:N Z h):bT.nx ⟨N,r,b,c⟩ Z h:=x
theorem Zq {b c:Sw->Gh->Prop}{r:WK}(x:b Z h):bT.bk ⟨N,r,b,c⟩ Z h:=x
theorem ZL {b c:Sw->Gh->Prop}{r:WK}(x:c Z h):bT.ct ⟨N,r,b,c⟩ Z h:=x
theorem pZ {b c:Sw->Gh->Prop}{r:WK}(x:r w h):bT.rt ⟨N,r,b,c⟩ w h:=x
theorem abx {D:bT}(x:D.rt w h):bT.rt (bT.lost D) w h:=x
theorem afe {D:bT}(x:D.nx (Z.map fun _=>YK) h):bT.nx (bT.lost D) Z h:=x
theorem bO {D:bT}(x:D.nx Z h):dY D Z h:=x
theorem bx {m:ME}{D:bT}(x:m Z h fun w h1=>g w Z h1 D.nx):cP m g D Z h:=x
theorem gR {m:ME}{D:bT}(x:m Z h fun _ h1=>D.nx Z h1):pL m D Z h:=x
theorem cg {m:ME}{D:bT}(x:m Z h D.rt):fJ m D Z h:=x
variable {E : CN}
theorem tE {c:Str}{D:bT}(x:E ⟨c,[]⟩ h):zG c E D Z h:=x
theorem cB {t:MT}{a:MS}{D:bT}(x:t Z h fun c h1=>br c (a D Z h1) (b D Z h1)):lU t a b D Z h:=x
theorem WQ {t:MT}{a b:ME}(x:t Z h fun c h1=>br c (a Z h1 Q) (b Z h1 Q)):mIf t a b Z h Q:=x
variable {d : Str}
theorem Gu {mb:CN->MS}{mh:MS}{D:bT}(x:mb (fun x h'=>GF (Fe x.cls d) (mh D.lost (Z.set i (Mk (G3 x))) h') False) D Z h):V3 i d mb mh D Z h:=x
theorem lF {g:MK}(e:w=.tup ws)(b:Iw ws.length n=true)(x:g ws Z h N):qp n g w Z h N:=by
 subst e;unfold qp;dsimp only;rw [b];exact x
theorem acz {g:MK}(e:w=.lst ws)(b:Iw ws.length n=true)(x:g ws Z h N):qp n g w Z h N:=by
 subst e;unfold qp;dsimp only;rw [b];exact x
theorem adf {g:MK}(e:w=.tup ws)(b:Iw ws.length n=true)(x:g ws Z h N):Yx n g w Z h N:=by
 subst e;unfold Yx;dsimp only;rw [b];exact x
theorem dZ {r:MK}(x:g w Z h fun Z1 h1=>r ws Z1 h1 N):mX g r (w::ws) Z h N:=x
theorem qJ (x:N Z h):M6 [] Z h N:=x
theorem aq (e:Z[i]?=Mk (Mk w))(x:Q w h):aH i Z h Q:=by
 unfold aH;rw [e];exact x
theorem bA (x:Q w h):mC w Z h Q:=x
theorem aL {r:M2}{ma mb:ME}(x:ma Z h fun a h1=>mb Z h1 fun b h2=>r a b h2 Q):BJ r ma mb Z h Q:=x
theorem JM {r:W->Gh->WK->Prop}{ma:ME}(x:ma Z h fun a h1=>r a h1 Q):mUn r ma Z h Q:=x
theorem FT {i:Int}(x:Q (.int (-i)) h):U9 (.int i) h Q:=x
theorem ao {a:ME}{r:MA}{Q:List W->Gh->Prop}(x:a Z h fun w h1=>r Z h1 fun ws h2=>Q (w::ws) h2):aA a r Z h Q:=x
theorem aD {Q:List W->Gh->Prop}(x:Q [] h):aY Z h Q:=x
variable {P : Prop}
theorem aV (e:Nat.ble n 1000=true)(x:P):gK n P:=by
 unfold gK;rw [e];exact x
theorem aZ {t:MA}(x:t Z h fun ws h1=>gK ws.length (Q (.tup ws) h1)):dW t Z h Q:=x
theorem Gj {t:MA}(x:t Z h fun ws h1=>gK ws.length (Q (.lst ws) h1)):Rt t Z h Q:=x
theorem aQ {c:Bd}(x:ma Z h fun ws h1=>c ws h1 Q E):bH c E ma Z h Q:=x
theorem dO {r:MC}(x:ma Z h fun ws h1=>r ws h1 Q):Fz r ma Z h Q:=x
theorem bJ {m:ME}{Q:Bool->Gh->Prop}(x:m Z h (tK Q)):dH m Z h Q:=x
theorem m9 {Q:Bool->Gh->Prop}(x:Q c h):tK Q (.bl c) h:=x
theorem eX {m:ME}{Q:Bool->Gh->Prop}(x:m Z h (uK Q)):uN m Z h Q:=x
theorem Ae {b:Bool}{Q:Bool->Gh->Prop}(e:Vx h w=Mk b)(x:Q b h):uK Q w h:=by
 unfold uK;rw [e];exact x
theorem gF {t:MT}{Q:Bool->Gh->Prop}(x:t Z h fun c h1=>Q (!c) h1):Bc t Z h Q:=x
theorem KJ {t u:MT}{Q:Bool->Gh->Prop}(x:t Z h fun c h1=>br c (u Z h1 Q) (Q false h1)):Wn t u Z h Q:=x
theorem mU {t u:MT}{Q:Bool->Gh->Prop}(x:t Z h fun c h1=>br c (Q true h1) (u Z h1 Q)):Lq t u Z h Q:=x
theorem jX {Q:Bool->Gh->Prop}(x:Q true h):Dz Z h Q:=x
theorem ace {a b:ME}(x:a Z h (aK b Z Q)):NZ a b Z h Q:=x
theorem adR {a b:ME}(x:a Z h (oK b Z Q)):Zz a b Z h Q:=x
theorem adv {a:ME}(x:a Z h (nK Q)):Lh a Z h Q:=x
theorem ZC {b:ME}(x:br c (b Z h Q) (Q (.bl false) h)):aK b Z Q (.bl c) h:=by
 cases c with
 | true=>exact x.1 rfl
 | false=>exact x.2 rfl
theorem Zr {b:ME}(x:br c (Q (.bl true) h) (b Z h Q)):oK b Z Q (.bl c) h:=by
 cases c with
 | true=>exact x.1 rfl
 | false=>exact x.2 rfl
theorem Y8 (x:Q (.bl (!c)) h):nK Q (.bl c) h:=x
theorem nY {f:Str->Bool}{m:ME}(x:m Z h (xK f Q)):BL f m Z h Q:=x
theorem Nz {f:Str->Bool}{n:Str}(x:Q (.bl (f n)) h):xK f Q (.exc n) h:=x
variable {a : Prop}
theorem sX {b:Prop}(x:a):br true a b:=YT rfl x
theorem pA {b:Prop}(x:b):br false a b:=qb rfl x
theorem aeF {b:Prop}(x:b):br (!true) a b:=pA x
theorem adZ {b:Prop}(x:a):br (!false) a b:=sX x
theorem jV {b:Prop}(x:a):GF true a b:=x
theorem aeu {b:Prop}(x:b):GF false a b:=x
theorem jj {i:Int}(x:Q (.int (i - j)) h):yG (.int i) (.int j) h Q:=x
theorem dU {i:Int}(x:Q (.int (i+j)) h):bL (.int i) (.int j) h Q:=x
theorem oO {i:Int}(c:p8 i j)(x:Q (.int (i*j)) h):wg (.int i) (.int j) h Q:=⟨c,x⟩
theorem jl {i:Int}(c:yR i j)(x:Q (.int (i.fdiv j)) h):wX (.int i) (.int j) h Q:=⟨c,x⟩
theorem cU {i:Int}(c:j≠0)(x:Q (.int (i.fmod j)) h):kO (.int i) (.int j) h Q:=⟨c,x⟩
theorem O5 {i:Int}(x:Q (.bl (decide (i<j))) h):kLt (.int i) (.int j) h Q:=x
theorem X6 {i:Int}(x:Q (.bl (decide (i>j))) h):kGt (.int i) (.int j) h Q:=x
theorem Df {i:Int}(x:Q (.bl (decide (i=j))) h):Jv (.int i) (.int j) h Q:=by
 have e:Cp (.int i) (.int j)=decide (i=j):=pH i j;show Q (.bl (Cp (.int i) (.int j))) h;rw [e];exact x
theorem Bg {i:Int}(x:Q (.bl (decide (i≠j))) h):Ii (.int i) (.int j) h Q:=by
 have e:(!Cp (.int i) (.int j))=decide (i≠j):=by rw [pH];by_cases z:i=j <;> simp [z]
 show Q (.bl (!Cp (.int i) (.int j))) h;rw [e];exact x
theorem Ou {i j:Bool}(x:Q (.bl (decide (i=j))) h):Jv (.bl i) (.bl j) h Q:=by
 have e:Cp (.bl i) (.bl j)=decide (i=j):=by rw [Cp];cases i <;> cases j <;> rfl
 show Q (.bl (Cp (.bl i) (.bl j))) h;rw [e];exact x
theorem Wb {i j:Bool}(x:Q (.bl (decide (i≠j))) h):Ii (.bl i) (.bl j) h Q:=by
 have e:(!Cp (.bl i) (.bl j))=decide (i≠j):=by rw [Cp];cases i <;> cases j <;> rfl
 show Q (.bl (!Cp (.bl i) (.bl j))) h;rw [e];exact x
theorem RD {q:Tr}(x:Q (.bl (decide (p=q))) h):Jv (tw p) (tw q) h Q:=by
 show Q (.bl (Cp (tw p) (tw q))) h;rw [RB];exact x
theorem U7 {q:Tr}(x:Q (.bl (decide (p≠q))) h):Ii (tw p) (tw q) h Q:=by
 have e:(!Cp (tw p) (tw q))=decide (p≠q):=by rw [RB];by_cases z:p=q <;> simp [z]
 show Q (.bl (!Cp (tw p) (tw q))) h;rw [e];exact x
theorem X3 {a b c:Int}(x:Q (.bl (decide (p=(a,b,c)))) h):Jv (tw p) (.tup [.int a,.int b,.int c]) h Q:=RD (q:=(a,b,c)) x
theorem Yj {a b c:Int}(x:Q (.bl (decide (p≠(a,b,c)))) h):Ii (tw p) (.tup [.int a,.int b,.int c]) h Q:=U7 (q:=(a,b,c)) x
theorem eO {x:W}{i:Int}(e:view h x=Mk ws)(a:JQ ws i=Mk w)(k:Q w h):Fy x (.int i) h Q:=by
 unfold Fy;dsimp only;rw [e];dsimp only;rw [a];exact k
theorem zW {T:String}{b:Bool}(e:Vv h w T=Mk b)(x:Q (.bl b) h):JF [w,.ty T] h Q:=by
 unfold JF;dsimp only;rw [e];exact x
theorem vZ {xs:List W}(e:view h w=Mk xs)(x:Q (.int (xs.length:Int)) h):Hj [w] h Q:=by
 unfold Hj;dsimp only;rw [e];exact x
theorem jc {us:List W}(x:Q (.tup us) h):gQ [.lst us] h Q:=x
variable {bs : List Bool}
theorem Km {us:List W}(e:eH h w=Mk us)(b:G6 us=Mk bs)(x:Q (.bl (bs.any id)) h):U0 [w] h Q:=by
 unfold U0;dsimp only;rw [e];dsimp only;rw [b];exact x
theorem KN {us:List W}(e:eH h w=Mk us)(b:G6 us=Mk bs)(x:Q (.bl (bs.all id)) h):Vg [w] h Q:=by
 unfold Vg;dsimp only;rw [e];dsimp only;rw [b];exact x
theorem adI {us:List W}(e:eH h w=Mk us)(b:tB us=Mk ns)(x:Q (.int ns.sum) h):Yz [w] h Q:=by
 unfold Yz;dsimp only;rw [e];dsimp only;rw [b];exact x
theorem adV {i:Int}(x:Q (.int (if i<0 then -i else i)) h):Zb [.int i] h Q:=x
theorem aeN {b:Bool}(x:Q (.int (if b then 1 else 0)) h):Qv [.bl b] h Q:=x
theorem vA {mi:MI}{D:bT}(x:mi Z h (YB g b D Z)):uD mi g b D Z h:=x
variable {o : Option (Nat×List W)}
theorem vQ {D:bT}(x:gJ ⟨ws,o⟩ g b D ws Z h):YB g b D Z ⟨ws,o⟩ h:=x
theorem zbf {D:bT}(x:D.nx Z h):gJ ⟨ws,YK⟩ g b D [] Z h:=x
theorem zbt {r:List W}{D:bT}(x:g w Z h fun Z1 h1=>b { D with nx:=gJ ⟨ws,YK⟩ g b D r,ct:=gJ ⟨ws,YK⟩ g b D r,bk:=D.nx } Z1 h1):gJ ⟨ws,YK⟩ g b D (w::r) Z h:=x
variable {R : Src->Gh->Prop}
theorem pX {m:ME}(x:m Z h (iK R)):Jj m Z h R:=x
theorem CP (e:RV h w=Mk ⟨ws,o⟩)(x:R ⟨ws,o⟩ h):iK R w h:=by
 unfold iK;rw [e];exact x
theorem Fi (x:ma Z h (rgK R)):lN ma Z h R:=x
theorem X4 (x:R ⟨[.int 0,.int 1,.int 2],YK⟩ h):rgK R [.int 3] h:=x
theorem Wo (x:R ⟨[.int 0,.int 1],YK⟩ h):rgK R [.int 2] h:=x
theorem Dj (x:ma Z h (zpK R)):Q0 ma Z h R:=x
variable {as : List W}
theorem Px {a b:W}{bs:List W}{zs:List W}(e:pB a=Mk as)(e':pB b=Mk bs)(z:lR as bs=zs)(x:R ⟨zs,YK⟩ h):zpK R [a,b] h:=by
 subst z;have es:K4 h a b=Mk ⟨lR as bs,YK⟩:=by unfold K4;rw [e,e']
 unfold zpK;dsimp only;rw [es];exact x
theorem XC {b:W}{bs:List W}{zs:List W}(e:h.c n=Mk (.lst as))(e':pB b=Mk bs)(z:lR as bs=zs)(x:R ⟨zs,Mk (n,as)⟩ h):zpK R [.loc n,b] h:=by
 subst z;have es:K4 h (.loc n) b=Mk ⟨lR as bs,Mk (n,as)⟩:=by unfold K4;rw [e'];dsimp only [pB];rw [e]
 unfold zpK;dsimp only;rw [es];exact x
theorem YZ {bs:List W}:lR [] bs=[]:=by cases bs <;> rfl
theorem Yv {a:W}:lR (a::as) []=[]:=rfl
theorem Ye {a b:W}{bs l:List W}(e:lR as bs=l):lR (a::as) (b::bs)=.tup [a,b]::l:=by rw [lR,e]
theorem tV {mi:MI}(x:mi Z h (lcK own ix tt te Z Q)):JN own ix mi tt te Z h Q:=x
theorem Xr (e:Nat.ble ws.length 1000=true)(x:ql ⟨ws,o⟩ own ix tt te Z Q ws [] h):lcK own ix tt te Z Q ⟨ws,o⟩ h:=aV e x
variable {acc : List W}
theorem aes (x:Q (.lst acc) h):ql ⟨ws,YK⟩ own ix tt te Z Q [] acc h:=x
theorem Vr {r vs:List W}(e:own w=Mk vs)(x:tt (vs.map Mk++tM ix Z) h fun c h1=>GF c (te (vs.map Mk++tM ix Z) h1 fun v h2=>ql ⟨ws,YK⟩ own ix tt te Z Q r (acc++[v]) h2) (ql ⟨ws,YK⟩ own ix tt te Z Q r acc h1)):ql ⟨ws,YK⟩ own ix tt te Z Q (w::r) acc h:=by
 unfold ql;show match own w with
  | some vs=>tt (vs.map Mk++tM ix Z) h fun c h1=>GF c (te (vs.map Mk++tM ix Z) h1 fun v h2=>ql ⟨ws,YK⟩ own ix tt te Z Q r (acc++[v]) h2) (ql ⟨ws,YK⟩ own ix tt te Z Q r acc h1)
  | none=>False
 rw [e];exact x
variable {body : CN->MS}
theorem Wf {N:Nat}(hl:Iw ws.length n=true)(x:body E { nx:=fun _ h'=>Q .non h',rt:=Q } (ws.map Mk++BK (N - ws.length) YK) h):HD n N false body ws h Q E:=by
 unfold HD;rw [hl];exact x
variable {r : W->Option Int->Option Int->Gh->WK->Prop}
theorem Jg {m:ME}{l u:MO}(x:m Z h fun a h1=>l Z h1 fun lo h2=>u Z h2 fun hi h3=>r a lo hi h3 Q):mSl r m l u Z h Q:=x
theorem rJ {m:ME}{Q:Option Int->Gh->Prop}(x:m Z h (pK Q)):Fl m Z h Q:=x
theorem VB {i:Int}{Q:Option Int->Gh->Prop}(x:Q (Mk i) h):pK Q (.int i) h:=x
def p3K (i j k:Nat)(D:bT)(Z : Sw):List W->Gh->Prop:=fun ws h=>match ws with
 | [x,y,z]=>D.nx (((Z.set i (Mk x)).set j (Mk y)).set k (Mk z)) h
 | _=>False
theorem acP {j k:Nat}{ta:MA}{D:bT}(x:ta Z h (p3K i j k D Z)):Wj i j k ta D Z h:=x
theorem aem {xs:List W}{n:Int}{b:Prop}(e:decide ((xs.length:Int)≠n)=false)(x:b):br (decide ((xs.length:Int)≠n)) a b:=qb e x
theorem acU {b:Prop}(e:bs.all id=true)(x:b):br (!(bs.all id)) a b:=qb (by rw [e];rfl) x
theorem Ml {n:Str}{b:Prop}(e:Fe n d=true)(x:a):GF (Fe n d) a b:=S8 e x
theorem Wi {n:Str}{b:Prop}(e:Fe n d=true)(x:a):br (Fe n d) a b:=YT e x
theorem Xo {n:Str}{b:Prop}(e:Fe n d=false)(x:b):br (Fe n d) a b:=qb e x
theorem Qy {α : Type}{a x:α}{l:List α}:(a::l).set 0 x=x::l:=rfl
theorem Qu {α : Type}{a x:α}{l l':List α}(e:l.set n x=l'):(a::l).set (n+1) x=a::l':=by rw [List.set_cons_succ,e]
theorem wC {Z':Sw}(e:Z.set i (Mk w) = Z')(x:N Z' h):Ai i w Z h N:=by
 subst e;exact x
theorem nV {Z':Sw}(x:N Z' h)(e:Z.set i (Mk w) = Z':=by repeat (first | with_reducible exact Qy | with_reducible apply Qu)):Ai i w Z h N:=wC e x
theorem WW {j k:Nat}{D:bT}{Z1 Z2 Z3:Sw}{x y z:W}(e1:Z.set i (Mk x) = Z1)(e2:Z1.set j (Mk y) = Z2)(e3:Z2.set k (Mk z) = Z3)(q:D.nx Z3 h):p3K i j k D Z [x,y,z] h:=by
 subst e1 e2 e3;exact q
def ini (ws:List W)(n:Nat):Sw:=ws.map Mk++BK (n - ws.length) YK
theorem Yq:ini [] 0=[]:=rfl
theorem YC {l:Sw}(e:ini [] n=l):ini [] (n+1)=YK::l:=by
 subst e;rfl
theorem Yl {l:Sw}(e:ini ws n=l):ini (w::ws) (n+1)=Mk w::l:=by
 subst e;unfold ini;rw [Il,Nat.add_sub_add_right];rfl
theorem jm {N:Nat}(hl:Iw ws.length n=true)(e:ini ws N = Z)(x:body E { nx:=fun _ h'=>Q .non h',rt:=Q } Z h):HD n N false body ws h Q E:=by
 subst e;exact Wf hl x
theorem Wy {n:Str}{fs:List (Str×W)}{mh:MS}{D:bT}{Z':Sw}(e:Fe n d=true)(s:Z.set i (Mk (G3 ⟨n,fs⟩)) = Z')(x:mh D Z' h):GF (Fe (Xw.mk n fs).cls d) (mh D (Z.set i (Mk (G3 (Xw.mk n fs)))) h) False:=by
 subst s;exact S8 e x
theorem Vs {mi:MI}(x:JN own ix mi tt te Z h (YS Q)):ZJ own ix mi tt te Z h Q:=x
variable {mo : ME}
theorem qX {mi:ME}{ms:Pk}(x:mo Z h fun o h1=>mi Z h1 fun i h2=>ms o i w h2 fun h3=>N Z h3):K5 mo mi ms w Z h N:=x
theorem acM {r us:List W}{D:bT}(e:h.c n=Mk (.lst us))(x:g w Z h fun Z1 h1=>b { D with nx:=gJ ⟨ws,Mk (n,us)⟩ g b D r,ct:=gJ ⟨ws,Mk (n,us)⟩ g b D r,bk:=D.nx } Z1 h1):gJ ⟨ws,Mk (n,us)⟩ g b D (w::r) Z h:=⟨e,x⟩
theorem adF {us:List W}{D:bT}(e:h.c n=Mk (.lst us))(x:D.nx Z h):gJ ⟨ws,Mk (n,us)⟩ g b D [] Z h:=⟨e,x⟩
theorem acu {us:List W}(e:h.c n=Mk (.lst us))(x:Q (.lst acc) h):ql ⟨ws,Mk (n,us)⟩ own ix tt te Z Q [] acc h:=⟨e,x⟩
theorem acI {us r vs:List W}(ec:h.c n=Mk (.lst us))(e:own w=Mk vs)(x:tt (vs.map Mk++tM ix Z) h fun c h1=>GF c (te (vs.map Mk++tM ix Z) h1 fun v h2=>ql ⟨ws,Mk (n,us)⟩ own ix tt te Z Q r (acc++[v]) h2) (ql ⟨ws,Mk (n,us)⟩ own ix tt te Z Q r acc h1)):ql ⟨ws,Mk (n,us)⟩ own ix tt te Z Q (w::r) acc h:=by
 unfold ql;refine ⟨ec,?_⟩;show match own w with
  | some vs=>tt (vs.map Mk++tM ix Z) h fun c h1=>GF c (te (vs.map Mk++tM ix Z) h1 fun v h2=>ql ⟨ws,Mk (n,us)⟩ own ix tt te Z Q r (acc++[v]) h2) (ql ⟨ws,Mk (n,us)⟩ own ix tt te Z Q r acc h1)
  | none=>False
 rw [e];exact x
theorem ZR (e:h.c n=Mk (.lst ws))(x:R ⟨ws,Mk (n,ws)⟩ h):iK R (.loc n) h:=CP (by simp only [RV,e]) x
theorem WT {i:Int}(e:h.c n=Mk (.lst ws))(a:JQ ws i=Mk w)(k:Q w h):Fy (.loc n) (.int i) h Q:=eO (yI e) a k
theorem qH {N:Nat}(hl:Iw ws.length n=true)(e:ini ws N = Z)(x:body E { nx:=fun _ h'=>vX true h .non h' Q,rt:=fun w h'=>vX true h w h' Q } Z h):HD n N true body ws h Q E:=by
 subst e;unfold HD;rw [hl];exact x
theorem abp {a b:List W}(e:Nat.ble (a.length+b.length) 1000=true)(x:Q (.lst (a++b)) h):bL (.lst a) (.lst b) h Q:=aV e x
theorem W5 {a b:Bool}(x:Q (.bl (a==b)) h):kIs (.bl a) (.bl b) h Q:=x
theorem zbu {a b:Bool}(x:Q (.bl (!(a==b))) h):Bb (.bl a) (.bl b) h Q:=x
theorem Rz {a b:Str}(x:Q (.bl (decide (a=b))) h):Jv (.str a) (.str b) h Q:=by
 have e:Cp (.str a) (.str b)=decide (a=b):=by rw [Cp];by_cases z:a=b <;> simp [z]
 show Q (.bl (Cp (.str a) (.str b))) h;rw [e];exact x
theorem Oo {a b:Str}(x:Q (.bl (decide (a≠b))) h):Ii (.str a) (.str b) h Q:=by
 have e:(!Cp (.str a) (.str b))=decide (a≠b):=by rw [Cp];by_cases z:a=b <;> simp [z]
 show Q (.bl (!Cp (.str a) (.str b))) h;rw [e];exact x
theorem aeI {b:Prop}(e:bs.any id=false)(x:b):br (bs.any id) a b:=qb e x
local macro_rules | `(tactic| rfl') => `(tactic| repeat (first
 | with_reducible (first | refine aM ?_ | refine bx ?_ | refine aQ ?_ | refine ao ?_ | refine aD ?_)
 | ((with_reducible apply aq);exact rfl) | with_reducible refine bA ?_ | with_reducible refine aL ?_ | with_reducible refine wC (by repeat (first | with_reducible exact Qy | with_reducible apply Qu)) ?_ | with_reducible (first | refine abx ?_ | refine afe ?_ | refine bY ?_ | refine pZ ?_ | refine Zq ?_ | refine ZL ?_)
 | with_reducible (first | refine cB ?_ | refine WQ ?_ | refine cg ?_ | refine gR ?_ | refine bO ?_ | refine Gu ?_ | refine tE ?_)
 | with_reducible (first | refine bJ ?_ | refine m9 ?_ | refine eX ?_) | ((with_reducible apply Ae);exact rfl) | with_reducible (first | refine gF ?_ | refine KJ ?_ | refine mU ?_ | refine jX ?_)
 | with_reducible (first | refine ace ?_ | refine adR ?_ | refine adv ?_ | refine ZC ?_ | refine Zr ?_ | refine Y8 ?_ | refine nY ?_ | refine Nz ?_)
 | with_reducible (first | refine sX ?_ | refine pA ?_ | refine aeF ?_ | refine adZ ?_ | refine jV ?_ | refine aeu ?_)
 | with_reducible refine aZ ?_ | with_reducible refine Gj ?_ | ((with_reducible apply aV);exact rfl) | with_reducible (first | refine dO ?_ | refine JM ?_ | refine FT ?_)
 | ((with_reducible apply lF);exact rfl;exact rfl) | ((with_reducible apply acz);exact rfl;exact rfl) | ((with_reducible apply adf);exact rfl;exact rfl) | with_reducible refine dZ ?_ | with_reducible refine qJ ?_
 | with_reducible refine jj ?_ | with_reducible refine dU ?_ | ((with_reducible apply oO);exact p8.of (by trivial) (by trivial) (by lia) (by lia)) | with_reducible refine O5 ?_ | with_reducible refine X6 ?_
 | with_reducible (first | refine Df ?_ | refine Bg ?_ | refine Ou ?_ | refine Wb ?_ | refine RD ?_ | refine U7 ?_ | refine X3 ?_ | refine Yj ?_)
 | ((with_reducible apply eO);exact rfl;exact rfl) | ((with_reducible apply zW);exact rfl) | ((with_reducible apply vZ);exact rfl) | with_reducible refine jc ?_ | ((with_reducible apply Km);exact rfl;exact rfl) | ((with_reducible apply KN);exact rfl;exact rfl) | ((with_reducible apply adI);exact rfl;exact rfl) | with_reducible refine aeN ?_ | with_reducible refine adV ?_
 | with_reducible (first | refine vA ?_ | refine vQ ?_ | refine zbf ?_ | refine zbt ?_ | refine pX ?_) | ((with_reducible apply CP);exact rfl) | with_reducible (first | refine Fi ?_ | refine X4 ?_ | refine Wo ?_ | refine Dj ?_) | ((with_reducible apply Px);exact rfl;exact rfl;(repeat (first | with_reducible exact YZ | with_reducible exact Yv | with_reducible apply Ye)))
 | with_reducible refine tV ?_ | ((with_reducible apply Xr);exact rfl) | with_reducible refine aes ?_ | ((with_reducible apply Vr);exact rfl) | ((with_reducible apply jm);exact rfl;repeat (first | with_reducible exact Yq | with_reducible apply Yl | with_reducible apply YC)) | with_reducible (first | refine Jg ?_ | refine rJ ?_ | refine VB ?_ | refine acP ?_) | with_reducible refine WW (by repeat (first | with_reducible exact Qy | with_reducible apply Qu)) (by repeat (first | with_reducible exact Qy | with_reducible apply Qu)) (by repeat (first | with_reducible exact Qy | with_reducible apply Qu)) ?_ | ((with_reducible apply aem);exact rfl) | ((with_reducible apply acU);exact rfl) | ((with_reducible apply Wy);decide +kernel;(repeat (first | with_reducible exact Qy | with_reducible apply Qu))) | ((with_reducible apply Ml);decide +kernel) | ((with_reducible apply Wi);decide +kernel) | ((with_reducible apply Xo);decide +kernel) | with_reducible refine Vs ?_ | with_reducible refine qX ?_ | ((with_reducible apply ZR);(with_reducible assumption)) | ((with_reducible apply acM);(with_reducible assumption)) | ((with_reducible apply adF);(with_reducible assumption)) | ((with_reducible apply acu);(with_reducible assumption)) | ((with_reducible apply acI);(with_reducible assumption);exact rfl) | ((with_reducible apply WT);(with_reducible assumption);exact rfl) | ((with_reducible apply XC);(with_reducible assumption);exact rfl;(repeat (first | with_reducible exact YZ | with_reducible exact Yv | with_reducible apply Ye))) | ((with_reducible apply qH);exact rfl;(repeat (first | with_reducible exact Yq | with_reducible apply Yl | with_reducible apply YC))) | ((with_reducible apply abp);exact rfl) | with_reducible (first | refine W5 ?_ | refine zbu ?_ | refine Rz ?_ | refine Oo ?_) | ((with_reducible apply aeI);decide +kernel)))
theorem CG {r:MM}(x:mo Z h fun x h1=>Ah h1 x (ma Z h1 fun xs h2=>r x xs h2 Q)):J5 r mo ma Z h Q:=x
theorem wU {us:List W}(e:h.c n=Mk (.lst us))(p:P):Ah h (.loc n) P:=by
 simp only [Ah,e];exact p
theorem xG (hm:∀ R,ma Z h R=R ws h)(hz:Nat.ble ws.length 1000=true)(x:∀ g:Gh,g.c h.nx=Mk (.lst ws)->(∀ n,n≠h.nx->g.c n=h.c n)->g.nx=h.nx+1->Q (.loc h.nx) g):vK ma Z h Q:=by
 unfold vK;rw [hm];exact aV hz<|x _ (DP _ _) (fun _ e=>vP e) rfl
theorem NT {us:List W}(e:h.c n=Mk (.lst us))(hz:us.length<=1000)(k:∀ g:Gh,g.c n=Mk (.lst (us++[w]))->(∀ m,m≠n->g.c m=h.c m)->g.nx=h.nx->Q .non g):fB (.loc n) [w] h Q:=
 Vm e (Mw hz (by decide)) (k _ (Bk _ _ _) (fun _ e=>qP e) rfl)
def rng (a m:Nat):List Nat:=List.range' a (m - a)
theorem abk {a x:Nat}:x∈rng a m↔a<=x/\x<m:=by
 unfold rng;rw [List.mem_range'_1];lia
theorem aeJ (a m:Nat):zj (a:Int) ((m:Int) - (a:Int)).toNat=(rng a m).map fun x:Nat=>W.int (x:Int):=by
 unfold zj rng;rw [List.range'_eq_map_range,Ho,show ((m:Int) - (a:Int)).toNat=m - a by lia];refine Oi fun x _=>?_;simp
theorem aaP (m:Nat):zj 0 ((m:Nat):Int).toNat=(rng 0 m).map fun x:Nat=>W.int (x:Int):=by
 have:=aeJ 0 m
 rw [show ((m:Int) - ((0:Nat):Int)).toNat=((m:Nat):Int).toNat by lia] at this;exact this
theorem XQ (h2:m<=1000)(x:R ⟨(rng 0 m).map fun x:Nat=>W.int (x:Int),YK⟩ h):rgK R [.int (m:Int)] h:=by
 rw [<-aaP] at x;exact Dk.mk (by lia) (by lia) x
def nxt (l:List Nat):Nat:=match l.getLast? with
 | none=>0
 | some x=>x+1
def grow (m:Nat)(l:List Nat):List (List Nat):=(rng (nxt l) m).map fun p=>l++[p]
theorem zaO {a b:List W}(hz:a.length+b.length<=1000)(x:Q (.tup (a++b)) h):bL (.tup a) (.tup b) h Q:=by
 cases a with
 | nil=>exact x
 | cons a0 a=>exact gK.mk (Cg (by simpa using hz) (by decide:1000<=CR)) x
theorem adG {a x:Nat}(e:(rng a m)[i]?=Mk x):x=a+i/\x<m:=by
 have hx:=abk.mp (O2 e);unfold rng at e;have hl:=(PJ.mp e).1;rw [List.length_range'] at hl;rw [Gg (by rw [List.length_range'];exact hl),List.getElem_range'] at e;have:=Eb e
 lia
abbrev Tm:=List Int×Int
def Cw (t:Tm):W:=.tup [.tup (t.1.map .int),.int t.2]
def BX (ts:List Tm):W:=.tup (ts.map Cw)
def Ge (h h':Gh):Prop:=h.nx<=h'.nx/\∀ n,n<h.nx->h'.c n=h.c n
theorem Ge.refl (h:Gh):Ge h h:=⟨Bp _,fun _ _=>rfl⟩
theorem Ge.trans {a b c:Gh}(x:Ge a b)(y:Ge b c):Ge a c:=⟨Cg x.1 y.1,fun n hn=>(y.2 n (Ep hn x.1)).trans (x.2 n hn)⟩
def Pw (ps:List Int):Prop:=∀ p∈ps,0<=p/\p<=60
def WF (L m:Nat)(ts:List Tm):Prop:=∀ t∈ts,t.1.length=L/\t.2≠0/\Sm m t.2/\Pw t.1
theorem Dl {i:Int}(c:Xa i j)(x:Q (.int (i^j.toNat)) h):Ie (.int i) (.int j) h Q:=⟨c,x⟩
def Y4 (c0:Bd):Prop:=∀ {h:Gh} {x:Int} {L mo:Nat} {Q:WK} {E:CN},L<=8->mo<=60->(∀ ps:List Int,ps.length=L->Pw ps->(∀ p∈ps,p<=(mo:Int))->Q (.tup (ps.map .int)) h)->c0 [.int x,.int (L:Int),.int (mo:Int)] h Q E
theorem rK (n:Nat):∀ l:List Int,JL n (l.map .int)
 | []=>by simp [JL]
 | x::l=>by rw [Bf,JL];exact ⟨by simp [Lo],rK n l⟩
theorem abg:Y4 lg:=by
 intro h x L mo Q E hL hmo q;unfold lg;refine qH rfl (Z:=[Mk<|.int x,Mk<|.int (L:Int),Mk<|.int (mo:Int),YK,YK]) rfl ?_;refine aM<|bx<|xG (ws:=[]) (fun R=>rfl) rfl fun g eg og xg=>?_
 refine nV<|bY ?_
 refine aM ?_;refine oG (j:=(L:Int)) (fun _=>rfl) (by lia) (by lia) (fun i Z h'=>∃ (y:Int) (ps:List Int) (s4:Option W),Z = [Mk<|.int y,Mk<|.int (L:Int),Mk<|.int (mo:Int),Mk<|.loc h.nx,s4]/\ps.length=i/\(∀ p∈ps,0<=p/\p<=(mo:Int))/\h'.c h.nx=Mk (.lst<|ps.map .int)/\∀ n,n≠h.nx->h'.c n=h.c n) ?_ ?_ ⟨x,[],YK,rfl,rfl,fun _ h=>(nomatch h),eg,og⟩
 ·rintro i Z h' N hN hi ⟨y,ps,s4,rfl,e1,e0,e2,e3⟩;refine nV ?_;refine aM<|gR<|CG<|aq rfl<|wU e2 ?_
  rfl'
  refine cU (by lia) ?_;rfl'
  refine NT e2 (by rw [Cm];lia) fun g2 a1 a2 a3=>?_;rfl'
  refine jl ⟨by lia,64,by decide,(iy (n:=20) (by lia)<|by lia).mono (by decide)⟩ ?_;rfl'
  obtain ⟨b0,b1⟩:=d8 y (b:=(mo:Int)+1) (by lia);exact hN _ _ ⟨_,ps++[y.fmod ((mo:Int)+1)],_,rfl,by simp [e1],fun p hp=>by
   rcases Jr.mp hp with hp | hp
   ·exact e0 p hp
   ·rw [Fd.mp hp];lia,by rw [a1];simp,fun n hn=>by rw [a2 n hn];exact e3 n hn⟩
 ·rintro Z h' ⟨y,ps,s4,rfl,e1,e0,e2,e3⟩;unfold mz;refine bY<|cg<|dO<|ao<|aq rfl<|aD ?_
  show (match eH h' (.loc h.nx) with
   | some us=>_
   | none=>False)
  rw [vJ e2];exact ⟨fun n c hn ec=>by rw [e3 n<|by lia];exact ec,.inl ⟨by rw [Lo];exact rK _ _,q ps (by lia) (fun p hp=>⟨(e0 p hp).1,Int.le_trans (e0 p hp).2 (by lia)⟩) fun p hp=>(e0 p hp).2⟩⟩
def Ss (c0:Bd):Prop:=∀ {h:Gh} {x:Int} {Q:WK} {E:CN},(∀ n:Int,Sm 101 n->Q (.int n) h)->c0 [.int x] h Q E
theorem aaq:Ss lJ:=by
 intro h x Q E q;have b1:=d8 (x.fdiv 3) (b:=7) (by decide);have b2:=d8 (x.fdiv 3) (b:=201) (by decide);have b3:=d8 (x.fdiv 3) (b:=2*(10:Int)^(30:Int).toNat) (by decide);have c3:=d8 x (b:=3) (by decide);have q1:=q ((x.fdiv 3).fmod 7 - 3) (iy (by lia) (by lia));have q2:=q ((x.fdiv 3).fmod 201 - 100) (iy (by lia) (by lia));have q3:=q ((x.fdiv 3).fmod (2*(10:Int)^(30:Int).toNat) - (10:Int)^(30:Int).toNat) (by
  rw [c30] at b3 |-
  exact Sm.le (i:=1000000000000000000000000000000) (by unfold Sm;decide +kernel) (by lia))
 have dv:yR x 3:=⟨by decide,64,by decide,.lit rfl⟩
 unfold lJ;rfl'
 refine jl dv ?_;rfl'
 refine cU (by decide) ?_;rfl'
 refine jl dv ?_;rfl'
 refine cU (by decide) ?_;rfl'
 refine jl dv ?_;rfl'
 refine Dl ⟨by decide,by decide,by decide⟩ ?_;have t0:(10:Int)^(30:Int).toNat≠0:=by rw [c30];decide
 have t1:Sm 8000 ((10:Int)^(30:Int).toNat):=by rw [c30];unfold Sm;decide +kernel
 generalize hT:(10:Int)^(30:Int).toNat=T at *;refine oO (.of (m:=64) (n:=8000) (.lit rfl) t1 (by decide)<|by decide) ?_;refine cU (fun e=>t0<|by lia) ?_;refine aL<|bA<|bA<|Dl ⟨by decide,by decide,by decide⟩ ?_
 rw [hT];refine jj ?_;rfl'
 refine cU (by decide) ?_;have:x.fmod 3=0\/x.fmod 3=1\/x.fmod 3=2:=by lia
 rcases this with e | e | e <;> rw [e]
 ·exact eO rfl rfl q1
 ·exact eO rfl rfl q2
 ·exact eO rfl rfl q3
def G9 (ts:List Tm):List (List Int×W):=ts.map fun t=>(t.1,.int t.2)
def jC (ts:List Tm)(k:List Int)(n:Int):List Tm:=if ts.any (fun t=>decide (t.1=k)) then ts.map (fun t=>if t.1=k then (t.1,n) else t) else ts++[(k,n)]
theorem zZ:∀ (ts:List Tm) (k:List Int),wH (G9 ts) k=((ts.find? fun t=>decide (t.1=k)).map fun t=>W.int t.2)
 | [],k=>rfl
 | t::ts,k=>by
  show wH ((t.1,.int t.2)::G9 ts) k=_;rw [yx,M7,zZ ts k];by_cases e:t.1=k
  ·simp [e]
  ·simp [e]
theorem JW (ts:List Tm)(k:List Int)(n:Int):Qq (G9 ts) k (.int n)=G9 (jC ts k n):=by
 have e:(wH (G9 ts) k).isSome=ts.any fun t=>decide (t.1=k):=by
  rw [zZ,Option.isSome_map,QM,List.find?_isSome,P0]
 unfold Qq jC;rw [e];by_cases c:(ts.any fun t=>decide (t.1=k))=true
 ·rw [if_pos c,if_pos c];unfold G9;rw [Ho,Ho];refine Oi fun t _=>?_;simp only [Rx];by_cases e:t.1=k
  ·rw [if_pos e,if_pos e]
  ·rw [if_neg e,if_neg e]
 ·rw [if_neg c,if_neg c];simp [G9]
variable {k : List Int}{ts : List Tm}{t : Tm}
theorem aeQ {n:Int}(h:t∈jC ts k n):t∈ts\/t=(k,n):=by
 unfold jC at h;split at h
 ·obtain ⟨u,hu,rfl⟩:=Cr.mp h;by_cases e:u.1=k
  ·rw [if_pos e,e];exact .inr rfl
  ·rw [if_neg e];exact .inl hu
 ·rcases Jr.mp h with h | h
  ·exact .inl h
  ·exact .inr<|Fd.mp h
theorem rM (ts:List Tm)(k:List Int)(n:Int):(jC ts k n).length<=ts.length+1:=by
 unfold jC;split
 ·rw [Cm];lia
 ·simp
theorem vR (k:List Int):Ke (.tup (k.map .int))=Mk k:=by
 show tB (k.map .int)=Mk k;induction k with
 | nil=>rfl
 | cons a k ih=>rw [Bf];simp [tB,ih]
theorem adl {x:Int}{N:Gh->Prop}(e:h.c n=Mk (.dtt (G9 ts)))(hz:ts.length<=990)(q:∀ g:Gh,g.c n=Mk (.dtt (G9 (jC ts k x)))->(∀ m,m≠n->g.c m=h.c m)->g.nx=h.nx->N g):oh (.loc n) (.tup (k.map .int)) (.int x) h N:=by
 unfold oh;rw [vR];dsimp only;rw [e];dsimp only;refine gK.mk (Cg (m:=1000) (by unfold G9;rw [Cm];lia)<|by decide) ?_;rw [JW];exact q _ (Bk _ _ _) (fun _ e=>qP e) rfl
theorem V1 (e:h.c n=Mk (.dtt (G9 ts)))(f:(ts.find? fun t=>decide (t.1=k))=Mk t)(q:Q (.int t.2) h):Ji (.loc n) (.tup (k.map .int)) h Q:=by
 unfold Ji;rw [vR];dsimp only;rw [e];dsimp only;rw [zZ,f];exact q
theorem ur (x:∀ g:Gh,g.c h.nx=Mk (.dtt (G9 []))->(∀ n,n≠h.nx->g.c n=h.c n)->g.nx=h.nx+1->Q (.loc h.nx) g):Bt Z h Q:=x _ (DP _ _) (fun _ e=>vP e) rfl
theorem zH (ts:List Tm)(k:List Int)(n:Int)(nd:(ts.map (·.1)).Nodup):((jC ts k n).map (·.1)).Nodup:=by
 unfold jC;split
 ·rw [Ho];have e:(((·.1):Tm->List Int) ∘ fun t:Tm=>if t.1=k then (t.1,n) else t)=(·.1):=by
   funext t;simp only [Rx];split <;> rfl
  rw [e];exact nd
 ·rename_i c;rw [Em,SX];refine ⟨nd,by simp,fun a ha b hb e=>c ?_⟩;simp only [Bf,Hq,Fd] at hb;obtain ⟨t,ht,e2⟩:=Cr.mp ha;rw [P0];exact ⟨t,ht,by simp [e2,e,hb]⟩
def getM (ts:List Tm)(k:List Int):Int:=((ts.find? fun t=>decide (t.1=k)).map (·.2)).getD 0
def FZ (ts:List Tm)(k:List Int)(v:Int):List Tm:=jC ts k (getM ts k+v)
def xM (ts:List Tm)(ks:List (List Int)):List Tm:=(ks.map fun k=>(k,getM ts k)).filter fun t=>decide (t.2≠0)
def lin (f:List Int->Int)(ts:List Tm):Int:=(ts.map fun t=>f t.1*t.2).sum
theorem bD (t:Tm)(ts:List Tm)(k:List Int):getM (t::ts) k=if t.1=k then t.2 else getM ts k:=by
 unfold getM;rw [M7];by_cases e:t.1=k
 ·rw [if_pos e,decide_eq_true e];rfl
 ·rw [if_neg e,decide_eq_false e]
theorem zaY (ts us:List Tm)(k:List Int):getM (ts++us) k=if k∈ts.map (·.1) then getM ts k else getM us k:=by
 induction ts with
 | nil=>simp
 | cons t ts ih=>
  rw [QT,bD,bD,ih,Bf];by_cases e:t.1=k
  ·rw [if_pos e,if_pos e,if_pos (by simp [e])]
  ·rw [if_neg e,if_neg e];by_cases m:k∈ts.map (·.1)
   ·rw [if_pos m,if_pos (Hs _ m)]
   ·rw [if_neg m,if_neg (fun q=>by rcases El.mp q with q | q;exact e q.symm;exact m q)]
theorem getM_none (h:k∉ts.map (·.1)):getM ts k=0:=by
 induction ts with
 | nil=>rfl
 | cons t ts ih=>
  rw [Bf] at h;rw [bD,if_neg (fun e=>h (by simp [e])),ih fun m=>h (Hs _ m)]
theorem jR (nd:(ts.map (·.1)).Nodup)(h:t∈ts):getM ts t.1=t.2:=by
 induction ts with
 | nil=>cases h
 | cons u ts ih=>
  rw [Bf,Ox] at nd;rw [bD];rcases El.mp h with rfl | h
  ·rw [if_pos rfl]
  ·rw [if_neg (fun e=>nd.1 (by rw [e];exact Cr.mpr ⟨t,h,rfl⟩)),ih nd.2 h]
theorem Ey (ts:List Tm)(k:List Int):(ts.any fun t=>decide (t.1=k))=decide (k∈ts.map (·.1)):=by
 rw [QM,P0,decide_eq_true_iff,Cr];constructor
 ·rintro ⟨t,ht,e⟩;exact ⟨t,ht,by simpa using e⟩
 ·rintro ⟨t,ht,e⟩;exact ⟨t,ht,by simpa using e⟩
theorem get_map (ts:List Tm)(k r:List Int)(n:Int):getM (ts.map fun t=>if t.1=k then (t.1,n) else t) r=if r=k/\k∈ts.map (·.1) then n else getM ts r:=by
 induction ts with
 | nil=>simp [getM]
 | cons t ts ih=>
  rw [Bf,bD,ih,bD,Bf];by_cases e:t.1=k
  ·rw [if_pos e];dsimp only;by_cases q:t.1=r
   ·rw [if_pos q,if_pos ⟨by rw [<-q,e],by simp [e]⟩]
   ·rw [if_neg q,if_neg q,if_neg (fun z=>q (by rw [e,z.1])),if_neg (fun z=>q (by rw [e,z.1]))]
  ·rw [if_neg e];by_cases q:t.1=r
   ·rw [if_pos q,if_pos q,if_neg (fun z=>e (by rw [q,z.1]))]
   ·rw [if_neg q,if_neg q];by_cases m:r=k/\k∈ts.map (·.1)
    ·rw [if_pos m,if_pos ⟨m.1,Hs _ m.2⟩]
    ·rw [if_neg m,if_neg (fun z=>m ⟨z.1,by rcases El.mp z.2 with y | y;exact absurd y.symm e;exact y⟩)]
theorem Cy (n:Int)(h:k∈ts.map (·.1)):jC ts k n=ts.map fun t=>if t.1=k then (t.1,n) else t:=by
 unfold jC;rw [Ey,if_pos (by simpa using h)]
theorem ni (n:Int)(h:k∉ts.map (·.1)):jC ts k n=ts++[(k,n)]:=by
 unfold jC;rw [Ey,if_neg (by simpa using h)]
theorem Di (ts:List Tm)(k r:List Int)(n:Int):getM (jC ts k n) r=if r=k then n else getM ts r:=by
 by_cases h:k∈ts.map (·.1)
 ·rw [Cy n h,get_map];by_cases q:r=k
  ·rw [if_pos q,if_pos ⟨q,h⟩]
  ·rw [if_neg q,if_neg (fun z=>q z.1)]
 ·rw [ni n h,zaY];by_cases q:r=k
  ·rw [if_pos q,q,if_neg h,bD,if_pos rfl]
  ·rw [if_neg q];by_cases m:r∈ts.map (·.1)
   ·rw [if_pos m]
   ·rw [if_neg m,bD,if_neg (Hf q),getM_none m];rfl
theorem z8 (ts:List Tm)(k r:List Int)(v:Int):getM (FZ ts k v) r=getM ts r+if r=k then v else 0:=by
 unfold FZ;rw [Di];by_cases q:r=k
 ·rw [if_pos q,if_pos q,q]
 ·rw [if_neg q,if_neg q,Nm]
theorem keys_map (ts:List Tm)(k:List Int)(n:Int):(ts.map fun t=>if t.1=k then (t.1,n) else t).map (·.1)=ts.map (·.1):=by
 rw [Ho];refine Oi fun t _=>?_;simp only [Rx];split <;> rfl
theorem zV (ts:List Tm)(k:List Int)(v:Int):(FZ ts k v).map (·.1)=if k∈ts.map (·.1) then ts.map (·.1) else ts.map (·.1)++[k]:=by
 unfold FZ;by_cases h:k∈ts.map (·.1)
 ·rw [Cy _ h,keys_map,if_pos h]
 ·rw [ni _ h,if_neg h,Em];rfl
variable {v : Int}
theorem uZ (nd:(ts.map (·.1)).Nodup):((FZ ts k v).map (·.1)).Nodup:=zH ts k _ nd
theorem jW (f:List Int->Int)(t:Tm)(ts:List Tm):lin f (t::ts)=f t.1*t.2+lin f ts:=by unfold lin;simp
theorem FW (f:List Int->Int)(ts us:List Tm):lin f (ts++us)=lin f ts+lin f us:=by unfold lin;simp
theorem adW {a b:List Int}(p:a.Perm b):a.sum=b.sum:=by
 induction p with
 | nil=>rfl
 | cons x _ ih=>simp only [Nr,ih]
 | swap x y l=>simp only [Nr];lia
 | trans _ _ ih1 ih2=>exact ih1.trans ih2
theorem kZ (f:List Int->Int):∀ ts:List Tm,lin f (ts.filter fun t=>decide (t.2≠0))=lin f ts
 | []=>rfl
 | t::ts=>by
  rw [QV];by_cases e:t.2=0
  ·rw [if_neg (by simp [e]),kZ f ts,jW,e];lia
  ·rw [if_pos (by simp [e]),jW,jW,kZ f ts]
variable {ks : List (List Int)}{D : List Tm}
theorem afi {f:List Int->Int}(nd:(D.map (·.1)).Nodup)(p:ks.Perm (D.map (·.1))):lin f (xM D ks)=lin f D:=by
 unfold xM;rw [kZ];unfold lin;rw [Ho,adW (p.map _),Ho];congr 1
 refine Oi fun t ht=>?_;simp only [Rx];rw [jR nd ht]
theorem yM {u:Tm}(nd:(D.map (·.1)).Nodup)(p:∀ k∈ks,k∈D.map (·.1))(h:u∈xM D ks):u∈D/\u.2≠0:=by
 unfold xM at h;obtain ⟨h1,h2⟩:=Rm.mp h;obtain ⟨k,hk,rfl⟩:=Cr.mp h1;obtain ⟨t,ht,rfl⟩:=Cr.mp (p k hk);rw [jR nd ht] at h2 |-
 exact ⟨ht,by simpa using h2⟩
theorem tR (D:List Tm)(ks:List (List Int)):(xM D ks).length<=ks.length:=by
 unfold xM;exact Cg (List.length_filter_le _ _) (by rw [Cm];exact Bp _)
theorem nZ (h:ks.Pairwise (· < ·)):((xM D ks).map (·.1)).Pairwise (· < ·):=by
 unfold xM;rw [Q8];refine List.Pairwise.filter _ ?_;rw [Q8];exact h
theorem fU (h:ks.Pairwise (· < ·)):ks.Nodup:=by
 unfold List.Nodup;refine h.imp fun {a b} h e=>?_;rw [e] at h;exact List.lt_irrefl _ h
def fr (l:Nat)(x:Int)(r k:List Int):Int:=if r=k.set l 0 then x^(k.getD l 0).toNat else 0
theorem Ba {α : Type}{P:List α->Prop}(h0:P [])(h1:∀ ts t,P ts->P (ts++[t]))(ts:List α):P ts:=by
 have:∀ us:List α,P us.reverse:=fun us=>by
  induction us with
  | nil=>exact h0
  | cons a us ih=>rw [Sv];exact h1 _ _ ih
 have:=this ts.reverse
 rwa [List.reverse_reverse] at this
theorem Ka (e:h.c n=Mk (.dtt (G9 ts)))(m:k∈ts.map (·.1))(q:Q (.int (getM ts k)) h):Ji (.loc n) (.tup (k.map .int)) h Q:=by
 cases f:ts.find? fun t=>decide (t.1=k) with
 | none=>
  obtain ⟨t,ht,e⟩:=Cr.mp m;exact absurd (List.find?_eq_none.mp f t ht)<|by simp [e]
 | some t=>
  have eg:getM ts k=t.2:=by unfold getM;rw [f];rfl
  rw [eg] at q;exact V1 e f q
def YH (c0:Bd):Prop:=∀ {h:Gh} {n:Nat} {ts:List Tm} {Q:WK} {E:CN},h.c n=Mk (.dtt (G9 ts))->ts.length<=600->wZ (ts.map (·.1))->(∀ ks:List (List Int),ks.Perm (ts.map (·.1))->ks.Pairwise (· < ·)->Q (BX (xM ts ks)) h)->c0 [.loc n] h Q E
variable {L : Nat}
theorem jN (nd:(ts.map (·.1)).Nodup)(hL:∀ t∈ts,t.1.length=L):wZ (ts.map (·.1)):=by
 intro h2 k hk e;obtain ⟨t,ht,e1⟩:=Cr.mp hk;have L0:L=0:=by rw [<-hL t ht,e1,e];rfl
 have all:∀ k∈ts.map (·.1),k=[]:=fun k hk=>by
  obtain ⟨u,hu,e2⟩:=Cr.mp hk;rw [<-e2];exact N5<|by rw [hL u hu,L0]
 generalize ts.map (·.1)=ks at nd h2 all;match ks,nd,h2,all with
 | a::b::r,nd,_,all=>
  have ea:=all a (by simp);have eb:=all b (by simp);rw [ea,eb] at nd;simp at nd
 | [_],_,h2,_=>simp at h2
 | [],_,h2,_=>simp at h2
def Vp (c0:Bd):Prop:=∀ {h:Gh} {ns:List Int} {k:Int} {L m mo:Nat} {Q:WK} {E:CN},0<=k->k<=900->L<=8->m<=60->mo<=60->(∀ (us:List Tm) (h':Gh),WF L 101 us->us.length<=m->(us.map (·.1)).Pairwise (· < ·)->(∀ t∈us,∀ p∈t.1,p<=(mo:Int))->Ge h h'->Q (BX us) h')->c0 [.kls (ns.map .int),.int k,.int (L:Int),.int (m:Int),.int (mo:Int)] h Q E
variable {od : Bd}
theorem w_sum {dr nu pw:Bd}(hdr:xR dr)(hnu:Ss nu)(hpw:Y4 pw)(hod:YH od):Vp (wR dr nu pw od):=by
 intro h ns k L m mo Q E k0 k1 hL hm hmo q;unfold wR;refine jm rfl (Z:=[Mk<|.kls<|ns.map .int,Mk<|.int k,Mk<|.int (L:Int),Mk<|.int (m:Int),Mk<|.int (mo:Int),YK,YK,YK]) rfl ?_;refine aM<|bx<|ur fun g eg og xg=>?_
 refine nV<|bY ?_
 refine aM ?_;refine oG (j:=(m:Int)) (fun _=>rfl) (by lia) (by lia) (fun i Z h'=>∃ (ts:List Tm) (s6 s7:Option W),Z = [Mk<|.kls<|ns.map .int,Mk<|.int k,Mk<|.int (L:Int),Mk<|.int (m:Int),Mk<|.int (mo:Int),Mk<|.loc h.nx,s6,s7]/\h'.c h.nx=Mk (.dtt<|G9 ts)/\ts.length<=i/\(ts.map (·.1)).Nodup/\(∀ t∈ts,t.1.length=L/\Sm 101 t.2/\Pw t.1/\∀ p∈t.1,p<=(mo:Int))/\h'.nx=h.nx+1/\∀ n,n≠h.nx->h'.c n=h.c n) ?_ ?_ ⟨[],YK,YK,rfl,eg,Bp _,Pr,fun _ h=>(nomatch h),xg,og⟩
 ·rintro i Z h' N hN hi ⟨ts,s6,s7,rfl,a1,a2,a3,a4,a5,a6⟩;refine nV ?_;rfl'
  refine hdr (ns:=ns) (k:=k+(i:Int)) (many:=2) (by lia) (by lia) (by decide) (by decide) fun xs hx=>?_;match xs,hx with
  | [a,b],_=>
   rfl'
   refine hnu fun n sn=>?_;rfl'
   refine hpw hL hmo fun ps lp pw pm=>?_;refine adl a1 (by lia) fun g2 b1 b2 b3=>?_;refine bY<|hN _ _ ⟨jC ts ps n,_,_,rfl,b1,by have:=rM ts ps n;lia,zH ts ps n a3,fun t ht=>?_,by rw [b3];exact a5,fun n hn=>by rw [b2 n hn];exact a6 n hn⟩
   rcases aeQ ht with ht | ht
   ·exact a4 t ht
   ·rw [ht];exact ⟨lp,sn,pw,pm⟩
 ·rintro Z h' ⟨ts,s6,s7,rfl,a1,a2,a3,a4,a5,a6⟩;unfold uR;rfl'
  refine hod a1 (by lia) (jN (L:=L) a3 fun t ht=>(a4 t ht).1) fun ks pk sk=>?_;have hu:=fun u hm=>yM (u:=u) a3 (fun k hk=>pk.mem_iff.mp hk) hm
  have lu:=tR ts ks;rw [pk.length_eq,Cm] at lu;exact q _ h' (fun u hm=>⟨(a4 u (hu u hm).1).1,(hu u hm).2,(a4 u (hu u hm).1).2.1,(a4 u (hu u hm).1).2.2.1⟩) (by lia) (nZ sk) (fun u hm=>(a4 u (hu u hm).1).2.2.2) ⟨by lia,fun n hn=>a6 n<|by lia⟩
def Pv (ps:List Int):Prop:=∀ p∈ps,0<=p/\p<=61
theorem zq (us:List W)(k:Nat):Ac us (Mk (k:Int)) YK=us.drop k:=by
 unfold Ac;rw [HT.Pz,HT.Ij];by_cases h:k<=us.length
 ·rw [Nat.min_eq_left h,SJ (by rw [List.length_drop];exact Bp _)]
 ·rw [Nat.min_eq_right (by lia),List.drop_length,List.drop_of_length_le (by lia)];simp
theorem Ks {a b:List W}(hz:a.length+b.length<=1000)(q:Q (.tup (a++b)) h):bL (.tup a) (.tup b) h Q:=by
 cases a with
 | nil=>exact q
 | cons w a=>
  refine gK.mk (Cg (m:=1000) (by simp at hz;lia)<|by decide) ?_;exact q
theorem pQ {Q:Option Int->Gh->Prop}(x:Q YK h):pI Z h Q:=x
theorem J6 {lo hi:Option Int}(x:Q (.tup (Ac ws lo hi)) h):QZ (.tup ws) lo hi h Q:=x
theorem Ue (e:h.c n=Mk (.dtt (G9 ts)))(q:Q (.int (getM ts k)) h):Ca (.loc n) [.tup (k.map .int),.int 0] h Q:=by
 unfold Ca;dsimp only;rw [e,vR];dsimp only;rw [zZ];have:(((ts.find? fun t=>decide (t.1=k)).map fun t=>W.int t.2).getD (.int 0))=.int (getM ts k):=by
  unfold getM;cases ts.find? fun t=>decide (t.1=k) <;> rfl
 rw [this];exact q
theorem Gx {kvs:List (List Int×W)}(e:h.c n=Mk (.dtt kvs))(p:P):GC h (.loc n) P:=by
 unfold GC;dsimp only;rw [e];exact p
theorem Ku {r:MM}(x:mo Z h fun x h1=>GC h1 x (ma Z h1 fun xs h2=>r x xs h2 Q)):VD r mo ma Z h Q:=x
theorem WM (n:Nat)(t:Tm):Lo n (Cw t):=by
 unfold Cw;simp only [Lo,JL];exact ⟨rK _ _,trivial,trivial⟩
theorem K6 (n:Nat):∀ ts:List Tm,JL n (ts.map Cw)
 | []=>by simp [JL]
 | t::ts=>by rw [Bf,JL];exact ⟨WM n t,K6 n ts⟩
theorem Sh (n:Nat)(ts:List Tm):Lo n (BX ts):=by unfold BX;rw [Lo];exact K6 n ts
theorem Fg:∀ l:List Int,pU (l.map .int) (l.map .int)=true
 | []=>rfl
 | a::l=>by rw [Bf,pU,Fg l,Cp];simp
theorem RK (t:Tm):Cp (Cw t) (Cw t)=true:=by
 unfold Cw;simp only [Cp,pU,Fg,beq_self_eq_true,Bool.and_self]
theorem KY:∀ s:List Tm,pU (s.map Cw) (s.map Cw)=true
 | []=>rfl
 | t::s=>by rw [Bf,pU,KY s,RK];rfl
theorem Ur (n:Nat)(t:Tm):DW (n+3) (Cw t)=true:=by simp [Cw,DW]
theorem Xg (k:Q (.bl false) h):Ii (Cw t) (Cw t) h Q:=by
 show GF (DW 30 (Cw t)&&DW 30 (Cw t)) (Q (.bl (!Cp (Cw t) (Cw t))) h) False;rw [Ur 27,RK];exact k
theorem Mp (n:Nat)(s:List Tm):DW (n+4) (BX s)=true:=by
 unfold BX;rw [DW,QS];intro w hw;obtain ⟨t,_,rfl⟩:=Cr.mp hw;exact Ur n t
theorem Xp (s:List Tm):Cp (BX s) (BX s)=true:=by
 unfold BX;rw [Cp,KY]
theorem acV {s:List Tm}(k:Q (.bl false) h):Ii (BX s) (BX s) h Q:=by
 show GF (DW 30 (BX s)&&DW 30 (BX s)) (Q (.bl (!Cp (BX s) (BX s))) h) False;rw [Mp 26,Xp];exact k
theorem Vb {p:List Int}{n:Int}(q:Q (.tup ((p++[n]).map .int)) h)(hz:p.length<=900:=by omega):bL (.tup (p.map .int)) (.tup [.int n]) h Q:=by
 cases p with
 | nil=>exact q
 | cons a p=>
  refine gK.mk (Cg (m:=1000) (by simp at hz |-;lia)<|by decide) ?_;rw [Em] at q;exact q
def Wh (c0:Bd):Prop:=∀ {h:Gh} {s:List Tm} {L:Nat} {Q:WK} {E:CN},s.length<=1000->L<=8->(∀ t∈s,t.1.length=L)->Q (.bl true) h->c0 [BX s,BX s] h Q E
theorem Sd:Wh lB:=by
 intro h s L Q E hz hL hl q;unfold lB;refine jm rfl (Z:=[Mk<|BX s,Mk<|BX s,YK,YK]) rfl ?_;have len:∀ (R:WK) (g:Gh),R (.int (s.length:Int)) g->Hj [BX s] g R:=fun R g hR=>vZ (xs:=s.map Cw) rfl (by rw [Cm];exact hR)
 refine aM<|cB<|mU<|gF<|eX<|dO<|ao<|aq rfl<|ao<|bA<|aD<|zW (b:=true) rfl<|Ae rfl<|qb rfl ?_
 refine bJ<|aL<|dO<|ao<|aq rfl<|aD<|len _ _ ?_
 refine dO<|ao<|aq rfl<|aD<|len _ _<|Bg<|m9<|qb (by simp) ?_
 refine bO<|bY ?_
 unfold lQ;refine aM<|vA<|Fi<|ao<|dO<|ao<|aq rfl<|aD<|len _ _ ?_
 refine aD<|XQ hz<|vQ ?_
 refine iB (fun i Z h'=>h'=h/\∃ s2 s3:Option W,Z = [Mk<|BX s,Mk<|BX s,s2,s3]) ?_ ?_ ⟨rfl,YK,YK,rfl⟩
 ·rintro i w Z h' N hN e ⟨rfl,s2,s3,rfl⟩;rw [Hi] at e;cases qe:(rng 0 s.length)[i]? with
  | none=>rw [qe] at e;cases e
  | some i'=>
   rw [qe] at e;cases e;obtain ⟨ei,hi⟩:=adG qe;rw [Nat.zero_add] at ei;subst ei;have et:s[i']?=Mk s[i']:=Gg hi;have hlt:=hl s[i'] (PB hi);generalize s[i']=t at et hlt;have ix:∀ (R:WK),R (Cw t) h'->Fy (BX s) (.int (i':Int)) h' R:=fun R hR=>eO (ws:=s.map Cw) rfl (Fx (by rw [Hi,et];rfl)) hR
   refine nV ?_;refine aM<|bx<|aL<|aq rfl<|aq rfl<|ix _ ?_
   refine nV<|bY ?_
   refine aM<|cB ?_
   refine mU<|gF<|eX<|dO<|ao<|aq rfl<|ao<|bA<|aD<|zW (b:=true) rfl<|Ae rfl<|qb rfl ?_
   refine mU<|bJ<|aL<|dO<|ao<|aq rfl<|aD<|vZ (xs:=[.tup<|t.1.map .int,.int t.2]) rfl<|bA<|Bg<|m9<|qb rfl ?_
   refine mU<|gF<|eX<|dO<|ao<|aL<|aq rfl<|bA<|eO (ws:=[.tup<|t.1.map .int,.int t.2]) (w:=.tup (t.1.map .int)) rfl rfl ?_
   refine ao<|bA<|aD<|zW (b:=true) rfl<|Ae rfl<|qb rfl ?_
   refine bJ<|aL<|aq rfl<|aL<|aq rfl<|aq rfl<|ix _<|Xg<|m9<|qb rfl ?_
   refine bO<|bY<|cB<|gF<|eX<|dO<|ao ?_
   refine tV<|pX<|aL<|aL<|aq rfl<|bA<|eO (ws:=[.tup<|t.1.map .int,.int t.2]) (w:=.tup (t.1.map .int)) rfl rfl ?_
   refine Jg<|aq rfl<|rJ<|bA<|VB<|pQ ?_
   show bL (.tup (t.1.map .int)) (.tup [.int t.2]) h' _;refine Vb ?_;refine CP (ws:=(t.1++[t.2]).map .int) (o:=YK) rfl<|gK.mk (Cg (m:=1000) (by simp;lia)<|by decide) ?_
   refine jL (fun j acc g=>g=h'/\acc=(BK j true).map .bl) ?_ ?_ ⟨rfl,rfl⟩
   ·rintro j w acc g N' hN' e' ⟨rfl,rfl⟩;obtain ⟨n,en,rfl⟩:=ints_get e';refine ⟨[.int n],rfl,jX<|jV ?_⟩;rfl'
    refine hN' _ _ ⟨rfl,?_⟩;rw [List.replicate_succ',Em];rfl
   ·rintro acc g ⟨rfl,rfl⟩;refine aD<|KN (us:=(BK ((t.1++[t.2]).map W.int).length true).map .bl) (bs:=BK ((t.1++[t.2]).map W.int).length true) rfl (wF _) ?_
    have ea:(BK ((t.1++[t.2]).map W.int).length true).all id=true:=by simp
    rw [ea];refine Ae rfl<|qb rfl<|bO ?_
    exact hN _ _ ⟨rfl,_,_,rfl⟩
 ·rintro Z h' ⟨rfl,s2,s3,rfl⟩;unfold lV;exact bY<|cg<|bA<|pZ q
def pack (k:List Int):Int:=k.foldl (fun a p=>a*65536+p) 0
def Kb (L:Nat)(k:List Int):Prop:=k.length=L/\∀ p∈k,0<=p/\p<=100
theorem cF (k:List Int)(p:Int):pack (k++[p])=pack k*65536+p:=by unfold pack;rw [Qg];rfl
theorem nQ {p:Int}(h:Kb (L+1) (k++[p])):Kb L k/\0<=p/\p<=100:=by
 refine ⟨⟨by have:=h.1;simp at this;lia,fun q hq=>h.2 q<|Jc _ hq⟩,h.2 p<|by simp⟩
theorem jB (h:k.length=L+1):∃ (a:List Int) (p:Int),k=a++[p]:=by
 refine ⟨k.dropLast,k.getLast (by intro e;rw [e] at h;simp at h),?_⟩;exact (List.dropLast_concat_getLast _).symm
theorem eZ:∀ {L:Nat} {k l:List Int},Kb L k->Kb L l->pack k=pack l->k=l
 | 0,k,l,h1,h2,_=>by rw [N5 h1.1,N5 h2.1]
 | L+1,k,l,h1,h2,e=>by
  obtain ⟨a,p,rfl⟩:=jB h1.1;obtain ⟨b,q,rfl⟩:=jB h2.1;obtain ⟨ha,p0,p1⟩:=nQ h1;obtain ⟨hb,q0,q1⟩:=nQ h2;rw [cF,cF] at e;have e1:pack a=pack b:=by lia
  have e2:p=q:=by lia
  rw [eZ ha hb e1,e2]
theorem Eo:∀ {a b:List Int} {p q:Int},a.length=b.length->(a++[p]<b++[q]↔a<b\/a=b/\p<q)
 | [],[],p,q,_=>by simp [Mg]
 | [],_::_,_,_,h=>by simp at h
 | _::_,[],_,_,h=>by simp at h
 | x::a,y::b,p,q,h=>by
  have ih:=Eo (a:=a) (b:=b) (p:=p) (q:=q) (by simpa using h);rw [QT,QT,Mg,Mg,ih];constructor
  ·rintro (h | ⟨h1,h2 | ⟨h2,h3⟩⟩)
   ·exact .inl<|.inl h
   ·exact .inl<|.inr ⟨h1,h2⟩
   ·exact .inr ⟨by rw [h1,h2],h3⟩
  ·rintro ((h | ⟨h1,h2⟩) | ⟨h1,h2⟩)
   ·exact .inl h
   ·exact .inr ⟨h1,.inl h2⟩
   ·obtain ⟨e1,e2⟩:=Lb h1;exact .inr ⟨e1,.inr ⟨e2,h2⟩⟩
theorem oR:∀ {L:Nat} {k l:List Int},Kb L k->Kb L l->(k<l↔pack k<pack l)
 | 0,k,l,h1,h2=>by
  rw [N5 h1.1,N5 h2.1];constructor
  ·intro h;exact absurd h (List.lt_irrefl _)
  ·intro h;exact absurd h (Int.lt_irrefl _)
 | L+1,k,l,h1,h2=>by
  obtain ⟨a,p,rfl⟩:=jB h1.1;obtain ⟨b,q,rfl⟩:=jB h2.1;obtain ⟨ha,p0,p1⟩:=nQ h1;obtain ⟨hb,q0,q1⟩:=nQ h2;have ih:=oR ha hb;rw [Eo (by rw [ha.1,hb.1]),cF,cF];constructor
  ·rintro (h | ⟨h,h'⟩)
   ·have:=ih.mp h;lia
   ·rw [h];lia
  ·intro h;rcases Int.lt_trichotomy (pack a) (pack b) with c | c | c
   ·exact .inl<|ih.mpr c
   ·exact .inr ⟨eZ ha hb c,by lia⟩
   ·lia
def bZ (k l:List Int):List Int:=List.zipWith (· + ·) k l
variable {l : List Int}
theorem zK (h:k.length=l.length):(bZ k l).length=k.length:=by unfold bZ;rw [Tv,h,Nat.min_self]
theorem nU:∀ {k l:List Int} {p q:Int},k.length=l.length->bZ (k++[p]) (l++[q])=bZ k l++[p+q]
 | [],[],p,q,_=>rfl
 | [],_::_,_,_,h=>by simp at h
 | _::_,[],_,_,h=>by simp at h
 | x::a,y::b,p,q,h=>by
  show (x+y)::bZ (a++[p]) (b++[q])=(x+y)::(bZ a b++[p+q]);rw [nU (by simpa using h)]
theorem dD:∀ {L:Nat} {k l:List Int},k.length=L->l.length=L->pack (bZ k l)=pack k+pack l
 | 0,k,l,h1,h2=>by rw [N5 h1,N5 h2];rfl
 | L+1,k,l,h1,h2=>by
  obtain ⟨a,p,rfl⟩:=jB h1;obtain ⟨b,q,rfl⟩:=jB h2;have la:a.length=L:=by simpa using h1
  have lb:b.length=L:=by simpa using h2
  rw [nU (by rw [la,lb]),cF,cF,cF,dD la lb];lia
theorem yS:∀ {k l:List Int} {p:Int},p∈bZ k l->∃ a∈k,∃ b∈l,p=a+b
 | [],_,_,h=>by simp [bZ] at h
 | _::_,[],_,h=>by simp [bZ] at h
 | a::k,b::l,p,h=>by
  have h:p∈(a+b)::bZ k l:=h;rcases El.mp h with rfl | h
  ·exact ⟨a,by simp,b,by simp,rfl⟩
  ·obtain ⟨x,hx,y,hy,e⟩:=yS h;exact ⟨x,Hs _ hx,y,Hs _ hy,e⟩
theorem jy:∀ {L:Nat} {k:List Int},Kb L k->0<=pack k/\(pack k).natAbs<2^(16*L)
 | 0,k,h=>by rw [N5 h.1];exact ⟨Int.le_refl _,by decide⟩
 | L+1,k,h=>by
  obtain ⟨a,p,rfl⟩:=jB h.1;obtain ⟨ha,p0,p1⟩:=nQ h;obtain ⟨i0,i1⟩:=jy ha;rw [cF,Nat.mul_succ,Nat.pow_add];generalize 2^(16*L)=A at *;have:(2:Nat)^16=65536:=rfl
  rw [this];lia
def FP (k:List Int)(n:Int)(vs:List Tm)(D:List Tm):List Tm:=vs.foldl (fun D s=>FZ D (bZ k s.1) (n*s.2)) D
def p7 (us vs:List Tm):List Tm:=us.foldl (fun D t=>FP t.1 t.2 vs D) []
theorem iw (k:List Int)(n:Int)(vs D:List Tm)(s:Tm):FP k n (vs++[s]) D=FZ (FP k n vs D) (bZ k s.1) (n*s.2):=by unfold FP;rw [Qg];rfl
theorem iz (us vs:List Tm)(t:Tm):p7 (us++[t]) vs=FP t.1 t.2 vs (p7 us vs):=by unfold p7;rw [Qg];rfl
variable {vs : List Tm}
theorem acr {n:Int}(h:(D.map (·.1)).Nodup):((FP k n vs D).map (·.1)).Nodup:=by
 refine Ba (P:=fun vs=>((FP k n vs D).map (·.1)).Nodup) h (fun vs t ih=>?_) vs;rw [iw];exact uZ ih
theorem xZ (us vs:List Tm):((p7 us vs).map (·.1)).Nodup:=by
 refine Ba (P:=fun us=>((p7 us vs).map (·.1)).Nodup) Pr (fun us t ih=>?_) us;rw [iz];exact acr ih
theorem zY (k:List Int)(n:Int)(vs D:List Tm):(FP k n vs D).length<=D.length+vs.length:=by
 refine Ba (P:=fun vs=>(FP k n vs D).length<=D.length+vs.length) (Bp _) (fun vs t ih=>?_) vs;rw [iw,HB,O4];exact Cg (rM ..)<|by lia
theorem sW (us vs:List Tm):(p7 us vs).length<=us.length*vs.length:=by
 refine Ba (P:=fun us=>(p7 us vs).length<=us.length*vs.length) (IK _) (fun us t ih=>?_) us;rw [iz,HB,O4,Nat.add_mul,Nat.one_mul];exact Cg (zY ..)<|by lia
def dl (r k:List Int):Int:=if k=r then 1 else 0
theorem abI (k:List Int)(n:Int)(r:List Int)(D vs:List Tm):getM (FP k n vs D) r=getM D r+n*lin (fun l=>dl r (bZ k l)) vs:=by
 refine Ba (P:=fun vs=>getM (FP k n vs D) r=getM D r+n*lin (fun l=>dl r<|bZ k l) vs) (by show getM D r=getM D r+n*0;lia) (fun vs t ih=>?_) vs;rw [iw,z8,FW,ih];show _=_+n*(_+lin (fun l=>dl r (bZ k l)) [t]);rw [jW];show _=_+n*(_+(dl r (bZ k t.1)*t.2+0));unfold dl;by_cases c:bZ k t.1=r
 ·rw [if_pos c.symm,if_pos c];grind
 ·rw [if_neg (Hf c),if_neg c];grind
def wM (D rs:List Tm):Prop:=∃ ks:List (List Int),ks.Perm (D.map (·.1))/\ks.Pairwise (· < ·)/\rs=xM D ks
theorem Fb (hk:k.length=L/\∀ p∈k,0<=p/\p<=40)(hl:l.length=L/\∀ p∈l,0<=p/\p<=40):Kb L (bZ k l):=by
 refine ⟨by rw [zK<|by rw [hk.1,hl.1],hk.1],fun p hp=>?_⟩;obtain ⟨a,ha,b,hb,rfl⟩:=yS hp;have:=hk.2 a ha
 have:=hl.2 b hb
 lia
theorem zbm (ht:t.1.length=L/\∀ p∈t.1,0<=p/\p<=40)(hv:∀ t∈vs,t.1.length=L/\∀ p∈t.1,0<=p/\p<=40)(hD:∀ k∈D.map (·.1),Kb L k):∀ k∈(FP t.1 t.2 vs D).map (·.1),Kb L k:=by
 revert hv
 refine Ba (P:=fun vs=>(∀ t∈vs,t.1.length=L/\∀ p∈t.1,0<=p/\p<=40)->∀ k∈(FP t.1 t.2 vs D).map (·.1),Kb L k) (fun _=>hD) (fun vs s ih hv k hk=>?_) vs;rw [iw,zV] at hk;have hk:k∈(FP t.1 t.2 vs D).map (·.1)\/k=bZ t.1 s.1:=by
  split at hk
  ·exact .inl hk
  ·rcases Jr.mp hk with hk | hk
   ·exact .inl hk
   ·exact .inr<|Fd.mp hk
 rcases hk with hk | rfl
 ·exact ih (fun u hu=>hv u<|Jc _ hu) k hk
 ·exact Fb ht<|hv s<|by simp
variable {us : List Tm}
theorem vY (hu:∀ t∈us,t.1.length=L/\∀ p∈t.1,0<=p/\p<=40)(hv:∀ t∈vs,t.1.length=L/\∀ p∈t.1,0<=p/\p<=40):∀ k∈(p7 us vs).map (·.1),Kb L k:=by
 revert hu
 refine Ba (P:=fun us=>(∀ t∈us,t.1.length=L/\∀ p∈t.1,0<=p/\p<=40)->∀ k∈(p7 us vs).map (·.1),Kb L k) (fun _ k hk=>by simp [p7] at hk) (fun us t ih hu=>?_) us;rw [iz];exact zbm (hu t<|by simp) hv<|ih fun u h=>hu u<|Jc _ h
def Ds (D:List Tm):List (Key×W):=D.map fun t=>(.inl (pack t.1),.int t.2)
theorem xJ (hD:∀ j∈D.map (·.1),Kb L j)(hk:Kb L k):oH (Ds D) (.inl (pack k))=((D.find? fun t=>decide (t.1=k)).map fun t=>W.int t.2):=by
 unfold oH Ds;induction D with
 | nil=>rfl
 | cons t D ih=>
  have ih:=ih fun j hj=>hD j (by rw [Bf];exact Hs _ hj)
  rw [Bf,M7,M7];by_cases c:t.1=k
  ·rw [decide_eq_true c,decide_eq_true (by rw [c])];rfl
  ·rw [decide_eq_false c,decide_eq_false (fun e=>c (eZ (hD t.1 (by simp)) hk (Sum.inl.inj e)))];exact ih
theorem abL (hD:∀ j∈D.map (·.1),Kb L j)(hk:Kb L k):(oH (Ds D) (.inl (pack k))).getD (.int 0)=.int (getM D k):=by
 rw [xJ hD hk];unfold getM;cases D.find? fun t=>decide (t.1=k) <;> rfl
theorem Gi {n:Int}(hD:∀ j∈D.map (·.1),Kb L j)(hk:Kb L k):G4 (Ds D) (.inl (pack k)) (.int n)=Ds (jC D k n):=by
 have ea:((Ds D).any fun kv=>decide (kv.1=Sum.inl (pack k)))=D.any fun t=>decide (t.1=k):=by
  unfold Ds;rw [List.any_map,QM,P0,P0];constructor
  ·rintro ⟨t,ht,e⟩;simp only [Rx,decide_eq_true_iff] at e;exact ⟨t,ht,decide_eq_true<|eZ (hD t.1<|Cr.mpr ⟨t,ht,rfl⟩) hk<|Sum.inl.inj e⟩
  ·rintro ⟨t,ht,e⟩;rw [decide_eq_true_iff] at e;exact ⟨t,ht,by simp [e]⟩
 unfold G4 jC;rw [ea];by_cases c:(D.any fun t=>decide (t.1=k))=true
 ·rw [if_pos c,if_pos c];unfold Ds;rw [Ho,Ho];refine Oi fun t ht=>?_;simp only [Rx];by_cases e:t.1=k
  ·rw [if_pos e,if_pos (by rw [e])]
  ·rw [if_neg e,if_neg (fun z=>e (eZ (hD t.1 (Cr.mpr ⟨t,ht,rfl⟩)) hk (Sum.inl.inj z)))]
 ·rw [if_neg c,if_neg c];simp [Ds]
def PkX (c0:Bd):Prop:=∀ {h:Gh} {k:List Int} {L:Nat} {Q:WK} {E:CN},Kb L k->L<=8->Q (.int (pack k)) h->c0 [.tup (k.map .int)] h Q E
theorem pC {D:bT}(hv:Z[i]?=Mk (Mk (.tup ws)))(x:gJ ⟨ws,YK⟩ g b D ws Z h):uD (Jj (aH i)) g b D Z h:=vA (pX (aq hv (CP rfl (vQ x))))
theorem Dy (h:Kb L k)(i:Nat):Kb (min i L) (k.take i):=⟨by rw [JV,h.1],fun p hp=>h.2 p (T7 hp)⟩
theorem J7:PkX tL:=by
 intro h k L Q E hk hL q;unfold tL;refine jm rfl (Z:=[Mk<|.tup<|k.map .int,YK,YK]) rfl<|aM<|bx<|bA ?_
 refine nV<|bY ?_
 refine aM ?_;refine pC (ws:=k.map .int) rfl ?_;refine iB (fun i Z h'=>h'=h/\∃ s2:Option W,Z = [Mk<|.tup<|k.map .int,Mk<|.int<|pack<|k.take i,s2]) ?_ ?_ ⟨rfl,YK,rfl⟩
 ·rintro i w Z h' N hN e ⟨rfl,s2,rfl⟩;obtain ⟨p,ep,rfl⟩:=ints_get e;have sp:=(jy (Dy hk i)).2;have s1:Sm 128 (pack (k.take i)):=Ep sp (U3 (by decide) (by lia));refine nV ?_;refine bx<|aL<|aL<|aq rfl<|bA<|oO (.of s1 (n:=64) (.lit rfl) (by decide)<|by decide)<|aq rfl<|dU ?_
  refine wC (Z':=[Mk<|.tup<|k.map .int,Mk<|.int<|pack<|k.take<|i+1,Mk<|.int p]) ?_<|bY<|hN _ _ ⟨rfl,_,rfl⟩
  rw [JC,ep];show _=[Mk (W.tup (k.map .int)),Mk (.int (pack (k.take i++[p]))),Mk (.int p)];rw [cF];rfl
 ·rintro Z h' ⟨rfl,s2,rfl⟩;rw [Cm,Jb];unfold qN;exact bY<|cg<|aq rfl<|pZ q
def UnX (c0:Bd):Prop:=∀ {h:Gh} {k:List Int} {L:Nat} {Q:WK} {E:CN},Kb L k->L<=8->Q (.tup (k.map .int)) h->c0 [.int (pack k),.int (L:Int)] h Q E
theorem aaL (h:Kb L k)(hi:i<L):(pack (k.take (L - i))).fmod 65536=k.getD (L - 1 - i) 0/\(pack (k.take (L - i))).fdiv 65536=pack (k.take (L - (i+1))):=by
 have lk:=h.1;have e1:L - i=(L - 1 - i)+1:=by lia
 have e2:L - (i+1)=L - 1 - i:=by lia
 have ek:k[L - 1 - i]?=Mk (k[L - 1 - i]'(by lia)):=Gg (by lia);have hb:=h.2 (k[L - 1 - i]'(by lia)) (PB (by lia));rw [e2,e1,JC,ek];show (pack (k.take (L - 1 - i)++[k[L - 1 - i]'(by lia)])).fmod 65536=_/\(pack (k.take (L - 1 - i)++[k[L - 1 - i]'(by lia)])).fdiv 65536=_;rw [cF,M9,ek];have:=(jy (Dy h (L - 1 - i))).1
 rw [yh (by decide),uc (by decide)];constructor
 ·show _=k[L - 1 - i]'(by lia);lia
 ·lia
theorem Q6 {us:List W}(hv:Z[i]?=Mk (Mk (.loc n)))(e:h.c n=Mk (.lst us))(x:Q (.tup us.reverse) h):uf (aH i) Z h Q:=by
 refine aq hv ?_;show (match eH h (.loc n) with
  | some us=>Q (.tup us.reverse) h
  | none=>False)
 rw [vJ e];exact x
def dg (k:List Int)(L i:Nat):List Int:=(Hz i).map fun j=>k.getD (L - 1 - j) 0
theorem abD (h:k.length=L):(dg k L L).reverse=k:=by
 have ll:(dg k L L).length=L:=by unfold dg;simp
 refine List.ext_getElem (by rw [List.length_reverse,ll,h]) fun j h1 h2=>?_;rw [List.getElem_reverse];simp only [dg,List.getElem_map,List.getElem_range,Cm,SN];have:L - 1 - (L - 1 - j)=j:=by lia
 rw [this,M9,Gg h2];rfl
theorem WY:UnX lG:=by
 intro h k L Q E hk hL q;unfold lG;refine qH rfl (Z:=[Mk<|.int<|pack k,Mk<|.int L,YK,YK]) rfl ?_;refine aM<|bx<|xG (ws:=[]) (fun R=>rfl) rfl fun g eg og xg=>?_
 refine nV<|bY ?_
 refine aM ?_;refine oG (j:=(L:Int)) (fun _=>rfl) (by lia) (by lia) (fun i Z h'=>i<=L/\∃ s3:Option W,Z = [Mk<|.int<|pack<|k.take<|L - i,Mk<|.int L,Mk<|.loc h.nx,s3]/\h'.c h.nx=Mk (.lst<|(dg k L i).map .int)/\∀ n,n≠h.nx->h'.c n=h.c n) ?_ ?_ ⟨IK _,YK,by rw [Nat.sub_zero,SJ (by rw [hk.1];exact Bp _)],eg,og⟩
 ·rintro i Z h' N hN hi ⟨_,s3,rfl,e2,o2⟩;have hi:i<L:=by lia
  obtain ⟨u1,u2⟩:=aaL hk hi;refine nV ?_;refine aM<|gR<|CG<|aq rfl<|wU e2<|ao<|aL<|aq rfl<|bA<|cU (by decide)<|aD ?_
  refine NT e2 (by rw [Cm];unfold dg;simp;lia) fun g2 a1 a2 a3=>bY ?_;refine bx<|aL<|aq rfl<|bA<|jl ⟨by decide,64,by decide,.lit rfl⟩ ?_
  rw [u2];refine nV<|bY ?_
  refine hN _ _ ⟨by lia,_,rfl,?_,fun n hn=>by rw [a2 n hn];exact o2 n hn⟩;rw [a1,u1];unfold dg;rw [List.range_succ,Em,Em];rfl
 ·rintro Z h' ⟨_,s3,rfl,e2,o2⟩;have eL:(L:Int).toNat=L:=by lia
  rw [eL] at e2;unfold lW;refine bY<|cg<|Q6 rfl e2 ?_
  rw [<-List.map_reverse,abD hk.1];exact ⟨fun n c hn ec=>by rw [o2 n<|by lia];exact ec,.inl ⟨by rw [Lo];exact rK _ _,q⟩⟩
def NK (t:Tm):W:=.tup [.int (pack t.1),.int t.2]
def PtX (c0:Bd):Prop:=∀ {h:Gh} {us:List Tm} {L:Nat} {Q:WK} {E:CN},(∀ t∈us,Kb L t.1)->us.length<=1000->L<=8->Q (.lst (us.map NK)) h->c0 [BX us] h Q E
theorem Zd {pk:Bd}(hpk:PkX pk):PtX (fj pk):=by
 intro h us L Q E hu hz hL q;unfold fj;refine jm rfl (Z:=[Mk<|BX us]) rfl<|cg<|tV<|pX<|aq rfl<|CP (ws:=us.map Cw) (o:=YK) rfl<|gK.mk (Cg (m:=1000) (by rw [Cm];exact hz)<|by decide) ?_
 refine jL (fun i acc g=>g=h/\acc=(us.take i).map NK) ?_ ?_ ⟨rfl,rfl⟩
 ·rintro i w acc g N hN e ⟨rfl,rfl⟩;rw [Hi] at e;cases qe:us[i]? with
  | none=>rw [qe] at e;cases e
  | some t=>
   rw [qe] at e;cases e;refine ⟨[.tup<|t.1.map .int,.int t.2],rfl,jX<|jV<|aZ<|ao<|aQ<|ao<|aq rfl<|aD ?_⟩;refine hpk (hu t<|O2 qe) hL<|ao<|aq rfl<|aD<|aV rfl<|hN _ _ ⟨rfl,?_⟩
   rw [JC,qe,Em];rfl
 ·rintro acc g ⟨rfl,rfl⟩;rw [Cm,Jb];exact pZ q
def Y5 (rs:List Tm):Prop:=∃ t∈rs,∃ p∈t.1,60<p
instance (rs:List Tm):Decidable (Y5 rs):=by unfold Y5;infer_instance
theorem adQ {x:Int}{N:Gh->Prop}(e:h.c n=Mk (.dct (Ds D)))(hD:∀ j∈D.map (·.1),Kb L j)(hk:Kb L k)(hz:D.length<=30000)(q:∀ g:Gh,g.c n=Mk (.dct (Ds (jC D k x)))->(∀ m,m≠n->g.c m=h.c m)->g.nx=h.nx->N g):JG (.loc n) (.int (pack k)) (.int x) h N:=by
 show (match h.c n with
  | some (.dct kvs)=>gK (kvs.length+1) (N (h.set n (.dct (G4 kvs (.inl (pack k)) (.int x)))))
  | _=>False)
 rw [e];refine gK.mk (Cg (m:=30001) (by unfold Ds;rw [Cm];lia)<|by decide) ?_;rw [Gi hD hk];exact q _ (Bk _ _ _) (fun _ e=>qP e) rfl
theorem adP (e:h.c n=Mk (.dct (Ds D)))(hD:∀ j∈D.map (·.1),Kb L j)(hk:Kb L k)(q:Q (.int (getM D k)) h):Jp (.loc n) [.int (pack k),.int 0] h Q:=by
 show (match h.c n,(Mk (Sum.inl (pack k)):Option Key) with
  | some (.dct kvs),Mk k=>Q ((oH kvs k).getD (.int 0)) h
  | _,_=>False)
 rw [e];show Q ((oH (Ds D) (.inl (pack k))).getD (.int 0)) h;rw [abL hD hk];exact q
theorem Gv {kvs:List (Key×W)}(e:h.c n=Mk (.dct kvs))(p:P):Bv h (.loc n) P:=by
 unfold Bv;dsimp only;rw [e];exact p
theorem KD {r:MM}(x:mo Z h fun x h1=>Bv h1 x (ma Z h1 fun xs h2=>r x xs h2 Q)):Ui r mo ma Z h Q:=x
theorem zaz (e:us[i]?=Mk t):p7 (us.take (i+1)) vs=FP t.1 t.2 vs (p7 (us.take i) vs):=by
 rw [JC,e];exact iz ..
theorem zau {n:Int}{s:Tm}(e:vs[i]?=Mk s):FP k n (vs.take (i+1)) D=FZ (FP k n (vs.take i) D) (bZ k s.1) (n*s.2):=by
 rw [JC,e];exact iw ..
variable {rs : List Tm}
theorem wM.facts (hD:∀ k∈D.map (·.1),Kb L k)(nd:(D.map (·.1)).Nodup)(a:wM D rs):(∀ t∈rs,Kb L t.1/\t.2≠0)/\(rs.map (·.1)).Pairwise (· < ·):=by
 obtain ⟨ks,pk,sk,rfl⟩:=a;refine ⟨fun t ht=>?_,nZ sk⟩;have:=yM nd (fun k hk=>pk.mem_iff.mp hk) ht
 exact ⟨hD t.1<|Cr.mpr ⟨t,this.1,rfl⟩,this.2⟩
def Oh (ts:List Tm)(k:List Int):List Tm:=ts.filter fun t=>decide (t.1≠k)
def zU (ts:List Tm)(k:List Int)(v:Int):List Tm:=if v=0 then Oh ts k else jC ts k v
structure Dc (L:Nat) (D:List Tm):Prop where
 kb:∀ j∈D.map (·.1),Kb L j
 nd:(D.map (·.1)).Nodup
 nz:∀ t∈D,t.2≠0
theorem acn (hD:∀ j∈D.map (·.1),Kb L j)(hk:Kb L k):Kz (Ds D) (.inl (pack k))=Ds (Oh D k):=by
 unfold Kz Ds Oh;rw [List.filter_map];congr 1
 refine List.filter_congr fun t ht=>?_;show decide (Sum.inl (pack t.1)≠(Sum.inl (pack k):Key))=decide (t.1≠k);exact decide_eq_decide.mpr ⟨fun h e=>h<|by rw [e],fun h e=>h<|eZ (hD t.1<|Cr.mpr ⟨t,ht,rfl⟩) hk<|Sum.inl.inj e⟩
theorem abN (D:List Tm)(k r:List Int):getM (Oh D k) r=if r=k then 0 else getM D r:=by
 induction D with
 | nil=>unfold Oh getM;simp
 | cons t D ih=>
  unfold Oh at *;rw [QV];by_cases c:t.1=k
  ·rw [if_neg (by simpa using c),ih,bD,c];by_cases e:r=k
   ·rw [if_pos e,if_pos e]
   ·rw [if_neg e,if_neg e,if_neg (Hf e)]
  ·rw [if_pos (by simpa using c),bD,bD,ih];by_cases e:r=k
   ·rw [if_pos e,if_pos e,if_neg (by rw [e];exact c)]
   ·rw [if_neg e,if_neg e]
theorem abE (D:List Tm)(k r:List Int)(v:Int):getM (zU D k v) r=if r=k then v else getM D r:=by
 unfold zU;split
 ·rename_i e;rw [abN,e]
 ·exact Di ..
theorem nC (h:t∈zU D k v):t∈D\/v≠0/\t=(k,v):=by
 unfold zU at h;split at h
 ·exact .inl (Rm.mp h).1
 ·rename_i e;unfold jC at h;split at h
  ·obtain ⟨u,hu,eu⟩:=Cr.mp h;split at eu
   ·rename_i c;exact .inr ⟨e,by rw [<-eu,c]⟩
   ·exact .inl<|eu ▸ hu
  ·rcases Jr.mp h with h | h
   ·exact .inl h
   ·exact .inr ⟨e,Fd.mp h⟩
theorem zbg (nd:(D.map (·.1)).Nodup):((zU D k v).map (·.1)).Nodup:=by
 unfold zU;split
 ·exact nd.sublist<|List.Sublist.map _ List.filter_sublist
 ·unfold jC;split
  ·rw [keys_map];exact nd
  ·rename_i c;rw [Em,SX];refine ⟨nd,by simp,fun a ha b hb e=>c ?_⟩;rw [Bf,Hq,Fd] at hb;obtain ⟨t,ht,et⟩:=Cr.mp ha;exact P0.mpr ⟨t,ht,decide_eq_true<|by rw [et,e,hb]⟩
theorem Dc.put (h:Dc L D)(hk:Kb L k):Dc L (zU D k v):=by
 refine ⟨fun j hj=>?_,zbg h.nd,fun t ht=>?_⟩
 ·obtain ⟨t,ht,rfl⟩:=Cr.mp hj;rcases nC ht with m | ⟨_,rfl⟩
  ·exact h.kb _<|Cr.mpr ⟨t,m,rfl⟩
  ·exact hk
 ·rcases nC ht with m | ⟨e,rfl⟩
  ·exact h.nz t m
  ·exact e
theorem ach (D:List Tm)(k:List Int)(v:Int):(zU D k v).length<=D.length+1:=by
 unfold zU;split
 ·exact Cg (List.length_filter_le _ _)<|QK _
 ·unfold jC;split
  ·rw [Cm];lia
  ·simp
theorem afb (e:h.c n=Mk (.dct (Ds D)))(hD:∀ j∈D.map (·.1),Kb L j)(hk:Kb L k)(m:k∈D.map (·.1))(q:∀ (g:Gh) (w:W),g.c n=Mk (.dct (Ds (Oh D k)))->(∀ m,m≠n->g.c m=h.c m)->g.nx=h.nx->Q w g):Jw (.loc n) [.int (pack k)] h Q:=by
 show (match h.c n,(Mk (Sum.inl (pack k)):Option Key) with
  | some (.dct kvs),Mk k=>(match oH kvs k with
   | some v=>Q v (h.set n (.dct (Kz kvs k)))
   | none=>False)
  | _,_=>False)
 rw [e];show (match oH (Ds D) (.inl (pack k)) with
  | some v=>Q v (h.set n (.dct (Kz (Ds D) (.inl (pack k)))))
  | none=>False)
 rw [xJ hD hk,acn hD hk];obtain ⟨t,ht,et⟩:=Cr.mp m;cases c:D.find? fun t=>decide (t.1=k) with
 | none=>exact absurd (decide_eq_true et) (by simpa using List.find?_eq_none.mp c t ht)
 | some u=>exact q _ _ (Bk _ _ _) (fun _ e=>qP e) rfl
def Hh (s:List Int)(f:Int)(vs D:List Tm):List Tm:=vs.foldl (fun D t=>zU D (bZ s t.1) (getM D (bZ s t.1) - f*t.2)) D
theorem iT (s:List Int)(f:Int)(vs D:List Tm)(t:Tm):Hh s f (vs++[t]) D=zU (Hh s f vs D) (bZ s t.1) (getM (Hh s f vs D) (bZ s t.1) - f*t.2):=by unfold Hh;rw [Qg];rfl
variable {f : Int}{s : List Int}
theorem zN {j:Nat}(e:vs[j]?=Mk t):Hh s f (vs.take (j+1)) D=zU (Hh s f (vs.take j) D) (bZ s t.1) (getM (Hh s f (vs.take j) D) (bZ s t.1) - f*t.2):=by
 rw [JC,e];exact iT ..
def dz (s r k:List Int):Int:=if bZ s k=r then 1 else 0
theorem rP (s:List Int)(f:Int)(vs D:List Tm)(r:List Int):getM (Hh s f vs D) r=getM D r - f*lin (dz s r) vs:=by
 refine Ba (P:=fun vs=>getM (Hh s f vs D) r=getM D r - f*lin (dz s r) vs) (by simp [Hh,lin]) (fun vs t ih=>?_) vs;rw [iT,abE];have el:lin (dz s r) (vs++[t])=lin (dz s r) vs+dz s r t.1*t.2:=by unfold lin;simp
 rw [el];unfold dz at *;by_cases c:r=bZ s t.1
 ·rw [if_pos c,if_pos c.symm,<-c,ih];grind
 ·rw [if_neg c,if_neg (Hf c),ih];grind
theorem yg (hD:Dc L D)(hv:∀ t∈vs,Kb L (bZ s t.1)):Dc L (Hh s f vs D):=by
 revert hv
 refine Ba (P:=fun vs=>(∀ t∈vs,Kb L<|bZ s t.1)->Dc L (Hh s f vs D)) (fun _=>hD) (fun vs t ih hv=>?_) vs;rw [iT];exact (ih fun u hu=>hv u<|Jc _ hu).put (hv t<|by simp)
theorem yc (s:List Int)(f:Int)(vs D:List Tm):(Hh s f vs D).length<=D.length+vs.length:=by
 refine Ba (P:=fun vs=>(Hh s f vs D).length<=D.length+vs.length) (Bp _) (fun vs t ih=>?_) vs;rw [iT,HB];have:=ach (Hh s f vs D) (bZ s t.1) (getM (Hh s f vs D) (bZ s t.1) - f*t.2)
 simp only [Il,T3];lia
def Ym (c0:Bd):Prop:=∀ {h:Gh} {n:Nat} {D vs:List Tm} {s:List Int} {f:Int} {L:Nat} {Q:WK} {E:CN},h.c n=Mk (.dct (Ds D))->Dc L D->D.length+vs.length<=30000->s.length=L->(∀ t∈vs,t.1.length=L/\Kb L (bZ s t.1)/\t.2≠0/\Sm 3000 t.2)->f≠0->Sm 3000 f ->
 (∀ g:Gh,g.c n=Mk (.dct (Ds (Hh s f vs D)))->(∀ m,m≠n->g.c m=h.c m)->g.nx=h.nx->Q .non g)->c0 [.loc n,.lst (vs.map NK),.int (pack s),.int f] h Q E
theorem abr {D:bT}(hv:Z[i]?=Mk (Mk (.lst ws)))(x:gJ ⟨ws,YK⟩ g b D ws Z h):uD (Jj (aH i)) g b D Z h:=vA (pX (aq hv (CP rfl (vQ x))))
theorem adO:Ym jx:=by
 intro h n D vs s f L Q E e hD hz hs hv f0 sf q;unfold jx;refine jm rfl (Z:=[Mk<|.loc n,Mk<|.lst<|vs.map NK,Mk<|.int<|pack s,Mk<|.int f,YK,YK,YK,YK]) rfl ?_;refine abr rfl ?_;refine iB (fun j Z h'=>∃ s4 s5 s6 s7:Option W,Z = [Mk<|.loc n,Mk<|.lst<|vs.map NK,Mk<|.int<|pack s,Mk<|.int f,s4,s5,s6,s7]/\h'.c n=Mk (.dct<|Ds<|Hh s f (vs.take j) D)/\h'.nx=h.nx/\∀ m,m≠n->h'.c m=h.c m) ?_ ?_ ⟨YK,YK,YK,YK,rfl,e,rfl,fun _ _=>rfl⟩
 ·rintro j w Z h' N hN e' ⟨s4,s5,s6,s7,rfl,e3,x3,o3⟩;rw [Hi] at e';cases qf:vs[j]? with
  | none=>rw [qf] at e';cases e'
  | some t=>
   rw [qf] at e';cases e'
   have mt:=O2 qf;obtain ⟨lt,kt,t0,st⟩:=hv t mt;have dj:Dc L (Hh s f (vs.take j) D):=yg hD fun u hu=>(hv u (T7 hu)).2.1
   have lj:=yc s f (vs.take j) D;rw [JV] at lj;refine lF rfl rfl<|dZ ?_
   refine nV<|dZ ?_
   refine nV<|qJ ?_
   refine aM<|bx<|aL<|aq rfl<|aq rfl<|dU ?_
   rw [Int.add_comm,<-dD hs lt];refine nV<|bY ?_
   refine aM<|bx<|aL<|KD<|aq rfl<|Gv e3<|ao<|aq rfl<|ao<|bA<|aD<|adP e3 dj.kb kt ?_
   refine aL<|aq rfl<|aq rfl<|oO (.of sf st (by decide)<|by decide)<|jj ?_
   refine nV<|bY ?_
   refine cB<|bJ<|aL<|aq rfl<|bA<|Df<|m9 ?_
   refine G7 (fun c=>?_) fun c=>?_
   ·refine gR<|KD<|aq rfl<|Gv e3<|ao<|aq rfl<|aD ?_
    refine afb e3 dj.kb kt ?_ fun g w a1 a2 a3=>bY<|hN _ _ ⟨_,_,_,_,rfl,?_,by lia,fun m hm=>by rw [a2 m hm];exact o3 m hm⟩
    ·refine Ld fun z=>?_;rw [getM_none z] at c;have:=Int.mul_ne_zero f0 t0
     lia
    ·rw [zN qf];unfold zU;rw [if_pos c];exact a1
   ·refine bx<|aq rfl<|qX<|aq rfl<|aq rfl ?_
    refine adQ e3 dj.kb kt (by lia) fun g a1 a2 a3=>bY<|hN _ _ ⟨_,_,_,_,rfl,?_,by lia,fun m hm=>by rw [a2 m hm];exact o3 m hm⟩
    rw [zN qf];unfold zU;rw [if_neg c];exact a1
 ·rintro Z h' ⟨s4,s5,s6,s7,rfl,e3,x3,o3⟩;rw [Cm,Jb] at e3;exact bY<|q _ e3 o3 x3
def eG (k l:List Int):List Int:=List.zipWith (· - ·) k l
theorem uJ:∀ {k l:List Int} {p q:Int},k.length=l.length->eG (k++[p]) (l++[q])=eG k l++[p - q]
 | [],[],_,_,_=>rfl
 | [],_::_,_,_,h=>by simp at h
 | _::_,[],_,_,h=>by simp at h
 | a::k,b::l,p,q,h=>by
  have:=uJ (k:=k) (l:=l) (p:=p) (q:=q) (by simpa using h)
  unfold eG at *;rw [QT,QT,SM,this,SM,QT]
theorem ux (h:k.length=l.length):(eG k l).length=k.length:=by unfold eG;rw [Tv,h,Nat.min_self]
theorem ou:∀ {k l:List Int},k.length=l.length->eG (bZ k l) l=k
 | [],[],_=>rfl
 | [],_::_,h=>by simp at h
 | _::_,[],h=>by simp at h
 | a::k,b::l,h=>by
  have:=ou (k:=k) (l:=l) (by simpa using h)
  unfold eG bZ at *;rw [SM,SM,this];congr 1
  lia
theorem oV:∀ {k l:List Int},k.length=l.length->bZ (eG k l) l=k
 | [],[],_=>rfl
 | [],_::_,h=>by simp at h
 | _::_,[],h=>by simp at h
 | a::k,b::l,h=>by
  have:=oV (k:=k) (l:=l) (by simpa using h)
  unfold eG bZ at *;rw [SM,SM,this];congr 1
  lia
theorem tQ:∀ {k l:List Int},k.length=l.length->(lR (k.map W.int) (l.map .int)).length=k.length
 | [],[],_=>rfl
 | [],_::_,h=>by simp at h
 | _::_,[],h=>by simp at h
 | a::k,b::l,h=>congrArg (· + 1) (tQ (k:=k) (l:=l) (by simpa using h))
def Ng (k:List Int):Prop:=∃ p∈k,p<0
instance (k:List Int):Decidable (Ng k):=inferInstanceAs (Decidable (∃ p∈k,p<0))
def PoX (c0:Bd):Prop:=∀ {h:Gh} {k:List Int} {v:Int} {t:Tm} {L:Nat} {Q:WK} {E:CN},k.length=L->t.1.length=L->L<=8->t.2≠0->Sm 3000 v->Sm 3000 t.2->(v.fmod t.2≠0\/Ng (eG k t.1)->Q .non h)->(v.fmod t.2=0->¬ Ng (eG k t.1)->Q (Cw (eG k t.1,v.fdiv t.2)) h)->c0 [.tup (k.map .int),.int v,Cw t] h Q E
theorem adA:PoX fD:=by
 intro h k v t L Q E hk ht hL t0 sv st q1 q2;unfold fD;refine jm rfl (Z:=[Mk<|.tup<|k.map .int,Mk<|.int v,Mk<|Cw t,YK]) rfl<|aM<|bx ?_
 refine dO<|ao<|tV<|Dj<|ao<|aq rfl<|ao<|aL<|aq rfl<|bA<|eO (x:=Cw t) (i:=0) (w:=.tup (t.1.map .int)) rfl rfl<|aD<|Px (as:=k.map .int) (bs:=t.1.map .int) rfl rfl rfl ?_
 refine gK.mk (Cg (m:=1000) (by rw [tQ<|by rw [hk,ht]];lia)<|by decide) ?_;refine jL (fun i acc g=>g=h/\acc=(eG (k.take i)<|t.1.take i).map .int) ?_ ?_ ⟨rfl,rfl⟩
 ·rintro i w acc g N hN e ⟨rfl,rfl⟩;obtain ⟨a,b,ea,eb,rfl⟩:=mY e;obtain ⟨p,ep,rfl⟩:=ints_get ea;obtain ⟨r,er,rfl⟩:=ints_get eb;refine ⟨[.int p,.int r],rfl,jX<|jV<|aL<|aq rfl<|aq rfl<|jj<|hN _ _ ⟨rfl,?_⟩⟩;rw [JC,JC,ep,er];show _=(eG (k.take i++[p]) (t.1.take i++[r])).map W.int;rw [uJ (by rw [JV,JV,hk,ht]),Em];rfl
 ·rintro acc g ⟨rfl,rfl⟩;rw [tQ (by rw [hk,ht]),Jb,hk,<-ht,Jb];refine aD<|jc ?_
  refine nV<|bY ?_
  refine aM<|cB<|mU<|bJ<|aL<|aL<|aq rfl<|aL<|aq rfl<|bA<|eO (x:=Cw t) (i:=1) (w:=.int t.2) rfl rfl<|cU t0<|bA<|Bg<|m9 ?_
  refine G7 (fun c=>sX<|cg<|bA<|pZ<|q1<|.inl c) fun c=>?_;refine eX<|dO<|ao<|tV<|pX<|aq rfl<|CP (ws:=(eG k t.1).map .int) (o:=YK) rfl<|gK.mk (Cg (m:=1000) (by rw [Cm,ux<|by rw [hk,ht]];lia)<|by decide) ?_
  refine jL (fun j acc g'=>g'=g/\acc=(((eG k t.1).take j).map fun p=>decide<|p<0).map .bl) ?_ ?_ ⟨rfl,rfl⟩
  ·rintro j w acc g' N' hN' e' ⟨rfl,rfl⟩;obtain ⟨p,ep,rfl⟩:=ints_get e';refine ⟨[.int p],rfl,jX<|jV<|aL<|aq rfl<|bA<|O5<|hN' _ _ ⟨rfl,?_⟩⟩;rw [JC,ep];simp
  ·rintro acc g' ⟨rfl,rfl⟩;rw [Cm,Jb];refine aD<|Km (us:=((eG k t.1).map fun p=>decide<|p<0).map .bl) (bs:=(eG k t.1).map fun p=>decide<|p<0) rfl (wF _)<|Ae rfl ?_
   have ea:((eG k t.1).map fun p=>decide (p<0)).any id=decide (Ng (eG k t.1)):=by
    rw [QM,List.any_map,P0,decide_eq_true_iff];constructor
    ·rintro ⟨p,hp,e⟩;exact ⟨p,hp,by simpa using e⟩
    ·rintro ⟨p,hp,e⟩;exact ⟨p,hp,by simpa using e⟩
   rw [ea];refine G7 (fun d=>cg<|bA<|pZ<|q1<|.inr d) fun d=>bO<|bY ?_
   unfold gB;have c':v.fmod t.2=0:=Ld c;refine cg<|aZ<|ao<|aq rfl<|ao<|aL<|aq rfl<|aL<|aq rfl<|bA<|eO (x:=Cw t) (i:=1) (w:=.int t.2) rfl rfl<|jl ⟨t0,3000,by decide,st⟩<|aD<|aV rfl<|pZ<|q2 c' d
theorem adN (e:h.c n=Mk (.dct (Ds D)))(hD:Dc L D)(m:k∈D.map (·.1))(q:Q (.int (getM D k)) h):Vz (.loc n) (.int (pack k)) h Q:=by
 show (match h.c n with
  | some (.dct kvs)=>(match oH kvs (.inl (pack k)) with
   | some w=>Q w h
   | none=>False)
  | _=>False)
 rw [e];show (match oH (Ds D) (.inl (pack k)) with
   | some w=>Q w h
   | none=>False)
 rw [xJ hD.kb (hD.kb k m)];unfold getM at q;obtain ⟨t,ht,et⟩:=Cr.mp m;cases c:D.find? fun t=>decide (t.1=k) with
 | none=>exact absurd (decide_eq_true et) (by simpa using List.find?_eq_none.mp c t ht)
 | some u=>rw [c] at q;exact q
theorem aeh {Q:Bool->Gh->Prop}(hv:Z[i]?=Mk (Mk (.loc n)))(e:h.c n=Mk (.dct (Ds D)))(q:Q (!D.isEmpty) h):Ol (aH i) Z h Q:=by
 refine aq hv ?_;show (match h.c n with
  | some (.dct kvs)=>Q (!kvs.isEmpty) h
  | _=>False)
 rw [e];show Q (!(Ds D).isEmpty) h;have:(Ds D).isEmpty=D.isEmpty:=by unfold Ds;cases D <;> rfl
 rw [this];exact q
theorem aee (e:h.c n=Mk (.dct (Ds D)))(ne:D≠[])(q:∀ k,k∈D.map (·.1)->(∀ j∈D.map (·.1),pack j<=pack k)->Q (.int (pack k)) h):Jz [.loc n] h Q:=by
 show (match h.c n with
  | some (.dct kvs)=>∃ ks:List Int,yD kvs ks/\0<ks.length/\∀ M,M∈ks->(∀ a,a∈ks->a<=M)->Q (.int M) h
  | _=>False)
 rw [e];refine ⟨(D.map (·.1)).map pack,?_,?_,fun M hM ha=>?_⟩
 ·unfold yD Ds;rw [Ho,Ho,Ho];rfl
 ·rw [Cm,Cm];exact List.length_pos_iff.mpr ne
 ·obtain ⟨k,hk,rfl⟩:=Cr.mp hM;exact q k hk fun j hj=>ha _<|Cr.mpr ⟨j,hj,rfl⟩
theorem uY:∀ us:List Tm,mJ (us.map NK)=Mk (Ds us)
 | []=>rfl
 | t::us=>by
  show (match PK (.int (pack t.1)) with
   | some ks=>(mJ (us.map NK)).map ((ks,W.int t.2)::·)
   | none=>YK)=_
  rw [uY us];rfl
theorem aay (kb:∀ j∈us.map (·.1),Kb L j)(nd:(us.map (·.1)).Nodup):gU [] (Ds us)=Ds us:=by
 revert kb nd
 refine Ba (P:=fun us=>(∀ j∈us.map (·.1),Kb L j)->(us.map (·.1)).Nodup->gU [] (Ds us)=Ds us) (fun _ _=>rfl) (fun us t ih kb nd=>?_) us;rw [Em] at kb nd;rw [SX] at nd;have kb1:∀ j∈us.map (·.1),Kb L j:=fun j hj=>kb j (Jc _ hj)
 have i:=ih kb1 nd.1;have e1:Ds (us++[t])=Ds us++[(.inl (pack t.1),.int t.2)]:=by unfold Ds;rw [Em];rfl
 have e2:gU [] (Ds us++[(.inl (pack t.1),.int t.2)])=G4 (gU [] (Ds us)) (.inl (pack t.1)) (.int t.2):=by unfold gU;rw [Qg];rfl
 rw [e1,e2,i,Gi kb1 (kb t.1 (by simp)),ni t.2 (fun m=>nd.2.2 _ m t.1 (by simp) rfl),e1]
theorem aaX (kb:∀ j∈us.map (·.1),Kb L j)(nd:(us.map (·.1)).Nodup)(q:∀ g:Gh,g.c h.nx=Mk (.dct (Ds us))->(∀ n,n≠h.nx->g.c n=h.c n)->g.nx=h.nx+1->Q (.loc h.nx) g):yL [.lst (us.map NK)] h Q:=by
 show (match mJ (us.map NK) with
   | some ps=>Q (.loc h.nx) (h.new (.dct (gU [] ps)))
   | none=>False)
 rw [uY];show Q (.loc h.nx) (h.new (.dct (gU [] (Ds us))));rw [aay kb nd];exact q _ (DP _ _) (fun _ e=>vP e) rfl
structure Vt (L:Nat) (vs:List Tm) (ld:Tm):Prop where
 ex:∃ vi,vs=vi++[ld]
 kb:∀ t∈vs,Kb L t.1/\t.2≠0/\Sm 3000 t.2
 srt:(vs.map (·.1)).Pairwise (· < ·)
 len:vs.length<=1000
variable {ld : Tm}
theorem Vt.mem (V:Vt L vs ld):ld∈vs:=by obtain ⟨vi,rfl⟩:=V.ex;simp
theorem Vt.le (V:Vt L vs ld)(h:t∈vs):t=ld\/pack t.1<pack ld.1:=by
 have km:=V.kb t h;have kl:=V.kb ld V.mem;obtain ⟨vi,rfl⟩:=V.ex;have s:=V.srt;rw [Em,Mz] at s;rcases Jr.mp h with h | h
 ·exact .inr<|(oR km.1 kl.1).mp (s.2.2 _ (Cr.mpr ⟨t,h,rfl⟩) _<|by simp)
 ·exact .inl<|Fd.mp h
theorem KH (V:Vt L vs ld)(hs:s.length=L):lin (dz s (bZ s ld.1)) vs=ld.2:=by
 have kl:=V.kb ld V.mem;have z:∀ t∈vs,t≠ld->bZ s t.1≠bZ s ld.1:=fun t ht ne e=>by
  have:=V.le ht
  have e2:=congrArg pack e;rw [dD hs (V.kb t ht).1.1,dD hs kl.1.1] at e2;rcases this with h | h
  ·exact ne h
  ·lia
 obtain ⟨vi,rfl⟩:=V.ex;have nn:∀ t∈vi,t≠ld:=fun t ht e=>by
  have s:=V.srt;rw [Em,Mz] at s;have:=s.2.2 _ (Cr.mpr ⟨t,ht,rfl⟩) ld.1 (by simp)
  rw [e] at this;exact List.lt_irrefl _ this
 unfold lin;rw [Em,List.sum_append];have e0:(vi.map fun t=>dz s (bZ s ld.1) t.1*t.2).sum=0:=by
  have:vi.map (fun t=>dz s (bZ s ld.1) t.1*t.2)=vi.map fun _=>(0:Int):=Oi fun t ht=>by
   unfold dz;rw [if_neg (z t (Jc _ ht) (nn t ht))];exact Int.zero_mul _
  rw [this];clear this z nn V;induction vi with
  | nil=>rfl
  | cons _ _ ih=>rw [Bf,Nr,ih];rfl
 rw [e0];show 0+(dz s (bZ s ld.1) ld.1*ld.2+0)=_;unfold dz;rw [if_pos rfl];lia
theorem Wc {K:List Int}(V:Vt L vs ld)(hD:Dc L D)(mK:K∈D.map (·.1))(up:∀ j∈D.map (·.1),pack j<=pack K)(hn:¬ Ng (eG K ld.1))(hd:(getM D K).fmod ld.2=0)(kz:∀ t∈vs,Kb L (bZ (eG K ld.1) t.1)):
  ∀ j∈(Hh (eG K ld.1) ((getM D K).fdiv ld.2) vs D).map (·.1),pack j<pack K:=by
 have kK:=hD.kb K mK;have kl:=V.kb ld V.mem;have ll:K.length=ld.1.length:=by rw [kK.1,kl.1.1]
 have ls:(eG K ld.1).length=L:=by rw [ux ll,kK.1]
 have dc:=yg (f:=(getM D K).fdiv ld.2) hD kz;have z0:getM (Hh (eG K ld.1) ((getM D K).fdiv ld.2) vs D) K=0:=by
  rw [rP];have:=KH V ls
  rw [oV ll] at this;rw [this];have:=UJ (getM D K) ld.2
  rw [hd] at this;grind
 intro j hj;have ne:j≠K:=fun e=>by
  subst e;obtain ⟨t,ht,et⟩:=Cr.mp hj;have:=jR dc.nd ht
  rw [et,z0] at this;exact dc.nz t ht this.symm
 have le:pack j<=pack K:=by
  have go:∀ ws:List Tm,(∀ t∈ws,t∈vs)->∀ j∈(Hh (eG K ld.1) ((getM D K).fdiv ld.2) ws D).map (·.1),pack j<=pack K:=fun ws=>by
   refine Ba (P:=fun ws=>(∀ t∈ws,t∈vs)->∀ j∈(Hh (eG K ld.1) ((getM D K).fdiv ld.2) ws D).map (·.1),pack j<=pack K) (fun _=>up) (fun ws t ih hw j hj=>?_) ws;rw [iT] at hj;obtain ⟨u,hu,eu⟩:=Cr.mp hj;rcases nC hu with m | ⟨_,rfl⟩
   ·exact ih (fun t ht=>hw t<|Jc _ ht) j<|Cr.mpr ⟨u,m,eu⟩
   ·have mt:=hw t (by simp);rw [<-eu];show pack (bZ _ _)<=_;have e1:=dD ls (V.kb t mt).1.1;have e2:=dD ls kl.1.1;rw [oV ll] at e2;rw [e1,e2];rcases V.le mt with h | h
    ·rw [h];lia
    ·lia
  exact go vs (fun _ h=>h) j hj
 have:=eZ (dc.kb j hj) kK
 exact Int.lt_iff_le_and_ne.mpr ⟨le,fun e=>ne<|this e⟩
def Jh (c0:Bd):Prop:=∀ {h:Gh} {us vs:List Tm} {ld:Tm} {L:Nat} {Q:WK} {E:CN} (J:List Tm->List Tm->Prop),L<=8->Dc L us->us.length<=1000->Vt L vs ld->J [] us ->
 (∀ f D K,J f D->Dc L D->K∈D.map (·.1)->(∀ j∈D.map (·.1),pack j<=pack K)->D.length<=20000/\Sm 3000 (getM D K)/\f.length<=600 /\
  ((getM D K).fmod ld.2≠0\/Ng (eG K ld.1)->Q .non h) /\
  ((getM D K).fmod ld.2=0->¬ Ng (eG K ld.1)->(f.length=600->∀ h',Ge h h'->E ⟨"TooMuch",[]⟩ h') /\
   (f.length≠600->(getM D K).fdiv ld.2≠0/\Sm 3000 ((getM D K).fdiv ld.2)/\(∀ t∈vs,Kb L (bZ (eG K ld.1) t.1))/\J (f++[(eG K ld.1,(getM D K).fdiv ld.2)]) (Hh (eG K ld.1) ((getM D K).fdiv ld.2) vs D)))) ->
 (∀ f,J f []->Q (BX f.reverse) h)->c0 [BX us,BX vs] h Q E
theorem zbp (hk:Kb L k)(hl:Kb L l)(n:¬ Ng (eG k l)):Kb L (eG k l):=by
 refine ⟨by rw [ux<|by rw [hk.1,hl.1],hk.1],fun p hp=>⟨Int.not_lt.mp fun c=>n ⟨p,hp,c⟩,?_⟩⟩;unfold eG at hp;obtain ⟨i,hi,e⟩:=RX.mp hp;rw [List.getElem_zipWith] at e;rw [Tv] at hi;have h1:=hk.2 (k[i]'(by lia)) (PB _);have h2:=hl.2 (l[i]'(by lia)) (PB _);lia
theorem zaM {us:List W}(h:us.getLast?=Mk w):JQ us (-1)=Mk w:=by
 have hn:us≠[]:=by
  rintro rfl;simp at h
 obtain ⟨i,hi⟩:∃ i,us.length=i+1:=⟨us.length - 1,by have:=List.length_pos_iff.mpr hn;lia⟩
 have e1:Mq (i+1) (-1)=Mk i:=by
  unfold Mq;repeat' split
  all_goals first | (exfalso;lia) | (congr 1;lia)
 unfold JQ;rw [hi,e1];rw [List.getLast?_eq_getElem?,hi] at h
 simpa using h
theorem wI (e:∃ vi,vs=vi++[ld])(q:Q (Cw ld) h):Fy (BX vs) (.int (-1)) h Q:=by
 obtain ⟨vi,rfl⟩:=e;have e1:((vi++[ld]).map Cw).getLast?=Mk (Cw ld):=by rw [Em];simp
 exact eO (ws:=(vi++[ld]).map Cw) rfl (zaM e1) q
theorem zbv (x:Q (.bl true) h):kIs .non .non h Q:=x
theorem Vh (x:Q (.bl false) h):kIs (Cw t) .non h Q:=x
theorem zaT {pk un pt po tk:Bd}(hpk:PkX pk)(hun:UnX un)(hpt:PtX pt)(hpo:PoX po)(htk:Ym tk):Jh (jY pk un pt po tk):=by
 intro h us vs ld L Q E J hL hu lu V j0 step fin;have kl:=V.kb ld V.mem;have vne:vs≠[]:=fun e=>by have:=V.mem;rw [e] at this;cases this
 unfold jY;refine qH rfl (Z:=[Mk<|BX us,Mk<|BX vs,YK,YK,YK,YK,YK,YK]) rfl ?_;refine aM<|cB<|gF<|eX<|aq rfl<|Ae (b:=true) ?_ ?_
 ·show Mk (!(vs.map Cw).isEmpty)=Mk true;cases vs with
  | nil=>exact absurd rfl vne
  | cons _ _=>rfl
 refine pA<|bO<|bY ?_
 unfold qy;refine aM<|bx<|aL<|aq rfl<|JM<|bA ?_
 show Fy (BX vs) (.int (-1)) h _;refine wI V.ex ?_;refine nV<|bY ?_
 refine aM<|bx<|aQ<|ao<|aq rfl<|aD<|hpt (fun t ht=>(V.kb t ht).1) V.len hL ?_
 refine nV<|bY ?_
 refine aM<|bx<|dO<|ao<|aQ<|ao<|aq rfl<|aD<|hpt (fun t ht=>hu.kb _<|Cr.mpr ⟨t,ht,rfl⟩) lu hL<|aD ?_
 refine aaX hu.kb hu.nd fun g1 a1 b1 c1=>?_;refine nV<|bY ?_
 refine aM<|bx<|xG (ws:=[]) (fun R=>rfl) rfl fun g2 a2 b2 c2=>?_
 refine nV<|bY ?_
 have nb:g1.nx=h.nx+1:=c1;refine aM ?_;refine ⟨fun m Z h'=>∃ (f D:List Tm) (s6 s7:Option W),Z = [Mk<|BX us,Mk<|BX vs,Mk<|Cw ld,Mk<|.lst<|vs.map NK,Mk<|.loc h.nx,Mk<|.loc g1.nx,s6,s7]/\h'.c h.nx=Mk (.dct<|Ds D)/\h'.c g1.nx=Mk (.lst<|f.map Cw)/\(∀ n,n<h.nx->h'.c n=h.c n)/\h.nx<=h'.nx/\J f D/\Dc L D/\∀ j∈D.map (·.1),(pack j).toNat<m,?_,?_⟩
 ·refine ⟨2^200,[],us,YK,YK,rfl,?_,a2,fun n hn=>?_,by lia,j0,hu,fun j hj=>?_⟩
  ·rw [b2 _ (by lia)];exact a1
  ·rw [b2 n (by lia),b1 n (by lia)]
  ·have:=(jy (hu.kb j hj))
   have p2:(2:Nat)^(16*L)<=2^200:=U3 (by decide) (by lia);lia
 ·rintro m Z h' ⟨f,D,s6,s7,rfl,eD,eF,ko,kn,jf,dc,um⟩;refine aeh rfl eD ?_;cases D with
  | nil=>
   refine pA ?_;unfold qD;refine bY<|cg<|Q6 rfl eF ?_
   rw [<-List.map_reverse];exact ⟨fun n c hn ec=>by rw [ko n hn];exact ec,.inl ⟨Sh _ _,fin f jf⟩⟩
  | cons d0 D0=>
   generalize hDD:d0::D0=D at *;have ne:D≠[]:=by rw [<-hDD];simp
   rw [show (!D.isEmpty)=true by rw [<-hDD];rfl];refine sX ?_;refine aM<|bx<|dO<|ao<|aq rfl<|aD<|aee eD ne fun K mK up=>?_
   obtain ⟨lD,sK,lf,qn,qd⟩:=step f D K jf dc mK up;have kK:=dc.kb K mK;refine nV<|bY ?_
   refine aM<|bx<|aQ<|ao<|aQ<|ao<|aq rfl<|ao<|dO<|ao<|aL<|aq rfl<|bA<|eO (x:=Cw ld) (i:=0) (w:=.tup (ld.1.map .int)) rfl rfl<|aD<|vZ (xs:=ld.1.map .int) rfl<|aD ?_
   rw [Cm,kl.1.1];refine hun kK hL ?_;refine ao<|aL<|aq rfl<|aq rfl<|adN eD dc mK<|ao<|aq rfl<|aD ?_
   refine hpo kK.1 kl.1.1 hL kl.2.1 sK kl.2.2 (fun c=>?_) fun c1' c2'=>?_
   ·refine nV<|bY ?_
    refine aM<|cB<|bJ<|aL<|aq rfl<|bA ?_
    refine zbv<|m9<|sX<|cg<|bA ?_
    exact ⟨fun n c hn ec=>by rw [ko n hn];exact ec,.inl ⟨by simp [Lo],qn c⟩⟩
   ·obtain ⟨qx,qg⟩:=qd c1' c2';refine nV<|bY ?_
    refine aM<|cB<|bJ<|aL<|aq rfl<|bA ?_
    refine Vh<|m9<|pA<|bO<|bY ?_
    refine aM<|cB<|bJ<|aL<|dO<|ao<|aq rfl<|aD<|vZ (xs:=f.map Cw) (yI eF)<|bA<|Df<|m9 ?_
    rw [Cm];refine G7 (fun c6=>tE<|qx (by lia) h' ⟨kn,ko⟩) fun c6=>bO<|bY ?_
    obtain ⟨f0,sf,kz,jn⟩:=qg (by lia);have ks:=zbp kK kl.1 c2';refine aM<|gR<|CG<|aq rfl<|wU eF<|ao<|aq rfl<|aD<|NT eF (by rw [Cm];lia) fun g3 a3 b3 c3=>bY ?_
    have eD3:g3.c h.nx=Mk (.dct (Ds D)):=by rw [b3 _ (by lia)];exact eD
    refine gR<|aQ<|ao<|aq rfl<|ao<|aq rfl<|ao<|aQ<|ao<|aL<|aq rfl<|bA<|eO (x:=Cw (eG K ld.1,(getM D K).fdiv ld.2)) (i:=0) (w:=.tup ((eG K ld.1).map .int)) rfl rfl<|aD<|hpk ks hL ?_ 
    refine ao<|aL<|aq rfl<|bA<|eO (x:=Cw (eG K ld.1,(getM D K).fdiv ld.2)) (i:=1) (w:=.int ((getM D K).fdiv ld.2)) rfl rfl<|aD ?_
    refine htk eD3 dc (by have:=V.len;lia) ks.1 (fun t ht=>⟨(V.kb t ht).1.1,kz t ht,(V.kb t ht).2⟩) f0 sf fun g4 a4 b4 c4=>bY ?_;have tl:=Wc V dc mK up c2' c1' kz;refine ⟨(pack K).toNat,um K mK,f++[(eG K ld.1,(getM D K).fdiv ld.2)],_,_,_,rfl,a4,?_,fun n hn=>?_,by lia,jn,yg dc kz,fun j hj=>?_⟩
    ·rw [b4 _ (by lia),a3,Em];rfl
    ·rw [b4 n (by lia),b3 n (by lia),ko n hn]
    ·have:=tl j hj
     have:=(jy ((yg dc kz).kb j hj)).1
     lia
def pr (q vs:List Tm)(r:List Int):Int:=(q.map fun t=>t.2*lin (dz t.1 r) vs).sum
theorem uq (q vs:List Tm)(t:Tm)(r:List Int):pr (q++[t]) vs r=pr q vs r+t.2*lin (dz t.1 r) vs:=by
 unfold pr;rw [Em,List.sum_append];simp
theorem nJ {α : Type}:∀ l:List α,(l.map fun _=>(0:Int)).sum=0
 | []=>rfl
 | _::l=>by rw [Bf,Nr,nJ l];rfl
theorem Ec (vs:List Tm)(r:List Int):pr [] vs r=0:=rfl
structure Qs (L:Nat) (q:List Tm):Prop where
 kb:∀ t∈q,Kb L t.1/\t.2≠0/\Sm 1000 t.2
 srt:(q.map (·.1)).Pairwise (· < ·)
 len:q.length<=600
variable {q : List Tm}
theorem Qs.init (h:Qs L (q++[t])):Qs L q/\∀ u∈q,pack u.1<pack t.1:=by
 have s:=h.srt;rw [Em,Mz] at s;refine ⟨⟨fun u hu=>h.kb u<|Jc _ hu,s.1,by have:=h.len;rw [HB] at this;lia⟩,fun u hu=>?_⟩;exact (oR (h.kb u<|Jc _ hu).1 (h.kb t<|by simp).1).mp (s.2.2 _ (Cr.mpr ⟨u,hu,rfl⟩) _<|by simp)
theorem zbw {r:List Int}(V:Vt L vs ld)(hs:s.length=L)(h:lin (dz s r) vs≠0):pack r<=pack s+pack ld.1/\r.length=L:=by
 refine Ld fun c=>h ?_;have:vs.map (fun t=>dz s r t.1*t.2)=vs.map fun _=>(0:Int):=Oi fun t ht=>by
  unfold dz;rw [if_neg (fun e=>c ?_)]
  ·exact Int.zero_mul _
  ·have k:=(V.kb t ht).1.1;rw [<-e,dD hs k];refine ⟨?_,by rw [zK<|by rw [hs,k],hs]⟩;rcases V.le ht with e | e
   ·rw [e];exact Int.le_refl _
   ·lia
 unfold lin;rw [this];exact nJ _
theorem Ko {r:List Int}(V:Vt L vs ld)(hq:∀ t∈q,t.1.length=L)(h:pr q vs r≠0):∃ t∈q,pack r<=pack t.1+pack ld.1:=by
 refine Ld fun c=>h ?_;have:q.map (fun t=>t.2*lin (dz t.1 r) vs)=q.map fun _=>(0:Int):=Oi fun t ht=>by
  have z:lin (dz t.1 r) vs=0:=Ld fun n=>c ⟨t,ht,(zbw V (hq t ht) n).1⟩
  rw [z];exact Int.mul_zero _
 unfold pr;rw [this];exact nJ _
theorem acG (V:Vt L vs ld)(h:Qs L (q++[t])):pr (q++[t]) vs (bZ t.1 ld.1)=t.2*ld.2:=by
 have kt:=(h.kb t (by simp)).1;have kl:=(V.kb ld V.mem).1;rw [uq,KH V kt.1];have z:pr q vs (bZ t.1 ld.1)=0:=Ld fun n=>by
  obtain ⟨u,hu,le⟩:=Ko V (fun u hu=>(h.init.1.kb u hu).1.1) n;rw [dD kt.1 kl.1] at le;have:=h.init.2 u hu
  lia
 rw [z,Int.zero_add]
theorem GJ (h:Dc L D)(m:k∈D.map (·.1)):getM D k≠0:=by
 obtain ⟨t,ht,rfl⟩:=Cr.mp m;rw [jR h.nd ht];exact h.nz t ht
theorem get_mem (h:getM D k≠0):k∈D.map (·.1):=Ld fun c=>h (getM_none c)
theorem Qs.pre {p:List Tm}(h:Qs L (q++p)):Qs L q:=by
 have s:=h.srt;rw [Em,Mz] at s;exact ⟨fun u hu=>h.kb u<|Jc _ hu,s.1,by have:=h.len;rw [HB] at this;lia⟩
variable {c0 : Bd}
theorem Dg (hp:Jh c0)(e:List Int->Int)(hL:L<=8)(hq:Qs L q)(V:Vt L vs ld)(lv:vs.length<=30)(sl:Sm 1000 ld.2)(hu:Dc L us)(lu:us.length<=1000)(hkz:∀ t∈q,∀ u∈vs,Kb L (bZ t.1 u.1))
  (hg:∀ r,getM us r=pr q vs r+e r)
  (he:∀ r,e r≠0->Sm 1000 (e r)/\((e r).fmod ld.2≠0\/Ng (eG r ld.1))/\∀ t∈q,pack r<pack t.1+pack ld.1\/pack r=pack t.1+pack ld.1/\(e r).fmod ld.2≠0)
  (q1:(∀ r,e r=0)->Q (BX q) h) (q2:(∃ r,e r≠0)->Q .non h):c0 [BX us,BX vs] h Q E:=by
 have kl:=V.kb ld V.mem;have top:∀ {qi f:List Tm} {t:Tm} {D:List Tm},q=(qi++[t])++f.reverse->(∀ r,getM D r=pr (qi++[t]) vs r+e r)->getM D (bZ t.1 ld.1)=t.2*ld.2+e (bZ t.1 ld.1)/\getM D (bZ t.1 ld.1)≠0/\pack (bZ t.1 ld.1)=pack t.1+pack ld.1/\(e (bZ t.1 ld.1)≠0->(getM D (bZ t.1 ld.1)).fmod ld.2≠0):=fun {qi f t D} eq g=>by
  subst eq;have Q1:=hq.pre;have mt:t∈qi++[t]++f.reverse:=by simp
  have kt:=hq.kb t mt;have e1:=g (bZ t.1 ld.1);rw [acG V Q1] at e1;have ep:=dD kt.1.1 kl.1.1;have fm:e (bZ t.1 ld.1)≠0->(getM D (bZ t.1 ld.1)).fmod ld.2≠0:=fun n=>by
   rw [e1,Int.mul_add_fmod_self_right];rcases (he _ n).2.2 t mt with c | c
   ·lia
   ·exact c.2
  refine ⟨e1,fun z=>?_,ep,fm⟩;by_cases n:e (bZ t.1 ld.1)=0
  ·rw [n,Nm] at e1;exact Int.mul_ne_zero kt.2.1 kl.2.1 (by rw [<-e1];exact z)
  ·exact fm n (by rw [z];exact Int.zero_fmod _)
 refine hp (ld:=ld) (fun f D=>∃ qr,q=qr++f.reverse/\(∀ r,getM D r=pr qr vs r+e r)/\D.length<=1000+f.length*30) hL hu lu V ⟨q,by simp,hg,by simpa using lu⟩ (fun f D K=>?_) fun f=>?_
 ·rintro ⟨qr,eq,g,lD⟩ dc mK up;have lq:=hq.len;have l2:q.length=qr.length+f.length:=by rw [eq];simp
  have nK:=GJ dc mK;rcases List.eq_nil_or_concat qr with rfl | ⟨qi,t,rfl⟩
  ·have eK:getM D K=e K:=by rw [g,Ec,Int.zero_add]
   have hK:=he K (by rw [<-eK];exact nK);refine ⟨by lia,by rw [eK];exact hK.1.mono (by decide),by lia,fun _=>q2 ⟨K,by rw [<-eK];exact nK⟩,fun c d=>?_⟩;rw [eK] at c;rcases hK.2.1 with z | z
   ·exact absurd c z
   ·exact absurd z d
  ·rw [List.concat_eq_append] at *;obtain ⟨t1,t2,t3,t4⟩:=top eq g;have mt:t∈q:=by rw [eq];simp
   have kt:=hq.kb t mt;have k0:=hkz t mt ld V.mem;have Q1:Qs L (qi++[t]):=by rw [eq] at hq;exact hq.pre
   have eK:K=bZ t.1 ld.1:=by
    have h1:=up _ (get_mem t2);refine eZ (dc.kb K mK) k0<|Int.le_antisymm ?_ h1
    rw [t3];by_cases c:e K=0
    ·rw [g,c,Nm] at nK;obtain ⟨u,hu',le⟩:=Ko V (fun u hu'=>(Q1.kb u hu').1.1) nK;rcases Jr.mp hu' with m | m
     ·have:=Q1.init.2 u m;lia
     ·rw [Fd.mp m] at le;exact le
    ·rcases (he K c).2.2 t mt with z | z
     ·lia
     ·lia
   subst eK;have sv:Sm 3000 (getM D (bZ t.1 ld.1)):=by
    rw [t1];have s1:Sm 2000 (t.2*ld.2):=Sm.mul kt.2.2 sl;by_cases c:e (bZ t.1 ld.1)=0
    ·rw [c,Nm];exact s1.mono (by decide)
    ·exact (Sm.add s1 (he _ c).1).mono (by decide)
   refine ⟨by lia,sv,by lia,fun c=>?_,fun c d=>?_⟩
   ·refine q2 ⟨bZ t.1 ld.1,fun z=>?_⟩;rw [z,Nm] at t1;rw [t1,ou (by rw [kt.1.1,kl.1.1])] at c;rcases c with c | ⟨p,hp',np⟩
    ·exact c<|Int.mul_fmod_left _ _
    ·have:=(kt.1.2 p hp').1;lia
   ·have z:e (bZ t.1 ld.1)=0:=Ld fun n=>t4 n c
    rw [z,Nm] at t1;rw [HB,O4] at l2;have ed:(getM D (bZ t.1 ld.1)).fdiv ld.2=t.2:=by rw [t1];exact Int.mul_fdiv_cancel _ kl.2.1
    rw [ed,ou (by rw [kt.1.1,kl.1.1])];refine ⟨fun z=>by lia,fun _=>⟨kt.2.1,kt.2.2.mono<|by decide,fun u hu'=>hkz t mt u hu',qi,by rw [eq];simp,fun r=>?_,?_⟩⟩
    ·rw [rP,g,uq];generalize t.2*lin (dz t.1 r) vs=X;lia
    ·have:=yc t.1 t.2 vs D
     rw [HB,O4];lia
 ·rintro ⟨qr,eq,g,_⟩;rcases List.eq_nil_or_concat qr with rfl | ⟨qi,t,rfl⟩
  ·rw [Rn] at eq;rw [<-eq];exact q1 fun r=>by have:=g r;rw [Ec,Int.zero_add] at this;rw [<-this];rfl
  ·rw [List.concat_eq_append] at *;exact absurd rfl (top eq g).2.1
theorem zf {x:Int}{N:Gh->Prop}(e:h.c n=Mk (.dtt (G9 ts)))(hz:ts.length<=30000)(q:∀ g:Gh,g.c n=Mk (.dtt (G9 (jC ts k x)))->(∀ m,m≠n->g.c m=h.c m)->g.nx=h.nx->N g):oh (.loc n) (.tup (k.map .int)) (.int x) h N:=by
 unfold oh;rw [vR];dsimp only;rw [e];dsimp only;refine gK.mk (Cg (m:=30001) (by unfold G9;rw [Cm];lia)<|by decide) ?_;rw [JW];exact q _ (Bk _ _ _) (fun _ e=>qP e) rfl
theorem adY (hv:Z[0]?=Mk (Mk (.loc n)))(ec:h.c n=Mk (.dtt (G9 ts)))(hz:ts.length<=30000)(hs:wZ (ts.map (·.1)))
  (q:∀ ks:List (List Int),ks.Perm (ts.map (·.1))->ks.Pairwise (· < ·)->Q (.lst ((xM ts ks).map Cw)) h) :
  JN ow1 [0] (Jj (Fz z9 (aA (aH 0) aY))) (dH (BJ Ii (BJ Ji (aH 1) (aH 0)) (mC (.int 0)))) (dW (aA (aH 0) (aA (BJ Ji (aH 1) (aH 0)) aY))) Z h Q:=by
 have eb:tM [0] Z = [Mk (.loc n)]:=by unfold tM;rw [Bf,hv];rfl
 refine tV<|pX<|dO<|ao<|aq hv<|aD ?_
 show (match h.c n with
  | some (.dtt kvs)=>wZ (kvs.map (·.1))/\∀ ks:List (List Int),ks.Perm (kvs.map (·.1))->ks.Pairwise (· < ·)->_
  | _=>False)
 rw [ec];have ek:(G9 ts).map (·.1)=ts.map (·.1):=by unfold G9;rw [Ho];rfl
 refine ⟨by rw [ek];exact hs,fun ks pk sk=>?_⟩;rw [ek] at pk;have q:=q ks pk sk;have lk:ks.length=ts.length:=by rw [pk.length_eq,Cm]
 refine CP (ws:=ks.map fun k=>.tup<|k.map .int) (o:=YK) rfl<|gK.mk (Cg (m:=30000) (by rw [Cm];lia)<|by decide) ?_
 refine jL (fun i acc h'=>h'=h/\acc=(xM ts<|ks.take i).map Cw) ?_ ?_ ⟨rfl,rfl⟩
 ·rintro i w acc h' N hN e ⟨rfl,rfl⟩;rw [Hi] at e;cases qe:ks[i]? with
  | none=>rw [qe] at e;cases e
  | some k=>
   rw [qe] at e;cases e;have mk:=pk.mem_iff.mp (O2 qe);refine ⟨[.tup<|k.map .int],rfl,?_⟩;rw [eb];have eo:xM ts (ks.take (i+1))=xM ts (ks.take i)++([(k,getM ts k)].filter fun t:Tm=>decide (t.2≠0)):=by
    unfold xM;rw [JC,qe,Em,List.filter_append];rfl
   refine bJ<|aL<|aL<|aq rfl<|aq rfl<|Ka ec mk<|bA<|Bg<|m9 ?_
   refine Wt (fun ne=>?_) fun ne=>?_
   ·refine aZ<|ao<|aq rfl<|ao<|aL<|aq rfl<|aq rfl<|Ka ec mk<|aD<|aV rfl ?_
    refine hN _ _ ⟨rfl,?_⟩;rw [eo,QV,if_pos (by simpa using ne),Em];rfl
   ·refine hN _ _ ⟨rfl,?_⟩;rw [eo,QV,if_neg (by simpa using ne)];simp
 ·rintro acc h' ⟨rfl,rfl⟩;rw [Cm,Jb];exact q
def Kv (c0:Bd):Prop:=∀ {h:Gh} {n:Nat} {ts:List Tm} {Q:WK} {E:CN},h.c n=Mk (.dtt (G9 ts))->ts.length<=30000->wZ (ts.map (·.1))->(∀ rs:List Tm,wM ts rs->Q (BX rs) h)->c0 [.loc n] h Q E
theorem aaI:Kv jw:=by
 intro h n ts Q E ec hz hs q;unfold jw;refine jm rfl (Z:=[Mk<|.loc n]) rfl<|cg<|dO<|ao<|adY rfl ec hz hs fun ks pk sk=>aD<|pZ<|q _ ⟨ks,pk,sk,rfl⟩
theorem Kv.x (h:Kv c0):YH c0:=fun e z s q=>h e (by lia) s fun rs ⟨ks,pk,sk,er⟩=>by rw [er];exact q ks pk sk
theorem adt {j:Nat}(hi:Z[i]?=Mk (Mk (.tup (k.map .int))))(hj:Z[j]?=Mk (Mk (.tup (l.map .int))))(hz:k.length<=8)(hl:k.length=l.length)(q:Q (.tup ((bZ k l).map .int)) h):
  Fz gQ (aA (JN (Pj 2) [] (Q0 (aA (aH i) (aA (aH j) aY))) Dz (BJ bL (aH 0) (aH 1))) aY) Z h Q:=by
 have lz:∀ {as bs:List W},(lR as bs).length<=as.length:=fun {as bs}=>by
  induction as generalizing bs with
  | nil=>exact Bp _
  | cons a as ih=>cases bs with
   | nil=>exact IK _
   | cons b bs=>exact Nat.succ_le_succ ih
 have ez:(lR (k.map W.int) (l.map .int)).length=k.length:=by
  clear q hi hj lz hz;induction k generalizing l with
  | nil=>rfl
  | cons a k ih=>cases l with
   | nil=>simp at hl
   | cons b l=>exact congrArg (· + 1) (ih (by simpa using hl))
 refine dO<|ao<|tV<|Dj<|ao<|aq hi<|ao<|aq hj<|aD<|Px (as:=k.map .int) (bs:=l.map .int) rfl rfl rfl ?_
 refine gK.mk (Cg (m:=1000) (by rw [ez];lia)<|by decide) ?_;refine jL (fun i acc g=>g=h/\acc=(bZ (k.take i)<|l.take i).map .int) ?_ ?_ ⟨rfl,rfl⟩
 ·rintro i w acc g N hN e ⟨rfl,rfl⟩;obtain ⟨a,b,ea,eb,rfl⟩:=mY e;obtain ⟨p,ep,rfl⟩:=ints_get ea;obtain ⟨r,er,rfl⟩:=ints_get eb;refine ⟨[.int p,.int r],rfl,jX<|jV<|aL<|aq rfl<|aq rfl<|dU<|hN _ _ ⟨rfl,?_⟩⟩;rw [JC,JC,ep,er];show _=(bZ (k.take i++[p]) (l.take i++[r])).map W.int;rw [nU (by rw [JV,JV,hl]),Em];rfl
 ·rintro acc g ⟨rfl,rfl⟩;rw [ez,Jb,hl,Jb];exact aD<|jc q
abbrev ho (us vs:List Tm)(h:Gh)(w:W)(r:Sw):Sw:=Mk (BX us)::Mk (BX vs)::Mk (.loc h.nx)::Mk w::r
def Mt (L:Nat)(us:List Tm):Prop:=us.length<=40/\(us.map (·.1)).Pairwise (· < ·)/\∀ t∈us,t.1.length=L/\t.2≠0/\Sm 300 t.2/\∀ p∈t.1,0<=p/\p<=40
theorem Mt.kb (h:Mt L us):∀ t∈us,t.1.length=L/\∀ p∈t.1,0<=p/\p<=40:=fun t ht=>⟨(h.2.2 t ht).1,(h.2.2 t ht).2.2.2⟩
theorem acg (us vs:List Tm)(r:List Int):getM (p7 us vs) r=pr us vs r:=by
 refine Ba (P:=fun us=>getM (p7 us vs) r=pr us vs r) rfl (fun us t ih=>?_) us;rw [iz,abI,ih,uq];rfl
def PdX (c0:Bd):Prop:=∀ {h:Gh} {us vs:List Tm} {L:Nat} {Q:WK} {E:CN},Mt L us->Mt L vs->L<=8->(∀ rs (h':Gh),wM (p7 us vs) rs->Ge h h'->Q (BX rs) h')->c0 [BX us,BX vs] h Q E
theorem W6 (hod:Kv od):PdX (jq od):=by
 intro h us vs L Q E hu hv hL q;have lu:=hu.1;have lv:=hv.1;have ku:=hu.kb;have kv:=hv.kb;have kD:=vY ku kv;have hz:us.length*vs.length<=1600:=Nat.mul_le_mul lu lv;unfold jq;refine jm rfl (Z:=[Mk<|BX us,Mk<|BX vs,YK,YK,YK,YK,YK,YK]) rfl ?_;refine aM<|bx<|ur fun g eg og xg=>?_
 refine nV<|bY<|aM ?_
 refine pC (ws:=us.map Cw) rfl ?_;refine iB (fun i Z h'=>∃ s3 s4 s5 s6 s7:Option W,Z = [Mk<|BX us,Mk<|BX vs,Mk<|.loc h.nx,s3,s4,s5,s6,s7]/\h'.c h.nx=Mk (.dtt<|G9<|p7 (us.take i) vs)/\h'.nx=h.nx+1/\∀ n,n≠h.nx->h'.c n=h.c n) ?_ ?_ ⟨YK,YK,YK,YK,YK,rfl,eg,xg,og⟩
 ·rintro i w Z h' N hN e ⟨s3,s4,s5,s6,s7,rfl,e2,x2,o2⟩;rw [Hi] at e;cases qe:us[i]? with
  | none=>rw [qe] at e;cases e
  | some t=>
   rw [qe] at e;cases e;have mt:=O2 qe;have zi:(us.take i).length*vs.length<=1600:=Cg (Nat.mul_le_mul_right _ (by rw [JV];lia)) hz;have ldi:=Cg (sW (us.take i) vs) zi;refine lF rfl rfl<|dZ ?_
   refine nV<|dZ ?_
   refine nV<|qJ ?_
   refine pC (ws:=vs.map Cw) rfl ?_;refine iB (fun j Z h'=>∃ s5 s6 s7:Option W,Z = [Mk<|BX us,Mk<|BX vs,Mk<|.loc h.nx,Mk<|.tup<|t.1.map .int,Mk<|.int t.2,s5,s6,s7]/\h'.c h.nx=Mk (.dtt<|G9<|FP t.1 t.2 (vs.take j)<|p7 (us.take i) vs)/\h'.nx=h.nx+1/\∀ n,n≠h.nx->h'.c n=h.c n) ?_ ?_ ⟨s5,s6,s7,rfl,e2,x2,o2⟩
   ·rintro j w Z h2 N2 hN2 e' ⟨s5,s6,s7,rfl,e3,x3,o3⟩;rw [Hi] at e';cases qf:vs[j]? with
    | none=>rw [qf] at e';cases e'
    | some s=>
     rw [qf] at e';cases e'
     have ms:=O2 qf;have lj:=zY t.1 t.2 (vs.take j) (p7 (us.take i) vs);rw [JV] at lj;refine lF rfl rfl<|dZ ?_
     refine nV<|dZ ?_
     refine nV<|qJ ?_
     refine aM<|bx<|adt rfl rfl (by rw [(ku t mt).1];exact hL) (by rw [(ku t mt).1,(kv s ms).1]) ?_
     refine nV<|bY ?_
     refine bx<|aL<|Ku<|aq rfl<|Gx e3<|ao<|aq rfl<|ao<|bA<|aD<|Ue e3 ?_
     refine aL<|aq rfl<|aq rfl<|oO (.of (hu.2.2 t mt).2.2.1 (hv.2.2 s ms).2.2.1 (by decide) (by decide))<|dU<|qX<|aq rfl<|aq rfl ?_
     refine zf e3 (by lia) fun g2 a1 a2 a3=>bY<|hN2 _ _ ⟨_,_,_,rfl,?_,by lia,fun n hn=>by rw [a2 n hn];exact o3 n hn⟩
     rw [zau qf];exact a1
   ·rintro Z h2 ⟨s5,s6,s7,rfl,e3,x3,o3⟩;rw [Cm,Jb] at e3;refine bY<|hN _ _ ⟨_,_,_,_,_,rfl,?_,x3,o3⟩
    rw [zaz qe];exact e3
 ·rintro Z h' ⟨s3,s4,s5,s6,s7,rfl,e2,x2,o2⟩;rw [Cm,Jb] at e2;have ge:Ge h h':=⟨by lia,fun n hn=>o2 n (by lia)⟩
  have ld:=sW us vs;refine bY ?_;unfold j9;refine cg<|aQ<|ao<|aq rfl<|aD ?_
  exact hod e2 (by lia) (jN (L:=L) (xZ us vs) fun t ht=>(kD t.1<|Cr.mpr ⟨t,ht,rfl⟩).1) fun rs hr=>pZ<|q rs h' hr ge
theorem zO:∀ us:List Tm,lX (us.map Cw)=Mk (G9 us)
 | []=>rfl
 | t::us=>by
  show (match Ke (.tup (t.1.map W.int)) with
   | some ks=>(lX (us.map Cw)).map ((ks,W.int t.2)::·)
   | none=>YK)=_
  rw [vR,zO us];rfl
theorem Uq (nd:(us.map (·.1)).Nodup)(x:∀ g:Gh,g.c h.nx=Mk (.dtt (G9 us))->(∀ n,n≠h.nx->g.c n=h.c n)->g.nx=h.nx+1->Q (.loc h.nx) g):yK [BX us] h Q:=by
 show (match lX (us.map Cw) with
  | some ps=>(ps.map (·.1)).Nodup/\Q (.loc h.nx) (h.new (.dtt ps))
  | none=>False)
 rw [zO];refine ⟨?_,x _ (DP _ _) (fun _ e=>vP e) rfl⟩;have:(G9 us).map (·.1)=us.map (·.1):=by unfold G9;rw [Ho];rfl
 rw [this];exact nd
theorem acJ {h':Gh}(keep:∀ n,n<h.nx->h'.c n=h.c n)(q:Q (BX us) h):vX true h (BX us) h' Q:=
 ⟨fun n c hn ec=>by rw [keep n hn];exact ec,.inl ⟨Sh _ _,q⟩⟩
def tG (f:Int)(us vs:List Tm):List Tm:=vs.foldl (fun D t=>FZ D t.1 (f*t.2)) us
theorem iC (f:Int)(us vs:List Tm)(t:Tm):tG f us (vs++[t])=FZ (tG f us vs) t.1 (f*t.2):=by unfold tG;rw [Qg];rfl
theorem xY (h:(us.map (·.1)).Nodup):((tG f us vs).map (·.1)).Nodup:=by
 refine Ba (P:=fun vs=>((tG f us vs).map (·.1)).Nodup) h (fun vs t ih=>?_) vs;rw [iC];exact uZ ih
theorem rA (f:Int)(us vs:List Tm):(tG f us vs).length<=us.length+vs.length:=by
 refine Ba (P:=fun vs=>(tG f us vs).length<=us.length+vs.length) (Bp _) (fun vs t ih=>?_) vs;rw [iC,HB,O4];exact Cg (rM ..)<|by lia
theorem abm (f:Int)(us:List Tm)(r:List Int)(vs:List Tm):getM (tG f us vs) r=getM us r+f*lin (fun k=>if k=r then 1 else 0) vs:=by
 refine Ba (P:=fun vs=>getM (tG f us vs) r=getM us r+f*lin (fun k=>if k=r then 1 else 0) vs) (by show getM us r=getM us r+f*0;lia) (fun vs t ih=>?_) vs;rw [iC,z8,FW,ih];unfold lin;simp only [Bf,Hq,Nr,List.sum_nil,Nm];by_cases c:t.1=r
 ·rw [if_pos c.symm,if_pos c];grind
 ·rw [if_neg (Hf c),if_neg c];grind
theorem v7:∀ k∈(tG f us vs).map (·.1),k∈us.map (·.1)\/k∈vs.map (·.1):=by
 refine Ba (P:=fun vs=>∀ k∈(tG f us vs).map (·.1),k∈us.map (·.1)\/k∈vs.map (·.1)) (fun k h=>.inl h) (fun vs t ih k hk=>?_) vs;rw [iC,zV] at hk;rw [Em,Jr];have hk:k∈(tG f us vs).map (·.1)\/k=t.1:=by
  split at hk
  ·exact .inl hk
  ·rcases Jr.mp hk with hk | hk
   ·exact .inl hk
   ·exact .inr<|Fd.mp hk
 rcases hk with hk | hk
 ·rcases ih k hk with h | h
  ·exact .inl h
  ·exact .inr<|.inl h
 ·exact .inr<|.inr<|by simp [hk]
theorem abB (e:vs[i]?=Mk t):tG f us (vs.take (i+1))=FZ (tG f us (vs.take i)) t.1 (f*t.2):=by
 rw [JC,e];exact iC ..
def AdX (c0:Bd):Prop:=∀ {h:Gh} {us vs:List Tm} {L:Nat} {Q:WK} {E:CN},(us.map (·.1)).Nodup->us.length<=5000->vs.length<=1000->(∀ t∈us,t.1.length=L)->(∀ t∈vs,t.1.length=L)->(∀ rs,wM (tG 1 us vs) rs->Q (BX rs) h)->c0 [BX us,BX vs] h Q E
theorem acw (hod:Kv od):AdX (oE od):=by
 intro h us vs L Q E nd lu lv ku kv q;unfold oE;refine qH rfl (Z:=[Mk<|BX us,Mk<|BX vs,YK,YK,YK]) rfl ?_;refine aM<|bx<|dO<|ao<|aq rfl<|aD<|Uq nd fun g eg og xg=>?_
 refine nV<|bY<|aM ?_
 refine pC (ws:=vs.map Cw) rfl ?_;refine iB (fun i Z h'=>∃ s3 s4:Option W,Z = [Mk<|BX us,Mk<|BX vs,Mk<|.loc h.nx,s3,s4]/\h'.c h.nx=Mk (.dtt<|G9<|tG 1 us<|vs.take i)/\h'.nx=h.nx+1/\∀ n,n≠h.nx->h'.c n=h.c n) ?_ ?_ ⟨YK,YK,rfl,eg,xg,og⟩
 ·rintro i w Z h' N hN e ⟨s3,s4,rfl,e2,x2,o2⟩;rw [Hi] at e;cases qe:vs[i]? with
  | none=>rw [qe] at e;cases e
  | some t=>
   rw [qe] at e;cases e;have lj:=rA 1 us (vs.take i);rw [JV] at lj;refine lF rfl rfl<|dZ ?_
   refine nV<|dZ ?_
   refine nV<|qJ ?_
   refine bx<|aL<|Ku<|aq rfl<|Gx e2<|ao<|aq rfl<|ao<|bA<|aD<|Ue e2 ?_
   refine aq rfl<|dU<|qX<|aq rfl<|aq rfl ?_
   refine zf e2 (by lia) fun g2 a1 a2 a3=>bY<|hN _ _ ⟨_,_,rfl,?_,by lia,fun n hn=>by rw [a2 n hn];exact o2 n hn⟩
   rw [abB qe,Int.one_mul];exact a1
 ·rintro Z h' ⟨s3,s4,rfl,e2,x2,o2⟩;rw [Cm,Jb] at e2;refine bY ?_;unfold oN;refine cg<|aQ<|ao<|aq rfl<|aD ?_
  have kl:∀ t∈tG 1 us vs,t.1.length=L:=fun t ht=>by
   rcases v7 t.1 (Cr.mpr ⟨t,ht,rfl⟩) with m | m
   ·obtain ⟨u,hu,e⟩:=Cr.mp m;rw [<-e];exact ku u hu
   ·obtain ⟨u,hu,e⟩:=Cr.mp m;rw [<-e];exact kv u hu
  refine hod e2 (by have:=rA 1 us vs;lia) (jN (L:=L) (xY nd) kl) fun rs hr=>pZ<|acJ (fun n hn=>?_)<|q rs hr
  exact o2 n<|by lia
def NpX (c0:Bd):Prop:=∀ {h:Gh} {us:List Tm} {Q:WK} {E:CN},E ⟨"NoPart",[]⟩ h->c0 [BX us,BX []] h Q E
theorem aby {pk un pt po tk:Bd}:NpX (jY pk un pt po tk):=by
 intro h us Q E q;unfold jY;refine qH rfl (Z:=[Mk<|BX us,Mk<|BX [],YK,YK,YK,YK,YK,YK]) rfl ?_;refine aM<|cB<|gF<|eX<|aq rfl<|Ae (b:=false) rfl ?_
 exact sX<|tE q
theorem WF.mt (h:WF L 101 us)(hl:us.length<=40)(s:(us.map (·.1)).Pairwise (· < ·))(p3:∀ t∈us,∀ p∈t.1,p<=((3:Nat):Int)):Mt L us:=
 ⟨hl,s,fun t ht=>⟨(h t ht).1,(h t ht).2.1,(h t ht).2.2.1.mono (by decide),fun p hp=>⟨((h t ht).2.2.2 p hp).1,by have:=p3 t ht p hp;lia⟩⟩⟩
theorem K7 (c:Int):∀ k:Nat,(BK k [W.int c]).flatten=(BK k c).map .int
 | 0=>rfl
 | k+1=>by rw [Oj,Oj,Qf,K7 c k];rfl
theorem Qa {c:Int}(hL:L<=8)(q:Q (.tup ((BK L c).map .int)) h):Ga (.tup [.int c]) (.int L) h Q:=by
 have eL:(L:Int).toNat=L:=by lia
 refine ⟨⟨by lia,by lia,by rw [eL];simp;lia⟩,?_⟩;rw [eL,K7];exact q
theorem eq_nil {s:List Tm}(k:Q (.bl (decide (s=[]))) h):Jv (BX s) (.tup []) h Q:=by
 show GF (DW 30 (BX s)&&DW 30 (.tup [])) (Q (.bl (Cp (BX s) (.tup []))) h) False;rw [Mp 26];have:Cp (BX s) (.tup [])=decide (s=[]):=by
  cases s with
  | nil=>rfl
  | cons t s=>simp [BX,Cp,pU]
 rw [this];exact k
theorem jz (x:Int)(n:Nat)(hn:0<n):∃ m:Nat,x.fmod n=(m:Int)/\m<n:=by
 have h1:=Int.fmod_nonneg_of_pos x (b:=n) (by lia);have h2:=Int.fmod_lt_of_pos x (b:=n) (by lia);exact ⟨(x.fmod n).toNat,by lia,by lia⟩
def YL (c0:Bd):Prop:=∀ {h:Gh} {ns:List Int} {L:Nat} {Q:WK} {E:CN},L<=8->(∀ (vs:List Tm) (h':Gh),Mt L vs->vs≠[]->vs.length<=6->(∀ t∈vs,Sm 101 t.2/\∀ p∈t.1,p<=3)->Ge h h'->Q (BX vs) h')->c0 [.kls (ns.map .int),.int (L:Int)] h Q E
theorem abb {ce su:Bd}(hce:lM ce)(hsu:Vp su):YL (lK ce su):=by
 intro h ns L Q E hL q;unfold lK;refine jm rfl (Z:=[Mk<|.kls<|ns.map .int,Mk<|.int L,YK]) rfl ?_;refine aM<|bx<|aQ<|ao<|aq rfl<|ao<|bA<|ao<|aq rfl<|ao<|aL<|bA<|aL<|aQ<|ao<|aq rfl<|ao<|bA<|aD<|hce (by decide) ?_
 refine bA<|cU (by decide)<|dU<|ao<|bA<|aD ?_
 obtain ⟨m,em,lm⟩:=jz (ns.getD (2:Int).toNat 0) 6 (by decide);have e1:(1:Int)+(ns.getD (2:Int).toNat 0).fmod 6=((m+1:Nat):Int):=by
  have:(ns.getD (2:Int).toNat 0).fmod 6=(m:Int):=em
  lia
 rw [e1];refine hsu (mo:=3) (by decide) (by decide) hL (by lia) (by decide) fun us h' wf lu su p3 ge=>?_;refine nV<|bY ?_
 cases us with
 | cons t us=>
  refine aM<|cB<|bJ<|aL<|aq rfl<|aZ<|aD<|aV rfl ?_
  refine eq_nil<|m9 ?_
  rw [decide_eq_false (by simp)];refine pA<|bO<|bY ?_
  unfold mF;exact cg<|aq rfl<|pZ<|q _ h' (wf.mt (by lia) su p3) (by simp) (by lia) (fun u hu=>⟨(wf u hu).2.2.1,fun p hp=>p3 u hu p hp⟩) ge
 | nil=>
  refine aM<|cB<|bJ<|aL<|aq rfl<|aZ<|aD<|aV rfl ?_
  refine eq_nil<|m9 ?_
  rw [decide_eq_true rfl];refine sX ?_;refine cg<|aZ<|ao<|aZ<|ao<|aL<|aZ<|ao<|bA<|aD<|aV rfl<|aq rfl<|Qa hL ?_
  refine ao<|aL<|bA<|aL<|bA<|aL<|aL<|aQ<|ao<|aq rfl<|ao<|bA<|aD<|hce (by decide) ?_
  refine bA<|jl ⟨by decide,64,by decide,.lit rfl⟩<|bA<|cU (by decide) ?_
  obtain ⟨b,eb,lb⟩:=jz ((ns.getD (2:Int).toNat 0).fdiv 6) 2 (by decide);have eb:((ns.getD (2:Int).toNat 0).fdiv 6).fmod 2=(b:Int):=eb;rw [eb];have sb:Sm 64 (b:Int):=(iy (n:=20) (by lia) (by lia)).mono (by decide);refine oO (.of (.lit rfl) sb (by decide)<|by decide)<|jj<|aD<|aV rfl<|aD<|aV rfl<|pZ ?_
  refine q [(BK L 0,1 - 2*(b:Int))] h' ⟨by simp,by simp,fun t ht=>?_⟩ (by simp) (by simp) (fun t ht=>?_) ge
  ·rw [Fd.mp ht];refine ⟨by simp,by dsimp only;lia,(iy (n:=20) (by dsimp only;lia) (by dsimp only;lia)).mono (by decide),fun p hp=>?_⟩;have:=List.eq_of_mem_replicate hp
   lia
  ·rw [Fd.mp ht];refine ⟨(iy (n:=20) (by dsimp only;lia) (by dsimp only;lia)).mono (by decide),fun p hp=>?_⟩;have:=List.eq_of_mem_replicate hp
   lia
def Pg (a:Int)(k:List Int):List Int:=(k.getD 0 0).fmod a::k.drop 1
def rD (a:Int)(us:List Tm):List Tm:=us.foldl (fun D t=>jC D (Pg a t.1) t.2) []
theorem EY (a:Int)(us:List Tm)(t:Tm):rD a (us++[t])=jC (rD a us) (Pg a t.1) t.2:=by unfold rD;rw [Qg];rfl
theorem aeg {a:Int}(e:us[i]?=Mk t):rD a (us.take (i+1))=jC (rD a (us.take i)) (Pg a t.1) t.2:=by
 rw [JC,e];exact EY ..
theorem S6 (a:Int)(us:List Tm):(∀ u∈rD a us,∃ t∈us,u=(Pg a t.1,t.2))/\((rD a us).map (·.1)).Nodup/\(rD a us).length<=us.length:=by
 refine Ba (P:=fun us=>(∀ u∈rD a us,∃ t∈us,u=(Pg a t.1,t.2))/\((rD a us).map (·.1)).Nodup/\(rD a us).length<=us.length) ⟨fun _ h=>(nomatch h),Pr,Bp _⟩ (fun us t ⟨i1,i2,i3⟩=>?_) us;rw [EY];refine ⟨fun u hu=>?_,?_,?_⟩
 ·unfold jC at hu;split at hu
  ·obtain ⟨v,hv,ev⟩:=Cr.mp hu;split at ev
   ·rename_i c;exact ⟨t,by simp,by rw [<-ev,c]⟩
   ·obtain ⟨x,hx,ex⟩:=i1 v hv;exact ⟨x,Jc _ hx,by rw [<-ev,ex]⟩
  ·rcases Jr.mp hu with hu | hu
   ·obtain ⟨x,hx,ex⟩:=i1 u hu;exact ⟨x,Jc _ hx,ex⟩
   ·exact ⟨t,by simp,Fd.mp hu⟩
 ·unfold jC;split
  ·rw [keys_map];exact i2
  ·rename_i c;rw [Em,SX];refine ⟨i2,by simp,fun x hx y hy e=>c ?_⟩;rw [Bf,Hq,Fd] at hy;obtain ⟨z,hz,ez⟩:=Cr.mp hx;exact P0.mpr ⟨z,hz,decide_eq_true<|by rw [ez,e,hy]⟩
 ·have:=rM (rD a us) (Pg a t.1) t.2
  rw [HB,O4];lia
theorem at0 (w:Int)(ws:List Int):JQ ((w::ws).map W.int) 0=Mk (.int w):=by
 unfold JQ Mq;simp
def RsX (c0:Bd):Prop:=∀ {h:Gh} {ns:List Int} {L:Nat} {vs:List Tm} {ld:Tm} {Q:WK} {E:CN},L<=8->(∃ vi,vs=vi++[ld])->ld.1.length=L->(∀ p∈ld.1,0<=p) ->
 (∀ (rs:List Tm) (h':Gh),Ge h h'->(rs=[]\/rs.length<=4/\(rs.map (·.1)).Pairwise (· < ·)/\0<L/\∀ t∈rs,t.1.length=L/\t.2≠0/\Sm 101 t.2/\(∀ p∈t.1,0<=p/\p<=40)/\t.1.getD 0 0<ld.1.getD 0 0)->Q (BX rs) h')->c0 [.kls (ns.map .int),.int (L:Int),BX vs] h Q E
theorem Wg {ce su:Bd}(hce:lM ce)(hod:Kv od)(hsu:Vp su):RsX (sG ce od su):=by
 intro h ns L vs ld Q E hL ev ll l0 q;unfold sG;refine jm rfl (Z:=[Mk<|.kls<|ns.map .int,Mk<|.int L,Mk<|BX vs,YK,YK,YK]) rfl ?_;have no:Q (BX []) h:=q [] h (.refl h) (.inl rfl);refine aM<|cB<|mU<|bJ<|aL<|aq rfl<|bA<|Df<|m9 ?_
 refine G7 (fun _=>sX<|cg<|aZ<|aD<|aV rfl<|pZ no) fun c=>?_;obtain ⟨a,l',el⟩:∃ a l',ld.1=a::l':=QD fun e=>by rw [e] at ll;simp at ll;lia
 have a0:0<=a:=l0 a (by rw [el];simp);have hd:∀ {h:Gh} {Q:WK},Q (.int a) h->Fy (.tup (ld.1.map .int)) (.int 0) h Q:=fun {h Q} x=>by rw [el];exact eO (ws:=(a::l').map .int) rfl (at0 _ _) x
 refine bJ<|aL<|aL<|aL<|aL<|aq rfl<|JM<|bA<|FT ?_
 refine wI ev<|bA<|eO (x:=Cw ld) (i:=0) (w:=.tup (ld.1.map .int)) rfl rfl<|bA<|hd<|bA<|Df<|m9 ?_
 refine G7 (fun _=>cg<|aZ<|aD<|aV rfl<|pZ no) fun ca=>bO<|bY ?_
 unfold qK;refine aM<|bx<|ur fun g eg og xg=>?_
 refine nV<|bY<|aM ?_
 refine vA<|pX<|aQ<|ao<|aq rfl<|ao<|bA<|ao<|aq rfl<|ao<|aL<|aQ<|ao<|aq rfl<|ao<|bA<|aD<|hce (by decide) ?_
 refine bA<|cU (by decide)<|ao<|bA<|aD ?_
 obtain ⟨m,em,lm⟩:=jz (ns.getD (3:Int).toNat 0) 5 (by decide);have em:(ns.getD (3:Int).toNat 0).fmod 5=(m:Int):=em;rw [em];refine hsu (mo:=3) (by decide) (by decide) hL (by lia) (by decide) fun us h1 wf lu su p3 ge=>?_;have lt:h.nx<g.nx:=by lia
 refine CP (ws:=us.map Cw) (o:=YK) rfl<|vQ ?_
 refine iB (fun i Z h'=>∃ s4 s5:Option W,Z = [Mk<|.kls<|ns.map .int,Mk<|.int L,Mk<|BX vs,Mk<|.loc h.nx,s4,s5]/\h'.c h.nx=Mk (.dtt<|G9<|rD a<|us.take i)/\h1.nx<=h'.nx/\∀ n,n<h.nx->h'.c n=h.c n) ?_ ?_ ⟨YK,YK,rfl,by rw [ge.2 _ lt];exact eg,Bp _,fun n hn=>by rw [ge.2 n<|by lia];exact og n (by lia)⟩
 ·rintro i w Z h' N hN e ⟨s4,s5,rfl,e2,x2,o2⟩;rw [Hi] at e;cases qe:us[i]? with
  | none=>rw [qe] at e;cases e
  | some t=>
   rw [qe] at e;cases e;have mt:=O2 qe;have lt':=(wf t mt).1;have lj:=(S6 a (us.take i)).2.2;rw [JV] at lj;obtain ⟨p0,ps,ep⟩:∃ p0 ps,t.1=p0::ps:=QD fun e=>by rw [e] at lt';simp at lt';lia
   refine lF rfl rfl<|dZ ?_
   refine nV<|dZ ?_
   refine nV<|qJ ?_
   refine bx<|aq rfl<|qX<|aq rfl<|aL<|aZ<|ao<|aL<|aL<|aq rfl<|bA<|eO (x:=.tup (t.1.map .int)) (i:=0) (w:=.int p0) rfl (by rw [ep];exact at0 _ _) ?_
   refine aL<|aL<|aL<|aq rfl<|JM<|bA<|FT ?_
   refine wI ev<|bA<|eO (x:=Cw ld) (i:=0) (w:=.tup (ld.1.map .int)) rfl rfl<|bA<|hd<|cU ca<|aD<|aV rfl ?_
   refine Jg<|aq rfl<|rJ<|bA<|VB<|pQ<|J6 ?_
   have ec:=zq (t.1.map W.int) 1;have ec:Ac (t.1.map W.int) (Mk 1) YK=(t.1.map W.int).drop 1:=ec;rw [ec];refine zaO (by simp;lia) ?_;have ek:[W.int (p0.fmod a)]++(t.1.map W.int).drop 1=(Pg a t.1).map .int:=by rw [ep];rfl
   rw [ek];refine zf e2 (by lia) fun g2 a1 a2 a3=>bY<|hN _ _ ⟨_,_,rfl,?_,by lia,fun n hn=>by rw [a2 n<|by lia];exact o2 n hn⟩
   rw [aeg qe];exact a1
 ·rintro Z h' ⟨s4,s5,rfl,e2,x2,o2⟩;rw [Cm,Jb] at e2;refine bY ?_;unfold qT;obtain ⟨r1,r2,r3⟩:=S6 a us;have kl:∀ t∈rD a us,t.1.length=L/\t.2≠0/\Sm 101 t.2/\(∀ p∈t.1,0<=p/\p<=40)/\t.1.getD 0 0<a:=fun t ht=>by
   obtain ⟨u,hu,eu⟩:=r1 t ht;have w:=wf u hu;have lu':=w.1;obtain ⟨p0,ps,ep⟩:∃ p0 ps,u.1=p0::ps:=QD fun e=>by rw [e] at lu';simp at lu';lia
   have m1:=Int.fmod_nonneg_of_pos p0 (b:=a) (by lia);have m2:=Int.fmod_lt_of_pos p0 (b:=a) (by lia);have pw:=w.2.2.2;have p3':=p3 u hu;rw [ep] at lu' pw p3';have m3:p0.fmod a<=p0:=by
    have h0:=(pw p0 (by simp)).1;rw [Int.fmod_eq_emod_of_nonneg _ a0];have:=Int.emod_add_mul_ediv p0 a
    have:=Int.mul_nonneg a0 (Int.ediv_nonneg h0 a0)
    lia
   rw [eu];unfold Pg;rw [ep];refine ⟨by simpa using lu',w.2.1,w.2.2.1,fun p hp=>?_,m2⟩;rcases El.mp hp with rfl | hp
   ·have:=p3' p0 (by simp)
    exact ⟨m1,by show p0.fmod a<=40;lia⟩
   ·have h1:=pw p (Hs _ hp);have h2:=p3' p (Hs _ hp);exact ⟨h1.1,by lia⟩
  refine cg<|aQ<|ao<|aq rfl<|aD ?_
  refine hod e2 (by lia) (jN (L:=L) r2 fun t ht=>(kl t ht).1) fun rs hr=>pZ<|q rs h' ⟨by have:=ge.1;lia,o2⟩ ?_
  obtain ⟨ks,pk,sk,rfl⟩:=hr;have hin:=fun u hu=>yM (u:=u) r2 (fun k hk=>pk.mem_iff.mp hk) hu
  refine .inr ⟨?_,nZ sk,by lia,fun t ht=>?_⟩
  ·have:=tR (rD a us) ks
   rw [pk.length_eq,Cm] at this;lia
  ·have k:=kl t (hin t ht).1;exact ⟨k.1,k.2.1,k.2.2.1,k.2.2.2.1,by rw [el];exact k.2.2.2.2⟩
theorem Vj {b:Bool}(x:Q (.int (if b then 1 else 0)) h):Qv [.bl b] h Q:=x
variable {pa : Bd}
theorem Kw {n:Str}{b:Bool}{v:Str}{D:bT}(hv:Z[2]?=Mk (Mk (.exc n)))
  (f1:(Fe n "Nothing"||(Fe n "Stuck"||false))=false) (f2:Fe n "NoPart" = b) (f3:Fe n "TooMuch" = !b) (ev':v=if b then "no part" else "too much") (q:D.rt (.str v) h) :
  bR (lU (Lq (uN (BL (fun n=>((Fe n "Nothing")||((Fe n "Stuck")||false))) (aH 2))) (Bc (uN (BL (fun n=>true) (aH 2))))) (fJ (mC (.str "other"))) dY)
   (bR (lU (dH (BJ Jv (BL (fun n=>(Fe n "NoPart")) (aH 2)) (BL (fun n=>(Fe n "TooMuch")) (aH 2)))) (fJ (mC (.str "other"))) dY)
   (fJ (BJ Fy (Rt (aA (mC (.str "too much")) (aA (mC (.str "no part")) aY))) (Fz Qv (aA (BL (fun n=>(Fe n "NoPart")) (aH 2)) aY))))) D Z h:=by
 refine aM<|cB<|mU<|eX<|nY<|aq hv<|Nz<|Ae (b:=false) (congrArg Mk f1) ?_
 refine pA<|gF<|eX<|nY<|aq hv<|Nz<|Ae (b:=true) rfl ?_
 refine pA<|bO<|bY ?_
 refine aM<|cB<|bJ<|aL<|nY<|aq hv<|Nz<|nY<|aq hv<|Nz ?_
 rw [f2,f3];cases b with
 | true=>
  refine Ou<|m9<|pA<|bO<|bY ?_
  refine cg<|aL<|Gj<|ao<|bA<|ao<|bA<|aD<|aV rfl ?_
  refine dO<|ao<|nY<|aq hv<|Nz<|aD ?_
  rw [f2];refine Vj ?_;exact eO (ws:=[.str "too much",.str "no part"]) rfl rfl<|pZ (by rw [ev'] at q;exact q)
 | false=>
  refine Ou<|m9<|pA<|bO<|bY ?_
  refine cg<|aL<|Gj<|ao<|bA<|ao<|bA<|aD<|aV rfl ?_
  refine dO<|ao<|nY<|aq hv<|Nz<|aD ?_
  rw [f2];refine Vj ?_;exact eO (ws:=[.str "too much",.str "no part"]) rfl rfl<|pZ (by rw [ev'] at q;exact q)
theorem adD (hnp:NpX pa)(q:Q (.str "no part") h):jF pa [BX us,BX []] h Q E:=by
 unfold jF;refine jm rfl (Z:=[Mk<|BX us,Mk<|BX [],YK]) rfl<|aM<|Gu ?_
 refine gR<|aQ<|ao<|aq rfl<|ao<|aq rfl<|aD ?_
 refine hnp ?_;refine Ml (by decide) ?_;exact Kw (n := "NoPart") (b:=true) rfl (by decide) (by decide) (by decide) rfl q
theorem aeV (hT:∀ {Q:WK} {E:CN},(∀ h',Ge h h'->E ⟨"TooMuch",[]⟩ h')->pa [BX us,BX vs] h Q E)(q:∀ h',Ge h h'->Q (.str "too much") h'):jF pa [BX us,BX vs] h Q E:=by
 unfold jF;refine jm rfl (Z:=[Mk<|BX us,Mk<|BX vs,YK]) rfl<|aM<|Gu ?_
 refine gR<|aQ<|ao<|aq rfl<|ao<|aq rfl<|aD ?_
 refine hT fun h' ge=>?_;refine Ml (by decide) ?_;exact Kw (n := "TooMuch") (b:=false) rfl (by decide) (by decide) (by decide) rfl<|q h' ge
theorem K9 {α : Type} [DecidableEq α]:∀ {l m:List α},l.Nodup->(∀ x∈l,x∈m)->l.length<=m.length
 | [],_,_,_=>IK _
 | a::l,m,nd,h=>by
  rw [Ox] at nd;have ma:=h a JK;have:=K9 (l:=l) (m:=m.erase a) nd.2 fun x hx=>(List.mem_erase_of_ne (fun e:x=a=>nd.1 (e ▸ hx))).mpr (h x (Hs _ hx))
  rw [List.length_erase_of_mem ma] at this;have:=List.length_pos_of_mem ma
  rw [Il];lia
def nxr (l:List Int):List Int:=List.zipWith (fun a b=>-a - b) (l++[0]) (0::l)
def row:Nat->List Int
 | 0=>[1]
 | k+1=>nxr (row k)
theorem FQ:∀ k,(row k).length=k+1
 | 0=>rfl
 | k+1=>by
  have:=FQ k
  unfold row nxr;rw [Tv,HB,O4,Il,this];lia
theorem ado:∀ k,k<35->∀ x∈row k,x≠0:=by
 have:((Hz 35).all fun k=>(row k).all fun x=>x != 0)=true:=by decide +kernel
 intro k hk x hx;have h1:=QS.mp this k (Nu.mpr hk);have h2:=QS.mp h1 x hx
 simpa using h2
theorem afg (l:List Int)(b:Nat):(nxr l).getD b 0 = -(l.getD b 0) - (if b=0 then 0 else l.getD (b - 1) 0):=by
 unfold nxr;rw [M9,List.getElem?_zipWith,M9,M9];by_cases c:b<l.length
 ·rw [Nv c,Gg c];cases b with
  | zero=>simp
  | succ b=>rw [List.getElem?_cons_succ,Nat.add_sub_cancel,if_neg (Nat.succ_ne_zero b),Gg (show b<l.length by lia)];rfl
 ·by_cases d:b=l.length
  ·subst d;rw [List.getElem?_concat_length,Ra (Bp _)];cases l with
   | nil=>simp
   | cons x l=>simp
  ·rw [Ra (l:=l++[0]) (by simp;lia),Ra (l:=l) (i:=b) (by lia)];cases b with
   | zero=>lia
   | succ b=>rw [if_neg (by lia),Ra (l:=l) (by lia)];simp
theorem many {c:Nat->Nat->Int}(top:∀ b,c 60 b=0)(rec:∀ a b,c (a+1) b+(if b=0 then 0 else c (a+1) (b - 1))+c a b=if a+1=60/\b=0 then 1 else 0):∀ k,k<60->∀ b,c (59 - k) b=(row k).getD b 0
 | 0,_,b=>by
  have:=rec 59 b
  rw [top,top] at this;show c 59 b=([1]:List Int).getD b 0;cases b with
  | zero=>simpa using this
  | succ b=>simpa using this
 | k+1,hk,b=>by
  have i:=many top rec k (by lia);have r:=rec (59 - (k+1)) b;rw [show 59 - (k+1)+1=59 - k by lia,i,i,if_neg (show ¬ (59 - k=60/\b=0) by lia)] at r;show _=(nxr (row k)).getD b 0;rw [afg];lia
def ks6 (low:List Int):List (List Int):=(Hz 35).flatMap fun k=>(Hz (k+1)).map fun b:Nat=>((59 - k:Nat):Int)::(b:Int)::low
theorem aaQ (low:List Int):(ks6 low).length=630:=by
 unfold ks6;rw [List.length_flatMap];simp only [Cm,SN];decide
theorem ady (low:List Int):(ks6 low).Nodup:=by
 unfold ks6 List.Nodup;rw [List.pairwise_flatMap];refine ⟨fun k _=>?_,?_⟩
 ·rw [Q8];exact (List.nodup_range (n:=k+1)).imp fun {a b} h e=>h<|Int.ofNat.inj (Lb (Lb e).2).1
 ·refine List.Pairwise.imp_of_mem (fun {k j} hk hj ne x hx y hy e=>ne ?_)<|List.nodup_range (n:=35)
  obtain ⟨b,_,rfl⟩:=Cr.mp hx;obtain ⟨d,_,rfl⟩:=Cr.mp hy;rw [Nu] at hk hj;have:=(Lb e).1
  lia
def cf (low:List Int)(f:List Tm)(a b:Nat):Int:=(f.map fun t=>if t.1=(a:Int)::(b:Int)::low then t.2 else 0).sum
theorem eV {low:List Int}{f:List Tm}{a b:Nat}(h:cf low f a b≠0):((a:Int)::(b:Int)::low)∈f.map (·.1):=by
 refine Ld fun c=>h ?_;have:f.map (fun t=>if t.1=(a:Int)::(b:Int)::low then t.2 else 0)=f.map fun _=>(0:Int):=Oi fun t ht=>by
  rw [if_neg fun e=>c (Cr.mpr ⟨t,ht,e⟩)]
 unfold cf;rw [this];exact nJ _
def Hv (low:List Int):List Tm:=[(0::0::low,1),(0::1::low,1),(1::0::low,1)]
theorem zM:∀ n,bZ (BK n 0) (BK n 0)=BK n 0
 | 0=>rfl
 | n+1=>congrArg (0::·) (zM n)
theorem zL:∀ n,eG (BK n 0) (BK n 0)=BK n 0
 | 0=>rfl
 | n+1=>congrArg (0::·) (zL n)
theorem gH (a b c d:Int)(n:Nat):bZ (a::b::BK n 0) (c::d::BK n 0)=(a+c)::(b+d)::BK n 0:=by
 show (a+c)::(b+d)::bZ (BK n 0) (BK n 0)=_;rw [zM]
theorem aeA (a b c d:Int)(n:Nat):eG (a::b::BK n 0) (c::d::BK n 0)=(a - c)::(b - d)::BK n 0:=by
 show (a - c)::(b - d)::eG (BK n 0) (BK n 0)=_;rw [zL]
theorem jA {a b c d:Int}:a::b::l=c::d::l↔a=c/\b=d:=⟨fun e=>⟨(Lb e).1,(Lb (Lb e).2).1⟩,fun e=>by rw [e.1,e.2]⟩
theorem zbd (t:Tm)(q vs:List Tm)(r:List Int):pr (t::q) vs r=t.2*lin (dz t.1 r) vs+pr q vs r:=by unfold pr;rw [Bf,Nr]
theorem xT (low:List Int)(t:Tm)(f:List Tm)(a b:Nat):cf low (t::f) a b=(if t.1=(a:Int)::(b:Int)::low then t.2 else 0)+cf low f a b:=by unfold cf;rw [Bf,Nr]
theorem U6 {n:Nat}:∀ f:List Tm,(∀ t∈f,∃ a b:Nat,t.1=(a:Int)::(b:Int)::BK n 0)->∀ a b:Nat,pr f (Hv (BK n 0)) (((a+1:Nat):Int)::(b:Int)::BK n 0) =
  cf (BK n 0) f (a+1) b+(if b=0 then 0 else cf (BK n 0) f (a+1) (b - 1))+cf (BK n 0) f a b
 | [],_,a,b=>by
  show (0:Int)=0+(if b=0 then 0 else 0)+0;split <;> rfl
 | t::f,h,a,b=>by
  have i:=U6 f (fun u hu=>h u (Hs _ hu)) a b;obtain ⟨x,y,e⟩:=h t JK;rw [zbd,i,xT,xT,xT,e];have el:lin (dz ((x:Int)::(y:Int)::BK n 0) (((a+1:Nat):Int)::(b:Int)::BK n 0)) (Hv (BK n 0))=(if x=a+1/\y=b then 1 else 0)+(if x=a+1/\y+1=b then 1 else 0)+(if x=a/\y=b then 1 else 0):=by
   unfold lin Hv dz;simp only [Bf,Hq,Nr,List.sum_nil,gH,jA];have e1:((x:Int)+0=((a+1:Nat):Int)/\(y:Int)+0=b)↔(x=a+1/\y=b):=by lia
   have e2:((x:Int)+0=((a+1:Nat):Int)/\(y:Int)+1=b)↔(x=a+1/\y+1=b):=by lia
   have e3:((x:Int)+1=((a+1:Nat):Int)/\(y:Int)+0=b)↔(x=a/\y=b):=by lia
   simp only [e1,e2,e3];lia
  rw [el];simp only [jA];have d1:((x:Int)=((a+1:Nat):Int)/\(y:Int)=b)↔(x=a+1/\y=b):=by lia
  have d3:((x:Int)=(a:Int)/\(y:Int)=b)↔(x=a/\y=b):=by lia
  simp only [d1,d3];by_cases b0:b=0
  ·rw [if_pos b0,if_pos b0,if_neg (show ¬ (x=a+1/\y+1=b) by lia)];by_cases c1:x=a+1/\y=b
   ·rw [if_pos c1,if_pos c1,if_neg (by lia),if_neg (by lia)];lia
   ·rw [if_neg c1,if_neg c1];by_cases c3:x=a/\y=b
    ·rw [if_pos c3,if_pos c3];lia
    ·rw [if_neg c3,if_neg c3];lia
  ·rw [if_neg b0,if_neg b0];have d2:((x:Int)=((a+1:Nat):Int)/\(y:Int)=((b - 1:Nat):Int))↔(x=a+1/\y+1=b):=by lia
   simp only [d2];by_cases c1:x=a+1/\y=b
   ·rw [if_pos c1,if_pos c1,if_neg (by lia),if_neg (by lia),if_neg (by lia),if_neg (by lia)];lia
   ·rw [if_neg c1,if_neg c1];by_cases c2:x=a+1/\y+1=b
    ·rw [if_pos c2,if_pos c2,if_neg (by lia),if_neg (by lia)];lia
    ·rw [if_neg c2,if_neg c2];by_cases c3:x=a/\y=b
     ·rw [if_pos c3,if_pos c3];lia
     ·rw [if_neg c3,if_neg c3];lia
theorem adi {f:List Tm}(hf:∀ t∈f,∃ a b:Nat,a+b<=59/\t.1=(a:Int)::(b:Int)::BK n 0)
  (hp:∀ a b:Nat,pr f (Hv (BK n 0)) (((a+1:Nat):Int)::(b:Int)::BK n 0)=if a+1=60/\b=0 then 1 else 0):630<=f.length:=by
 have hm:=many (c:=cf (BK n 0) f) (fun b=>Ld fun c=>by
   obtain ⟨t,ht,et⟩:=Cr.mp (eV c);obtain ⟨x,y,l,e⟩:=hf t ht;rw [e,jA] at et;lia) (fun a b=>by
   rw [<-U6 f (fun t ht=>(hf t ht).imp fun a h=>h.imp fun b h=>h.2)];exact hp a b)
 rw [<-aaQ (BK n 0),<-Cm (f:=(·.1)) (as:=f)];refine K9 (ady _) fun x hx=>?_;unfold ks6 at hx;obtain ⟨k,hk,hx⟩:=List.mem_flatMap.mp hx;obtain ⟨b,hb,rfl⟩:=Cr.mp hx;rw [Nu] at hk hb;refine eV ?_;rw [hm k (by lia) b];refine ado k hk _ ?_;rw [M9,Gg (by rw [FQ];lia)];exact PB _
theorem acF (h1:Kb L k)(h2:Kb L l)(h:pack k<=pack l):¬ l<k:=fun c=>by
 have:=(oR h2 h1).mp c
 lia
theorem aaZ (hp:Jh c0)(hn:n<=6)(x:∀ h',Ge h h'->E ⟨"TooMuch",[]⟩ h'):c0 [BX [(60::0::BK n 0,1)],BX (Hv (BK n 0))] h Q E:=by
 have rz:∀ p∈BK n (0:Int),p=0:=fun p hp=>(List.mem_replicate.mp hp).2
 have kb:∀ a b:Nat,a<=60->b<=60->Kb (n+2) ((a:Int)::(b:Int)::BK n 0):=fun a b ha hb=>⟨by simp,fun p hp=>by
  rcases El.mp hp with e | hp
  ·lia
  ·rcases El.mp hp with e | hp
   ·lia
   ·rw [rz p hp];decide⟩
 have V:Vt (n+2) (Hv (BK n 0)) (1::0::BK n 0,1):=by
  refine ⟨⟨[(0::0::BK n 0,1),(0::1::BK n 0,1)],rfl⟩,fun t ht=>?_,?_,by unfold Hv;simp⟩
  ·unfold Hv at ht;simp only [El,Ja,or_false] at ht;have s1:Sm 3000 1:=by unfold Sm;decide +kernel
   rcases ht with rfl | rfl | rfl
   ·exact ⟨kb 0 0 (by decide)<|by decide,Rj,s1⟩
   ·exact ⟨kb 0 1 (by decide)<|by decide,Rj,s1⟩
   ·exact ⟨kb 1 0 (by decide)<|by decide,Rj,s1⟩
  ·unfold Hv;have l1:∀ a b c d:Int,(a<c\/a=c/\b<d)->(a::b::BK n (0:Int))<(c::d::BK n 0):=fun a b c d h=>by
    rcases h with h | ⟨rfl,h⟩
    ·exact Mg.mpr<|.inl h
    ·exact Mg.mpr<|.inr ⟨rfl,Mg.mpr<|.inl h⟩
   simp only [Bf,Hq,List.pairwise_cons,El,Ja,or_false];refine ⟨fun a h=>?_,fun a h=>?_,fun a h=>h.elim,List.Pairwise.nil⟩
   ·rcases h with rfl | rfl
    ·exact l1 _ _ _ _<|by decide
    ·exact l1 _ _ _ _<|by decide
   ·rw [h];exact l1 _ _ _ _ (by decide)
 have e0:∀ r,getM [((60:Int)::0::BK n 0,(1:Int))] r=if 60::0::BK n 0=r then 1 else 0:=fun r=>by rw [bD];rfl
 have no:∀ {f D:List Tm},f.length<=600->(∀ t∈f,∃ a b:Nat,a+b<=59/\t.1=(a:Int)::(b:Int)::BK n 0)->(∀ r,getM D r=(if 60::0::BK n 0=r then 1 else 0) - pr f (Hv (BK n 0)) r) ->
   (∀ a b:Nat,getM D (((a+1:Nat):Int)::(b:Int)::BK n 0)=0)->False:=fun {f D} lf hf g z=>by
  have:=adi hf fun a b=>by
   have e1:=g (((a+1:Nat):Int)::(b:Int)::BK n 0);rw [z] at e1;simp only [jA] at e1;have e2:((60:Int)=((a+1:Nat):Int)/\(0:Int)=b)↔(a+1=60/\b=0):=by lia
   simp only [e2] at e1;lia
  lia
 refine hp (ld:=(1::0::BK n 0,1)) (L:=n+2) (fun f D=>f.length<=600/\(∀ t∈f,∃ a b:Nat,a+b<=59/\t.1=(a:Int)::(b:Int)::BK n 0)/\(∀ k∈D.map (·.1),∃ a b:Nat,a+b<=60/\k=(a:Int)::(b:Int)::BK n 0) /\
   (∀ r,getM D r=(if 60::0::BK n 0=r then 1 else 0) - pr f (Hv (BK n 0)) r)/\(∀ r,Sm (f.length+1) (getM D r))/\D.length<=1+3*f.length) (by lia) ?_ (by simp) V ?_ ?_ ?_
 ·refine ⟨fun j hj=>?_,by simp,fun t ht=>?_⟩
  ·rw [Bf,Hq,Fd] at hj;rw [hj];exact kb 60 0 (by decide)<|by decide
  ·rw [Fd.mp ht];exact Rj
 ·refine ⟨by simp,⟨fun t ht=>absurd ht Ja,fun k hk=>?_,fun r=>?_,fun r=>?_,Bp 1⟩⟩
  ·rw [Bf,Hq,Fd] at hk;exact ⟨60,0,by decide,hk⟩
  ·rw [e0,Ec];lia
  ·rw [e0];unfold Sm;split <;> decide
 ·rintro f D K ⟨lf,hf,hD,g,sm,lD⟩ dc mK up;obtain ⟨a,b,ab,rfl⟩:=hD K mK;have fm:(getM D ((a:Int)::(b:Int)::BK n 0)).fmod 1=0:=by rw [Int.fmod_one]
  have fd:(getM D ((a:Int)::(b:Int)::BK n 0)).fdiv 1=getM D ((a:Int)::(b:Int)::BK n 0):=by rw [Int.fdiv_one]
  have zs:=aeA a b 1 0 n;have sK:=(sm ((a:Int)::(b:Int)::BK n 0)).mono (n:=3000) (by lia);refine ⟨by lia,sK,lf,fun c=>?_,fun _ c=>⟨fun _=>x,fun ne=>?_⟩⟩
  ·exfalso;have a0:a=0:=by
    rcases c with c | ⟨p,hp',np⟩
    ·exact absurd fm c
    ·dsimp only at hp';rw [zs] at hp';rcases El.mp hp' with e | hp'
     ·lia
     ·rcases El.mp hp' with e | hp'
      ·lia
      ·rw [rz p hp'] at np;lia
   refine no lf hf g fun a' b'=>Ld fun nz=>?_;have m:=get_mem nz;refine acF (dc.kb _ m) (dc.kb _ mK) (up _ m)<|Mg.mpr<|.inl ?_
   lia
  ·have a1:1<=a:=Ld fun z=>c ⟨(a:Int) - 1,by dsimp only;rw [zs];exact JK,by lia⟩
   obtain ⟨a,rfl⟩:∃ a',a=a'+1:=⟨a - 1,by lia⟩
   have zs':eG (((a+1:Nat):Int)::(b:Int)::BK n 0) (1::0::BK n 0)=(a:Int)::(b:Int)::BK n 0:=by
    rw [zs,jA];lia
   dsimp only;rw [fd,zs'];have nK:=GJ dc mK;have kz:∀ t∈Hv (BK n 0),∃ a' b':Nat,a'+b'<=60/\bZ ((a:Int)::(b:Int)::BK n 0) t.1=(a':Int)::(b':Int)::BK n 0:=fun t ht=>by
    unfold Hv at ht;simp only [El,Ja,or_false] at ht;rcases ht with rfl | rfl | rfl
    ·exact ⟨a,b,by lia,by rw [gH,jA];lia⟩
    ·exact ⟨a,b+1,by lia,by rw [gH,jA];lia⟩
    ·exact ⟨a+1,b,by lia,by rw [gH,jA];lia⟩
   have kz':∀ t∈Hv (BK n 0),Kb (n+2) (bZ ((a:Int)::(b:Int)::BK n 0) t.1):=fun t ht=>by
    obtain ⟨a',b',l,e⟩:=kz t ht;rw [e];exact kb a' b' (by lia) (by lia)
   refine ⟨nK,sK,kz',by rw [HB,O4];lia,fun t ht=>?_,fun k hk=>?_,fun r=>?_,fun r=>?_,?_⟩
   ·rcases Jr.mp ht with m | m
    ·exact hf t m
    ·rw [Fd.mp m];exact ⟨a,b,by lia,rfl⟩
   ·have go:∀ ws:List Tm,(∀ t∈ws,t∈Hv (BK n 0))->∀ (v:Int),∀ k∈(Hh ((a:Int)::(b:Int)::BK n 0) v ws D).map (·.1),∃ a b:Nat,a+b<=60/\k=(a:Int)::(b:Int)::BK n 0:=fun ws=>by
     refine Ba (P:=fun ws=>(∀ t∈ws,t∈Hv (BK n 0))->∀ (v:Int),∀ k∈(Hh ((a:Int)::(b:Int)::BK n 0) v ws D).map (·.1),∃ a b:Nat,a+b<=60/\k=(a:Int)::(b:Int)::BK n 0) (fun _ v=>hD) (fun ws t ih hw v k hk=>?_) ws;rw [iT] at hk;obtain ⟨u,hu,eu⟩:=Cr.mp hk;rcases nC hu with m | ⟨_,rfl⟩
     ·exact ih (fun t ht=>hw t<|Jc _ ht) v k<|Cr.mpr ⟨u,m,eu⟩
     ·rw [<-eu];exact kz t<|hw t<|by simp
    exact go _ (fun _ h=>h) _ k hk
   ·rw [rP,g,uq];dsimp only;generalize getM D _*lin _ _=X;lia
   ·rw [rP,HB,O4];have s1:=sm r;have s2:=sm (((a+1:Nat):Int)::(b:Int)::BK n 0);have l1:lin (dz ((a:Int)::(b:Int)::BK n 0) r) (Hv (BK n 0))=0\/lin (dz ((a:Int)::(b:Int)::BK n 0) r) (Hv (BK n 0))=1:=by
     unfold lin Hv dz;simp only [Bf,Hq,Nr,List.sum_nil,gH];by_cases c1:((a:Int)+0)::((b:Int)+0)::BK n 0=r
     ·subst c1;simp only [jA];rw [if_pos True.intro,if_neg (by lia),if_neg (by lia)];decide
     ·rw [if_neg c1];by_cases c2:((a:Int)+0)::((b:Int)+1)::BK n 0=r
      ·subst c2;simp only [jA];rw [if_pos True.intro,if_neg (by lia)];decide
      ·rw [if_neg c2];split <;> decide
    have s3:Sm (f.length+1) (getM D (((a+1:Nat):Int)::(b:Int)::BK n 0)*lin (dz ((a:Int)::(b:Int)::BK n 0) r) (Hv (BK n 0))):=by
     rcases l1 with e | e
     ·rw [e,Int.mul_zero];exact Sm.zero
     ·rw [e,Int.mul_one];exact s2
    have:=Sm.sub s1 s3
    rw [Nat.max_self] at this;exact this
   ·have:=yc ((a:Int)::(b:Int)::BK n 0) (getM D (((a+1:Nat):Int)::(b:Int)::BK n 0)) (Hv (BK n 0)) D
    rw [HB,O4];have:(Hv (BK n 0)).length=3:=rfl
    lia
 ·rintro f ⟨lf,hf,_,g,_,_⟩;exact (no lf hf g fun _ _=>rfl).elim
def Dh (n:Nat)(a b c:Int):Tm:=(a::b::BK n 0,c)
theorem lt2 {a b c d:Int}(h:a<c\/a=c/\b<d):(a::b::BK n (0:Int))<(c::d::BK n 0):=by
 rcases h with h | ⟨rfl,h⟩
 ·exact Mg.mpr<|.inl h
 ·exact Mg.mpr<|.inr ⟨rfl,Mg.mpr<|.inl h⟩
theorem kb2 {a b:Int}(h:0<=a/\a<=100/\0<=b/\b<=100):Kb (n+2) (a::b::BK n 0):=⟨by simp,fun p hp=>by
  rcases El.mp hp with e | hp
  ·lia
  ·rcases El.mp hp with e | hp
   ·lia
   ·rw [(List.mem_replicate.mp hp).2];decide⟩
theorem Ky {c:Int}{k:Nat}(h:-1000<=c/\c<=1000)(hk:20<=k):Sm k c:=(iy (n:=20) (by lia) (by lia)).mono hk
def qL (n m:Nat):List Tm:=(Hz m).map fun k:Nat=>Dh n k ((m:Int) - 1 - k) 1
theorem Yp (n m:Nat)(r:List Int):∀ j,(((Hz j).map fun k:Nat=>Dh n k ((m:Int) - 1 - k) 1).map fun t=>t.2*lin (dz t.1 r) [Dh n 0 1 (-1),Dh n 1 0 1]).sum =
  (if (j:Int)::((m:Int) - j)::BK n 0=r then 1 else 0) - (if (0:Int)::(m:Int)::BK n 0=r then 1 else 0)
 | 0=>by
  show (0:Int)=_;rw [show ((0:Nat):Int)=0 from rfl,Int.sub_zero];lia
 | j+1=>by
  rw [List.range_succ,Em,Em,List.sum_append,Yp n m r j];unfold lin dz Dh;simp only [Bf,Hq,Nr,List.sum_nil,gH];rw [show (j:Int)+0=j by lia,show (m:Int) - 1 - j+1=m - j by lia,show (j:Int)+1=((j+1:Nat):Int) by lia,show (m:Int) - 1 - j+0=m - ((j+1:Nat):Int) by lia];lia
theorem acX (hp:Jh c0)(hn:n<=6)(hm:2<=m)(hm':m<=60)(q:Q (BX (qL n m)) h):c0 [BX [Dh n 0 m (-1),Dh n m 0 1],BX [Dh n 0 1 (-1),Dh n 1 0 1]] h Q E:=by
 have mq:∀ t∈qL n m,∃ k:Nat,k<m/\t=Dh n k ((m:Int) - 1 - k) 1:=fun t ht=>by
  obtain ⟨k,hk,e⟩:=Cr.mp ht;exact ⟨k,Nu.mp hk,e.symm⟩
 have mv:∀ t∈[Dh n 0 1 (-1),Dh n 1 0 1],t=Dh n 0 1 (-1)\/t=Dh n 1 0 1:=fun t ht=>by simpa using ht
 refine Dg hp (L:=n+2) (q:=qL n m) (ld:=Dh n 1 0 1) (fun _=>0) (by lia) ⟨fun t ht=>?_,?_,by unfold qL;rw [Cm,SN];lia⟩ ⟨⟨[Dh n 0 1 (-1)],rfl⟩,fun t ht=>?_,?_,by simp⟩ (by simp) (Ky (by unfold Dh;dsimp only;lia)<|by decide) ⟨fun j hj=>?_,?_,fun t ht=>?_⟩ (by simp) (fun t ht u hu=>?_) (fun r=>?_) (fun r c=>absurd rfl c) (fun _=>q) fun ⟨_,c⟩=>absurd rfl c
 ·obtain ⟨k,hk,rfl⟩:=mq t ht;exact ⟨kb2<|by lia,Rj,Ky (by unfold Dh;dsimp only;lia)<|by decide⟩
 ·unfold qL;rw [Ho,Q8];refine List.Pairwise.imp ?_<|List.pairwise_lt_range (n:=m)
  intro a b h;exact lt2 (a:=(a:Int)) (c:=(b:Int))<|.inl<|by lia
 ·rcases mv t ht with rfl | rfl
  ·exact ⟨kb2<|by lia,by unfold Dh;dsimp only;lia,Ky (by unfold Dh;dsimp only;lia)<|by decide⟩
  ·exact ⟨kb2<|by lia,by unfold Dh;dsimp only;lia,Ky (by unfold Dh;dsimp only;lia)<|by decide⟩
 ·rw [Bf,Bf,Hq,List.pairwise_cons];exact ⟨fun a ha=>by rw [Fd.mp ha];exact lt2 (by lia),List.pairwise_singleton _ _⟩
 ·rw [Bf,Bf,Hq] at hj;rcases El.mp hj with rfl | hj
  ·exact kb2<|by lia
  ·rw [Fd.mp hj];exact kb2 (by lia)
 ·rw [Bf,Bf,Hq,Ox];refine ⟨fun c=>?_,by simp⟩;have:=jA.mp (Fd.mp c)
  lia
 ·rcases El.mp ht with rfl | ht
  ·unfold Dh;dsimp only;lia
  ·rw [Fd.mp ht];unfold Dh;dsimp only;lia
 ·obtain ⟨k,hk,rfl⟩:=mq t ht;rcases mv u hu with rfl | rfl
  ·unfold Dh;rw [gH];exact kb2<|by lia
  ·unfold Dh;rw [gH];exact kb2<|by lia
 ·have e:=Yp n m r m;have e':pr (qL n m) [Dh n 0 1 (-1),Dh n 1 0 1] r=_:=e;rw [e',bD,bD,Int.sub_self];unfold Dh;dsimp only;show (if _ then _ else if _ then _ else (0:Int))=_;by_cases c:(0:Int)::(m:Int)::BK n 0=r
  ·rw [if_pos c,if_pos c,if_neg (fun d=>?_)]
   ·lia
   ·have:=jA.mp (c.trans d.symm)
    lia
  ·rw [if_neg c,if_neg c];lia
def up1 (t:Tm):Tm:=((t.1.getD 0 0+1)::t.1.drop 1,t.2)
theorem aez (hp:Jh c0)(hn:n<=6)(lr:rs.length<=600)(sr:(rs.map (·.1)).Pairwise (· < ·))(hr:∀ t∈rs,t.2≠0/\Sm 100 t.2/\∃ a b:Int,0<=a/\a<=60/\0<=b/\b<=60/\t.1=a::b::BK n 0)(q:Q (BX rs) h):c0 [BX (rs.map up1),BX [Dh n 1 0 1]] h Q E:=by
 have eu:∀ t∈rs,up1 t=(bZ t.1 (Dh n 1 0 1).1,t.2):=fun t ht=>by
  obtain ⟨_,_,a,b,_,_,_,_,e⟩:=hr t ht;unfold up1 Dh;rw [e];dsimp only;rw [gH,Nm];rfl
 have mv:∀ t∈[Dh n 1 0 1],t=Dh n 1 0 1:=fun t ht=>by simpa using ht
 have kz:∀ t∈rs,Kb (n+2) (bZ t.1 (Dh n 1 0 1).1):=fun t ht=>by
  obtain ⟨_,_,a,b,_,_,_,_,e⟩:=hr t ht;unfold Dh;rw [e,gH];exact kb2<|by lia
 have zi:∀ t∈rs,∀ u∈rs,bZ t.1 (Dh n 1 0 1).1=bZ u.1 (Dh n 1 0 1).1->t.1=u.1:=fun t ht u hu e=>by
  obtain ⟨_,_,a,b,_,_,_,_,et⟩:=hr t ht;obtain ⟨_,_,c,d,_,_,_,_,eu⟩:=hr u hu;rw [et,eu];unfold Dh at e;rw [et,eu,gH,gH,jA] at e;rw [jA];lia
 have nd:((rs.map up1).map (·.1)).Nodup:=by
  rw [Ho];unfold List.Nodup;rw [Q8];have:=fU sr
  unfold List.Nodup at this;rw [Q8] at this;refine this.imp_of_mem fun {t u} ht hu ne e=>ne<|zi t ht u hu ?_
  have e:(up1 t).1=(up1 u).1:=e;rw [eu t ht,eu u hu] at e;exact e
 refine Dg hp (L:=n+2) (q:=rs) (ld:=Dh n 1 0 1) (fun _=>0) (by lia) ⟨fun t ht=>?_,sr,lr⟩ ⟨⟨[],rfl⟩,fun t ht=>?_,by simp,by simp⟩ (by simp) (Ky (by unfold Dh;dsimp only;lia)<|by decide) ⟨fun j hj=>?_,nd,fun t ht=>?_⟩ (by rw [Cm];lia) (fun t ht u hu=>?_) (fun r=>?_) (fun r c=>absurd rfl c) (fun _=>q) fun ⟨_,c⟩=>absurd rfl c
 ·obtain ⟨h1,h2,a,b,_,_,_,_,e⟩:=hr t ht;exact ⟨by rw [e];exact kb2 (by lia),h1,h2.mono<|by decide⟩
 ·rw [mv t ht];exact ⟨kb2<|by lia,Rj,Ky (by unfold Dh;dsimp only;lia)<|by decide⟩
 ·obtain ⟨u,hu,rfl⟩:=Cr.mp hj;obtain ⟨t,ht,rfl⟩:=Cr.mp hu;rw [eu t ht];exact kz t ht
 ·obtain ⟨t',ht',rfl⟩:=Cr.mp ht;exact (hr t' ht').1
 ·rw [mv u hu];exact kz t ht
 ·have e0:∀ t∈rs,t.2*lin (dz t.1 r) [Dh n 1 0 1]=if (up1 t).1=r then (up1 t).2 else 0:=fun t ht=>by
   rw [eu t ht];show t.2*(dz t.1 r (Dh n 1 0 1).1*1+0)=_;unfold dz;dsimp only;split
   ·lia
   ·lia
  have e1:pr rs [Dh n 1 0 1] r=((rs.map up1).map fun t=>if t.1=r then t.2 else 0).sum:=by
   unfold pr;rw [Ho];exact congrArg List.sum<|Oi e0
  rw [e1,Nm];have go:∀ us:List Tm,(us.map (·.1)).Nodup->getM us r=(us.map fun t=>if t.1=r then t.2 else 0).sum:=fun us=>by
   induction us with
   | nil=>exact fun _=>rfl
   | cons t us ih=>
    intro nd;rw [Bf,Ox] at nd;rw [bD,Bf,Nr,<-ih nd.2];split
    ·rename_i c;rw [getM_none (c ▸ nd.1)];lia
    ·lia
  exact go _ nd
def fd (n k:Nat):List Tm:=(Hz k).map fun i:Nat=>Dh n ((i:Int).fdiv 50) ((i:Int).fmod 50) (1+(i:Int).fmod 5)
theorem Q9 {k:Nat}(h:t∈fd n k):∃ i:Nat,i<k/\t=Dh n ((i:Int).fdiv 50) ((i:Int).fmod 50) (1+(i:Int).fmod 5):=by
 obtain ⟨i,hi,e⟩:=Cr.mp h;exact ⟨i,Nu.mp hi,e.symm⟩
theorem Oz (n k:Nat):((fd n k).map (·.1)).Nodup:=by
 unfold fd List.Nodup;rw [Ho,Q8];refine List.Pairwise.imp ?_<|List.pairwise_lt_range (n:=k)
 intro a b h e;have e:((a:Int).fdiv 50)::((a:Int).fmod 50)::BK n 0=((b:Int).fdiv 50)::((b:Int).fmod 50)::BK n 0:=e;rw [jA] at e;have h1:=UJ (a:Int) 50;have h2:=UJ (b:Int) 50;lia
theorem abK (n k:Nat):fd n (k+1)=jC (fd n k) ((k:Int).fdiv 50::(k:Int).fmod 50::BK n 0) (1+(k:Int).fmod 5):=by
 have nd:=Oz n (k+1);have e:fd n (k+1)=fd n k++[Dh n ((k:Int).fdiv 50) ((k:Int).fmod 50) (1+(k:Int).fmod 5)]:=by unfold fd;rw [List.range_succ,Em];rfl
 rw [e] at nd |-
 rw [Em,SX] at nd;have o:=ni (1+(k:Int).fmod 5) fun m=>nd.2.2 ((k:Int).fdiv 50::(k:Int).fmod 50::BK n 0) m _ (Fd.mpr rfl) rfl
 rw [o];rfl
def YW (c0:Bd):Prop:=∀ {h:Gh} {ns:List Int} {L:Nat} {Q:WK} {E:CN},L<=8->(∀ h',Ge h h'->Q (.bl true) h')->c0 [.kls (ns.map .int),.int (L:Int)] h Q E
theorem gY {a b:Int}(hn:n<=8)(q:Q (.tup ((a::b::BK n 0).map .int)) h):bL (.tup [.int a,.int b]) (.tup ((BK n (0:Int)).map .int)) h Q:=Ks (by simp;lia) q
section
variable {ce is wo:Bd}(hpa:Jh pa)(hce:lM ce)(hod:Kv od)(his:Wh is)(hwo:∀ {h:Gh} {n:Nat} {Q:WK} {E:CN},n<=6->(∀ h',Ge h h'->Q (.str "too much") h')->wo [BX [(60::0::BK n 0,1)],BX (Hv (BK n 0))] h Q E)
include hpa hce hod his hwo
theorem acq {s0 s1 s3 s4 s5 s6 s7 s8 s9 s10 s11 s12 s13:Option W}(hn:n<=6)(q:∀ h',Ge h h'->Q (.bl true) h'):
  cV pa ce od is wo E { nx:=fun _ h'=>Q .non h',rt:=Q } [s0,s1,Mk (.tup ((BK n (0:Int)).map .int)),s3,s4,s5,s6,s7,s8,s9,s10,s11,s12,s13] h:=by
 unfold cV;refine aM<|bx<|aZ<|ao<|aL<|aZ<|ao<|bA<|ao<|bA<|aD<|aV rfl<|aq rfl<|gY (by lia) ?_
 refine ao<|bA<|aD<|aV rfl<|nV<|bY ?_
 refine aM<|bx<|aZ<|ao<|aZ<|ao<|aL<|aZ<|ao<|bA<|ao<|bA<|aD<|aV rfl<|aq rfl<|gY (by lia) ?_
 refine ao<|bA<|aD<|aV rfl ?_
 refine ao<|aZ<|ao<|aL<|aZ<|ao<|bA<|ao<|bA<|aD<|aV rfl<|aq rfl<|gY (by lia) ?_
 refine ao<|bA<|aD<|aV rfl ?_
 refine ao<|aZ<|ao<|aL<|aZ<|ao<|bA<|ao<|bA<|aD<|aV rfl<|aq rfl<|gY (by lia) ?_
 refine ao<|bA<|aD<|aV rfl<|aD<|aV rfl<|nV<|bY ?_
 refine cg<|aL<|aQ<|ao<|aZ<|ao<|aq rfl<|aD<|aV rfl<|ao<|aq rfl<|aD ?_
 refine hwo hn fun h' ge=>bA ?_;exact Rz<|pZ<|q h' ge
theorem zbk {d:Nat}{s0 s1 s3 s4 s5 s6 s8 s9 s10 s11 s12 s13:Option W}(hn:n<=6)(hm:m<=600)(ed:h.c d=Mk (.dtt (G9 (fd n m))))(q:∀ h',Ge h h'->Q (.bl true) h'):
  cQ pa ce od is wo E { nx:=fun _ h'=>Q .non h',rt:=Q } [s0,s1,Mk (.tup ((BK n (0:Int)).map .int)),s3,s4,s5,s6,Mk (.loc d),s8,s9,s10,s11,s12,s13] h:=by
 unfold cQ;have lf:(fd n m).length=m:=by unfold fd;rw [Cm,SN]
 refine aM<|bx<|aQ<|ao<|aq rfl<|aD<|hod ed (by lia) (jN (L:=n+2) (Oz n m) fun t ht=>?_) fun rs hr=>?_
 ·obtain ⟨i,hi,rfl⟩:=Q9 ht;unfold Dh;simp
 obtain ⟨ks,pk,sk,er⟩:=hr;have hin:=fun u hu=>yM (u:=u) (Oz n m) (fun k hk=>pk.mem_iff.mp hk) hu
 rw [<-er] at hin;have lr:=tR (fd n m) ks;have sr:=nZ (D:=fd n m) sk;rw [<-er] at lr sr;rw [pk.length_eq,Cm] at lr;have hr:∀ t∈rs,t.2≠0/\Sm 100 t.2/\∃ a b:Int,0<=a/\a<=60/\0<=b/\b<=60/\t.1=a::b::BK n 0:=fun t ht=>by
  obtain ⟨h1,h2⟩:=hin t ht;obtain ⟨i,hi,rfl⟩:=Q9 h1;have m1:=UJ (i:Int) 50;have m2:=d8 (i:Int) (b:=50) (by decide);have m3:=d8 (i:Int) (b:=5) (by decide);exact ⟨h2,Ky (by unfold Dh;dsimp only;lia)<|by decide,_,_,by lia,by lia,by lia,by lia,rfl⟩
 refine nV<|bY ?_
 refine aM<|bx<|dO<|ao<|tV<|pX<|aq rfl<|CP (ws:=rs.map Cw) (o:=YK) rfl<|gK.mk (Cg (m:=30000) (by rw [Cm];lia)<|by decide) ?_
 refine jL (fun j acc g=>g=h/\acc=((rs.take j).map up1).map Cw) ?_ ?_ ⟨rfl,rfl⟩
 ·rintro j w acc g N hN e ⟨rfl,rfl⟩;rw [Hi] at e;cases qe:rs[j]? with
  | none=>rw [qe] at e;cases e
  | some t=>
   rw [qe] at e;cases e;obtain ⟨_,_,a,b,_,_,_,_,et⟩:=hr t (O2 qe);refine ⟨[.tup<|t.1.map .int,.int t.2],rfl,jX<|jV<|aZ<|ao<|aL<|aZ<|ao<|aL<|aL<|aq rfl<|bA<|eO (x:=.tup (t.1.map .int)) (i:=0) (w:=.int a) rfl (by rw [et];exact at0 _ _) ?_⟩;refine bA<|dU<|aD<|aV rfl ?_
   refine Jg<|aq rfl<|rJ<|bA<|VB<|pQ<|J6 ?_
   have ec:Ac (t.1.map W.int) (Mk 1) YK=(t.1.map W.int).drop 1:=zq (t.1.map W.int) 1;rw [ec];refine Ks (by rw [et];simp;lia) ?_;refine ao<|aq rfl<|aD<|aV rfl<|hN _ _ ⟨rfl,?_⟩
   rw [JC,qe,Em,Em];have:Cw (up1 t)=.tup [.tup ([W.int (a+1)]++(t.1.map W.int).drop 1),.int t.2]:=by
    unfold up1;rw [et];rfl
   rw [<-this];rfl
 ·rintro acc g ⟨rfl,rfl⟩;rw [Cm,Jb];refine aD<|jc ?_
  refine nV<|bY ?_
  refine aM<|cB<|gF<|eX<|aQ<|ao<|aQ<|ao<|aq rfl<|ao<|aZ<|ao<|aZ<|ao<|aL<|aZ<|ao<|bA<|ao<|bA<|aD<|aV rfl<|aq rfl<|gY (by lia) ?_
  refine ao<|bA<|aD<|aV rfl<|aD<|aV rfl<|aD ?_
  refine aez hpa hn (by lia) sr hr ?_;refine ao<|aq rfl<|aD<|his (L:=n+2) (by lia) (by lia) (fun t ht=>?_)<|Ae rfl<|qb rfl<|bO<|bY ?_
  ·obtain ⟨_,_,a,b,_,_,_,_,e⟩:=hr t ht;rw [e];simp
  ·exact acq hpa hce hod his hwo hn q
theorem aeD {s1 s3 s4 s5 s6 s7 s8 s9 s10 s11 s12 s13:Option W}(hn:n<=6)(q:∀ h',Ge h h'->Q (.bl true) h'):
  cY pa ce od is wo E { nx:=fun _ h'=>Q .non h',rt:=Q } [Mk (.kls (ns.map .int)),s1,Mk (.tup ((BK n (0:Int)).map .int)),s3,s4,s5,s6,s7,s8,s9,s10,s11,s12,s13] h:=by
 unfold cY;refine aM<|bx<|ur fun g eg og xg=>?_
 refine nV<|bY ?_
 refine aM<|bx<|aL<|bA<|aL<|aL<|aQ<|ao<|aq rfl<|ao<|bA<|aD<|hce (by decide) ?_
 refine bA<|jl ⟨by decide,64,by decide,.lit rfl⟩<|bA<|cU (by decide)<|dU ?_
 obtain ⟨m0,em,lm⟩:=jz ((ns.getD (5:Int).toNat 0).fdiv 472) 11 (by decide);have em:((ns.getD (5:Int).toNat 0).fdiv 472).fmod 11=(m0:Int):=em;rw [em];obtain ⟨m,e1⟩:∃ m:Nat,590+(m0:Int)=m:=⟨590+m0,by lia⟩
 rw [e1];refine nV<|bY<|aM ?_
 refine oG (j:=(m:Int)) (fun _=>rfl) (by lia) (by lia) (fun i Z h'=>∃ s9:Option W,Z = [Mk<|.kls<|ns.map .int,s1,Mk<|.tup<|(BK n (0:Int)).map .int,s3,s4,s5,s6,Mk<|.loc h.nx,Mk<|.int m,s9,s10,s11,s12,s13]/\h'.c h.nx=Mk (.dtt<|G9<|fd n i)/\g.nx<=h'.nx/\∀ n,n<h.nx->h'.c n=h.c n) ?_ ?_ ⟨s9,rfl,eg,Bp _,fun n hn=>og n<|by lia⟩
 ·rintro i Z h' N hN hi ⟨s9,rfl,a1,a2,a3⟩;refine nV ?_;have lf:(fd n i).length=i:=by unfold fd;rw [Cm,SN]
  refine bx<|aL<|bA<|aL<|aq rfl<|bA<|cU (by decide)<|dU ?_
  refine qX<|aq rfl<|aL<|aZ<|ao<|aL<|aq rfl<|bA<|jl ⟨by decide,64,by decide,.lit rfl⟩ ?_
  refine ao<|aL<|aq rfl<|bA<|cU (by decide)<|aD<|aV rfl<|aq rfl<|gY (by lia) ?_
  refine zf a1 (by lia) fun g2 b1 b2 b3=>bY<|hN _ _ ⟨_,rfl,by rw [abK];exact b1,by lia,fun n hn=>by rw [b2 n<|by lia];exact a3 n hn⟩
 ·rintro Z h' ⟨s9,rfl,a1,a2,a3⟩;rw [show (m:Int).toNat=m by lia] at a1;refine bY ?_;exact zbk hpa hce hod his hwo hn (by lia) a1 fun h2 ge=>q h2<|.trans ⟨by lia,a3⟩ ge
theorem X7:YW (d7 pa ce od is wo):=by
 intro h ns L Q E hL q;unfold d7;refine jm rfl (Z:=[Mk<|.kls<|ns.map .int,Mk<|.int L,YK,YK,YK,YK,YK,YK,YK,YK,YK,YK,YK,YK]) rfl ?_;have no:Q (.bl true) h:=q h (.refl h);refine aM<|cB<|mU<|bJ<|aL<|aq rfl<|bA<|O5<|m9 ?_
 refine G7 (fun _=>sX<|cg<|bA<|pZ no) fun c2=>?_;refine bJ<|aL<|aL<|aQ<|ao<|aq rfl<|ao<|bA<|aD<|hce (by decide) ?_
 refine bA<|cU (by decide)<|bA<|Bg<|m9 ?_
 refine G7 (fun _=>cg<|bA<|pZ no) fun c3=>bO<|bY ?_
 unfold fK;obtain ⟨n,rfl⟩:∃ n,L=n+2:=⟨L - 2,by lia⟩
 have hn:n<=6:=by lia
 refine aM<|bx<|aL<|aZ<|ao<|bA<|aD<|aV rfl<|aL<|aq rfl<|bA<|jj ?_
 rw [show ((n+2:Nat):Int) - 2=(n:Int) by lia];refine Qa (by lia)<|nV<|bY ?_
 refine aM<|bx<|aL<|bA<|aL<|aL<|aQ<|ao<|aq rfl<|ao<|bA<|aD<|hce (by decide) ?_
 refine bA<|jl ⟨by decide,64,by decide,.lit rfl⟩<|bA<|cU (by decide)<|dU ?_
 obtain ⟨m0,em,lm⟩:=jz ((ns.getD (5:Int).toNat 0).fdiv 8) 59 (by decide);have em:((ns.getD (5:Int).toNat 0).fdiv 8).fmod 59=(m0:Int):=em;rw [em];obtain ⟨m,e1⟩:∃ m:Nat,2+(m0:Int)=m:=⟨2+m0,by lia⟩
 rw [e1];refine nV<|bY ?_
 refine aM<|bx<|aZ<|ao<|aZ<|ao<|aL<|aZ<|ao<|bA<|ao<|aq rfl<|aD<|aV rfl<|aq rfl<|gY (by lia) ?_
 refine ao<|aL<|bA<|bA<|jj<|aD<|aV rfl ?_
 refine ao<|aZ<|ao<|aL<|aZ<|ao<|aq rfl<|ao<|bA<|aD<|aV rfl<|aq rfl<|gY (by lia) ?_
 refine ao<|bA<|aD<|aV rfl<|aD<|aV rfl<|nV<|bY ?_
 refine aM<|bx<|aZ<|ao<|aZ<|ao<|aL<|aZ<|ao<|bA<|ao<|bA<|aD<|aV rfl<|aq rfl<|gY (by lia) ?_
 refine ao<|aL<|bA<|bA<|jj<|aD<|aV rfl ?_
 refine ao<|aZ<|ao<|aL<|aZ<|ao<|bA<|ao<|bA<|aD<|aV rfl<|aq rfl<|gY (by lia) ?_
 refine ao<|bA<|aD<|aV rfl<|aD<|aV rfl<|nV<|bY ?_
 refine aM<|bx<|dO<|ao ?_
 refine aeP (j:=(m:Int)) (fun R=>rfl) (by lia) (by lia) (Cg (m:=1000) (by lia)<|by decide) (fun i acc g=>g=h/\acc=((Hz i).map fun k:Nat=>Dh n k ((m:Int) - 1 - k) 1).map Cw) ?_ ?_ ⟨rfl,rfl⟩
 ·rintro i acc g N hN hi ⟨rfl,rfl⟩;refine ⟨[.int i],rfl,jX<|jV<|aZ<|ao<|aL<|aZ<|ao<|aq rfl<|ao<|aL<|aL<|aq rfl<|bA<|jj<|aq rfl<|jj ?_⟩;refine aD<|aV rfl<|aq rfl<|gY (by lia) ?_
  refine ao<|bA<|aD<|aV rfl<|hN _ _ ⟨rfl,?_⟩
  rw [List.range_succ,Em,Em];rfl
 ·rintro acc g ⟨rfl,rfl⟩;refine aD<|jc ?_
  rw [show (m:Int).toNat=m by lia];refine nV<|bY ?_
  refine aM<|cB<|gF<|eX<|aQ<|ao<|aQ<|ao<|aq rfl<|ao<|aq rfl<|aD ?_
  refine acX hpa hn (by lia) (by lia) ?_;refine ao<|aq rfl<|aD<|his (L:=n+2) (by unfold qL;rw [Cm,SN];lia) (by lia) (fun t ht=>?_)<|Ae rfl<|qb rfl<|bO<|bY ?_
  ·obtain ⟨k,hk,rfl⟩:=Cr.mp ht;unfold Dh;simp
  ·exact aeD hpa hce hod his hwo hn q
end
variable {s5 s6 s8 : Option W}
theorem sZ {r:List Int}:∀ {vs:List Tm},(vs.map (·.1)).Nodup->lin (fun k=>if k=r then 1 else 0) vs=getM vs r
 | [],_=>rfl
 | t::vs,nd=>by
  rw [Bf,Ox] at nd;rw [jW,bD,sZ nd.2];by_cases c:t.1=r
  ·rw [if_pos c,if_pos c,getM_none (c ▸ nd.1)];lia
  ·rw [if_neg c,if_neg c];lia
theorem wM.nd (a:wM D rs):(rs.map (·.1)).Nodup:=by
 obtain ⟨ks,_,sk,rfl⟩:=a;exact fU<|nZ sk
theorem wM.get (nd:(D.map (·.1)).Nodup)(a:wM D rs)(r:List Int):getM rs r=getM D r:=by
 have nr:=a.nd;obtain ⟨ks,pk,_,rfl⟩:=a;rw [<-sZ nr,afi nd pk,sZ nd]
theorem wM.len (a:wM D rs):rs.length<=D.length:=by
 obtain ⟨ks,pk,_,rfl⟩:=a;have:=tR D ks
 rw [pk.length_eq,Cm] at this;exact this
structure Fc (L m:Nat) (us:List Tm):Prop where
 len:us.length<=10
 srt:(us.map (·.1)).Pairwise (· < ·)
 ok:∀ t∈us,t.1.length=L/\t.2≠0/\Sm m t.2/\∀ p∈t.1,0<=p/\p<=3
theorem Fc.mt (h:Fc L m us)(hm:m<=300):Mt L us:=⟨by have:=h.len;lia,h.srt,fun t ht=>⟨(h.ok t ht).1,(h.ok t ht).2.1,(h.ok t ht).2.2.1.mono hm,fun p hp=>by have:=(h.ok t ht).2.2.2 p hp;lia⟩⟩
theorem Fc.kb (h:Fc L m us)(ht:t∈us):Kb L t.1:=⟨(h.ok t ht).1,fun p hp=>by have:=(h.ok t ht).2.2.2 p hp;lia⟩
theorem CZ {m':Nat}(hu:Fc L m us)(hv:Fc L m' vs){u:Tm}(ht:t∈us)(hu':u∈vs):Kb L (bZ t.1 u.1):=
 Fb ⟨(hu.ok t ht).1,fun p hp=>by have:=(hu.ok t ht).2.2.2 p hp;lia⟩ ⟨(hv.ok u hu').1,fun p hp=>by have:=(hv.ok u hu').2.2.2 p hp;lia⟩
variable {vi : List Tm}
theorem Fc.vt (h:Fc L m (vi++[ld]))(hm:m<=300):Vt L (vi++[ld]) ld:=⟨⟨vi,rfl⟩,fun t ht=>⟨h.kb ht,(h.ok t ht).2.1,(h.ok t ht).2.2.1.mono (by lia)⟩,h.srt,by have:=h.len;lia⟩
theorem uH (hp:Jh c0)(e:List Int->Int)(hL:L<=8)(hm:m<=300)(hu:Fc L 101 us)(hv:Fc L m (vi++[ld]))(hr:Dc L rs)(lr:rs.length<=1000)(hg:∀ r,getM rs r=pr us (vi++[ld]) r+e r)
  (he:∀ r,e r≠0->Sm 1000 (e r)/\((e r).fmod ld.2≠0\/Ng (eG r ld.1))/\∀ t∈us,pack r<pack t.1+pack ld.1\/pack r=pack t.1+pack ld.1/\(e r).fmod ld.2≠0)
  (q1:(∀ r,e r=0)->Q (BX us) h) (q2:(∃ r,e r≠0)->Q .non h):c0 [BX rs,BX (vi++[ld])] h Q E:=by
 have ml:ld∈vi++[ld]:=by simp
 exact Dg hp (L:=L) e hL ⟨fun t ht=>⟨hu.kb ht,(hu.ok t ht).2.1,(hu.ok t ht).2.2.1.mono (by decide)⟩,hu.srt,by have:=hu.len;lia⟩ (hv.vt hm) (by have:=hv.len;lia) ((hv.ok ld ml).2.2.1.mono (by lia)) hr lr (fun t ht u hu'=>CZ hu hv ht hu') hg he q1 q2
theorem DY {m':Nat}(hu:Fc L m us)(hv:Fc L m' vs)(a:wM (p7 us vs) rs):Dc L rs/\rs.length<=100/\∀ r,getM rs r=pr us vs r:=by
 have kk:∀ {m:Nat} {us:List Tm},Fc L m us->∀ t∈us,t.1.length=L/\∀ p∈t.1,0<=p/\p<=40:=fun h t ht=>⟨(h.ok t ht).1,fun p hp=>by have:=(h.ok t ht).2.2.2 p hp;lia⟩
 have f:=a.facts (vY (kk hu) (kk hv)) (xZ us vs);refine ⟨⟨fun j hj=>?_,fU f.2,fun t ht=>(f.1 t ht).2⟩,?_,fun r=>?_⟩
 ·obtain ⟨t,ht,rfl⟩:=Cr.mp hj;exact (f.1 t ht).1
 ·refine Cg a.len<|Cg (sW us vs)<|Cg (Nat.mul_le_mul hu.len hv.len)<|by decide
 ·rw [a.get (xZ us vs),acg]
theorem K8 (hu:Dc L us)(lu:us.length<=100)(nv:(vs.map (·.1)).Nodup)(kv:∀ t∈vs,Kb L t.1)(lv:vs.length<=10)(a:wM (tG 1 us vs) rs):Dc L rs/\rs.length<=1000/\∀ r,getM rs r=getM us r+getM vs r:=by
 have kd:∀ k∈(tG 1 us vs).map (·.1),Kb L k:=fun k hk=>by
  rcases v7 k hk with m | m
  ·exact hu.kb k m
  ·obtain ⟨t,ht,rfl⟩:=Cr.mp m;exact kv t ht
 have f:=a.facts kd (xY hu.nd);refine ⟨⟨fun j hj=>?_,fU f.2,fun t ht=>(f.1 t ht).2⟩,?_,fun r=>?_⟩
 ·obtain ⟨t,ht,rfl⟩:=Cr.mp hj;exact (f.1 t ht).1
 ·have:=a.len
  have:=rA 1 us vs
  lia
 ·rw [a.get (xY hu.nd),abm,sZ nv,Int.one_mul]
theorem Du (x:Q (.bl (!Hw w)) h):Bb w .non h Q:=by cases w <;> exact x
theorem ne_nil {s:List Tm}(k:Q (.bl (decide (s≠[]))) h):Ii (BX s) (.tup []) h Q:=by
 show GF (DW 30 (BX s)&&DW 30 (.tup [])) (Q (.bl (!Cp (BX s) (.tup []))) h) False;rw [Mp 26];have:(!Cp (BX s) (.tup []))=decide (s≠[]):=by
  cases s with
  | nil=>rfl
  | cons t s=>rfl
 rw [this];exact k
def dbl (N:Int)(t:Tm):Tm:=(t.1,t.2*N)
theorem adk {N:Int}(h:Fc L 101 vs)(n2:2<=N)(sN:Sm 100 N):Fc L 201 (vs.map (dbl N)):=by
 refine ⟨by rw [Cm];exact h.len,?_,fun t ht=>?_⟩
 ·rw [Ho];exact h.srt
 ·obtain ⟨u,hu,rfl⟩:=Cr.mp ht;obtain ⟨h1,h2,h3,h4⟩:=h.ok u hu;exact ⟨h1,Int.mul_ne_zero h2<|by lia,Sm.mul h3 sN,h4⟩
theorem one_mod {a N:Int}(ha:a≠0)(hN:2<=N):(1:Int).fmod (a*N)≠0:=fun e=>by
 have d:=Int.dvd_of_fmod_eq_zero e;have:=Int.natAbs_dvd_natAbs.mpr d
 rw [Int.natAbs_mul] at this;have:=Nat.le_of_dvd (by decide) this
 have h1:1<=a.natAbs:=by lia
 have h2:2<=N.natAbs:=by lia
 have:=Nat.mul_le_mul h1 h2
 have e1:(1:Int).natAbs=1:=rfl;lia
theorem aci {r:List Int}(hu:Fc L m us)(hv:Fc L 101 (vi++[ld]))(hr:Kb L r)(h0:0<L)(h:r.getD 0 0<ld.1.getD 0 0):Ng (eG r ld.1)/\∀ t∈us,pack r<pack t.1+pack ld.1:=by
 have ml:ld∈vi++[ld]:=by simp
 have kl:=hv.kb ml;obtain ⟨a,r',er⟩:∃ a r',r=a::r':=QD fun e=>by rw [e] at hr;have:=hr.1;simp at this;lia
 obtain ⟨b,l',el⟩:∃ b l',ld.1=b::l':=QD fun e=>by rw [e] at kl;have:=kl.1;simp at this;lia
 rw [er,el] at h;have h:a<b:=h;refine ⟨⟨a - b,by rw [er,el];exact JK,by lia⟩,fun t ht=>?_⟩;have kt:=hu.kb ht;obtain ⟨c,t',et⟩:∃ c t',t.1=c::t':=QD fun e=>by rw [e] at kt;have:=kt.1;simp at this;lia
 rw [<-dD kt.1 kl.1];refine (oR hr<|CZ hu hv ht ml).mp ?_;have c0:=(kt.2 c (by rw [et];simp)).1;rw [er,et,el];have:a<c+b:=by lia
 exact Mg.mpr<|.inl this
section
variable {ce su is pd ad se re wo lo:Bd}(hpa:Jh pa)(hce:lM ce)(hsu:Vp su)(his:Wh is)(hpd:PdX pd)(had:AdX ad)(hse:YL se)(hre:RsX re)
 (hwo:∀ {h:Gh} {us:List Tm} {Q:WK} {E:CN},Q (.str "no part") h->wo [BX us,BX []] h Q E) (hlo:YW lo)
include hpa hce hsu his hpd had hse hre hwo hlo
theorem abU {s7:Option W}(hL:L<=8)(hu:Fc L 101 us)(hv:Fc L 101 (vi++[ld]))(hr:wM (p7 us (vi++[ld])) rs):
  mZ pa ce su is pd ad se re wo lo E { nx:=fun _ h'=>False,rt:=fun w _=>w=.bl true } [Mk (.kls (ns.map .int)),Mk (.int L),Mk (BX us),Mk (BX (vi++[ld])),Mk (BX rs),s5,s6,s7,s8] h:=by
 obtain ⟨dc,lr,g⟩:=DY hu hv hr;unfold mZ;refine aM<|cB<|mU<|bJ<|aL<|aQ<|ao<|aq rfl<|ao<|aZ<|aD<|aV rfl<|aD ?_
 refine hwo<|bA<|Oo<|m9<|qb rfl ?_
 refine mU<|bJ<|aL<|aQ<|ao<|aZ<|aD<|aV rfl<|ao<|aZ<|aD<|aV rfl<|aD ?_
 refine hwo (us:=[])<|bA<|Oo<|m9<|qb rfl ?_
 refine gF<|eX<|aQ<|ao<|aq rfl<|ao<|aq rfl<|aD ?_
 refine hlo hL fun h' ge=>Ae rfl<|qb rfl<|bO<|bY ?_
 unfold yN;refine cg<|aQ<|ao<|aQ<|ao<|aq rfl<|ao<|aq rfl<|aD ?_
 refine uH hpa (fun _=>0) hL (by decide) hu hv dc (by lia) (fun r=>by rw [g,Nm]) (fun r c=>absurd rfl c) (fun _=>?_) fun ⟨_,c⟩=>absurd rfl c;exact ao<|aq rfl<|aD<|his (L:=L) (by have:=hu.len;lia) hL (fun t ht=>(hu.ok t ht).1)<|pZ rfl
theorem aeM {s7:Option W}(hL:L<=8)(hu:Fc L 101 us)(hv:Fc L 101 (vi++[ld]))(hr:wM (p7 us (vi++[ld])) rs):
  sy pa ce su is pd ad se re wo lo E { nx:=fun _ h'=>False,rt:=fun w _=>w=.bl true } [Mk (.kls (ns.map .int)),Mk (.int L),Mk (BX us),Mk (BX (vi++[ld])),Mk (BX rs),s5,s6,s7,s8] h:=by
 unfold sy;refine aM<|bx<|aL<|bA<|aL<|aQ<|ao<|aq rfl<|ao<|bA<|aD<|hce (by decide) ?_
 refine aL<|bA<|bA<|Dl ⟨by decide,by decide,by decide⟩ ?_
 refine cU (by decide)<|dU ?_
 obtain ⟨c0,c1⟩:=d8 (ns.getD (4:Int).toNat 0) (b:=10^(20:Int).toNat) (by decide);generalize eN:2+(ns.getD (4:Int).toNat 0).fmod (10^(20:Int).toNat)=N;have n2:2<=N:=by lia
 have sN:Sm 100 N:=by
  unfold Sm;have:(10:Int)^(20:Int).toNat=100000000000000000000:=by decide
  rw [this] at c1 c0 eN;have:N.natAbs<=100000000000000000002:=by lia
  exact Mw this<|by decide
 refine nV<|bY ?_
 refine aM<|bx<|dO<|ao<|tV<|pX<|aq rfl<|CP (ws:=(vi++[ld]).map Cw) (o:=YK) rfl<|gK.mk (Cg (m:=30000) (by rw [Cm];have:=hv.len;lia)<|by decide) ?_
 refine jL (fun j acc g=>g=h/\acc=(((vi++[ld]).take j).map (dbl N)).map Cw) ?_ ?_ ⟨rfl,rfl⟩
 ·rintro j w acc g N' hN e ⟨rfl,rfl⟩;rw [Hi] at e;cases qe:(vi++[ld])[j]? with
  | none=>rw [qe] at e;cases e
  | some t=>
   rw [qe] at e;cases e;have h3:=(hv.ok t (O2 qe)).2.2.1;refine ⟨[.tup<|t.1.map .int,.int t.2],rfl,jX<|jV<|aZ<|ao<|aq rfl<|ao<|aL<|aq rfl<|aq rfl<|oO (.of h3 sN (by decide)<|by decide)<|aD<|aV rfl<|hN _ _ ⟨rfl,?_⟩⟩;rw [JC,qe,Em,Em];rfl
 ·rintro acc g ⟨rfl,rfl⟩;rw [Cm,Jb];refine aD<|jc ?_
  have hd:=adk hv n2 sN;have ed:(vi++[ld]).map (dbl N)=vi.map (dbl N)++[dbl N ld]:=by rw [Em];rfl
  refine nV<|bY ?_
  refine aM<|bx<|aQ<|ao<|aQ<|ao<|aq rfl<|ao<|aq rfl<|aD ?_
  refine hpd (hu.mt<|by decide) (hd.mt<|by decide) hL fun ps h1 hp g1=>?_;refine ao<|aZ<|ao<|aZ<|ao<|aL<|aZ<|ao<|bA<|aD<|aV rfl<|aq rfl<|Qa hL ?_
  refine ao<|bA<|aD<|aV rfl<|aD<|aV rfl<|aD ?_
  show ad [BX ps,BX [(BK L 0,1)]] _ _ _;obtain ⟨dc,lp,gp⟩:=DY hu hd hp;have k0:Kb L (BK L 0):=⟨by simp,fun p hp=>by rw [(List.mem_replicate.mp hp).2];decide⟩
  refine had (L:=L) dc.nd (by lia) (by simp) (fun t ht=>(dc.kb t.1<|Cr.mpr ⟨t,ht,rfl⟩).1) (fun t ht=>by rw [Fd.mp ht];simp) fun ms hm=>?_;obtain ⟨dm,lm,gm⟩:=K8 (L:=L) dc lp (by simp) (fun t ht=>by rw [Fd.mp ht];exact k0) (by simp) hm;refine nV<|bY ?_
  refine aM<|cB<|bJ<|aL<|aQ<|ao<|aq rfl<|ao<|aq rfl<|aD ?_
  rw [ed] at hd gp |-
  have fin:mZ pa ce su is pd ad se re wo lo E { nx:=fun _ h'=>False,rt:=fun w _=>w=.bl true } [Mk (.kls (ns.map .int)),Mk (.int L),Mk (BX us),Mk (BX (vi++[ld])),Mk (BX rs),s5,Mk (.int N),Mk (BX (vi.map (dbl N)++[dbl N ld])),Mk (BX ms)] h1:=abU hpa hce hsu his hpd had hse hre hwo hlo hL hu hv hr;have ld0:=(hv.ok ld (by simp)).2.1;have e0:∀ r,getM [((BK L 0:List Int),(1:Int))] r≠0->r=BK L 0/\getM [((BK L 0:List Int),(1:Int))] r=1:=fun r c=>by
   rw [bD] at c |-
   by_cases e:BK L 0=r
   ·exact ⟨e.symm,if_pos e⟩
   ·rw [if_neg e] at c;exact absurd rfl c
  refine uH hpa (getM [(BK L 0,1)]) hL (by decide) hu hd dm lm (fun r=>by rw [gm,gp]) (fun r c=>?_) (fun c=>?_) fun _=>?_
  ·obtain ⟨rfl,e⟩:=e0 r c;rw [e];have fm:(1:Int).fmod (dbl N ld).2≠0:=one_mod ld0 n2;refine ⟨Ky (by lia)<|by decide,.inl fm,fun t ht=>?_⟩;have p1:=(jy (hu.kb ht)).1;have p2:=(jy (hv.kb (t:=ld) (by simp))).1;have p0:pack (BK L 0)=0:=by
    have:∀ n,pack (BK n 0)=0:=fun n=>by
     induction n with
     | zero=>rfl
     | succ n ih=>rw [List.replicate_succ',cF,ih];rfl
    exact this L
   rw [p0];show 0<pack t.1+pack ld.1\/0=pack t.1+pack ld.1/\_;rcases Int.lt_or_eq_of_le (show 0<=pack t.1+pack ld.1 by lia) with c | c
   ·exact .inl c
   ·exact .inr ⟨c,fm⟩
  ·have:=c (BK L 0)
   rw [bD,if_pos rfl] at this;cases this
  ·refine bA<|Du<|m9<|qb rfl<|bO<|bY ?_
   exact fin
theorem Wq:NP pa ce su is pd ad se re wo lo [.kls (ns.map .int)] h (fun w _=>w=.bl true) EF:=by
 unfold NP;refine jm rfl (Z:=[Mk<|.kls<|ns.map .int,YK,YK,YK,YK,YK,YK,YK,YK]) rfl ?_;refine aM<|bx<|aL<|aQ<|ao<|aq rfl<|ao<|bA<|aD<|hce (by decide) ?_
 refine bA<|cU (by decide) ?_
 obtain ⟨L,eL,lL⟩:=jz (ns.getD (0:Int).toNat 0) 9 (by decide);have eL:(ns.getD (0:Int).toNat 0).fmod 9=(L:Int):=eL;rw [eL];have hL:L<=8:=by lia
 refine nV<|bY ?_
 refine aM<|bx<|aQ<|ao<|aq rfl<|ao<|bA<|ao<|aq rfl<|ao<|aL<|aQ<|ao<|aq rfl<|ao<|bA<|aD<|hce (by decide) ?_
 refine bA<|cU (by decide)<|ao<|bA<|aD ?_
 obtain ⟨m,em,lm⟩:=jz (ns.getD (1:Int).toNat 0) 11 (by decide);have em:(ns.getD (1:Int).toNat 0).fmod 11=(m:Int):=em;rw [em];refine hsu (mo:=3) (by decide) (by decide) hL (by lia) (by decide) fun us h1 wf lu su' p3 ge=>?_;have hu:Fc L 101 us:=⟨by lia,su',fun t ht=>⟨(wf t ht).1,(wf t ht).2.1,(wf t ht).2.2.1,fun p hp=>⟨((wf t ht).2.2.2 p hp).1,p3 t ht p hp⟩⟩⟩
 refine nV<|bY ?_
 refine aM<|bx<|aQ<|ao<|aq rfl<|ao<|aq rfl<|aD ?_
 refine hse hL fun vs h2 mv nv l6 sv ge2=>?_;have hv:Fc L 101 vs:=⟨by lia,mv.2.1,fun t ht=>⟨(mv.2.2 t ht).1,(mv.2.2 t ht).2.1,(sv t ht).1,fun p hp=>⟨((mv.2.2 t ht).2.2.2 p hp).1,(sv t ht).2 p hp⟩⟩⟩
 obtain ⟨vi,ld,rfl⟩:∃ vi ld,vs=vi++[ld]:=by
  rcases List.eq_nil_or_concat vs with e | ⟨vi,ld,e⟩
  ·exact absurd e nv
  ·exact ⟨vi,ld,by rw [e,List.concat_eq_append]⟩
 refine nV<|bY ?_
 refine aM<|bx<|aQ<|ao<|aq rfl<|ao<|aq rfl<|aD ?_
 refine hpd (hu.mt<|by decide) (hv.mt<|by decide) hL fun rs h3 hr ge3=>?_;obtain ⟨dc,lr,g⟩:=DY hu hv hr;refine nV<|bY ?_
 refine aM<|cB<|mU<|gF<|eX<|aQ<|ao<|aQ<|ao<|aq rfl<|ao<|aq rfl<|aD ?_
 refine uH hpa (fun _=>0) hL (by decide) hu hv dc (by lia) (fun r=>by rw [g,Nm]) (fun r c=>absurd rfl c) (fun _=>?_) fun ⟨_,c⟩=>absurd rfl c;refine ao<|aq rfl<|aD<|his (L:=L) (by have:=hu.len;lia) hL (fun t ht=>(hu.ok t ht).1)<|Ae rfl<|qb rfl ?_
 refine bJ<|aL<|aQ<|ao<|aZ<|aD<|aV rfl<|ao<|aq rfl<|aD ?_
 refine uH hpa (us:=[]) (rs:=[]) (fun _=>0) hL (by decide) ⟨by simp,List.Pairwise.nil,fun t ht=>absurd ht Ja⟩ hv ⟨fun j hj=>absurd hj Ja,Pr,fun t ht=>absurd ht Ja⟩ (by simp) (fun r=>rfl) (fun r c=>absurd rfl c) (fun _=>?_) fun ⟨_,c⟩=>absurd rfl c;refine aZ<|aD<|aV rfl<|acV (s:=[])<|m9<|qb rfl<|bO<|bY ?_
 unfold DR;have ml:ld∈vi++[ld]:=by simp
 refine aM<|bx<|aQ<|ao<|aq rfl<|ao<|aq rfl<|ao<|aq rfl<|aD ?_
 refine hre hL ⟨vi,rfl⟩ (hv.ok ld ml).1 (fun p hp=>((hv.ok ld ml).2.2.2 p hp).1) fun es h4 ge4 hs=>?_;refine nV<|bY ?_
 refine aM<|cB<|KJ<|bJ<|aL<|aq rfl<|aZ<|aD<|aV rfl<|ne_nil<|m9 ?_
 have fin:∀ {h:Gh},sy pa ce su is pd ad se re wo lo EF { nx:=fun _ h'=>False,rt:=fun w _=>w=.bl true } [Mk (.kls (ns.map .int)),Mk (.int L),Mk (BX us),Mk (BX (vi++[ld])),Mk (BX rs),Mk (BX es),YK,YK,YK] h:=aeM hpa hce hsu his hpd had hse hre hwo hlo hL hu hv hr
 refine G7 (fun c=>?_) fun c=>pA<|bO<|bY fin
 rcases hs with e | ⟨l4,se',L0,es'⟩
 ·exact absurd e c
 refine bJ<|aL<|aQ<|ao<|aQ<|ao<|aq rfl<|ao<|aq rfl<|aD ?_
 have kb:∀ t∈es,Kb L t.1:=fun t ht=>⟨(es' t ht).1,fun p hp=>by have:=(es' t ht).2.2.2.1 p hp;lia⟩
 refine had (L:=L) dc.nd (by lia) (by lia) (fun t ht=>(dc.kb t.1<|Cr.mpr ⟨t,ht,rfl⟩).1) (fun t ht=>(es' t ht).1) fun ms hm=>?_;obtain ⟨dm,lm,gm⟩:=K8 (L:=L) dc lr (fU se') kb (by lia) hm;refine ao<|aq rfl<|aD ?_
 have ne:∃ r,getM es r≠0:=by
  obtain ⟨t,es'',rfl⟩:=QD c;exact ⟨t.1,by rw [bD,if_pos rfl];exact (es' t JK).2.1⟩
 refine uH hpa (getM es) hL (by decide) hu hv dm lm (fun r=>by rw [gm,g]) (fun r c=>?_) (fun c=>?_) fun _=>?_
 ·obtain ⟨t,ht,rfl⟩:=Cr.mp (get_mem c);have:=es' t ht
  have x:=aci hu hv (kb t ht) L0 this.2.2.2.2;rw [jR (fU se') ht];exact ⟨this.2.2.1.mono<|by decide,.inr x.1,fun u hu'=>.inl<|x.2 u hu'⟩
 ·obtain ⟨r,nz⟩:=ne;exact absurd (c r) nz
 ·exact bA<|Du<|m9<|qb rfl<|bO<|bY fin
end
theorem Rq (ns:List Int)(_:ns.length<=63):Jk [.kls (ns.map W.int)] g0 (fun w _=>w=.bl true) EF:=by
 have od:Kv bF:=aaI;have dr:xR gM:=aeb vf;have su:Vp fW:=w_sum dr aaq abg od.x;have pa:Jh bN:=zaT J7 WY (Zd J7) adA adO;have np:NpX bN:=aby;exact Wq pa vf su Sd (W6 od) (acw od) (abb vf su) (Wg vf od su) (fun q=>adD np q)<|X7 pa vf od Sd fun hn q=>aeV (fun x=>aaZ pa hn x) q
end My
namespace PySem.W.Fast
def tw15199911654279987053:=()
def tw11135650891320254696:=()
def tw14128424111961013480:=()
def tw5237871623822840644:=()
def tw11181898730986254750:=()
def tw3723835163446630450:=()
def tw15627508473721808953:=()
def tw16083504020347750644:=()
def tw3803626792049634651:=()
def tw5420305913559657784:=()
def tw2503063801462473662:=()
def tw11645805052627840043:=()
def tw6591921627924731252:=()
def tw5914017479761956267:=()
def tw15768680399148914648:=()
def tw10478825625702083658:=()
def tw13592554577654329343:=()
def tw8381594799033397767:=()
def tw6913688634064671284:=()
def tw5747755424546686902:=()
def tw10007167952620668618:=()
def tw10391233598117891615:=()
def tw444989741415755091:=()
def tw4608352059710457018:=()
def tw273554985554133032:=()
def tw16684159903414036184:=()
def tw10678558461718344782:=()
def tw11737498985728555180:=()
def tw416849968651830623:=()
def tw17705060773235802282:=()
def tw3757389545306832208:=()
def tw4698614021699617711:=()
def tw3563149413327442357:=()
def tw11315269551832718572:=()
def tw669067976401248089:=()
def tw5282601992150732713:=()
def tw12837866460092216192:=()
def tw16890971740780942967:=()
def tw10047204812944008696:=()
def tw4701493037286167238:=()
def tw16063735724653174058:=()
def tw10740639218820395461:=()
def tw9434865388952079938:=()
def tw8380049055239677278:=()
def tw12043541987630489859:=()
def tw31031092671011826:=()
def tw5018360457075442210:=()
def tw15601008061056336566:=()
def tw15560413511024297827:=()
def tw13460286306917775430:=()
def tw10987707928999914325:=()
def tw6049420041172061681:=()
def tw5427061372418048949:=()
def tw16895589680499945457:=()
def tw13548503058974886880:=()
def tw6681589101587860792:=()
def tw15988282471028964289:=()
def tw6841936466550706091:=()
def tw9072574930610013315:=()
def tw4501877918504622205:=()
def tw18397157855626536255:=()
def tw12575876967594006510:=()
def tw5558056099798499325:=()
def tw13868452029088409094:=()
def tw10890352716029299844:=()
def tw13820817363878663976:=()
def tw9039655707528142758:=()
end PySem.W.Fast
open PySem PySem.W PyProof.Rows
theorem PySem.Challenge.cw_easelroom_k55_parted_holds : PySem.Challenge.rw_easelroom_k55_parted.Holds := by
 w_on;o_law;k_head;(case hw=>w_witness2)
 k_fill
 refine My.walk (l:=PySem.Challenge.rw_easelroom_k55_parted) rfl rfl (fun w h Y=>PySem.W.kIn_of Y) ?F
 case F=>
  intro w mg fa h KX G hmg;refine' My.all_mk My.Rq KX G hmg ?a0 ?l0 ?c0 ?k0 ?a1 ?l1 ?c1 ?k1 ?a2 ?l2 ?c2 ?k2 ?a3 ?l3 ?c3 ?k3 ?a4 ?l4 ?c4 ?k4 ?a5 ?l5 ?c5 ?k5 ?a6 ?l6 ?c6 ?k6 ?a7 ?l7 ?c7 ?k7 ?a8 ?l8 ?c8 ?k8 ?a9 ?l9 ?c9 ?k9 ?a10 ?l10 ?c10 ?k10 ?a11 ?l11 ?c11 ?k11 ?a12 ?l12 ?c12 ?k12 ?a13 ?l13 ?c13 ?k13 ?a14 ?l14 ?c14 ?k14 ?a15 ?l15 ?c15 ?k15 ?a16 ?l16 ?c16 ?k16 ?a17 ?l17 ?c17 ?k17 ?a18 ?l18 ?c18 ?k18 ?a19 ?l19 ?c19 ?k19 ?z_ValueError ?z_all ?z_any ?z_bool ?z_dict ?z_int ?z_isinstance ?z_len ?z_max ?z_range ?z_reversed ?z_sorted ?z_tuple ?z_zip ?gk_MOST_TERMS ?gk_FIELD ?gx_EaselError ?xd_EaselError ?gx_Nothing ?xd_Nothing ?gx_Stuck ?xd_Stuck ?gx_NoPart ?xd_NoPart ?xc_NoPart ?xq_NoPart ?gx_TooMuch ?xd_TooMuch ?xc_TooMuch ?xq_TooMuch
  (case a0 | l0 | c0 | k0 | a1 | l1 | c1 | k1 | a2 | l2 | c2 | k2 | a3 | l3 | c3 | k3 | a4 | l4 | c4 | k4 | a5 | l5 | c5 | k5 | a6 | l6 | c6 | k6 | a7 | l7 | c7 | k7 | a8 | l8 | c8 | k8 | a9 | l9 | c9 | k9=>k_is)
  (case a10 | l10 | c10 | k10 | a11 | l11 | c11 | k11 | a12 | l12 | c12 | k12 | a13 | l13 | c13 | k13 | a14 | l14 | c14 | k14 | a15 | l15 | c15 | k15 | a16 | l16 | c16 | k16 | a17 | l17 | c17 | k17 | a18 | l18 | c18 | k18 | a19 | l19 | c19 | k19=>k_is)
  (case z_ValueError | z_all | z_any | z_bool | z_dict | z_int | z_isinstance | z_len | z_max | z_range | z_reversed | z_sorted | z_tuple | z_zip | gk_MOST_TERMS | gk_FIELD | gx_EaselError=>k_is)
  (case xd_EaselError=>kernel_rfl)
  (case gx_Nothing=>k_is)
  (case xd_Nothing=>kernel_rfl)
  (case gx_Stuck=>k_is)
  (case xd_Stuck=>kernel_rfl)
  (case gx_NoPart=>k_is)
  (case xd_NoPart | xc_NoPart=>kernel_rfl)
  (case xq_NoPart=>k_exc)
  (case gx_TooMuch=>k_is)
  (case xd_TooMuch | xc_TooMuch=>kernel_rfl)
  (case xq_TooMuch=>k_exc)
