import PyProof.Rows.All
import Wide.All
import OpenK.AllK
import Wide.FinOn
import Lean
import PyProof.EqAt
import PyProof.EqKinds
import PyProof.TupleCall
import PySem.Challenge.RW_easelroom_k91_drawings_written_and_read
set_option Elab.async false
set_option linter.all false
set_option maxRecDepth 100000
set_option maxHeartbeats 0
local macro_rules | `(tactic| lia) => `(tactic| first | lia (splits := 9) | omega)
open Option renaming some→Dn,none→FN
open PySem.W renaming Frag→Yc,mg_of→YJ,nsIn→Zg,mg_none_of→Zq,keepIn→Fx,findIn→J1,fnOf→JR
open List renaming length_map→Yd,getElem?_eq_getElem→Yk,getElem?_eq_some_iff→Yn,getElem?_map→Yo,mem_cons→Yq,size_toArray→Yr,length_append→Yw,mem_cons_self→Yz,length_cons→YB,mem_cons_of_mem→YH,map_append→YK,mem_of_getElem?→YL,mem_map→YT,lookup_cons→YZ,mem_singleton→Y0,not_mem_nil→Y5,take_length→Za,all_eq_true→Zf,getElem?_append_right→Zh,getD_eq_getElem?_getD→Zi,mem_append_right→Zm,take_succ→Zn,length_take→Zo,mem_append→Zr,getElem?_append_left→Zu,map_map→ZC,replicate→ZD,append_assoc→ZG,length_range'→ZL,map_cons→ZM,cons_ne_nil→ZR,range→ZX,map_congr_left→Z0,drop_eq_getElem_cons→Z5,length_drop→J5,getElem_mem→J4,length_pos_iff→Ji,getElem_of_mem→Jh,find?_cons→J3,any_cons→Fv,all_cons→IW,eq_nil_of_length_eq_zero→Lf,take_of_length_le→Kq,filter_append→KD,getElem?_replicate→LC,mem_range→Ju,drop_zero→Jt,getElem?_eq_none→Kr,cons_append→Kf,any_eq_true→Ke,nodup_cons→KZ,length→Jx
open PySem renaming Value→Ye,wpAny_bind→Yg,Spec→Yi,Shared→Yj,mainGlobals→Ys,boot_len→Yu,wpAny_pure→Yx,Program→YF,starEach→YG,sizeLine→YQ,Around→YW,NameKind→YX,wpAny→Y7,FuncData→Y8,World→Zb,Builtin→Zj,model→Zk,cellsFrom→Zt,compareOp→Zv,mem_of_lookup→Zz,assignEach→ZF,wpAny_field→ZJ,wpAny_callSpecial?_slot→ZV,wpAny_mono→ZW,wpAny_newObj_type→J7,wpAny_holding→FZ,binaryOp→Cq,backTo→Am,sysModules→Em,foldedSetIterable→Jp,attributeBase→JB,wpAny_call_entry→Jo,wpAny_seqItems→JL,wpAny_setField_rec→K8,wpAny_Call_Name_kw→K6,bootBuiltins→J9,wpAny_truthy_bool→K5,Paired→JD,SetTable→LI,Keyword→Dq,PyData→abq,wpAny_pyIter_list→Kc,keywordEach→JF,PassesOwn→abG,behindInMarks→Jz,wpAny_passesOwn→KY,sliceBounds→Jd,cLine→Bj,IsPair→Du,typeIs_str→Jc,call_meets→JX
open PySem.Heap renaming get?_push_of_some→Yh,lt_size→Yt,get?_push_size→YC,size_push→Fw,SameBut→Jf
open Nat renaming lt_of_lt_of_le→Yl,le_refl→Ym,ne_of_lt→Yv,le_of_ble_eq_true→YD,le_trans→YS,lt_irrefl→ZP,ne_of_gt→ZS,lt_succ_self→JK,le_succ→Ew,beq→DK,lt_of_le_of_lt→KC,not_lt_zero→Jl,eq_of_beq_eq_true→Ko,le_add_right→K3,zero_le→J8,le_of_lt→Je,zero_add→Jy
open Option.some renaming inj→Yp
open Option renaming map_eq_some_iff→Yy,getD_some→KH,map_some→Ka
open Bool renaming and_eq_true→YM,false_ne_true→Y6,not_eq_true→K4,false_eq_true→KN,eq_iff_iff→Jw
open PySem.Str renaming length_append→Y4,join→Et,ofString→JM
open PySem.PyData renaming keyHash→Y9
open PySem.SeqAt renaming EqAt→Zc,ne_of_list_tuple→Kz
open PySem.Builtin.SmallTypes renaming nextOf→Zd,ownedTupleIsFree→Z8
open PySem.Txt renaming join→Ze,split→ZK,contains→JQ
open PyProof.Rows renaming boot_isinstance→Zx,slot_tuple_getitem→Zy,callWith_type1→LK,fact_split→Lb,SortKind→HI,kindOf→Dk,Keyed→CQ,SortSt→Ed,AllBare→Ft
open Int renaming toNat_natCast→ZQ,eq_ofNat_of_zero_le→K1,emod_lt_of_pos→K9,natCast_nonneg→KJ,emod_nonneg→Jv
open PySem.StrLaws renaming glued_eq_join→Kh,sliceText→Jg
open Ne renaming symm→Bk
open PySem.F renaming slot_tuple_iterator_next→LQ,slot_zip_next→Kv
open PySem.PassesOwn renaming never→JH
open PySem.Builtin.Slice renaming slicePlaces→Le
open PySem.Builtin.Tuple renaming tupleExact→Ld
open False renaming elim→Fb
open Array renaming length_toList→Kl
open PySem.SetTable renaming bits→Jk
open PySem.Calls renaming callWith_builtin→Ky
open PySem.Builtin.Str renaming strKind→Ku
namespace L2
open PySem PySem.Spec PyProof.Rows
abbrev Key:=Sum Int Str
def uf:Key->Ye->Bool
 | .inl k,v=>Value.isInt k v
 | .inr x,v=>Value.isStrOf x v
def WX (w:Zb):Key->Int
 | .inl k=>hashInt k
 | .inr x=>hashStr w x
theorem cF:∀ {k:Key} {v:Ye},uf k v=true->(∃ i t,k=Sum.inl i/\v=Value.int i t)\/(∃ x t,k=Sum.inr x/\v=Value.str x t)
 | .inl i,v,h=>by
  obtain ⟨t,e⟩:=Value.isInt_shape (k:=i) (v:=v) h;exact .inl ⟨i,t,rfl,e⟩
 | .inr x,v,h=>by
  obtain ⟨t,e⟩:=Value.isStrOf_shape (x:=x) (v:=v) h;exact .inr ⟨x,t,rfl,e⟩
theorem aan (i:Int)(t:Tok):uf (.inl i) (.int i t)=true:=by simp [uf,Value.isInt]
theorem zaA (x:Str)(t:Tok):uf (.inr x) (.str x t)=true:=by simp [uf,Value.isStrOf]
theorem Qd (a b:Int):decide ((Sum.inl a:Key)=Sum.inl b)=(a==b):=by
 by_cases e:a=b
 ·subst e;simp
 ·have h:¬ (Sum.inl a:Key)=Sum.inl b:=fun q=>e (Sum.inl.inj q)
  rw [decide_eq_false h];exact (beq_eq_false_iff_ne.mpr e).symm
theorem Nq (a b:Str):decide ((Sum.inr a:Key)=Sum.inr b)=decide (a=b):=by
 by_cases e:a=b
 ·subst e;simp
 ·have h:¬ (Sum.inr a:Key)=Sum.inr b:=fun q=>e (Sum.inr.inj q)
  rw [decide_eq_false h,decide_eq_false e]
theorem RP (a:Int)(b:Str):decide ((Sum.inl a:Key)=Sum.inr b)=false:=decide_eq_false (fun q=>nomatch q)
theorem QS (a:Str)(b:Int):decide ((Sum.inr a:Key)=Sum.inl b)=false:=decide_eq_false (fun q=>nomatch q)
def cJ (prog:YF)(w:Zb):PySem.KeyKind prog w Key where
 is:=uf
 hash:=WX w
 inj:=fun v a b ha hb=>by
  rcases cF ha with ⟨i,t,rfl,rfl⟩ | ⟨x,t,rfl,rfl⟩
  ·rcases cF hb with ⟨j,u,rfl,e⟩ | ⟨y,u,rfl,e⟩
   ·injection e with e1 _;rw [e1]
   ·exact nomatch e
  ·rcases cF hb with ⟨j,u,rfl,e⟩ | ⟨y,u,rfl,e⟩
   ·exact nomatch e
   ·injection e with e1 _;rw [e1]
 byValue:=fun k v h=>by
  rcases cF h with ⟨i,t,rfl,rfl⟩ | ⟨x,t,rfl,rfl⟩ <;> rfl
 pyHash:=fun hv h=>by
  rcases cF hv with ⟨i,t,rfl,rfl⟩ | ⟨x,t,rfl,rfl⟩
  ·exact wpAny_pyHash_int h
  ·exact wpAny_pyHash_str h
 eqBool:=fun hu hv h=>by
  rcases cF hu with ⟨i,t,rfl,rfl⟩ | ⟨x,t,rfl,rfl⟩
  ·rcases cF hv with ⟨j,u,rfl,rfl⟩ | ⟨y,u,rfl,rfl⟩
   ·rw [Qd] at h;exact wpAny_eqBool_int h
   ·rw [RP] at h;exact SeqAt.EqAt.int_str i t y u _ _ _ _ h
  ·rcases cF hv with ⟨j,u,rfl,rfl⟩ | ⟨y,u,rfl,rfl⟩
   ·rw [QS] at h;exact SeqAt.EqAt.str_int x t j u _ _ _ _ h
   ·rw [Nq] at h;exact wpAny_eqBool_str h
 «strs»:=fun k x t v h=>by
  rcases cF h with ⟨i,u,rfl,e⟩ | ⟨y,u,rfl,e⟩
  ·exact nomatch e
  ·injection e with e1 _
   subst e1;cases v <;> rfl
theorem wj (prog:YF)(w:Zb)(i:Int)(t:Tok):(cJ prog w).is (.inl i) (.int i t)=true:=aan i t
theorem vO (prog:YF)(w:Zb)(x:Str)(t:Tok):(cJ prog w).is (.inr x) (.str x t)=true:=zaA x t
inductive V where
 | non | bl (b:Bool) | int (i:Int) | str (x:Str) | byt (b:Array UInt8) | flt (b:UInt64) | ref (a:Addr) | ty (n:String)
 deriving DecidableEq
def RelV:V->Ye->Prop
 | .non,u=>u=Value.none
 | .bl b,u=>u=Value.bool b
 | .int i,u=>∃ t,u=Value.int i t
 | .str x,u=>∃ t,u=Value.str x t
 | .byt b,u=>∃ t,u=Value.bytes b t
 | .flt b,u=>∃ t,u=Value.float b t
 | .ref a,u=>u=Value.ref a
 | .ty n,u=>u=Value.type n
abbrev VL:List V->List Ye->Prop:=JD RelV
theorem VL.length {xs:List V}{us:List Ye}(r:VL xs us):xs.length=us.length:=Paired.length r
theorem VL.get:∀ {xs:List V} {us:List Ye} {i:Nat} {x:V},VL xs us->xs[i]?=Dn x->∃ u,us[i]?=Dn u/\RelV x u
 | _,_,_,_,.nil,e=>by simp at e
 | _,_,0,_,.cons r _,e=>by simp at e;subst e;exact ⟨_,rfl,r⟩
 | _,_,i+1,x,.cons _ t,e=>by
  obtain ⟨u,h1,h2⟩:=VL.get (i:=i) (x:=x) t (by simpa using e);exact ⟨u,by simpa using h1,h2⟩
theorem VL.set {x:V}{u:Ye}(r:RelV x u):∀ {xs:List V} {us:List Ye} (i:Nat),VL xs us->VL (xs.set i x) (us.set i u)
 | _,_,_,.nil=>.nil
 | _,_,0,.cons _ t=>.cons r t
 | _,_,i+1,.cons q t=>.cons q (VL.set r i t)
theorem VL.append:∀ {xs ys:List V} {us ws:List Ye},VL xs us->VL ys ws->VL (xs++ys) (us++ws)
 | _,_,_,_,.nil,s=>s
 | _,_,_,_,.cons r t,s=>.cons r (VL.append t s)
theorem VL.take:∀ {xs:List V} {us:List Ye} (n:Nat),VL xs us->VL (xs.take n) (us.take n)
 | _,_,0,_=>.nil
 | _,_,_+1,.nil=>.nil
 | _,_,n+1,.cons r t=>.cons r (VL.take n t)
theorem VL.drop:∀ {xs:List V} {us:List Ye} (n:Nat),VL xs us->VL (xs.drop n) (us.drop n)
 | _,_,0,r=>r
 | _,_,_+1,.nil=>.nil
 | _,_,n+1,.cons _ t=>VL.drop n t
def Hq:Option V->Option Ye->Prop
 | some v,Dn u=>RelV v u
 | none,FN=>True
 | _,_=>False
def KV {κ : Type}:List (κ×V)->List (κ×Ye)->Prop:=JD fun (p:κ×V) (q:κ×Ye)=>p.1=q.1/\RelV p.2 q.2
def kV:Key->V
 | .inl i=>.int i
 | .inr x=>.str x
inductive HO where
 | lst (xs:List V)
 | tup (xs:List V)
 | dK (kvs:List (Key×V)) | dT (kvs:List (List Key×V))
 | set (S:Int->Bool) (n:Nat)
 | ins (C dx:Addr) (fs:List (Str×V))
 | own (x:Addr)
 | xd (fs:List (Str×V))
 | met (f x:Addr)
 | rng (lo hi:Int)
 | frz (o:Obj) (u:HO)
 | tbl (ps:Array Ye)
 | ext (φ : Heap->Prop)
abbrev Hp:=Addr->Option HO
def X5 (H:Hp)(a:Addr)(o:HO):Hp:=fun b=>if b=a then Dn o else H b
theorem bR {H:Hp}{a:Addr}{o:HO}:X5 H a o a=Dn o:=by unfold X5;rw [if_pos rfl]
theorem aR {H:Hp}{a b:Addr}{o:HO}(h:b≠a):X5 H a o b=H b:=by unfold X5;rw [if_neg h]
theorem aW {H:Hp}{a b:Addr}{o:HO}(h:H a=Dn o)(h':H b=FN):a≠b:=by
 intro e;subst e;rw [h] at h';cases h'
section
variable (P:YF)(w:Zb)
def Dy (h:Heap)(a:Addr)(items:Array Ye):Prop:=∃ o,h.get? a=Dn o/\o.cls=.type "tuple"/\(∃ n,o.data=.seq items n)/\o.dict=FN
theorem Dy.tup {h:Heap}{a:Addr}{items:Array Ye}(x:Dy h a items):IsTup h a items:=let ⟨o,ho,hc,hd,_⟩:=x;⟨o,ho,hc,hd⟩
theorem Dy.new (h:Heap)(items:Array Ye):Dy (h.push { cls:=.type "tuple",data:=.seq items }) h.objs.size items:=⟨_,YC _ rfl,rfl,⟨_,rfl⟩,rfl⟩
def gD (H:Hp)(h:Heap)(a:Addr):HO->Prop
 | .lst xs=>xs.length<=YQ/\∃ (its:List Ye) (n:Nat),VL xs its/\h.get? a=Dn { cls:=.type "list",data:=.seq its.toArray n }
 | .tup xs=>xs.length<=YQ/\∃ its:List Ye,VL xs its/\Dy h a its.toArray
 | .dK kvs=>kvs.length<=YQ/\(a==Em)=false/\∃ vs,KV kvs vs/\h.DictOf (cJ P w) a vs
 | .dT kvs=>kvs.length<=YQ/\(a==Em)=false/\∃ xs:List (List Key×Addr×Ye),
   JD (fun (p:List Key×V) (q:List Key×Addr×Ye)=>p.1=q.1/\H q.2.1=Dn (.tup (p.1.map kV))/\RelV p.2 q.2.2) kvs xs /\
   ∃ o es ep,h.get? a=Dn o/\o.ExactDict/\o.data=.dict es ep/\es.toList=xs.map (entryOfKey (tupleKind (cJ P w)))/\(xs.map (·.1)).Nodup
 | .set S n=>h.SetOf (intKind P w) a S n
 | .ins C dx fs=>H dx=Dn (.own a)/\fs.length<=1000/\dx≠a/\h.get? a=Dn (PySem.W.instObj C dx) /\
   ∃ mA,h.Ns1 dx mA/\(∀ f,Hq (fs.lookup f) (mA f))/\PySem.Within mA (fs.map (·.1))
 | .own _=>∃ o,h.get? a=Dn o
 | .xd fs=>∃ mA,h.Ns1 a mA/\∀ f,Hq (fs.lookup f) (mA f)
 | .rng lo hi=>∃ t u v,h.get? a=Dn { cls:=.type "range",data:=.fields #[.int lo t,.int hi u,.int 1 v] }
 | .frz o u=>h.get? a=Dn o/\gD H h a u
 | .tbl ps=>h.get? a=Dn { cls:=.none,data:=.fields ps }
 | .met f x=>h.get? a=Dn (PySem.W.methodObj (.ref f) (.ref x))
 | .ext φ=>φ h/\(∃ o,h.get? a=Dn o)/\∀ h1 h2:Heap,φ h1->(∀ o,h1.get? a=Dn o->h2.get? a=Dn o)->φ h2
def BJ (H:Hp)(h:Heap):Prop:=∀ a o,H a=Dn o->gD P w H h a o
end
section
variable {P:YF}{w:Zb}{H H':Hp}{h h':Heap}{a:Addr}{o:HO}
theorem gD.lt (x:gD P w H h a o):a<h.objs.size:=by
 cases o with
 | lst xs=>obtain ⟨_,_,_,_,e⟩:=x;exact Yt e
 | tup xs=>obtain ⟨_,_,_,p⟩:=x;exact p.tup.lt
 | dK kvs=>obtain ⟨_,_,_,_,o,_,_,e,_⟩:=x;exact Yt e
 | dT kvs=>obtain ⟨_,_,_,_,o,_,_,e,_⟩:=x;exact Yt e
 | set S n=>obtain ⟨o,_,_,_,e,_⟩:=x;exact Yt e
 | ins C dx fs=>obtain ⟨_,_,_,e,_⟩:=x;exact Yt e
 | own y=>obtain ⟨_,e⟩:=x;exact Yt e
 | xd fs=>obtain ⟨_,⟨_,_,_,e,_⟩,_⟩:=x;exact Yt e
 | rng lo hi=>obtain ⟨_,_,_,e⟩:=x;exact Yt e
 | frz ob u=>obtain ⟨e,_⟩:=x;exact Yt e
 | tbl ps=>exact Yt (show h.get? a=Dn _ from x)
 | met f y=>exact Yt (show h.get? a=Dn _ from x)
 | ext φ=>obtain ⟨_,⟨_,e⟩,_⟩:=x;exact Yt e
theorem Paired.mapP {α β : Type}{F G:α->β->Prop}:∀ {l₁ : List α} {l₂ : List β},JD F l₁ l₂->(∀ a b,F a b->G a b)->JD G l₁ l₂
 | _,_,.nil,_=>.nil
 | _,_,.cons r t,f=>.cons (f _ _ r) (Paired.mapP t f)
theorem gD.stay (x:gD P w H h a o)(k:∀ b u,(b=a\/H b=Dn (.own a))->h.get? b=Dn u->h'.get? b=Dn u)
  (ho:∀ b,H b=Dn (.own a)->H' b=Dn (.own a)) (ht:∀ b xs,H b=Dn (.tup xs)->H' b=Dn (.tup xs)):gD P w H' h' a o:=by
 induction o with
 | lst xs=>obtain ⟨z,its,n,r,e⟩:=x;exact ⟨z,its,n,r,k _ _ (.inl rfl) e⟩
 | tup xs=>obtain ⟨z,its,r,ob,e,c⟩:=x;exact ⟨z,its,r,ob,k _ _ (.inl rfl) e,c⟩
 | dK kvs=>obtain ⟨z,y,vs,r,ob,es,ep,e,c⟩:=x;exact ⟨z,y,vs,r,ob,es,ep,k _ _ (.inl rfl) e,c⟩
 | dT kvs=>
  obtain ⟨z,y,xs,r,ob,es,ep,e,c⟩:=x;exact ⟨z,y,xs,Paired.mapP r fun p q z=>⟨z.1,ht _ _ z.2.1,z.2.2⟩,ob,es,ep,k _ _ (.inl rfl) e,c⟩
 | set S n=>obtain ⟨ob,es,ep,t,e,c⟩:=x;exact ⟨ob,es,ep,t,k _ _ (.inl rfl) e,c⟩
 | ins C dx fs=>
  obtain ⟨d,z,ne,e,mA,⟨od,es,ep,e2,c⟩,r⟩:=x;exact ⟨ho _ d,z,ne,k _ _ (.inl rfl) e,mA,⟨od,es,ep,k _ _ (.inr d) e2,c⟩,r⟩
 | own y=>obtain ⟨ob,e⟩:=x;exact ⟨ob,k _ _ (.inl rfl) e⟩
 | xd fs=>obtain ⟨mA,⟨od,es,ep,e,c⟩,r⟩:=x;exact ⟨mA,⟨od,es,ep,k _ _ (.inl rfl) e,c⟩,r⟩
 | rng lo hi=>obtain ⟨t,u,v,e⟩:=x;exact ⟨t,u,v,k _ _ (.inl rfl) e⟩
 | frz ob u ih=>obtain ⟨e,q⟩:=x;exact ⟨k _ _ (.inl rfl) e,ih q⟩
 | tbl ps=>
  have e:h.get? a=Dn { cls:=.none,data:=.fields ps }:=x;show h'.get? a=Dn { cls:=.none,data:=.fields ps };exact k a _ (.inl rfl) e
 | met f y=>
  have e:h.get? a=Dn (PySem.W.methodObj (.ref f) (.ref y)):=x;show h'.get? a=Dn (PySem.W.methodObj (.ref f) (.ref y));exact k a _ (.inl rfl) e
 | ext φ=>obtain ⟨p,⟨o,e⟩,st⟩:=x;exact ⟨st _ _ p fun o q=>k _ _ (.inl rfl) q,⟨o,k _ _ (.inl rfl) e⟩,st⟩
theorem BJ.lt (x:BJ P w H h)(e:H a=Dn o):a<h.objs.size:=(x a o e).lt
theorem BJ.fresh (x:BJ P w H h)(e:h.objs.size<=a):H a=FN:=by
 cases q:H a with
 | none=>rfl
 | some u=>exact absurd (Yl (x.lt q) e) (ZP _)
theorem BJ.kept (x:BJ P w H h)(k:∀ b u,h.get? b=Dn u->h'.get? b=Dn u):BJ P w H h':=fun a o e=>
 (x a o e).stay (fun b u _ q=>k b u q) (fun _ q=>q) fun _ _ q=>q
theorem BJ.laid (x:BJ P w H h)(k:∀ b u,h.get? b=Dn u->h'.get? b=Dn u)(hp:h.objs.size<=a)(new:gD P w (X5 H a o) h' a o):BJ P w (X5 H a o) h':=fun b u e=>by
 have hn:=x.fresh hp;by_cases hb:b=a
 ·subst hb;rw [bR] at e;cases e;exact new
 ·rw [aR hb] at e;exact (x b u e).stay (fun c v _ q=>k c v q) (fun c q=>by rw [aR (aW q hn)];exact q) fun c xs q=>by rw [aR (aW q hn)];exact q
end
def Rd (H:Hp)(a:Addr)(u:HO):Prop:=H a=Dn u\/∃ o,H a=Dn (.frz o u)
theorem Rd.ok {P:YF}{w:Zb}{H:Hp}{h:Heap}{a:Addr}{u:HO}(r:Rd H a u)(x:BJ P w H h):gD P w H h a u:=by
 rcases r with r | ⟨o,r⟩
 ·exact x a u r
 ·obtain ⟨_,q⟩:=x a _ r;exact q
def Mut:Option HO->Prop
 | some (.lst _)=>True
 | some (.dK _)=>True
 | some (.dT _)=>True
 | some (.set _ _)=>True
 | some (.ins _ _ _)=>True
 | some (.ext _)=>True
 | _=>False
section
variable {P:YF}{w:Zb}{H:Hp}{h h':Heap}{x e:Addr}{o':HO}
theorem BJ.write (ok:BJ P w H h)(mu:Mut (H x))(he:e=x\/H e=Dn (.own x))(k:∀ b u,b≠e->h.get? b=Dn u->h'.get? b=Dn u)(heo:∃ u,h'.get? e=Dn u)
  (new:gD P w (X5 H x o') h' x o'):BJ P w (X5 H x o') h':=fun b u q=>by
 have nown:∀ c y,H c=Dn (.own y)->c≠x:=fun c y r z=>by subst z;rw [r] at mu;exact mu
 have ntup:∀ c xs,H c=Dn (.tup xs)->c≠x:=fun c xs r z=>by subst z;rw [r] at mu;exact mu
 by_cases hb:b=x
 ·subst hb;rw [bR] at q;cases q;exact new
 ·rw [aR hb] at q;by_cases hbe:b=e
  ·have q':H b=Dn (.own x):=by
    rcases he with z | z
    ·exact absurd (hbe.trans z) hb
    ·rw [hbe];exact z
   rw [q] at q';cases q';obtain ⟨v,hv⟩:=heo;exact ⟨v,by rw [hbe];exact hv⟩
  ·refine (ok b u q).stay (fun c v hc r=>k c v ?_ r) (fun c r=>by rw [aR (nown c b r)];exact r) fun c xs r=>by rw [aR (ntup c xs r)];exact r
   rcases hc with rfl | hc
   ·exact hbe
   ·rintro rfl;rcases he with z | z
    ·exact nown c b hc z
    ·rw [hc] at z;cases z;exact hb rfl
end
structure Un (fs ex:List Addr) (H H':Hp) (h h':Heap):Prop where
 keep:∀ b o,h.get? b=Dn o->H b=FN->b∉fs->b∉ex->h'.get? b=Dn o
 slot:∀ b o,h.get? b=Dn o->H b=FN->b∈fs->b∉ex->∃ sl,h'.get? b=Dn { o with slots:=sl }
 free:∀ b o,h.get? b=Dn o->H b=FN->b∉ex->H' b=FN
 there:∀ b o,h.get? b=Dn o->b∉ex->∃ o',h'.get? b=Dn o'
 tups:∀ b xs,H b=Dn (.tup xs)->H' b=Dn (.tup xs)
 frzs:∀ b o u,H b=Dn (.frz o u)->H' b=Dn (.frz o u)
 tbls:∀ b ps,H b=Dn (.tbl ps)->∃ more,H' b=Dn (.tbl (ps++more))
section
variable {fs fs' ex ex':List Addr}{H H1 H2:Hp}{h h1 h2 h':Heap}{a x e:Addr}{o:HO}
theorem Un.any (u:Un fs ex H H1 h h1){b:Addr}{ob:Obj}(q:h.get? b=Dn ob)(n:H b=FN)(hx:b∉ex):∃ sl,h1.get? b=Dn { ob with slots:=sl }:=by
 by_cases hb:b∈fs
 ·exact u.slot b ob q n hb hx
 ·exact ⟨ob.slots,u.keep b ob q n hb hx⟩
theorem Un.kept (k:∀ b u,h.get? b=Dn u->h'.get? b=Dn u):Un fs ex H H h h':=
 ⟨fun b ob q _ _ _=>k b ob q,fun b ob q _ _ _=>⟨ob.slots,k b ob q⟩,fun _ _ _ n _=>n,fun b ob q _=>⟨ob,k b ob q⟩,fun _ _ q=>q,fun _ _ _ q=>q,fun _ ps q=>⟨#[],by rw [q];simp⟩⟩
theorem Un.refl:Un fs ex H H h h:=Un.kept fun _ _ q=>q
theorem Un.laid (k:∀ b u,h.get? b=Dn u->h'.get? b=Dn u)(hp:h.objs.size<=a)(hn:H a=FN):Un fs ex H (X5 H a o) h h' where
 keep:=fun b u q _ _ _=>k b u q
 slot:=fun b u q _ _ _=>⟨u.slots,k b u q⟩
 free:=fun b u q n _=>by rw [aR (Yv (Yl (Yt q) hp))];exact n
 there:=fun b u q _=>⟨u,k b u q⟩
 tups:=fun b xs q=>by rw [aR (aW q hn)];exact q
 frzs:=fun b u xs q=>by rw [aR (aW q hn)];exact q
 tbls:=fun b ps q=>⟨#[],by rw [aR (aW q hn),q];simp⟩
theorem Un.write (mu:Mut (H x))(he:e=x\/H e=Dn (.own x))(k:∀ b u,b≠e->h.get? b=Dn u->h'.get? b=Dn u)(heo:∃ u,h'.get? e=Dn u):Un fs ex H (X5 H x o) h h':=by
 have hx:∀ b,H b=FN->b≠x:=fun b n z=>by subst z;rw [n] at mu;exact mu
 have hb:∀ b,H b=FN->b≠e:=fun b n z=>by
  subst z;rcases he with r | r
  ·exact hx b n r
  ·rw [n] at r;cases r
 have hm:∀ b u,H b=Dn u->¬ Mut (Dn u)->b≠x:=fun b u q nm z=>by subst z;rw [q] at mu;exact nm mu
 refine ⟨fun b u q n _ _=>k b u (hb b n) q,fun b u q n _ _=>⟨u.slots,k b u (hb b n) q⟩,fun b u q n _=>by rw [aR (hx b n)];exact n,fun b u q _=>?_,
  fun b xs q=>by rw [aR (hm b _ q fun z=>z)];exact q,fun b u xs q=>by rw [aR (hm b _ q fun z=>z)];exact q,fun b ps q=>⟨#[],by rw [aR (hm b _ q fun z=>z),q];simp⟩⟩
 by_cases hbe:b=e
 ·subst hbe;exact heo
 ·exact ⟨u,k b u hbe q⟩
end
def trk (h:Heap)(H:Hp):List Addr:=(ZX h.objs.size).filter fun a=>(H a).isSome
def Gg (h:Heap)(H:Hp):Heap:=PySem.W.hideAll h (trk h H)
theorem zaN (h:Heap)(H:Hp):(Gg h H).objs.size=h.objs.size:=PySem.W.hideAll_size _ _
theorem zaY {h:Heap}{H:Hp}{b:Addr}{o:Obj}(e:h.get? b=Dn o)(n:H b=FN):(Gg h H).get? b=Dn o:=
 PySem.W.hideAll_get _ e fun hm=>by
  have q:(H b).isSome=true:=(List.mem_filter.mp hm).2;rw [n] at q;simp at q
theorem Ls {h:Heap}{H:Hp}{b:Addr}{o:Obj}(e:(Gg h H).get? b=Dn o):h.get? b=Dn o/\H b=FN:=by
 have e':h.get? b=Dn o:=PySem.W.of_hideAll (trk h H) e;refine ⟨e',?_⟩;cases q:H b with
 | none=>rfl
 | some x=>
  have hm:b∈trk h H:=List.mem_filter.mpr ⟨Ju.mpr (Yt e'),by simp [q]⟩;have z:(Gg h H).get? b=FN:=PySem.W.hideAll_none (trk h H) hm;rw [z] at e;cases e
def aaU (g h:Heap)(L:Addr):List (Addr×Obj):=(ZX h.objs.size).filterMap fun a=>if a=L\/(g.get? a).isSome=true then FN else (h.get? a).map fun o=>(a,o)
def rest (g h:Heap)(L d:Addr):List (Addr×Obj):=(aaU g h L).filter fun p=>decide (p.1≠d)
structure Mod (K:Yc) (mg:Str->Option Ye) (base:Heap):Prop where
 kin:K.In base
 glob:base.Ns Ys mg
 blt:∃ mb,base.Ns builtinsNs mb/\∀ x:Str,x ≠ "__name__"->mb x=J9 x
 nolimit:base.NoLimit
structure Cx where
 prog:YF
 w:Zb
 K:Yc
 mg:Str->Option Ye
 base:Heap
 A:YW
 N:List Str
 s₀ : Yj
 H₀ : Hp
 env:Env
 outer:List Env
 stack:List Env
 ex:List Addr
 fn:Str->Bool
 calm:Bool
 pn:List (Addr×Obj)
 xe:Ye->Yj->Prop
def frs (l:List Env):List Addr:=l.filterMap (·.frame)
abbrev Cx.fs (X:Cx):List Addr:=frs X.outer
def Vis (sc:Scope)(x:Str):Prop:=sc.names.lookup x=Dn .local\/sc.names.lookup x=Dn .cell\/sc.names.lookup x=Dn .free
def Loc (sc:Scope)(x:Str):Prop:=sc.names.lookup x=Dn .local\/sc.names.lookup x=Dn .cell
def Look (env:Env)(h:Heap)(m:Str->Option Ye)(x:Str)(u:Ye):Prop:=
 (env.kindOf x=Dn .local/\m x=Dn u)\/((env.kindOf x=Dn .cell\/env.kindOf x=Dn .free)/\∃ c,env.cells.lookup x=Dn c/\h.IsCell c (Dn u))
def Still (H:Hp)(v:Ye):Prop:=∃ (a:Addr) (o:Obj) (u:HO) (vs:Array Ye),v=.ref a/\H a=Dn (.frz o u)/\o.data=.fields vs/\vs[2]?=Dn .none
def Quiet (A:YW)(H:Hp):Prop:=∀ v,A.handled=Dn v->Still H v
structure Cx.Ok (X:Cx):Prop where
 mod:Mod X.K X.mg X.base
 kind:X.env.scope.kind=.function
 glob:X.env.globals=Ys
 blt:X.env.builtins=builtinsNs
 above:X.s₀.heap.objs.size<=X.env.locals
 inj:∀ x y c,X.env.cells.lookup x=Dn c->X.env.cells.lookup y=Dn c->x=y
 has:∀ x,(X.env.kindOf x=Dn .cell\/X.env.kindOf x=Dn .free)->∃ c,X.env.cells.lookup x=Dn c
 cab:∀ x c,X.fn x=true->X.env.cells.lookup x=Dn c->X.s₀.heap.objs.size<=c
 hd:X.calm=true->X.A.handled=FN
 qt:Quiet X.A X.H₀
 frames:X.A.frames=Dn X.stack
 stk:X.stack=X.outer\/(X.stack=X.env::X.outer/\X.env.frame=Dn X.env.locals)
 exf:∀ b∈X.ex,b≠X.env.locals/\∀ x c,X.env.cells.lookup x=Dn c->c≠b
 bs:∀ b o,X.base.get? b=Dn o->X.s₀.heap.get? b=Dn o/\X.H₀ b=FN
 bsz:X.base.objs.size<=X.s₀.heap.objs.size
 noex:∀ b o,X.base.get? b=Dn o->b∉X.ex
 exfs:∀ b∈X.ex,b∉X.fs
 funs:X.s₀.heap.FunFrames X.base X.outer
 frf:∀ b∈X.fs,X.H₀ b=FN
structure Go (X:Cx) (pins:List (Addr×Obj)) (Z : List (Option V)) (H:Hp) (s:Yj):Prop where
 ok:X.Ok
 os:s.os=X.s₀.os
 bare:Ft s.gens
 base:Un X.fs X.ex X.H₀ H X.s₀.heap s.heap
 loc:∃ m,s.heap.Ns X.env.locals m/\∀ (i:Nat) (x:Str) (v:V),X.N[i]?=Dn x->Z[i]?=Dn (Dn v)->Vis X.env.scope x->∃ u,RelV v u/\Look X.env s.heap m x u
 cell:∀ x c,X.env.cells.lookup x=Dn c->∃ v,s.heap.IsCell c v
 free:H X.env.locals=FN
 freeC:∀ x c,X.env.cells.lookup x=Dn c->H c=FN
 pin:∀ p∈X.pn++pins,s.heap.get? p.1=Dn p.2/\H p.1=FN/\p.1≠X.env.locals/\p.1∉X.fs/\∀ v,p.2.data≠.cell v
 hok:BJ X.prog X.w H s.heap
 len:Z.length=X.N.length
section
variable {X:Cx}{pins:List (Addr×Obj)}{Z : List (Option V)}{H H':Hp}{s:Yj}{h':Heap}
theorem Cx.Ok.nofr (ok:X.Ok){b:Addr}{o:Obj}(e:X.base.get? b=Dn o):b∉X.fs:=fun hb=>by
 have:=(ok.funs.mem hb).1
 rw [e] at this;cases this
theorem Go.bs (I:Go X pins Z H s):∀ b o,X.base.get? b=Dn o->s.heap.get? b=Dn o/\H b=FN:=fun b o e=>
 ⟨I.base.keep b o (I.ok.bs b o e).1 (I.ok.bs b o e).2 (I.ok.nofr e) (I.ok.noex b o e),I.base.free b o (I.ok.bs b o e).1 (I.ok.bs b o e).2 (I.ok.noex b o e)⟩
theorem Go.qt0 (I:Go X pins Z H s):Quiet X.A H:=fun v e=>let ⟨a,o,u,vs,h1,h2,h3⟩:=I.ok.qt v e;⟨a,o,u,vs,h1,I.base.frzs a o u h2,h3⟩
theorem Go.bk (I:Go X pins Z H s):∀ b o,X.base.get? b=Dn o->s.heap.get? b=Dn o:=fun b o e=>(I.bs b o e).1
theorem Go.mod (I:Go X pins Z H s):Mod X.K X.mg X.base:=I.ok.mod
theorem Go.kIn (I:Go X pins Z H s):X.K.In s.heap:=I.ok.mod.kin.keeps I.bk
theorem Go.lt (I:Go X pins Z H s):X.env.locals<s.heap.objs.size:=let ⟨_,hn,_⟩:=I.loc;hn.lt
theorem Go.sz (I:Go X pins Z H s):X.s₀.heap.objs.size<=s.heap.objs.size:=YS I.ok.above (Je I.lt)
theorem Go.nofs (I:Go X pins Z H s){a:Addr}(h:s.heap.objs.size<=a):a∉X.fs:=fun hb=>by
 obtain ⟨_,o,ho,_⟩:=I.ok.funs.mem hb;exact absurd (Yl (Yt ho)<|YS I.sz h)<|ZP _
theorem Go.cne (I:Go X pins Z H s):∀ x c,X.env.cells.lookup x=Dn c->c≠X.env.locals:=fun x c e z=>by
 obtain ⟨v,o,ho,hd⟩:=I.cell x c e;obtain ⟨m,⟨o',es,ep,ho',hd',_⟩,_⟩:=I.loc;rw [z,ho'] at ho;cases ho;rw [hd'] at hd;cases hd
theorem Go.funs (I:Go X pins Z H s):s.heap.FunFrames X.base X.outer:=by
 have all:∀ (l:List Env),(∀ b∈frs l,b∈X.fs)->X.s₀.heap.FunFrames X.base l->s.heap.FunFrames X.base l:=by
  intro l;induction l with
  | nil=>intro _ _;trivial
  | cons env r ih=>
   intro hs hl;obtain ⟨hk,⟨L,o,hf,hn,ho,hd⟩,hr⟩:=hl;have hL:L∈X.fs:=hs L (by unfold frs;rw [List.filterMap_cons,hf];exact Yz);obtain ⟨sl,e⟩:=I.base.slot L o ho (I.ok.frf L hL) hL fun z=>I.ok.exfs L z hL
   exact ⟨hk,⟨L,_,hf,hn,e,hd⟩,ih (fun b hb=>hs b (by unfold frs;rw [List.filterMap_cons,hf];exact YH _ hb)) hr⟩
 exact all X.outer (fun _ hb=>hb) I.ok.funs
theorem Go.stack (I:Go X pins Z H s):s.heap.FunFrames X.base X.stack:=by
 rcases I.ok.stk with e | ⟨e,hf⟩
 ·rw [e];exact I.funs
 ·rw [e];obtain ⟨m,hn,_⟩:=I.loc;refine .cons (by rw [I.ok.kind];decide) hf hn ?_ I.funs;exact Heap.get?_none_of_le<|YS I.ok.bsz I.ok.above
theorem Go.stkSub (I:Go X pins Z H s):∀ b∈frs X.stack,b∈X.env.locals::X.fs:=fun b hb=>by
 rcases I.ok.stk with e | ⟨e,hf⟩
 ·rw [e] at hb;exact YH _ hb
 ·rw [e] at hb;unfold frs at hb;rw [List.filterMap_cons,hf] at hb;exact hb
theorem Go.stkFree (I:Go X pins Z H s):∀ b∈frs X.stack,H b=FN:=fun b hb=>by
 rcases Yq.mp (I.stkSub b hb) with e | hb
 ·rw [e];exact I.free
 ·obtain ⟨_,o,ho,_⟩:=I.ok.funs.mem hb;exact I.base.free b o ho (I.ok.frf b hb) fun z=>I.ok.exfs b z hb
theorem Go.stepG {g':Array GenState}{t':Nat}{d':Drawn}{ch:List Addr}(I:Go X pins Z H s)
  (hch:∀ b∈ch,(b∈X.ex\/X.s₀.heap.get? b=FN)/\b≠X.env.locals/\(∀ x c,X.env.cells.lookup x=Dn c->c≠b)/\∀ p∈X.pn++pins,p.1≠b)
  (keep:∀ b o,b≠X.env.locals->b∉X.fs->b∉ch->s.heap.get? b=Dn o->H b=FN->h'.get? b=Dn o)
  (slot:∀ b o,b≠X.env.locals->b∈X.fs->b∉ch->s.heap.get? b=Dn o->H b=FN->∃ sl,h'.get? b=Dn { o with slots:=sl }) (free:∀ b o,b∉ch->s.heap.get? b=Dn o->H b=FN->H' b=FN)
  (there:∀ b o,b∉ch->s.heap.get? b=Dn o->∃ o',h'.get? b=Dn o')
  (tups:∀ b xs,H b=Dn (.tup xs)->H' b=Dn (.tup xs)) (frzs:∀ b o u,H b=Dn (.frz o u)->H' b=Dn (.frz o u)) (tbls:∀ b ps,H b=Dn (.tbl ps)->∃ more,H' b=Dn (.tbl (ps++more)))
  (ns:∀ m,s.heap.Ns X.env.locals m->h'.Ns X.env.locals m) (hok:BJ X.prog X.w H' h') (hg:Ft g') :
  Go X pins Z H' { s with heap:=h',gens:=g',drawn:=d',toks:=t' }:=by
 have neL:∀ b o,X.s₀.heap.get? b=Dn o->b≠X.env.locals:=fun b o e=>Yv (Yl (Yt e) I.ok.above)
 have neC:∀ b o,X.s₀.heap.get? b=Dn o->b∉X.ex->b∉ch:=fun b o e hx hb=>by
  rcases (hch b hb).1 with z | z
  ·exact hx z
  ·rw [z] at e;cases e
 have cellK:∀ x c,X.env.cells.lookup x=Dn c->∀ v,s.heap.IsCell c v->h'.IsCell c v:=fun x c e v ⟨o,ho,hd⟩=>by
  have nch:c∉ch:=fun z=>(hch c z).2.2.1 x c e rfl
  by_cases hc:c∈X.fs
  ·obtain ⟨sl,q⟩:=slot c o (I.cne x c e) hc nch ho (I.freeC x c e);exact ⟨_,q,hd⟩
  ·exact ⟨o,keep c o (I.cne x c e) hc nch ho<|I.freeC x c e,hd⟩
 refine ⟨I.ok,I.os,hg,⟨fun b o e n hb hx=>?_,fun b o e n hb hx=>?_,fun b o e n hx=>?_,fun b o e hx=>?_,fun b xs e=>tups b xs<|I.base.tups b xs e,fun b o xs e=>frzs b o xs<|I.base.frzs b o xs e,fun b ps e=>?_⟩,?_,fun x c e=>?_,?_,fun x c e=>?_,fun p hp=>?_,hok,I.len⟩
 ·exact keep b o (neL b o e) hb (neC b o e hx) (I.base.keep b o e n hb hx)<|I.base.free b o e n hx
 ·obtain ⟨sl,e1⟩:=I.base.slot b o e n hb hx;obtain ⟨sl',e2⟩:=slot b _ (neL b o e) hb (neC b o e hx) e1 (I.base.free b o e n hx);exact ⟨sl',e2⟩
 ·obtain ⟨o',e1⟩:=I.base.there b o e hx;exact free b o' (neC b o e hx) e1<|I.base.free b o e n hx
 ·obtain ⟨o',e1⟩:=I.base.there b o e hx;exact there b o' (neC b o e hx) e1
 ·obtain ⟨m1,e1⟩:=I.base.tbls b ps e;obtain ⟨m2,e2⟩:=tbls b _ e1;exact ⟨m1++m2,by rw [e2,Array.append_assoc]⟩
 ·obtain ⟨m,hn,hl⟩:=I.loc;refine ⟨m,ns m hn,fun i x v e1 e2 e3=>?_⟩;obtain ⟨u,r,l⟩:=hl i x v e1 e2 e3;refine ⟨u,r,?_⟩;rcases l with l | ⟨k,c,e,z⟩
  ·exact .inl l
  ·exact .inr ⟨k,c,e,cellK x c e _ z⟩
 ·obtain ⟨v,z⟩:=I.cell x c e;exact ⟨v,cellK x c e v z⟩
 ·obtain ⟨m,⟨o,_,_,ho,_⟩,_⟩:=I.loc;exact free _ o (fun z=>(hch _ z).2.1 rfl) ho I.free
 ·obtain ⟨v,o,ho,hd⟩:=I.cell x c e;exact free c o (fun z=>(hch c z).2.2.1 x c e rfl) ho<|I.freeC x c e
 ·obtain ⟨e,n,ne,nf,d⟩:=I.pin p hp;have nch:p.1∉ch:=fun z=>(hch p.1 z).2.2.2 p hp rfl
  exact ⟨keep p.1 p.2 ne nf nch e n,free p.1 p.2 nch e n,ne,nf,d⟩
theorem Go.step {g':Array GenState}{t':Nat}{d':Drawn}{ch:List Addr}(I:Go X pins Z H s)
  (hch:∀ b∈ch,(b∈X.ex\/X.s₀.heap.objs.size<=b)/\b≠X.env.locals/\(∀ x c,X.env.cells.lookup x=Dn c->c≠b)/\∀ p∈X.pn++pins,p.1≠b)
  (keep:∀ b o,b≠X.env.locals->b∉X.fs->b∉ch->s.heap.get? b=Dn o->H b=FN->h'.get? b=Dn o)
  (slot:∀ b o,b≠X.env.locals->b∈X.fs->b∉ch->s.heap.get? b=Dn o->H b=FN->∃ sl,h'.get? b=Dn { o with slots:=sl }) (free:∀ b o,b∉ch->s.heap.get? b=Dn o->H b=FN->H' b=FN)
  (there:∀ b o,b∉ch->s.heap.get? b=Dn o->∃ o',h'.get? b=Dn o')
  (tups:∀ b xs,H b=Dn (.tup xs)->H' b=Dn (.tup xs)) (frzs:∀ b o u,H b=Dn (.frz o u)->H' b=Dn (.frz o u)) (tbls:∀ b ps,H b=Dn (.tbl ps)->∃ more,H' b=Dn (.tbl (ps++more)))
  (ns:∀ m,s.heap.Ns X.env.locals m->h'.Ns X.env.locals m) (hok:BJ X.prog X.w H' h') (hg:Ft g') :
  Go X pins Z H' { s with heap:=h',gens:=g',drawn:=d',toks:=t' }:=
 I.stepG (ch:=ch) (fun b z=>⟨(hch b z).1.imp id fun q=>Heap.get?_none_of_le q,(hch b z).2⟩) keep slot free there tups frzs tbls ns hok hg
theorem Go.un {t':Nat}(I:Go X pins Z H s)(u:Un X.fs [] H H' s.heap h')(hok:BJ X.prog X.w H' h'):Go X pins Z H' { s with heap:=h',toks:=t' }:=by
 obtain ⟨m,⟨o,es,ep,ho,r⟩,_⟩:=id I.loc;obtain ⟨sl,hL⟩:=u.any ho I.free (by simp);exact I.step (g':=s.gens) (d':=s.drawn) (ch:=[]) (fun _ z=>nomatch z) (fun b o _ hb _ e n=>u.keep b o e n hb (by simp)) (fun b o _ hb _ e n=>u.slot b o e n hb (by simp)) (fun b o _ e n=>u.free b o e n (by simp)) (fun b o _ e=>u.there b o e (by simp)) u.tups u.frzs u.tbls (fun m' hm=>by
  obtain ⟨o',es',ep',ho',r'⟩:=hm;rw [ho] at ho';cases ho';exact ⟨_,es',ep',hL,r'⟩) hok I.bare
theorem Go.call {g':Array GenState}{t':Nat}{d':Drawn}{ch:List Addr}(I:Go X pins Z H s)(u:Un (frs X.stack) ch H H' s.heap h')(hok:BJ X.prog X.w H' h')(hg:Ft g')
  (hch:∀ b∈ch,(b∈X.ex\/X.s₀.heap.objs.size<=b)/\b≠X.env.locals/\(∀ x c,X.env.cells.lookup x=Dn c->c≠b)/\∀ p∈X.pn++pins,p.1≠b) :
  Go X pins Z H' { s with heap:=h',gens:=g',drawn:=d',toks:=t' }:=by
 obtain ⟨m,⟨o,es,ep,ho,r⟩,_⟩:=id I.loc;obtain ⟨sl,hL⟩:=u.any ho I.free fun z=>(hch _ z).2.1 rfl
 exact I.step (ch:=ch) hch (fun b o hL hb hc e n=>u.keep b o e n (fun z=>(Yq.mp (I.stkSub b z)).elim hL hb) hc) (fun b o _ _ hc e n=>u.any e n hc) (fun b o hc e n=>u.free b o e n hc) (fun b o hc e=>u.there b o e hc) u.tups u.frzs u.tbls (fun m' hm=>by
  obtain ⟨o',es',ep',ho',r'⟩:=hm;rw [ho] at ho';cases ho';exact ⟨_,es',ep',hL,r'⟩) hok hg
theorem Go.turned {t':Nat}{it:Addr}(I:Go X pins Z H s)(k:∀ b o,b≠it->s.heap.get? b=Dn o->h'.get? b=Dn o)(hn:H it=FN)(hL:it≠X.env.locals)
  (h1:it∈X.ex\/X.s₀.heap.objs.size<=it) (h2:∀ x c,X.env.cells.lookup x=Dn c->c≠it) (h3:∀ p∈X.pn++pins,p.1≠it):Go X pins Z H { s with heap:=h',toks:=t' }:=by
 have nit:∀ b u,H b=Dn u->b≠it:=fun b u e z=>by rw [z,hn] at e;cases e
 refine I.step (g':=s.gens) (d':=s.drawn) (ch:=[it]) (fun b hb=>?_) (fun b o _ _ hc e _=>k b o (fun z=>hc<|by simp [z]) e) (fun b o _ _ hc e _=>⟨o.slots,k b o (fun z=>hc<|by simp [z]) e⟩) (fun _ _ _ _ n=>n)
  (fun b o hc e=>⟨o,k b o (fun z=>hc (by simp [z])) e⟩) (fun _ _ e=>e) (fun _ _ _ e=>e) (fun b ps e=>⟨#[],by rw [e];simp⟩) (fun m hm=>?_) (fun b u e=>?_) I.bare
 ·have e:b=it:=by simpa using hb
  subst e;exact ⟨h1,hL,h2,h3⟩
 ·obtain ⟨o,es,ep,ho,r⟩:=hm;exact ⟨o,es,ep,k _ o (Bk hL) ho,r⟩
 ·refine (I.hok b u e).stay (fun c v hc q=>k c v ?_ q) (fun _ q=>q) fun _ _ q=>q;rcases hc with z | z
  ·rw [z];exact nit b u e
  ·exact nit c _ z
theorem Go.tok (I:Go X pins Z H s)(t:Nat):Go X pins Z H { s with toks:=t }:=I.un (h':=s.heap) (t':=t) Un.refl I.hok
theorem Go.kept {t':Nat}(I:Go X pins Z H s)(k:∀ b u,s.heap.get? b=Dn u->h'.get? b=Dn u):Go X pins Z H { s with heap:=h',toks:=t' }:=I.un (Un.kept k) (I.hok.kept k)
theorem Go.laid {a:Addr}{o:HO}{t':Nat}(I:Go X pins Z H s)(k:∀ b u,s.heap.get? b=Dn u->h'.get? b=Dn u)(hp:s.heap.objs.size<=a)(new:gD X.prog X.w (X5 H a o) h' a o) :
  Go X pins Z (X5 H a o) { s with heap:=h',toks:=t' }:=I.un (Un.laid k hp (I.hok.fresh hp)) (I.hok.laid k hp new)
theorem Go.write {x e:Addr}{o:HO}{t':Nat}(I:Go X pins Z H s)(mu:Mut (H x))(he:e=x\/H e=Dn (.own x))(k:∀ b u,b≠e->s.heap.get? b=Dn u->h'.get? b=Dn u)(heo:∃ u,h'.get? e=Dn u)
  (new:gD X.prog X.w (X5 H x o) h' x o):Go X pins Z (X5 H x o) { s with heap:=h',toks:=t' }:=I.un (Un.write mu he k heo) (I.hok.write mu he k heo new)
theorem Go.weak {Z':List (Option V)}(I:Go X pins Z H s)(hl:Z'.length = Z.length)(w:∀ (i:Nat) v,Z'[i]?=Dn (Dn v)->Z[i]?=Dn (Dn v)):Go X pins Z' H s:=
 ⟨I.ok,I.os,I.bare,I.base,let ⟨m,hn,hl'⟩:=I.loc;⟨m,hn,fun i x v e1 e2 e3=>hl' i x v e1 (w i v e2) e3⟩,I.cell,I.free,I.freeC,I.pin,I.hok,hl.trans I.len⟩
theorem Go.pins_of {pins':List (Addr×Obj)}(I:Go X pins Z H s)(h:∀ p∈pins',s.heap.get? p.1=Dn p.2/\H p.1=FN/\p.1≠X.env.locals/\p.1∉X.fs/\∀ v,p.2.data≠.cell v):Go X pins' Z H s:=
 ⟨I.ok,I.os,I.bare,I.base,I.loc,I.cell,I.free,I.freeC,fun p hp=>(Zr.mp hp).elim (fun z=>I.pin p (List.mem_append_left _ z)) (h p),I.hok,I.len⟩
theorem wH {N:List Str}(hN:N.Nodup){i j:Nat}{x:Str}(a:N[i]?=Dn x)(b:N[j]?=Dn x):i=j:=by
 obtain ⟨h1,e1⟩:=Yn.mp a;obtain ⟨h2,e2⟩:=Yn.mp b;exact (List.getElem_inj hN).mp (e1.trans e2.symm)
theorem uP {M:Model}{A:YW}{E:Ye->Yj->Prop}{i:Nat}{x:Str}{v:V}{u:Ye}{Q:Unit->Yj->Prop}(I:Go X pins Z H s)(hN:X.N.Nodup)(hi:X.N[i]?=Dn x)(hx:Loc X.env.scope x)(r:RelV v u)
  (h:∀ s',Go X pins (Z.set i (Dn v)) H s'->(∃ a,Jf a s.heap s'.heap/\(a=X.env.locals\/X.env.cells.lookup x=Dn a))->Q () s') (hf:X.fn x=true\/X.env.scope.names.lookup x=Dn .local:=by first | exact .inl rfl | exact .inr rfl | assumption):Y7 M A (storeName X.env x u) Q E s:=by
 obtain ⟨m,hn,hl⟩:=id I.loc;have hcls:(X.env.scope.kind==.class||(X.env.scope.kind==.module&&X.env.locals != X.env.globals))=false:=by rw [I.ok.kind];rfl
 have hiZ : i < Z.length:=by rw [I.len];exact (Yn.mp hi).1
 have cne:=I.cne;have tracked:∀ {a:Addr} {h':Heap},(∃ o,s.heap.get? a=Dn o/\H a=FN)->Jf a s.heap h'->BJ X.prog X.w H h':=fun {a h'} ha hs b ob e=>by
  obtain ⟨_,_,hfree⟩:=ha;refine (I.hok b ob e).stay (fun c w' hc q=>(hs.2 c ?_).trans q) (fun _ q=>q) fun _ _ q=>q;rintro rfl;rcases hc with rfl | hc
  ·rw [hfree] at e;cases e
  ·rw [hfree] at hc;cases hc
 rcases hx with hk | hk
 ·refine wpAny_storeName_local hk hn (fun h' hn' hs=>?_) hcls;obtain ⟨oL,_,_,hoL,_⟩:=id hn;refine h _ ⟨I.ok,I.os,I.bare,⟨fun b o e n hb hx=>?_,fun b o e n hb hx=>?_,I.base.free,fun b o e hx=>?_,I.base.tups,I.base.frzs,I.base.tbls⟩,⟨_,hn',fun j y v' e1 e2 e3=>?_⟩,fun y c e=>?_,I.free,I.freeC,fun p hp=>?_,tracked ⟨oL,hoL,I.free⟩ hs,by simpa using I.len⟩ ⟨_,hs,.inl rfl⟩
  ·exact (hs.2 b<|Yv<|Yl (Yt e) I.ok.above).trans (I.base.keep b o e n hb hx)
  ·obtain ⟨sl,e1⟩:=I.base.slot b o e n hb hx;exact ⟨sl,(hs.2 b<|Yv<|Yl (Yt e) I.ok.above).trans e1⟩
  ·obtain ⟨o',e1⟩:=I.base.there b o e hx;exact ⟨o',(hs.2 b<|Yv<|Yl (Yt e) I.ok.above).trans e1⟩
  ·by_cases hj:j=i
   ·subst hj;rw [hi] at e1;cases e1;rw [List.getElem?_set_self hiZ] at e2;cases e2;exact ⟨u,r,.inl ⟨hk,by simp⟩⟩
   ·rw [List.getElem?_set_ne (Bk hj)] at e2;obtain ⟨u',r',q⟩:=hl j y v' e1 e2 e3;refine ⟨u',r',?_⟩;rcases q with ⟨k,e⟩ | ⟨k,c,e,z⟩
    ·refine .inl ⟨k,?_⟩;have:y≠x:=fun e=>hj (wH hN e1 (e ▸ hi))
     simp [this,e]
    ·exact .inr ⟨k,c,e,z.sameBut hs<|cne y c e⟩
  ·obtain ⟨w',z⟩:=I.cell y c e;exact ⟨w',z.sameBut hs<|cne y c e⟩
  ·obtain ⟨e,n,ne,nf,d⟩:=I.pin p hp;exact ⟨(hs.2 p.1 ne).trans e,n,ne,nf,d⟩
 ·have hfn:X.fn x=true:=by
   rcases hf with z | z
   ·exact z
   ·rw [z] at hk;cases hk
  obtain ⟨c,hc⟩:=I.ok.has x (.inl hk);obtain ⟨w',z⟩:=I.cell x c hc;refine wpAny_storeName_cell I.ok.kind hk hc z<|fun h' hc' hs=>?_
  obtain ⟨oc,hoc,hocd⟩:=id z;refine h { s with heap:=h' } ⟨I.ok,I.os,I.bare,⟨fun b o e n hb hx=>?_,fun b o e n hb hx=>?_,I.base.free,fun b o e hx=>?_,I.base.tups,I.base.frzs,I.base.tbls⟩,⟨m,hn.sameBut hs<|Bk<|cne x c hc,fun j y v' e1 e2 e3=>?_⟩,fun y c' e=>?_,I.free,I.freeC,fun p hp=>?_,tracked ⟨oc,hoc,I.freeC x c hc⟩ hs,by simpa using I.len⟩ ⟨c,hs,.inr hc⟩
  ·exact (hs.2 b<|Yv<|Yl (Yt e)<|I.ok.cab x c hfn hc).trans (I.base.keep b o e n hb hx)
  ·obtain ⟨sl,e1⟩:=I.base.slot b o e n hb hx;exact ⟨sl,(hs.2 b<|Yv<|Yl (Yt e)<|I.ok.cab x c hfn hc).trans e1⟩
  ·obtain ⟨o',e1⟩:=I.base.there b o e hx;exact ⟨o',(hs.2 b<|Yv<|Yl (Yt e)<|I.ok.cab x c hfn hc).trans e1⟩
  ·by_cases hj:j=i
   ·subst hj;rw [hi] at e1;cases e1;rw [List.getElem?_set_self hiZ] at e2;cases e2;exact ⟨u,r,.inr ⟨.inl hk,c,hc,hc'⟩⟩
   ·rw [List.getElem?_set_ne (Bk hj)] at e2;obtain ⟨u',r',q⟩:=hl j y v' e1 e2 e3;refine ⟨u',r',?_⟩;rcases q with q | ⟨k,c',e,z'⟩
    ·exact .inl q
    ·refine .inr ⟨k,c',e,z'.sameBut hs ?_⟩;rintro rfl;exact hj<|wH hN e1<|I.ok.inj _ _ _ e hc ▸ hi
  ·by_cases hcc:c'=c
   ·subst hcc;exact ⟨_,hc'⟩
   ·obtain ⟨w2,z2⟩:=I.cell y c' e;exact ⟨w2,z2.sameBut hs hcc⟩
  ·obtain ⟨e,n,ne,nf,d⟩:=I.pin p hp;refine ⟨(hs.2 p.1 ?_).trans e,n,ne,nf,d⟩;intro q;rw [q,hoc] at e;have q':oc=p.2:=Yp e;exact d w' (by rw [<-q'];exact hocd)
theorem yp {M:Model}{A:YW}{E:Ye->Yj->Prop}{i:Nat}{x:Str}{v:V}{u:Ye}{Q:Unit->Yj->Prop}(I:Go X pins Z H s)(hN:X.N.Nodup)(hi:X.N[i]?=Dn x)(hx:Loc X.env.scope x)(r:RelV v u)
  (h:∀ s',Go X pins (Z.set i (Dn v)) H s'->Q () s') (hf:X.fn x=true\/X.env.scope.names.lookup x=Dn .local:=by first | exact .inl rfl | exact .inr rfl | assumption):Y7 M A (storeName X.env x u) Q E s:=
 uP I hN hi hx r (fun s' I' _=>h s' I') hf
theorem Go.call' {s':Yj}{ch:List Addr}(I:Go X pins Z H s)(ho:s'.os=s.os)(u:Un (frs X.stack) ch H H' s.heap s'.heap)(hok:BJ X.prog X.w H' s'.heap)(hg:Ft s'.gens)
  (hch:∀ b∈ch,(b∈X.ex\/X.s₀.heap.objs.size<=b)/\b≠X.env.locals/\(∀ x c,X.env.cells.lookup x=Dn c->c≠b)/\∀ p∈X.pn++pins,p.1≠b):Go X pins Z H' s':=by
 obtain ⟨h',g',d',t',o'⟩:=s';have e:o'=s.os:=ho;subst e;exact I.call (g':=g') (t':=t') (d':=d') u hok hg hch
end
abbrev XK:=Ye->Option Addr->Hp->Prop
abbrev St:=List (Option V)
abbrev VK:=V->Hp->Prop
abbrev TE:=St->Hp->VK->Prop
abbrev TT:=St->Hp->(Bool->Hp->Prop)->Prop
abbrev TA:=St->Hp->(List V->Hp->Prop)->Prop
structure Ends where
 nx:St->Hp->Prop
 rt:VK
 bk:St->Hp->Prop:=fun _ _=>False
 ct:St->Hp->Prop:=fun _ _=>False
abbrev TS:=Ends->St->Hp->Prop
def EP (X:Cx)(pins:List (Addr×Obj))(Z : St)(Q:VK)(u:Ye)(s':Yj):Prop:=∃ v H',Go X pins Z H' s'/\RelV v u/\Q v H'
def TP (X:Cx)(pins:List (Addr×Obj))(Z : St)(Q:Bool->Hp->Prop)(b:Bool)(s':Yj):Prop:=∃ H',Go X pins Z H' s'/\Q b H'
def zaw (X:Cx)(pins:List (Addr×Obj))(Z : St)(Q:List V->Hp->Prop)(us:List Ye)(s':Yj):Prop:=∃ vs H',Go X pins Z H' s'/\VL vs us/\Q vs H'
def SP (X:Cx)(pins:List (Addr×Obj))(D:Ends)(f:Flow)(s':Yj):Prop:=
 match f with
 | .next=>∃ Z' H',Go X pins Z' H' s'/\D.nx Z' H'
 | .brk=>∃ Z' H',Go X pins Z' H' s'/\D.bk Z' H'
 | .cont=>∃ Z' H',Go X pins Z' H' s'/\D.ct Z' H'
 | .ret u=>∃ v Z' H',Go X pins Z' H' s'/\RelV v u/\D.rt v H'
def PE (X:Cx)(e:Expr)(t:TE):Prop:=
 ∀ (pins:List (Addr×Obj)) (s:Yj) (Z : St) (H:Hp) (Q:VK),Go X pins Z H s->t Z H Q->Y7 (Zk X.prog X.w) X.A (eval e X.env) (EP X pins Z Q) X.xe s
def PT (X:Cx)(e:Expr)(t:TT):Prop:=
 ∀ (pins:List (Addr×Obj)) (s:Yj) (Z : St) (H:Hp) (Q:Bool->Hp->Prop),Go X pins Z H s->t Z H Q->Y7 (Zk X.prog X.w) X.A (isTrue e X.env (eval e X.env)) (TP X pins Z Q) X.xe s
def PW (X:Cx)(e:Expr)(t:TT):Prop:=
 ∀ (whole:Sem Ye) (pins:List (Addr×Obj)) (s:Yj) (Z : St) (H:Hp) (Q:Bool->Hp->Prop),Go X pins Z H s->t Z H Q->Y7 (Zk X.prog X.w) X.A (isTrue e X.env whole) (TP X pins Z Q) X.xe s
theorem PW.pt {X:Cx}{e:Expr}{t:TT}(h:PW X e t):PT X e t:=h _
def PA (X:Cx)(es:List Expr)(t:TA):Prop:=
 ∀ (pos:Pos) (pins:List (Addr×Obj)) (s:Yj) (Z : St) (H:Hp) (Q:List V->Hp->Prop),Go X pins Z H s->t Z H Q->Y7 (Zk X.prog X.w) X.A (spliced (Am pos (YG es X.env))) (zaw X pins Z Q) X.xe s
def PS (X:Cx)(st:Stmt)(t:TS):Prop:=
 ∀ (pins:List (Addr×Obj)) (s:Yj) (Z : St) (H:Hp) (D:Ends),Go X pins Z H s->t D Z H->Y7 (Zk X.prog X.w) X.A (exec st X.env) (SP X pins D) X.xe s
def Dr (X:Cx)(st:List Stmt)(t:TS):Prop:=
 ∀ (pins:List (Addr×Obj)) (s:Yj) (Z : St) (H:Hp) (D:Ends),Go X pins Z H s->t D Z H->Y7 (Zk X.prog X.w) X.A (execs st X.env) (SP X pins D) X.xe s
theorem X6 {α : Type}{t:Sem α}{Q Q':α->Yj->Prop}{M:Model}{A:YW}{E:Ye->Yj->Prop}{s:Yj}(h:Y7 M A t Q E s)(hQ:∀ a s,Q a s->Q' a s):Y7 M A t Q' E s:=ZW h hQ fun _ _ x=>x
section
variable {X:Cx}
def Vi (i:Nat):TE:=fun Z H Q=>∃ v,Z[i]?=Dn (Dn v)/\Q v H
def tC (v:V):TE:=fun _ H Q=>Q v H
theorem QT {i:Nat}{x:Str}{pos:Pos}(hN:X.N[i]?=Dn x)(hv:Vis X.env.scope x)(hd:(x==("__debug__" : Str))=false:=by decide)(hcd:(x==("__classdict__" : Str))=false:=by decide):PE X (.Name x pos) (Vi i):=by
 intro pins s Z H Q I h;obtain ⟨v,e,h⟩:=h;obtain ⟨m,hn,hl⟩:=I.loc;obtain ⟨u,r,l⟩:=hl i x v hN e hv;have fin:EP X pins Z Q u s:=⟨v,H,I,r,h⟩
 rcases l with ⟨hk,hm⟩ | ⟨hk,c,hc,hcell⟩
 ·exact wpAny_Name (wpAny_loadName_local I.ok.kind hk hn hm fin) hd
 ·rcases hk with hk | hk
  ·exact wpAny_Name (wpAny_loadName_cell I.ok.kind hk hc hcell fin) hd
  ·exact wpAny_Name (wpAny_loadName_free I.ok.kind hk hc hcell fin hcd) hd
theorem Qo {i j pos}:PE X (.Constant (.int i) j pos) (tC (.int i)):=fun _ _ _ H _ I h=>wpAny_Constant_int ⟨.int i,H,I.tok _,⟨_,rfl⟩,h⟩
theorem Uk {b j pos}:PE X (.Constant (.bool b) j pos) (tC (.bl b)):=fun _ _ _ H _ I h=>Constant_bool ⟨.bl b,H,I,rfl,h⟩
theorem Gx {x j pos}:PE X (.Constant (.str x) j pos) (tC (.str x)):=fun _ _ _ H _ I h=>Calls.Constant_str ⟨.str x,H,I.tok _,⟨_,rfl⟩,h⟩
def Gl (X:Cx)(x:Str):Prop:=X.env.kindOf x=Dn .globalImplicit
theorem vH {E:Ye->Yj->Prop}{pins:List (Addr×Obj)}{s:Yj}{Z : St}{H:Hp}{x:Str}{u:Ye}{pos:Pos}{Q:Ye->Yj->Prop}(I:Go X pins Z H s)(hg:Gl X x)(hm:X.mg x=Dn u)(h:Q u s)
  (hd:(x==("__debug__" : Str))=false:=by decide):Y7 (Zk X.prog X.w) X.A (eval (.Name x pos) X.env) Q E s:=
 Calls.Name_function_global I.ok.kind hg (Calls.loadGlobal_global (by rw [I.ok.glob];exact I.mod.glob.keeps I.bk) hm h) hd
theorem qF {E:Ye->Yj->Prop}{pins:List (Addr×Obj)}{s:Yj}{Z : St}{H:Hp}{x:Str}{u:Ye}{pos:Pos}{Q:Ye->Yj->Prop}(I:Go X pins Z H s)(hg:Gl X x)(hm:X.mg x=FN)(hv:J9 x=Dn u)(h:Q u s)
  (hn:x ≠ "__name__":=by decide) (hd:(x==("__debug__" : Str))=false:=by decide):Y7 (Zk X.prog X.w) X.A (eval (.Name x pos) X.env) Q E s:=by
 obtain ⟨mb,h1,h2⟩:=I.mod.blt;exact Calls.Name_function_global I.ok.kind hg (Calls.loadGlobal_builtin (by rw [I.ok.glob];exact I.mod.glob.keeps I.bk) hm (by rw [I.ok.blt];exact h1.keeps I.bk) ((h2 x hn).trans hv) h) hd
theorem jd {x:Str}{v:V}{u:Ye}{pos:Pos}(hg:Gl X x)(hm:X.mg x=Dn u)(r:RelV v u)(hd:(x==("__debug__" : Str))=false:=by decide):PE X (.Name x pos) (tC v):=
 fun _ _ _ H _ I h=>vH I hg hm ⟨v,H,I,r,h⟩ hd
theorem dD {x:Str}{v:V}{u:Ye}{pos:Pos}(hg:Gl X x)(hm:X.mg x=FN)(hv:J9 x=Dn u)(r:RelV v u)(hn:x ≠ "__name__":=by decide)(hd:(x==("__debug__" : Str))=false:=by decide):PE X (.Name x pos) (tC v):=
 fun _ _ _ H _ I h=>qF I hg hm hv ⟨v,H,I,r,h⟩ hn hd
variable {a b:Expr}{ta tb:TE}{pos:Pos}
variable {tA tB':TT}{rest:List Expr}
def tOr (t u:TT):TT:=fun Z H Q=>t Z H fun c H1=>if c=true then Q true H1 else u Z H1 Q
def WM (t:TT):TT:=fun Z H Q=>t Z H fun c H1=>Q (!c) H1
theorem OJ (ha:PT X a tA):PW X (.BoolOp .Or [a] pos) tA:=by
 intro wh pins s Z H Q I h;refine isTrue_or<|X6 (ha pins s Z H Q I h) fun c s1 e=>?_
 cases c with
 | false=>exact isTrue_or_nil e
 | true=>exact e
theorem T9 (ha:PT X a tA)(hb:PW X (.BoolOp .Or (b::rest) pos) tB'):PW X (.BoolOp .Or (a::b::rest) pos) (tOr tA tB'):=by
 intro wh pins s Z H Q I h;refine isTrue_or<|X6 (ha pins s Z H _ I h) fun c s1 ⟨H1,I1,q1⟩=>?_
 cases c with
 | true=>exact ⟨H1,I1,q1⟩
 | false=>exact hb wh pins s1 Z H1 Q I1 q1
theorem Qj (ha:PT X a tA):PT X (.UnaryOp .Not a pos) (WM tA):=by
 intro pins s Z H Q I h;exact isTrue_not<|ha pins s Z H (fun c H1=>Q (!c) H1) I h
def Ui (ta tb:TE):TE:=fun Z H Q=>ta Z H fun x H1=>∃ c,x=.bl c/\if c=true then tb Z H1 Q else Q (.bl false) H1
def Vo (ta:TE):TE:=fun Z H Q=>ta Z H fun x H1=>∃ c,x=.bl c/\Q (.bl (!c)) H1
theorem Rz {op}{t:TE}(h:PE X a t):PE X (.BoolOp op [a] pos) t:=fun pins s Z H Q I hw=>BoolOp_one (h pins s Z H Q I hw)
theorem M8 (ha:PE X a ta)(hb:PE X (.BoolOp .And (b::rest) pos) tb):PE X (.BoolOp .And (a::b::rest) pos) (Ui ta tb):=by
 intro pins s Z H Q I h;refine BoolOp_and<|X6 (ha pins s Z H _ I h) fun v s1 ⟨x,H1,I1,r1,q1⟩=>?_
 obtain ⟨c,rfl,q1⟩:=q1;cases r1;refine K5 ?_;cases c with
 | true=>exact hb pins s1 Z H1 Q I1 q1
 | false=>exact ⟨.bl false,H1,I1,rfl,q1⟩
theorem Py (ha:PE X a ta):PE X (.UnaryOp .Not a pos) (Vo ta):=by
 intro pins s Z H Q I h;refine UnaryOp_<|X6 (ha pins s Z H _ I h) fun v s1 ⟨x,H1,I1,r1,q1⟩=>?_
 obtain ⟨c,rfl,q1⟩:=q1;cases r1;exact not_of<|K5 ⟨.bl<|!c,H1,I1,rfl,q1⟩
end
def XS (K:Yc)(H:Hp)(a:Addr)(xs:List V):Prop:=
 Rd H a (.lst xs) \/
  ∃ (o:Obj) (its:Array Ye) (n:Nat),K.lookup a=Dn o/\o.cls=.type "list"/\o.dict=FN/\o.data=.seq its n/\its.size<=YQ/\VL xs its.toList
def Ac (K:Yc)(H:Hp)(a:Addr)(xs:List V):Prop:=
 Rd H a (.tup xs) \/
  ∃ (o:Obj) (its:Array Ye) (n:Nat),K.lookup a=Dn o/\o.cls=.type "tuple"/\o.data=.seq its n/\its.size<=YQ/\VL xs its.toList/\o.dict=FN
def Wz:Ye->Option V
 | .none=>Dn .non
 | .bool b=>Dn (.bl b)
 | .int i _=>Dn (.int i)
 | .str x _=>Dn (.str x)
 | .bytes b _=>Dn (.byt b)
 | .float b _=>Dn (.flt b)
 | .ref a=>Dn (.ref a)
 | .type n=>Dn (.ty n)
 | _=>FN
theorem RelV.abs {x:V}{u:Ye}(r:RelV x u):Wz u=Dn x:=by
 cases x with
 | non=>cases r;rfl
 | bl _=>cases r;rfl
 | int _=>obtain ⟨t,rfl⟩:=r;rfl
 | str _=>obtain ⟨t,rfl⟩:=r;rfl
 | byt _=>obtain ⟨t,rfl⟩:=r;rfl
 | flt _=>obtain ⟨t,rfl⟩:=r;rfl
 | ref _=>cases r;rfl
 | ty _=>cases r;rfl
theorem RelV.inj {x y:V}{u:Ye}(r:RelV x u)(q:RelV y u):x=y:=Yp (r.abs.symm.trans q.abs)
theorem VL.inj:∀ {xs ys:List V} {us:List Ye},VL xs us->VL ys us->xs=ys
 | _,_,_,.nil,.nil=>rfl
 | _,_,_,.cons r t,.cons r' t'=>by rw [r.inj r',VL.inj t t']
section
variable {X:Cx}{pins:List (Addr×Obj)}{Z : St}{H:Hp}{s:Yj}{a:Addr}{xs ys:List V}
theorem XS.of {K:Yc}(h:H a=Dn (.lst xs)):XS K H a xs:=.inl (.inl h)
theorem Ac.of {K:Yc}(h:H a=Dn (.tup xs)):Ac K H a xs:=.inl (.inl h)
theorem Go.list (I:Go X pins Z H s)(h:XS X.K H a xs):∃ its:List Ye,VL xs its/\PlainL s.heap a its.toArray/\xs.length<=YQ:=by
 rcases h with h | ⟨o,its,n,hk,hc,hd,hs,hz,r⟩
 ·obtain ⟨z,its,n,r,e⟩:=h.ok I.hok;exact ⟨its,r,⟨_,n,e,rfl,rfl,rfl⟩,z⟩
 ·refine ⟨its.toList,r,⟨o,n,I.kIn a o hk,hc,hd,by simpa using hs⟩,?_⟩;have e:=r.length;simp only [Kl] at e;lia
theorem Go.tupO (I:Go X pins Z H s)(h:Ac X.K H a xs):∃ its:List Ye,VL xs its/\Dy s.heap a its.toArray/\xs.length<=YQ:=by
 rcases h with h | ⟨o,its,n,hk,hc,hs,hz,r,hd⟩
 ·obtain ⟨z,its,r,p⟩:=h.ok I.hok;exact ⟨its,r,p,z⟩
 ·refine ⟨its.toList,r,⟨o,I.kIn a o hk,hc,⟨n,by simpa using hs⟩,hd⟩,?_⟩;have e:=r.length;simp only [Kl] at e;lia
theorem Go.tuple (I:Go X pins Z H s)(h:Ac X.K H a xs):∃ its:List Ye,VL xs its/\IsTup s.heap a its.toArray/\xs.length<=YQ:=let ⟨its,r,p,z⟩:=I.tupO h;⟨its,r,p.tup,z⟩
theorem Go.list_inj (I:Go X pins Z H s)(h:XS X.K H a xs)(h':XS X.K H a ys):xs=ys:=by
 obtain ⟨its,r,⟨o,n,e,_,_,d⟩,_⟩:=I.list h;obtain ⟨its',r',⟨o',n',e',_,_,d'⟩,_⟩:=I.list h';rw [e] at e';cases e';rw [d] at d';injection d' with d1 _
 have:its=its':=by simpa using congrArg Array.toList d1
 subst this;exact r.inj r'
theorem Go.tuple_inj (I:Go X pins Z H s)(h:Ac X.K H a xs)(h':Ac X.K H a ys):xs=ys:=by
 obtain ⟨its,r,⟨o,e,_,n,d⟩,_⟩:=I.tuple h;obtain ⟨its',r',⟨o',e',_,n',d'⟩,_⟩:=I.tuple h';rw [e] at e';cases e';rw [d] at d';injection d' with d1 _
 have:its=its':=by simpa using congrArg Array.toList d1
 subst this;exact r.inj r'
end
abbrev Cx.wish (X:Cx)(E:Ye->Yj->Prop):Cx:={ X with xe:=E }
abbrev Cx.nox (X:Cx):Cx:=X.wish fun _ _=>False
theorem Cx.Ok.wish {X:Cx}(ok:X.Ok)(E:Ye->Yj->Prop):(X.wish E).Ok:=
 ⟨ok.mod,ok.kind,ok.glob,ok.blt,ok.above,ok.inj,ok.has,ok.cab,ok.hd,ok.qt,ok.frames,ok.stk,ok.exf,ok.bs,ok.bsz,ok.noex,ok.exfs,ok.funs,ok.frf⟩
theorem Cx.Ok.unwish {X:Cx}{E:Ye->Yj->Prop}(ok:(X.wish E).Ok):X.Ok:=
 ⟨ok.mod,ok.kind,ok.glob,ok.blt,ok.above,ok.inj,ok.has,ok.cab,ok.hd,ok.qt,ok.frames,ok.stk,ok.exf,ok.bs,ok.bsz,ok.noex,ok.exfs,ok.funs,ok.frf⟩
section
variable {X:Cx}{pins:List (Addr×Obj)}{Z : St}{H:Hp}{s:Yj}{E:Ye->Yj->Prop}
theorem Go.wish (I:Go X pins Z H s)(E:Ye->Yj->Prop):Go (X.wish E) pins Z H s:=⟨I.ok.wish E,I.os,I.bare,I.base,I.loc,I.cell,I.free,I.freeC,I.pin,I.hok,I.len⟩
theorem Go.unwish (I:Go (X.wish E) pins Z H s):Go X pins Z H s:=⟨I.ok.unwish,I.os,I.bare,I.base,I.loc,I.cell,I.free,I.freeC,I.pin,I.hok,I.len⟩
theorem SP.unwish {D:Ends}{f:Flow}{s':Yj}(h:SP (X.wish E) pins D f s'):SP X pins D f s':=by
 cases f with
 | next=>obtain ⟨Z',H',I,q⟩:=h;exact ⟨Z',H',I.unwish,q⟩
 | brk=>obtain ⟨Z',H',I,q⟩:=h;exact ⟨Z',H',I.unwish,q⟩
 | cont=>obtain ⟨Z',H',I,q⟩:=h;exact ⟨Z',H',I.unwish,q⟩
 | ret u=>obtain ⟨v,Z',H',I,r,q⟩:=h;exact ⟨v,Z',H',I.unwish,r,q⟩
theorem Dr.nox {st:List Stmt}{t:TS}(h:Dr X.nox st t):Dr X st t:=fun pins s Z H D I hw=>
 ZW (h pins s Z H D (I.wish _) hw) (fun _ _ q=>q.unwish) fun _ _ z=>Fb z
end
section
variable {X:Cx}{st:Stmt}{rest:List Stmt}{t u:TS}{e:Expr}{te:TE}{pos:Pos}
def Vd:TS:=fun D Z H=>D.nx Z H
def W3 (t u:TS):TS:=fun D Z H=>t { D with nx:=u D } Z H
theorem aaN:Dr X [] Vd:=fun _ _ Z H _ I h=>wpAny_execs_nil ⟨Z,H,I,h⟩
theorem zbA (h1:PS X st t)(h2:Dr X rest u):Dr X (st::rest) (W3 t u):=by
 intro pins s Z H D I h;refine wpAny_execs_cons<|X6 (h1 pins s Z H { D with nx:=u D } I h) fun f s1 q=>?_
 cases f with
 | next=>
  obtain ⟨Z',H',I',q⟩:=q;exact h2 pins s1 Z' H' D I' q
 | ret v=>exact q
 | brk=>exact q
 | cont=>exact q
theorem abx (h1:PS X st t):Dr X [st] t:=by
 intro pins s Z H D I h;refine wpAny_execs_cons<|X6 (h1 pins s Z H D I h) fun f s1 q=>?_
 cases f with
 | next=>exact wpAny_execs_nil q
 | ret v=>exact q
 | brk=>exact q
 | cont=>exact q
theorem Go.quiet {pins:List (Addr×Obj)}{Z : St}{H:Hp}{s:Yj}(I:Go X pins Z H s):interactive X.env=false:=by simp [interactive,I.ok.kind]
def Um (te:TE):TS:=fun D Z H=>te Z H fun _ H1=>D.nx Z H1
theorem aaK (he:PE X e te)(hs:swapsWith e FN pos.line X.env=pure false:=by rfl):PS X (.Expr e pos) (Um te):=by
 intro pins s Z H D I h;exact wpAny_Expr_any (X6 (he pins s Z H _ I h) fun v s1 ⟨x,H1,I1,r1,q1⟩=>⟨Z,H1,I1,q1⟩) I.quiet hs
def Xe (te:TE):TS:=fun D Z H=>te Z H D.rt
theorem Qp (he:PE X e te):PS X (.Return (Dn e) pos) (Xe te):=by
 intro pins s Z H D I h;exact wpAny_Return_some<|X6 (he pins s Z H _ I h) fun v s1 ⟨x,H1,I1,r1,q1⟩=>⟨x,Z,H1,I1,r1,q1⟩
def WL (c:TT)(t u:TS):TS:=fun D Z H=>c Z H fun b H1=>if b=true then t D Z H1 else u D Z H1
theorem Ua {c:Expr}{a b:List Stmt}{tc:TT}(hc:PT X c tc)(ha:Dr X a t)(hb:Dr X b u):PS X (.If c a b pos) (WL tc t u):=by
 intro pins s Z H D I h;refine wpAny_If<|X6 (hc pins s Z H _ I h) fun d s1 ⟨H1,I1,q1⟩=>?_
 cases d with
 | true=>exact ha pins s1 Z H1 D I1 q1
 | false=>exact hb pins s1 Z H1 D I1 q1
def QC:TS:=fun _ _ _=>False
theorem abI:PS X st QC:=fun _ _ _ _ _ _ h=>h.elim
end
abbrev TG:=V->St->Hp->(St->Hp->Prop)->Prop
abbrev Fe:=List V->St->Hp->(St->Hp->Prop)->Prop
def PG (X:Cx)(target:Expr)(t:TG):Prop:=
 ∀ (pins:List (Addr×Obj)) (s:Yj) (Z : St) (H:Hp) (v:V) (u:Ye) (Q:St->Hp->Prop),Go X pins Z H s->RelV v u->t v Z H Q ->
  Y7 (Zk X.prog X.w) X.A (assign target X.env u) (fun _ s'=>∃ Z' H',Go X pins Z' H' s'/\Q Z' H') X.xe s
def Fy (X:Cx)(ts:List Expr)(t:Fe):Prop:=
 ∀ (pins:List (Addr×Obj)) (s:Yj) (Z : St) (H:Hp) (vs:List V) (us:List Ye) (Q:St->Hp->Prop),Go X pins Z H s->VL vs us->t vs Z H Q ->
  Y7 (Zk X.prog X.w) X.A (assignInOrder ((ZF ts X.env).map (·.2)) us) (fun _ s'=>∃ Z' H',Go X pins Z' H' s'/\Q Z' H') X.xe s
abbrev Qq:=V->V->V->Hp->(Hp->Prop)->Prop
def Uh (X:Cx)(t:Qq):Prop:=
 ∀ (pins:List (Addr×Obj)) (s:Yj) (Z : St) (H:Hp) (o i v:V) (ov iv u:Ye) (Q:Hp->Prop),Go X pins Z H s->RelV o ov->RelV i iv->RelV v u->t o i v H Q ->
  Y7 (Zk X.prog X.w) X.A (setItem ov iv u) (fun _ s'=>∃ H',Go X pins Z H' s'/\Q H') X.xe s
section
variable {X:Cx}{pos:Pos}
def Cu (i:Nat):TG:=fun v Z H Q=>Q (Z.set i (Dn v)) H
theorem cV {i:Nat}{x:Str}(hN:X.N.Nodup)(hi:X.N[i]?=Dn x)(hx:Loc X.env.scope x)(hf:X.fn x=true\/X.env.scope.names.lookup x=Dn .local:=by first | exact .inl rfl | exact .inr rfl | assumption):PG X (.Name x pos) (Cu i):=by
 intro pins s Z H v u Q I r h;exact wpAny_assign_Name<|yp I hN hi hx r (fun s' I'=>⟨_,H,I',h⟩) hf
def W7:Fe:=fun vs Z H Q=>vs=[]/\Q Z H
def SX (t:TG)(u:Fe):Fe:=fun vs Z H Q=>∃ v r,vs=v::r/\t v Z H fun Z' H'=>u r Z' H' Q
theorem Ck:Fy X [] W7:=by
 intro pins s Z H vs us Q I r h;obtain ⟨e,h⟩:=h;subst e;cases r;exact assignInOrder_nil ⟨Z,H,I,h⟩
theorem sJ {e:Expr}{es:List Expr}{t:TG}{u:Fe}(h1:PG X e t)(h2:Fy X es u)
  (hs:(ZF (e::es) X.env).map (·.2)=assign e X.env::(ZF es X.env).map (·.2):=by rfl):Fy X (e::es) (SX t u):=by
 intro pins s Z H vs us Q I r h;obtain ⟨v,vr,e1,h⟩:=h;subst e1;cases r with
 | cons r rr=>
  rw [hs];refine assignInOrder_cons<|X6 (h1 pins s Z H _ _ _ I r h) fun _ s1 ⟨Z1,H1,I1,q1⟩=>?_
  exact h2 pins s1 Z1 H1 _ _ Q I1 rr q1
def W6 (K:Yc)(n:Nat)(t:Fe):TG:=fun v Z H Q=>∃ a xs,v=.ref a/\Ac K H a xs/\xs.length=n/\t xs Z H Q
theorem QX {es:List Expr}{k:Nat}{t:Fe}{n:Nat}(hc:X.calm=true)(h:Fy X es t)
  (hn:(ZF es X.env).length=n:=by rfl) (hst:(ZF es X.env).findIdx? (·.1)=FN:=by rfl):PG X (.Tuple es k pos) (W6 X.K n t):=by
 intro pins s Z H v u Q I r hw;obtain ⟨a,xs,e1,hq,hl,hw⟩:=hw;subst e1;cases r;obtain ⟨its,rv,ht,hz⟩:=I.tuple hq;refine assign_Tuple_tuple (I.ok.hd hc) ht (by simp [hn,<-hl,rv.length]) hst fun h' hx=>?_;have I1:Go X pins Z H { s with heap:=h' }:=I.kept (t':=s.toks) fun b o e=>hx b o (Yv (Yt e)) e
 exact h pins _ Z H xs _ Q I1 (by simpa using rv) hw
def Xn (to ti:TE)(t:Qq):TG:=fun v Z H Q=>to Z H fun o H1=>ti Z H1 fun i H2=>t o i v H2 fun H3=>Q Z H3
theorem PJ {o i:Expr}{to ti:TE}{t:Qq}(ho:PE X o to)(hi:PE X i ti)(hs:Uh X t)
  (ha:∀ v,assign (.Subscript o i pos) X.env v=(do
   let ov <-holding [v] (eval o X.env)
   let iv <-holding [v,ov] (eval i X.env)
   standAt pos
   holding [v,ov,iv] (setItem ov iv v)
   release [v,ov,iv] []):=by intro _;rfl):PG X (.Subscript o i pos) (Xn to ti t):=by
 intro pins s Z H v u Q I r h;rw [ha];refine Yg<|FZ<|X6 (ho pins s Z H _ I h) fun ov s1 ⟨x,H1,I1,r1,q1⟩=>?_
 refine Yg<|FZ<|X6 (hi pins s1 Z H1 _ I1 q1) fun iv s2 ⟨y,H2,I2,r2,q2⟩=>?_
 refine Yg<|wpAny_standAt<|Yg<|FZ<|X6 (hs pins s2 Z H2 x y v ov iv u _ I2 r1 r2 r q2) fun _ s3 ⟨H3,I3,q3⟩=>?_
 exact wpAny_release ⟨Z,H3,I3,q3⟩
def Ox (te:TE)(g:TG):TS:=fun D Z H=>te Z H fun x H1=>g x Z H1 D.nx
theorem Rg {tg e:Expr}{te:TE}{g:TG}(he:PE X e te)(hg:PG X tg g)(hs:swapsWithSole [tg] e pos.line X.env=pure false:=by rfl)(hw:swappedStores [tg] e X.env=pure FN:=by rfl)
  (h1:(ZF [tg] X.env).map (·.2)=[assign tg X.env]:=by rfl):PS X (.Assign [tg] e pos) (Ox te g):=by
 intro pins s Z H D I h;refine wpAny_Assign_stores (X6 (he pins s Z H _ I h) fun v s1 ⟨x,H1,I1,r1,q1⟩=>?_) hs hw;rw [h1];exact X6 (hg pins s1 Z H1 x v _ I1 r1 q1) fun _ s2 q=>q
theorem N5 {i:Nat}{x:Str}{e:Expr}{te:TE}{pos':Pos}(hN:X.N.Nodup)(hi:X.N[i]?=Dn x)(hx:Loc X.env.scope x)(he:PE X e te)(hs:swapsWith e (Dn (.Name x pos')) pos.line X.env=pure false:=by rfl)(hf:X.fn x=true\/X.env.scope.names.lookup x=Dn .local:=by first | exact .inl rfl | exact .inr rfl | assumption) :
  PS X (.Assign [.Name x pos'] e pos) (Ox te (Cu i)):=by
 intro pins s Z H D I h;refine wpAny_Assign_Name (X6 (he pins s Z H _ I h) fun v s1 ⟨y,H1,I1,r1,q1⟩=>?_) hs;exact yp I1 hN hi hx r1 (fun s2 I2=>⟨_,H1,I2,q1⟩) hf
end
theorem rR:entryFor table "proto.unchain" = Dn Zj.«proto.unchain»:=entryFor_of_tree (by kernel_rfl)
def wg (A:YW)(h:Heap):Prop:=∀ v,A.handled=Dn v->∃ (a:Addr) (o:Obj) (vs:Array Ye),v=.ref a/\h.get? a=Dn o/\o.data=.fields vs/\vs[2]?=Dn .none
theorem yJ {A:YW}{P:YF}{w:Zb}{H:Hp}{h:Heap}(q:Quiet A H)(x:BJ P w H h):wg A h:=fun v e=>by
 obtain ⟨a,o,u,vs,h1,h2,h3,h4⟩:=q v e;exact ⟨a,o,vs,h1,(x a _ h2).1,h3,h4⟩
theorem yM {α : Type}{prog:YF}{w:Zb}{A:YW}{E:Ye->Yj->Prop}{s:Yj}{e:Addr}{oe:Obj}{ws:Array Ye}{Q:α->Yj->Prop}(hq:wg A s.heap)(he:s.heap.get? e=Dn oe)(hd:oe.data=.fields ws)(hz:2<ws.size)(hne:∀ v,A.handled=Dn v->v≠.ref e)
  (h:∀ h',(∀ b,b≠e->h'.get? b=s.heap.get? b)->(∃ o',h'.get? e=Dn o'/\o'.cls=oe.cls)->E (.ref e) { s with heap:=h' }):Y7 (Zk prog w) A (raiseNew (.ref e):Sem α) Q E s:=by
 unfold raiseNew;refine Yg<|wpAny_handled ?_
 cases hh:A.handled with
 | none=>
  dsimp only;refine Yg<|Yx<|wpAny_throw ?_
  exact h s.heap (fun _ _=>rfl) ⟨oe,he,rfl⟩
 | some v=>
  obtain ⟨a,o,vs,rfl,ho,hdo,h2⟩:=hq v hh;dsimp only;have ne:(Value.ref a != Value.ref e)=true:=by
   have:=hne _ hh
   simp only [bne_iff_ne,ne_eq];exact this
  rw [if_pos ne];refine Yg<|FZ<|wpAny_runValue<|codeAny_builtin rR ?_
  unfold Zj.«proto.unchain»;dsimp only;refine Yg<|ZJ ho hdo h2 ?_
  rw [if_pos (show (Value.none==Value.none)=true from rfl)];refine Yg<|Yx<|Yx ?_
  dsimp only;refine Yg ?_;unfold updateField;refine Yg<|wpAny_load he ?_
  rw [hd];dsimp only;rw [if_pos hz];refine wpAny_update he<|wpAny_throw ?_
  have hd3:=Obj.data_mapFields hd (·.setIfInBounds 2 (Value.ref a));exact h _ (fun b hb=>Heap.get?_update_other _ _<|Bk hb) ⟨_,Heap.get?_update_self _ he<|Obj.isFreed_of_fields hd3,Obj.cls_mapFields _ _⟩
theorem zaE {prog:YF}{w:Zb}{A:YW}{E:Ye->Yj->Prop}{s:Yj}{it:Addr}{x left step:Int}{Q:Option Ye->Yj->Prop}(hh:wg A s.heap)(hit:IsRangeIter s.heap it x left step)(hleft:left<=0)
  (hQ:∀ h',Heap.ExtBut it s.heap h'->Q FN { s with heap:=h' }):Y7 (Zk prog w) A (pyNext (.ref it)) Q E s:=by
 have hT:s.TypeIs (.ref it) "range_iterator":=⟨_,hit,rfl⟩
 unfold pyNext;refine Yg (wpAny_attempt (ZV (name:=JM "__next__") hT F.slot_range_iterator_next
  (Jo F.slot_range_iterator_next hT F.entry_range_iterator_next ?_ (F.args_range_iterator_next_1 _))))
 show Y7 _ _ (field (.ref it) 0 >>= _) _ _ s;refine Yg<|ZJ hit rfl (x:=rawInt x) rfl ?_
 show Y7 _ _ (field (.ref it) 1 >>= _) _ _ s;refine Yg<|ZJ hit rfl (x:=rawInt left) rfl ?_
 show Y7 _ _ (field (.ref it) 2 >>= _) _ _ s;refine Yg<|ZJ hit rfl (x:=rawInt step) rfl ?_
 show Y7 _ _ (if left<=0 then _ else _) _ _ s;rw [if_pos hleft];refine Yg<|wpAny_rule ?_
 refine Yg ?_;show Y7 _ _ (newExc (.type "StopIteration") [] >>= _) _ _ _;refine Yg ?_;simp only [newExc,newTuple];refine Yg<|J7 ?_<|by size_fits
 refine Yg (m:=firstArgMember _ _)<|wpAny_of_eq (a:=Value.none) (by first | rfl | (simp only [firstArgMember];rfl)) ?_
 refine J7 ?_<|by size_fits
 refine yM (A:=A.in1) (fun v e=>?_) (YC _ rfl) rfl (by simp;lia) (fun v e=>?_) fun h' h1 ⟨o',h2,h3⟩=>?_
 ·obtain ⟨a,o,vs,r1,r2,r3⟩:=hh v e;exact ⟨a,o,vs,r1,Yh _<|Yh _ r2,r3⟩
 ·obtain ⟨a,o,vs,r1,r2,r3⟩:=hh v e;rw [r1];intro q;have q:a=_:=Value.ref.inj q;have:=Yt r2
  rw [q] at this;exact absurd this<|Nat.not_lt.mpr<|by simp [Heap.push]
 refine Yg<|wpAny_isInstance (T := "StopIteration") (b:=true) ⟨_,h2,h3⟩ isSubtype_stop ?_
 refine Yx<|hQ _ fun b o hb e=>?_
 rw [h1 b ?_]
 ·exact Yh _<|Yh _ e
 ·have:=Yt e
  exact Yv<|Yl this<|by simp [Heap.push]
structure It where
 go:Nat->Hp->Prop
 yld:Nat->Hp->V->Hp->Prop
 stop:Nat->Hp->Prop
 cm:Bool
def wW (X:Cx)(pins:List (Addr×Obj))(H:Hp)(b:Addr):Prop:=
 H b=FN/\b≠X.env.locals/\b∉X.fs/\(b∈X.ex\/X.s₀.heap.objs.size<=b)/\(∀ x c,X.env.cells.lookup x=Dn c->c≠b)/\∀ p∈X.pn++pins,p.1≠b
theorem Go.fpOk {X:Cx}{pins:List (Addr×Obj)}{Z : St}{H H':Hp}{s:Yj}{b:Addr}(I:Go X pins Z H s)(hb:s.heap.objs.size<=b)(hn:H' b=FN):wW X pins H' b:=by
 refine ⟨hn,ZS<|Yl I.lt hb,I.nofs hb,.inr<|YS I.sz hb,fun x c e z=>?_,fun p hp z=>?_⟩
 ·obtain ⟨v,q⟩:=I.cell x c e;exact absurd (Yl q.lt (by rw [z];exact hb))<|ZP _
 ·exact absurd (Yl (Yt (I.pin p hp).1) (by rw [z];exact hb))<|ZP _
structure Turn (P:YF) (w:Zb) (K:Yc) (tg:Expr) (J:It) (fp:List Addr) (it:Addr) (tn:Nat->Heap->Prop):Prop where
 mem:it∈fp
 obj:∀ i h,tn i h->∀ b∈fp,∃ o,h.get? b=Dn o/\∀ v,o.data≠.cell v
 keep:∀ i h h',tn i h->(∀ b∈fp,∀ o,h.get? b=Dn o->h'.get? b=Dn o)->tn i h'
 item:∀ (X:Cx),X.prog=P->X.w=w->X.K=K->(J.cm=true->X.calm=true)->∀ (i:Nat) (pins:List (Addr×Obj)) (s:Yj) (Z : St) (H:Hp) (E:Ye->Yj->Prop),Go X pins Z H s->(∀ b∈fp,wW X pins H b)->tn i s.heap->J.go i H ->
  Y7 (Zk P w) X.A (pyNext (.ref it)) (fun r s1=>∃ u,r=Dn u /\
   Y7 (Zk P w) X.A (letOwnedTupleGo tg (.ref it) u) (fun _ s2=>∃ x H',Go X pins Z H' s2/\RelV x u/\J.yld i H x H'/\tn (i+1) s2.heap/\∀ b∈fp,H' b=FN) E s1) E s
 done:∀ (X:Cx),X.prog=P->X.w=w->X.K=K->(J.cm=true->X.calm=true)->∀ (i:Nat) (pins:List (Addr×Obj)) (s:Yj) (Z : St) (H:Hp) (E:Ye->Yj->Prop),Go X pins Z H s->(∀ b∈fp,wW X pins H b)->tn i s.heap->J.stop i H ->
  Y7 (Zk P w) X.A (pyNext (.ref it)) (fun r s1=>r=FN/\Go X pins Z H s1) E s
 self:∀ (A:YW) (i:Nat) (s:Yj) (Q:Ye->Yj->Prop) (E:Ye->Yj->Prop),tn i s.heap->Q (.ref it) s->Y7 (Zk P w) A (pyIter (.ref it)) Q E s
abbrev TI:=St->Hp->(It->Hp->Prop)->Prop
def PIE (X:Cx)(pins:List (Addr×Obj))(Z : St)(tg:Expr)(R:It->Hp->Prop)(itv:Ye)(s2:Yj):Prop:=
 ∃ (it:Addr) (fp:List Addr) (tn:Nat->Heap->Prop) (J:It) (H':Hp),itv=.ref it/\Go X pins Z H' s2/\Turn X.prog X.w X.K tg J fp it tn/\tn 0 s2.heap/\(∀ b∈fp,wW X pins H' b)/\R J H'
def PI (X:Cx)(tg iter:Expr)(wi:TI):Prop:=
 ∀ (pins:List (Addr×Obj)) (s:Yj) (Z : St) (H:Hp) (R:It->Hp->Prop),Go X pins Z H s->wi Z H R ->
  Y7 (Zk X.prog X.w) X.A (eval iter X.env) (fun v s1=>Y7 (Zk X.prog X.w) X.A (pyIter v) (PIE X pins Z tg R) X.xe s1) X.xe s
theorem Bt {M:Model}{A:YW}{E:Ye->Yj->Prop}{s:Yj}{tg:Expr}{it:Addr}{u:Ye}{o:Obj}{n:String}{vs:Array Ye}{Q:Unit->Yj->Prop}(ho:s.heap.get? it=Dn o)(hc:o.cls=.type n)(hd:o.data=.fields vs)
    (hn:["enumerate", "zip", "dict_itemiterator", "dict_reverseitemiterator", "odict_iterator", "itertools.zip_longest", "itertools.pairwise"].contains n=false) (hQ:Q () s):Y7 M A (letOwnedTupleGo tg (.ref it) u) Q E s:=by
  unfold letOwnedTupleGo;cases tg <;> first
    | exact Yx hQ
    | (cases u <;> first
        | exact Yx hQ
        | (refine Yg (wpAny_load ho ?_)
           rw [hc,hd];show Y7 M A (if (["enumerate", "zip", "dict_itemiterator", "dict_reverseitemiterator", "odict_iterator", "itertools.zip_longest", "itertools.pairwise"].contains n&&vs[0]?==Dn (rawInt _))=true then _ else _) Q E s;rw [if_neg (by intro h;rw [hn,Bool.false_and] at h;cases h)];exact Yx hQ))
def Itl (K:Yc)(a:Addr):It:=
 ⟨fun i H=>∃ xs x,XS K H a xs/\xs[i]?=Dn x,fun i H x H'=>H'=H/\∀ xs,XS K H a xs->xs[i]?=Dn x,fun i H=>∃ xs,XS K H a xs/\xs.length<=i,true⟩
def Itt (K:Yc)(a:Addr):It:=
 ⟨fun i H=>∃ xs x,Ac K H a xs/\xs[i]?=Dn x,fun i H x H'=>H'=H/\∀ xs,Ac K H a xs->xs[i]?=Dn x,fun i H=>∃ xs,Ac K H a xs/\xs.length<=i,true⟩
def Itr (lo:Int)(n:Nat):It:=⟨fun i _=>i<n,fun i H x H'=>H'=H/\x=.int (lo+i),fun i _=>n<=i,false⟩
theorem zaF {P:YF}{w:Zb}{K:Yc}{tg:Expr}(a it:Addr):Turn P w K tg (Itl K a) [it] it (fun i h=>h.IsListIter it a i) where
 mem:=by simp
 obj:=fun i h st b hb=>by
  have e:b=it:=by simpa using hb
  subst e;obtain ⟨o,e,c,d⟩:=st;exact ⟨o,e,fun v z=>by rw [d] at z;cases z⟩
 keep:=fun i h h' st k=>st.at fun o e=>k it (by simp) o e
 item:=by
  intro X hP hw hK hc i pins s Z H E I hf st hg;subst hP hw hK;obtain ⟨xs,x,hq,hx⟩:=hg;obtain ⟨its,rv,p,hz⟩:=I.list hq;obtain ⟨u,hu,ru⟩:=rv.get hx;obtain ⟨f0,f1,f2,f3,f4,f5⟩:=hf it (by simp);refine wpAny_pyNext_list_item st p.isList (x:=u) (by simpa using hu) fun h' st' sb=>?_;have I1:Go X pins Z H { s with heap:=h' }:=I.turned (t':=s.toks) (fun b o hb e=>(sb.2 b hb).trans e) f0 f1 f3 f4 f5;obtain ⟨o,e,c,d⟩:=id st';exact ⟨u,rfl,Bt (s:={ s with heap:=h' }) e c d (by decide) ⟨x,H,I1,ru,⟨rfl,fun ys hy=>by rw [I.list_inj hy hq];exact hx⟩,st',fun b hb=>(hf b hb).1⟩⟩
 done:=by
  intro X hP hw hK hc i pins s Z H E I hf st hg;subst hP hw hK;obtain ⟨xs,hq,hx⟩:=hg;obtain ⟨its,rv,p,hz⟩:=I.list hq;obtain ⟨f0,f1,f2,f3,f4,f5⟩:=hf it (by simp);have hl:=rv.length;exact wpAny_pyNext_list_end (I.ok.hd<|hc rfl) st p.isList (by simp;lia) fun h' eb=>⟨rfl,I.turned (t':=s.toks) (fun b o hb e=>eb b o hb e) f0 f1 f3 f4 f5⟩
 self:=fun _ _ _ _ _ st h=>wpAny_pyIter_listiter st h
theorem yL {P:YF}{w:Zb}{K:Yc}{tg:Expr}(a it:Addr):Turn P w K tg (Itt K a) [it] it (fun i h=>h.IsTupleIter it a i) where
 mem:=by simp
 obj:=fun i h st b hb=>by
  have e:b=it:=by simpa using hb
  subst e;obtain ⟨o,e,c,d⟩:=st;exact ⟨o,e,fun v z=>by rw [d] at z;cases z⟩
 keep:=fun i h h' st k=>st.at fun o e=>k it (by simp) o e
 item:=by
  intro X hP hw hK hc i pins s Z H E I hf st hg;subst hP hw hK;obtain ⟨xs,x,hq,hx⟩:=hg;obtain ⟨its,rv,p,hz⟩:=I.tuple hq;obtain ⟨u,hu,ru⟩:=rv.get hx;obtain ⟨f0,f1,f2,f3,f4,f5⟩:=hf it (by simp);refine wpAny_pyNext_tuple_item st (show s.heap.IsTuple a its.toArray from p) (x:=u) (by simpa using hu) fun h' st' sb=>?_;have I1:Go X pins Z H { s with heap:=h' }:=I.turned (t':=s.toks) (fun b o hb e=>(sb.2 b hb).trans e) f0 f1 f3 f4 f5;obtain ⟨o,e,c,d⟩:=id st';exact ⟨u,rfl,Bt (s:={ s with heap:=h' }) e c d (by decide) ⟨x,H,I1,ru,⟨rfl,fun ys hy=>by rw [I.tuple_inj hy hq];exact hx⟩,st',fun b hb=>(hf b hb).1⟩⟩
 done:=by
  intro X hP hw hK hc i pins s Z H E I hf st hg;subst hP hw hK;obtain ⟨xs,hq,hx⟩:=hg;obtain ⟨its,rv,p,hz⟩:=I.tuple hq;obtain ⟨f0,f1,f2,f3,f4,f5⟩:=hf it (by simp);have hl:=rv.length;exact wpAny_pyNext_tuple_end (I.ok.hd<|hc rfl) st (show s.heap.IsTuple a its.toArray from p) (by simp;lia) fun h' eb=>⟨rfl,I.turned (t':=s.toks) (fun b o hb e=>eb b o hb e) f0 f1 f3 f4 f5⟩
 self:=fun _ _ _ _ _ st h=>wpAny_pyIter_tupleiter st h
theorem yN {P:YF}{w:Zb}{K:Yc}{tg:Expr}(it:Addr)(lo:Int)(n:Nat):Turn P w K tg (Itr lo n) [it] it (fun i h=>IsRangeIter h it (lo+(i:Nat)*1) ((n:Int) - (i:Nat)) 1) where
 mem:=by simp
 obj:=fun i h st b hb=>by
  have e:b=it:=by simpa using hb
  subst e;exact ⟨_,st,fun v z=>by
   have z':Data.fields _=Data.cell v:=z;cases z'⟩
 keep:=fun i h h' st k=>k it (by simp) _ st
 item:=by
  intro X hP hw hK hc i pins s Z H E I hf st hg;subst hP hw hK;obtain ⟨f0,f1,f2,f3,f4,f5⟩:=hf it (by simp);refine wpAny_pyNext_range_item st (by have:i<n:=hg;lia) fun h' st' kk=>?_;have I1:Go X pins Z H { s with heap:=h',toks:=s.toks+1 }:=I.turned (fun b o hb e=>(kk.2 b hb).trans e) f0 f1 f3 f4 f5;have st2:IsRangeIter h' it (lo+((i+1:Nat):Int)*1) ((n:Int) - ((i+1:Nat):Int)) 1:=by
   have e1:lo+((i+1:Nat):Int)*1=lo+((i:Nat):Int)*1+1:=by lia
   have e2:(n:Int) - ((i+1:Nat):Int)=(n:Int) - ((i:Nat):Int) - 1:=by lia
   rw [e1,e2];exact st'
  refine ⟨_,rfl,Bt (s:={ s with heap:=h',toks:=s.toks+1 }) (n := "range_iterator") st' rfl rfl (by decide) ⟨.int<|lo+i,H,I1,⟨s.toks,?_⟩,⟨rfl,rfl⟩,st2,fun b hb=>(hf b hb).1⟩⟩;rw [Int.mul_one]
 done:=by
  intro X hP hw hK hc i pins s Z H E I hf st hg;subst hP hw hK;obtain ⟨f0,f1,f2,f3,f4,f5⟩:=hf it (by simp);exact zaE (yJ I.qt0 I.hok) st (by have:n<=i:=hg;lia) fun h' eb=>⟨rfl,I.turned (t':=s.toks) (fun b o hb e=>eb b o hb e) f0 f1 f3 f4 f5⟩
 self:=fun _ _ _ _ _ st h=>wpAny_pyIter_rangeiter st h
section
variable {X:Cx}{tg:Expr}
theorem abQ {pins:List (Addr×Obj)}{Z : St}{H:Hp}{s:Yj}{R:It->Hp->Prop}{E:Ye->Yj->Prop}{lo hi:Int}{t u v:Tok}{tk:Nat}(I:Go X pins Z H s)(h1:-(2^62)<=lo)(h2:lo<2^62)(h3:-(2^62)<=hi)(h4:hi<2^62)
  (q:R (Itr lo (hi - lo).toNat) H):Y7 (Zk X.prog X.w) X.A (pyIter (.ref s.heap.objs.size)) (PIE X pins Z tg R) E { s with heap:=s.heap.push { cls:=.type "range",data:=.fields #[.int lo t,.int hi u,.int 1 v] },toks:=tk }:=by
 refine wpAny_pyIter_range (IsRange.new ..) (small_one h1 h2 h3 h4) ?_;have I1:Go X pins Z H { s with heap:=s.heap.push { cls:=.type "range",data:=.fields #[.int lo t,.int hi u,.int 1 v] },toks:=tk }:=I.kept fun b o e=>Yh _ e
 refine ⟨(s.heap.push { cls:=.type "range",data:=.fields #[.int lo t,.int hi u,.int 1 v] }).objs.size,[(s.heap.push { cls:=.type "range",data:=.fields #[.int lo t,.int hi u,.int 1 v] }).objs.size],_,_,H,rfl,
  I1.kept (t':=tk) fun b o e=>Yh _ e,yN _ lo (hi - lo).toNat,?_,fun b hb=>?_,q⟩
 ·have e1:lo+((0:Nat):Int)*1=lo:=by simp
  have e2:(((hi - lo).toNat:Nat):Int) - ((0:Nat):Int)=Builtin.Range.rangeSize lo hi 1:=by rw [rangeSize_one];split <;> lia
  show IsRangeIter _ _ (lo+((0:Nat):Int)*1) ((((hi - lo).toNat:Nat):Int) - ((0:Nat):Int)) 1;rw [e1,e2];exact YC _ rfl
 ·have e:b=(s.heap.push { cls:=.type "range",data:=.fields #[.int lo t,.int hi u,.int 1 v] }).objs.size:=by simpa using hb
  subst e;exact I1.fpOk (Ym _)<|I1.hok.fresh<|Ym _
def Tp (ta:TA):TI:=fun Z H R=>ta Z H fun vs H1=>∃ j:Int,vs=[.int j]/\-(2^62)<=j/\j<2^62/\R (Itr 0 j.toNat) H1
theorem zaz {a:Expr}{ta:TA}{p pos:Pos}(hg:Gl X "range")(hm:X.mg "range" = FN)(ha:PA X [a] ta)(hs:YG [a] X.env=[(false,eval a X.env)]:=by rfl):PI X tg (.Call (.Name "range" p) [a] [] pos) (Tp ta):=by
 intro pins s Z H R I h;refine Call_<|qF I hg hm boot_range<|LK (X6 (ha pos pins s Z H _ I h) fun us s1 ⟨vs,H1,I1,r1,q1⟩=>?_) hs rfl
 obtain ⟨j,e,q1,q2,q⟩:=q1;subst e;cases r1 with
 | cons r rr=>
  cases rr;obtain ⟨t,rfl⟩:=r;exact call_range_1<|abQ I1 (by lia) (by lia) q1 q2<|by simpa using q
def Xu (wi:TI)(g:TG)(tb:TS):TS:=fun D Z H=>wi Z H fun J H1=>∃ W:Nat->Nat->St->Hp->Prop,(∃ m,W 0 m Z H1)/\∀ i m Z H,W i m Z H ->
 (J.stop i H/\D.nx Z H)\/(J.go i H/\∃ N:St->Hp->Prop,(∀ Z' H',N Z' H'->∃ m',m'<m/\W (i+1) m' Z' H')/\∀ x H',J.yld i H x H'->g x Z H' fun Z2 H2=>tb { D with nx:=N,ct:=N,bk:=D.nx } Z2 H2)
def ux (fp:List Addr)(h:Heap):List (Addr×Obj):=fp.filterMap fun b=>(h.get? b).map fun o=>(b,o)
theorem jt {fp:List Addr}{h:Heap}{b:Addr}{o:Obj}(hb:b∈fp)(e:h.get? b=Dn o):(b,o)∈ux fp h:=List.mem_filterMap.mpr ⟨b,hb,by rw [e];rfl⟩
theorem zaB {fp:List Addr}{h:Heap}{p:Addr×Obj}(hp:p∈ux fp h):p.1∈fp/\h.get? p.1=Dn p.2:=by
 obtain ⟨b,hb,e⟩:=List.mem_filterMap.mp hp;cases q:h.get? b with
 | none=>rw [q] at e;cases e
 | some o=>
  rw [q] at e;have e':(b,o)=p:=Yp e;subst e';exact ⟨hb,q⟩
theorem Go.pinned {pins:List (Addr×Obj)}{Z : St}{H:Hp}{s:Yj}{fp:List Addr}(I:Go X pins Z H s)(hf:∀ b∈fp,wW X pins H b)(ho:∀ b∈fp,∃ o,s.heap.get? b=Dn o/\∀ v,o.data≠.cell v):Go X (pins++ux fp s.heap) Z H s:=
 I.pins_of fun p hp=>(Zr.mp hp).elim (fun z=>I.pin p (Zm _ z)) fun z=>by
  obtain ⟨hb,e⟩:=zaB z;obtain ⟨f0,f1,f2,_⟩:=hf p.1 hb;obtain ⟨o,e',d⟩:=ho p.1 hb;rw [e] at e';cases e';exact ⟨e,f0,f1,f2,d⟩
theorem Go.unpinned {pins pl:List (Addr×Obj)}{Z : St}{H:Hp}{s:Yj}(I:Go X (pins++pl) Z H s):Go X pins Z H s:=I.pins_of fun p hp=>I.pin p (Zm _ (List.mem_append_left _ hp))
theorem QV {iter:Expr}{body:List Stmt}{wi:TI}{g:TG}{tb:TS}{pos:Pos}(hp:abG (Zk X.prog X.w) X.A X.env X.xe)(hc:X.calm=true)(hi:PI X tg iter wi)(hg:PG X tg g)(hb:Dr X body tb)
  (hs:∀ x,Jp iter X.env x=pure x:=by intro _;rfl):PS X (.For tg iter body [] pos) (Xu wi g tb):=by
 intro pins s Z H D I h;refine wpAny_For (X6 (hi pins s Z H _ I h) fun v s1 h1=>X6 h1 fun itv s2 h2=>?_) hs;obtain ⟨it,fp,tn,J,H2,e,I2,T,st2,f2,W,⟨m0,w0⟩,turn⟩:=h2;subst e
 -- what stays true of the iterator's objects through the loop
 have stat:∀ {H':Hp},(∀ b∈fp,H' b=FN)->∀ b∈fp,wW X pins H' b:=fun hn b hb=>⟨hn b hb,(f2 b hb).2⟩
 refine codeAny_forLoop_any (fun n s'=>∃ i Z' H',Go X pins Z' H' s'/\tn i s'.heap/\(∀ b∈fp,H' b=FN)/\W i n Z' H') ?_ m0 ⟨0,Z,H2,I2,st2,fun b hb=>(f2 b hb).1,w0⟩;rintro n s3 ⟨i,Z3,H3,I3,st3,fr3,w3⟩;rcases turn i n Z3 H3 w3 with ⟨stop,qn⟩ | ⟨go,N,hN,step⟩
 ·refine KY hp<|X6 (T.done X rfl rfl rfl (fun _=>hc) i pins s3 Z3 H3 X.xe I3 (stat fr3) st3 stop) fun r s4 ⟨hr,I4⟩=>?_
  subst hr;exact wpAny_execs_nil ⟨Z3,H3,I4,qn⟩
 ·refine KY hp<|X6 (T.item X rfl rfl rfl (fun _=>hc) i pins s3 Z3 H3 X.xe I3 (stat fr3) st3 go) fun r s4 ⟨u,hr,h4⟩=>?_
  subst hr;refine KY hp<|X6 h4 fun _ s5 ⟨x,H5,I5,r5,y5,st5,fr5⟩=>?_
  have I5':=I5.pinned (stat fr5) (T.obj _ _ st5);refine KY hp<|X6 (hg _ s5 Z3 H5 x u _ I5' r5<|step x H5 y5) fun _ s6 ⟨Z6,H6,I6,q6⟩=>?_
  refine KY hp<|X6 (hb _ s6 Z6 H6 _ I6 q6) fun f s7 q7=>?_
  have again:∀ {Z7:St} {H7:Hp},Go X (pins++ux fp s5.heap) Z7 H7 s7->N Z7 H7->∃ m,m<n/\∃ i Z' H',Go X pins Z' H' s7/\tn i s7.heap/\(∀ b∈fp,H' b=FN)/\W i m Z' H':=fun {Z7 H7} I7 n7=>by
   obtain ⟨m',hm,w7⟩:=hN Z7 H7 n7;refine ⟨m',hm,i+1,Z7,H7,I7.unpinned,T.keep _ _ _ st5 fun b hb o e=>(I7.pin (b,o)<|Zm _<|Zm _<|jt hb e).1,fun b hb=>?_,w7⟩;obtain ⟨o,e,d⟩:=T.obj _ _ st5 b hb;exact (I7.pin (b,o)<|Zm _<|Zm _<|jt hb e).2.1
  cases f with
  | next=>obtain ⟨Z7,H7,I7,n7⟩:=q7;exact again I7 n7
  | cont=>obtain ⟨Z7,H7,I7,n7⟩:=q7;exact again I7 n7
  | brk=>obtain ⟨Z7,H7,I7,q7⟩:=q7;exact ⟨Z7,H7,I7.unpinned,q7⟩
  | ret v=>obtain ⟨x7,Z7,H7,I7,r7,q7⟩:=q7;exact ⟨x7,Z7,H7,I7.unpinned,r7,q7⟩
end
abbrev R2:=V->V->Hp->VK->Prop
def Ay (X:Cx)(f:Ye->Ye->Sem Ye)(r:R2):Prop:=
 ∀ (pins:List (Addr×Obj)) (s:Yj) (Z : St) (H:Hp) (x y:V) (v u:Ye) (Q:VK),Go X pins Z H s->RelV x v->RelV y u->r x y H Q ->
  Y7 (Zk X.prog X.w) X.A (f v u) (EP X pins Z Q) X.xe s
def UnR (X:Cx)(f:Ye->Sem Ye)(r:V->Hp->VK->Prop):Prop:=
 ∀ (pins:List (Addr×Obj)) (s:Yj) (Z : St) (H:Hp) (x:V) (v:Ye) (Q:VK),Go X pins Z H s->RelV x v->r x H Q ->
  Y7 (Zk X.prog X.w) X.A (f v) (EP X pins Z Q) X.xe s
def jh (X:Cx)(f:Ye)(r:List V->Hp->VK->Prop):Prop:=
 ∀ (pins:List (Addr×Obj)) (s:Yj) (Z : St) (H:Hp) (xs:List V) (us:List Ye) (Q:VK),Go X pins Z H s->VL xs us->r xs H Q ->
  Y7 (Zk X.prog X.w) X.A (call f us) (EP X pins Z Q) X.xe s
def Xb (X:Cx)(r:V->Hp->(Bool->Hp->Prop)->Prop):Prop:=
 ∀ (pins:List (Addr×Obj)) (s:Yj) (Z : St) (H:Hp) (x:V) (v:Ye) (Q:Bool->Hp->Prop),Go X pins Z H s->RelV x v->r x H Q ->
  Y7 (Zk X.prog X.w) X.A (truthy v) (TP X pins Z Q) X.xe s
def tOp (r:R2)(ta tb:TE):TE:=fun Z H Q=>ta Z H fun x H1=>tb Z H1 fun y H2=>r x y H2 Q
def tUn (r:V->Hp->VK->Prop)(ta:TE):TE:=fun Z H Q=>ta Z H fun x H1=>r x H1 Q
def rI (C:Int->Int->Prop)(g:Int->Int->V):R2:=fun x y H Q=>∃ i j,x=.int i/\y=.int j/\C i j/\Q (g i j) H
def Ga (g:Int->Int->V):R2:=fun x y H Q=>∃ i j,x=.int i/\y=.int j/\Q (g i j) H
def rU (g:Int->V):V->Hp->VK->Prop:=fun x H Q=>∃ i,x=.int i/\Q (g i) H
section
variable {X:Cx}{a b c:Expr}{ta tb tc:TE}{pos:Pos}
theorem Vs (ha:PE X a ta)(hb:PE X b tb){pins:List (Addr×Obj)}{s:Yj}{Z : St}{H:Hp}{R:V->V->Hp->Prop}(I:Go X pins Z H s)
  (h:ta Z H fun x H1=>tb Z H1 fun y H2=>R x y H2) {Q:Ye->Yj->Prop} {f:Ye->Ye->Sem Ye}
  (hf:∀ v u s2 x y H2,Go X pins Z H2 s2->RelV x v->RelV y u->R x y H2->Y7 (Zk X.prog X.w) X.A (f v u) Q X.xe s2) :
  Y7 (Zk X.prog X.w) X.A (eval a X.env) (fun v s₁=>Y7 (Zk X.prog X.w) X.A (eval b X.env) (fun u s₂=>Y7 (Zk X.prog X.w) X.A (f v u) Q X.xe s₂) X.xe s₁) X.xe s:=by
 refine X6 (ha pins s Z H _ I h) fun v s1 ⟨x,H1,I1,r1,q1⟩=>?_;refine X6 (hb pins s1 Z H1 _ I1 q1) fun u s2 ⟨y,H2,I2,r2,q2⟩=>?_;exact hf v u s2 x y H2 I2 r1 r2 q2
theorem Ul {op:Operator}{r:R2}(ho:Ay X (Cq op) r)(ha:PE X a ta)(hb:PE X b tb):PE X (.BinOp a op b pos) (tOp r ta tb):=by
 intro pins s Z H Q I h;exact wpAny_BinOp<|Vs ha hb I h fun v u s2 x y H2 I2 rx ry q=>ho pins s2 Z H2 x y v u Q I2 rx ry q
theorem Ut {op:UnaryOp}{r:V->Hp->VK->Prop}(ho:UnR X (unaryOp op) r)(ha:PE X a ta):PE X (.UnaryOp op a pos) (tUn r ta):=by
 intro pins s Z H Q I h;exact UnaryOp_<|X6 (ha pins s Z H _ I h) fun v s1 ⟨x,H1,I1,r1,q1⟩=>ho pins s1 Z H1 x v Q I1 r1 q1
theorem opI {f:Ye->Ye->Sem Ye}{C:Int->Int->Prop}{g:Int->Int->Int}
  (rule:∀ (i j:Int) (t u:Tok) (s:Yj) (Q:Ye->Yj->Prop) (E:Ye->Yj->Prop),C i j->Q (.int (g i j) s.toks) { s with toks:=s.toks+1 }->Y7 (Zk X.prog X.w) X.A (f (.int i t) (.int j u)) Q E s) :
  Ay X f (rI C fun i j=>.int (g i j)):=by
 intro pins s Z H x y v u Q I rx ry h;obtain ⟨i,j,rfl,rfl,hc,q⟩:=h;obtain ⟨t,rfl⟩:=rx;obtain ⟨t',rfl⟩:=ry;exact rule i j t t' s _ _ hc ⟨.int<|g i j,H,I.tok _,⟨_,rfl⟩,q⟩
theorem VB {f:Ye->Ye->Sem Ye}{g:Int->Int->Int}
  (rule:∀ (i j:Int) (t u:Tok) (s:Yj) (Q:Ye->Yj->Prop) (E:Ye->Yj->Prop),Q (.int (g i j) s.toks) { s with toks:=s.toks+1 }->Y7 (Zk X.prog X.w) X.A (f (.int i t) (.int j u)) Q E s) :
  Ay X f (Ga fun i j=>.int (g i j)):=by
 intro pins s Z H x y v u Q I rx ry h;obtain ⟨i,j,rfl,rfl,q⟩:=h;obtain ⟨t,rfl⟩:=rx;obtain ⟨t',rfl⟩:=ry;exact rule i j t t' s _ _ ⟨.int<|g i j,H,I.tok _,⟨_,rfl⟩,q⟩
theorem Sg {f:Ye->Ye->Sem Ye}{g:Int->Int->Bool}
  (rule:∀ (i j:Int) (t u:Tok) (s:Yj) (Q:Ye->Yj->Prop) (E:Ye->Yj->Prop),Q (.bool (g i j)) s->Y7 (Zk X.prog X.w) X.A (f (.int i t) (.int j u)) Q E s) :
  Ay X f (Ga fun i j=>.bl (g i j)):=by
 intro pins s Z H x y v u Q I rx ry h;obtain ⟨i,j,rfl,rfl,q⟩:=h;obtain ⟨t,rfl⟩:=rx;obtain ⟨t',rfl⟩:=ry;exact rule i j t t' s _ _ ⟨.bl<|g i j,H,I,rfl,q⟩
def Ve (i j:Int):Prop:=0<=j/\j<=1000000/\i.natAbs<2^64
theorem Pj:Ay X (Cq .Add) (Ga fun i j=>.int (i+j)):=VB fun _ _ _ _ _ _ _ q=>add_int q
theorem Oe:Ay X (Cq .Sub) (Ga fun i j=>.int (i - j)):=VB fun _ _ _ _ _ _ _ q=>sub_int q
theorem aar:Ay X (Cq .Mod) (rI (fun _ j=>j≠0) fun i j=>.int (i.fmod j)):=opI fun _ _ _ _ _ _ _ hc q=>mod_int' hc q
theorem Pr:Ay X (Cq .Pow) (rI Ve fun i j=>.int (i^j.toNat)):=opI fun _ _ _ _ _ _ _ hc q=>pow_int_small hc.1 hc.2.1 hc.2.2 q
theorem unI {f:Ye->Sem Ye}{g:Int->Int}
  (rule:∀ (i:Int) (t:Tok) (s:Yj) (Q:Ye->Yj->Prop) (E:Ye->Yj->Prop),Q (.int (g i) s.toks) { s with toks:=s.toks+1 }->Y7 (Zk X.prog X.w) X.A (f (.int i t)) Q E s) :
  UnR X f (rU fun i=>.int (g i)):=by
 intro pins s Z H x v Q I rx h;obtain ⟨i,rfl,q⟩:=h;obtain ⟨t,rfl⟩:=rx;exact rule i t s _ _ ⟨.int<|g i,H,I.tok _,⟨_,rfl⟩,q⟩
theorem Ph:UnR X (unaryOp .USub) (rU fun i=>.int (-i)):=unI fun _ _ _ _ _ q=>neg_int q
theorem Hz {pins:List (Addr×Obj)}{Z : St}{H:Hp}{s:Yj}{Q:VK}{k k':Bool}(I:Go X pins Z H s)(q:Q (.bl k) H)(e:k=k'):EP X pins Z Q (.bool k') s:=by
 subst e;exact ⟨.bl k,H,I,rfl,q⟩
theorem Va:Ay X (Zv .Lt) (Ga fun i j=>.bl (decide (i<j))):=Sg fun _ _ _ _ _ _ _ q=>lt_int q
theorem S8:Ay X (Zv .LtE) (Ga fun i j=>.bl (decide (i<=j))):=Sg fun _ _ _ _ _ _ _ q=>le_int q
theorem Uv:Ay X (Zv .Gt) (Ga fun i j=>.bl (decide (j<i))):=Sg fun _ _ _ _ _ _ _ q=>gt_int q
theorem Uz:Ay X (Zv .GtE) (Ga fun i j=>.bl (decide (j<=i))):=Sg fun _ _ _ _ _ _ _ q=>ge_int q
theorem Ay.or {f:Ye->Ye->Sem Ye}{r r':R2}(h:Ay X f r)(h':Ay X f r'):Ay X f (fun x y H Q=>r x y H Q\/r' x y H Q):=by
 intro pins s Z H x y v u Q I rx ry q;rcases q with q | q
 ·exact h pins s Z H x y v u Q I rx ry q
 ·exact h' pins s Z H x y v u Q I rx ry q
theorem bH (b:Expr){op:CmpOp}(h:op≠.In:=by decide)(h2:op≠.NotIn:=by decide):Jz op b=false:=by
 have e1:(op==CmpOp.In)=false:=by cases op <;> first | rfl | exact absurd rfl h
 have e2:(op==CmpOp.NotIn)=false:=by cases op <;> first | rfl | exact absurd rfl h2
 cases b <;> simp [Jz,e1,e2]
theorem Lp {op:CmpOp}{r:R2}(ho:Ay X (Zv op) r)(ha:PE X a ta)(hb:PE X b tb)(hm:Jz op b=false):PE X (.Compare a [op] [b] pos) (tOp r ta tb):=by
 intro pins s Z H Q I h;exact wpAny_Compare1 (Vs ha hb I h fun v u s2 x y H2 I2 rx ry q=>ho pins s2 Z H2 x y v u Q I2 rx ry q) hm
def Vc (t:TE):TT:=fun Z H Q=>t Z H fun x H'=>∃ k,x=.bl k/\Q k H'
theorem aaj {op:CmpOp}{r:R2}(ho:Ay X (Zv op) r)(ha:PE X a ta)(hb:PE X b tb)(hm:Jz op b=false):PT X (.Compare a [op] [b] pos) (Vc (tOp r ta tb)):=by
 intro pins s Z H Q I h;refine wpAny_isTrue_Compare1 (X6 (ha pins s Z H _ I h) fun v s1 ⟨x,H1,I1,r1,q1⟩=>X6 (hb pins s1 Z H1 _ I1 q1) fun u s2 ⟨y,H2,I2,r2,q2⟩=>
  X6 (ho pins s2 Z H2 x y v u _ I2 r1 r2 q2) fun c s3 ⟨z,H3,I3,r3,k,e,q3⟩=>?_) hm
 subst e;cases r3;exact K5 ⟨H3,I3,q3⟩
def Wb (K:Yc)(x:V)(H:Hp)(k:Bool):Prop:=
 match x with
 | .non=>k=false
 | .bl b=>k=b
 | .int i=>k=(i != 0)
 | .str y=>y.length<=YQ/\k=((y.length:Int) != 0)
 | .byt y=>y.size<=YQ/\k=((y.size:Int) != 0)
 | .ref p=>(∃ xs,XS K H p xs/\k = !xs.isEmpty)\/(∃ xs,Ac K H p xs/\k = !xs.isEmpty)\/∃ kvs,H p=Dn (.dK kvs)/\k = !kvs.isEmpty
 | _=>False
theorem yQ {κ : Type}{kvs:List (κ×V)}{vs:List (κ×Ye)}(r:KV kvs vs):(!vs.isEmpty) = !kvs.isEmpty:=by
 cases r <;> rfl
theorem qu {xs:List V}{its:List Ye}(r:VL xs its):(!its.toArray.isEmpty) = !xs.isEmpty:=by
 cases r <;> simp
theorem oF:(YQ:Nat)<2^63:=by rw [sizeLine_eq];decide
theorem M9:Xb X (fun x H Q=>∃ k,Wb X.K x H k/\Q k H):=by
 intro pins s Z H x v Q I rx h;obtain ⟨k,e,q⟩:=h;have hl:=oF;have hs:YQ=16777216:=sizeLine_eq;cases x with
 | non=>
  cases rx;have e':k=false:=e;subst e';exact truthy_none ⟨H,I,q⟩
 | bl b=>
  cases rx;have e':k=b:=e;subst e';exact K5 ⟨H,I,q⟩
 | int i=>
  obtain ⟨t,rfl⟩:=rx;have e':k=(i != 0):=e;subst e';exact PySem.P.truthy_int ⟨H,I,q⟩
 | str y=>
  obtain ⟨t,rfl⟩:=rx;obtain ⟨hy,e'⟩:y.length<=YQ/\k=((y.length:Int) != 0):=e;subst e';exact PySem.P.truthy_str (by lia) ⟨H,I.tok _,q⟩
 | byt y=>
  obtain ⟨t,rfl⟩:=rx;obtain ⟨hy,e'⟩:y.size<=YQ/\k=((y.size:Int) != 0):=e;subst e';exact PySem.W.truthy_bytes (by lia) ⟨H,I.tok _,q⟩
 | ref p=>
  cases rx;have e':(∃ xs,XS X.K H p xs/\k = !xs.isEmpty)\/(∃ xs,Ac X.K H p xs/\k = !xs.isEmpty)\/∃ kvs,H p=Dn (.dK kvs)/\k = !kvs.isEmpty:=e
  rcases e' with ⟨xs,hx,e'⟩ | ⟨xs,hx,e'⟩ | ⟨kvs,hx,e'⟩
  ·subst e';obtain ⟨its,r,pl,hz⟩:=I.list hx;have hlen:=r.length;exact wpAny_truthy_list pl.isList (by simp only [Yr];lia) ⟨H,I.tok _,by rw [qu r];exact q⟩
  ·subst e';obtain ⟨its,r,pl,hz⟩:=I.tuple hx;have hlen:=r.length;exact truthy_tuple pl (by simp only [Yr];lia) ⟨H,I.tok _,by rw [qu r];exact q⟩
  ·subst e';obtain ⟨hz,hS,vs,r,m⟩:kvs.length<=YQ/\(p==Em)=false/\∃ vs,KV kvs vs/\s.heap.DictOf (cJ X.prog X.w) p vs:=I.hok p _ hx
   have hlen:kvs.length=vs.length:=Paired.length r;exact wpAny_truthy_dict hS m (by lia) ⟨H,I.tok _,by rw [yQ r];exact q⟩
 | _=>exact (show False from e).elim
theorem abh (ha:PE X a ta)(he:∀ whole,isTrue a X.env whole=(do let v <-whole;standAt a.pos;holding [v] (truthy v))) :
  PT X a (fun Z H Q=>ta Z H fun x H'=>∃ k,Wb X.K x H' k/\Q k H'):=by
 intro pins s Z H Q I h;exact isTrue_plain (X6 (ha pins s Z H _ I h) fun v s1 ⟨x,H1,I1,r1,q1⟩=>M9 pins s1 Z H1 x v Q I1 r1 q1)<|he _
theorem vals1 {x:V}{us:List Ye}(r:VL [x] us):∃ u,us=[u]/\RelV x u:=by
 cases r with
 | cons r1 r2=>cases r2;exact ⟨_,rfl,r1⟩
theorem vals2 {x y:V}{us:List Ye}(r:VL [x,y] us):∃ u w',us=[u,w']/\RelV x u/\RelV y w':=by
 cases r with
 | cons r1 r2=>
  cases r2 with
  | cons r3 r4=>cases r4;exact ⟨_,_,rfl,r1,r3⟩
end
structure zap (h:Heap) (x dx C:Addr) (mA:Str->Option Ye):Prop where
 obj:h.get? x=Dn (PySem.W.instObj C dx)
 ns:h.Ns1 dx mA
 ne:dx≠x
section
variable {prog:YF}{w:Zb}{A:YW}{E:Ye->Yj->Prop}{s:Yj}{K:Yc}{x dx C f:Addr}{mA:Str->Option Ye}{name:Str}{v:Ye}
end
theorem Hq.some_of {v:V}{o:Option Ye}(r:Hq (Dn v) o):∃ u,o=Dn u/\RelV v u:=by
 cases o with
 | none=>exact (show False from r).elim
 | some u=>exact ⟨u,rfl,r⟩
section
variable {P:YF}{w:Zb}{H H':Hp}{h h':Heap}{a C dx:Addr}{fs fs':List (Str×V)}
end
structure Cls (K:Yc) (C:Addr):Prop where
 pg:PySem.W.plainGet K C Str.empty=true
 hd:PySem.W.hasDictIn K C=true
 po:PySem.W.plainOver K C=true
 sa:J1 K (.ref C) "__setattr__" = Dn (Dn (.builtin "object.__setattr__"))
structure Con (K:Yc) (C:Addr) (f:Str) (v:V) (u:Ye):Prop where
 at_:J1 K (.ref C) f=Dn (Dn u)
 rel:RelV v u
 get:PySem.W.specialIn K u "__get__" = Dn FN
 cp:PySem.W.copiedNames.contains f=false
structure Meth (K:Yc) (C:Addr) (m:Str) (f:Addr):Prop where
 at_:J1 K (.ref C) m=Dn (Dn (.ref f))
 fn:PySem.W.isFn K (.ref f)=true
 kp:Fx K (.ref f)=true
section
variable {X:Cx}{pins:List (Addr×Obj)}{Z : St}{H:Hp}{s:Yj}{a C dx:Addr}{fs:List (Str×V)}{f:Str}{v:V}{A:YW}{E:Ye->Yj->Prop}
end
section
variable {X:Cx}{o e value:Expr}{f:Str}{pos pos' tpos:Pos}{ta tv:TE}
end
section
variable {X:Cx}{pins:List (Addr×Obj)}{Z : St}{H:Hp}{s:Yj}{A:YW}{E:Ye->Yj->Prop}{Q:Ye->Yj->Prop}{c:Ye}{b:Bool}
inductive CN (K:Yc) (H:Hp):V->Ye->Prop where
 | non:CN K H .non (.type "NoneType")
 | bl (x:Bool):CN K H (.bl x) (.type "bool")
 | int (i:Int):CN K H (.int i) (.type "int")
 | str (x:Str):CN K H (.str x) (.type "str")
 | flt (x:UInt64):CN K H (.flt x) (.type "float")
 | lst {a:Addr} {xs:List V} (e:H a=Dn (.lst xs)):CN K H (.ref a) (.type "list")
 | frz {a:Addr} {o:Obj} {xs:List V} (e:H a=Dn (.frz o (.lst xs))):CN K H (.ref a) (.type "list")
 | tup {a:Addr} {xs:List V} (e:H a=Dn (.tup xs)):CN K H (.ref a) (.type "tuple")
 | dK {a:Addr} {kvs:List (Key×V)} (e:H a=Dn (.dK kvs)):CN K H (.ref a) (.type "dict")
 | dT {a:Addr} {kvs:List (List Key×V)} (e:H a=Dn (.dT kvs)):CN K H (.ref a) (.type "dict")
 | ins {a C dx:Addr} {fs:List (Str×V)} (e:H a=Dn (.ins C dx fs)) (cl:Cls K C) (ha:J1 K (.ref C) "__class__" = Dn (Dn (.builtin "object.__class__")))
   (hn:PySem.W.specialIn K (.builtin "object.__class__") "__get__" = Dn (Dn (.builtin "getset_descriptor.__get__"))) (htk:PySem.W.takesIn K (.builtin "object.__class__")=Dn true)
   (hm:PySem.W.mroIn K C (.type "object")=Dn true):CN K H (.ref a) (.ref C)
end
structure mz (k:Nat) (A:YW):Prop where
 hd:9<=k->A.handled=FN
 dp:A.depth+3*k+5<recursionLimit
 un:A.units+16*k+200<Bj
theorem mz.mono {j k:Nat}{A:YW}(r:mz k A)(h:j<=k):mz j A:=⟨fun z=>r.hd (YS z h),by have:=r.dp;lia,by have:=r.un;lia⟩
theorem mz.deeper {k:Nat}{A:YW}(r:mz (k+1) A)(env:Env):mz k (A.deeper env):=
 ⟨fun z=>r.hd (Nat.le_succ_of_le z),by have:=r.dp;show A.depth+1+3*k+5<_;lia,by have:=r.un;show A.units+3+16*k+200<_;lia⟩
theorem mz.calm {k:Nat}{A:YW}(r:mz k A)(h:9<=k):A.handled.isNone=true:=by rw [r.hd h];rfl
theorem mz.depth {k:Nat}{A:YW}(r:mz k A):A.depth<recursionLimit:=by have:=r.dp;lia
theorem mz.units {k:Nat}{A:YW}(r:mz k A):A.units+64<Bj:=by have:=r.un;lia
def V7:TA:=fun _ H Q=>Q [] H
def UG (ta:TE)(tr:TA):TA:=fun Z H Q=>ta Z H fun x H1=>tr Z H1 fun xs H2=>Q (x::xs) H2
section
variable {X:Cx}{e:Expr}{es:List Expr}{te:TE}{t:TA}{pos:Pos}
theorem HY:PA X [] V7:=fun _ _ _ _ H Q I h=>Calls.spliced_nil ⟨[],H,I,.nil,h⟩
theorem BZ (ha:PE X e te)(hr:PA X es t)(hs:YG (e::es) X.env=(false,eval e X.env)::YG es X.env:=by rfl):PA X (e::es) (UG te t):=by
 intro pos pins s Z H Q I h;rw [hs];show Y7 _ _ (spliced ((false,eval e X.env)::Am pos (YG es X.env))) _ _ s;refine Calls.spliced_cons<|X6 (ha pins s Z H _ I h) fun u s1 ⟨x,H1,I1,r1,q1⟩=>?_
 exact X6 (hr pos pins s1 Z H1 _ I1 q1) fun us s2 ⟨xs,H2,I2,r2,q2⟩=>⟨x::xs,H2,I2,.cons r1 r2,q2⟩
def XD (t:TA):TE:=fun Z H Q=>t Z H fun xs H1=>xs.length<=YQ/\∀ p,H1 p=FN->Q (.ref p) (X5 H1 p (.tup xs))
def Xx (t:TA):TE:=fun Z H Q=>t Z H fun xs H1=>xs.length<=YQ/\∀ p,H1 p=FN->Q (.ref p) (X5 H1 p (.lst xs))
theorem Rq {x1}(h:PA X es t):PE X (.Tuple es x1 pos) (XD t):=by
 intro pins s Z H Q I hq;refine wpAny_Tuple_spliced<|X6 (h pos pins s Z H _ I hq) fun us s1 ⟨xs,H1,I1,r,z,q⟩=>⟨by rw [<-r.length];exact z,?_⟩
 have hf:H1 s1.heap.objs.size=FN:=I1.hok.fresh (Ym _);refine ⟨.ref s1.heap.objs.size,X5 H1 s1.heap.objs.size<|.tup xs,I1.laid (t':=s1.toks) (fun b u e=>Yh _ e) (Ym _) ?_,rfl,q _ hf⟩;exact ⟨z,us,r,⟨_,YC _ rfl,rfl,⟨_,rfl⟩,rfl⟩⟩
theorem GJ (h:PA X es t):PE X (.List es pos) (Xx t):=by
 intro pins s Z H Q I hq;refine wpAny_List_spliced<|X6 (h pos pins s Z H _ I hq) fun us s1 ⟨xs,H1,I1,r,z,q⟩=>⟨by rw [<-r.length];exact z,?_⟩
 have hf:H1 s1.heap.objs.size=FN:=I1.hok.fresh (Ym _);refine ⟨.ref s1.heap.objs.size,X5 H1 s1.heap.objs.size<|.lst xs,I1.laid (t':=s1.toks) (fun b u e=>Yh _ e) (Ym _) ?_,rfl,q _ hf⟩;exact ⟨z,us,0,r,YC _ rfl⟩
end
abbrev Sp:=List V->Hp->VK->XK->Prop
abbrev Ek:=List Env->Hp->Yj->XK->Ye->Yj->Prop
structure R6 (P:YF) (w:Zb) (K:Yc) (mg:Str->Option Ye) (base:Heap) (A:YW) (outer:List Env) (s:Yj) (H:Hp):Prop where
 frames:A.frames=Dn outer
 mod:Mod K mg base
 bs:∀ b o,base.get? b=Dn o->s.heap.get? b=Dn o/\H b=FN
 bsz:base.objs.size<=s.heap.objs.size
 funs:s.heap.FunFrames base outer
 frf:∀ b∈frs outer,H b=FN
 hok:BJ P w H s.heap
 bare:Ft s.gens
 qt:Quiet A H
def CE (outer:List Env)(P:YF)(w:Zb)(H:Hp)(s:Yj)(Q:VK)(u:Ye)(s':Yj):Prop:=
 ∃ v H',s'.os=s.os/\Ft s'.gens/\Un (frs outer) [] H H' s.heap s'.heap/\BJ P w H' s'.heap/\RelV v u/\Q v H'
def zaL (CX:Ek)(outer:List Env)(P:YF)(w:Zb)(H:Hp)(s:Yj)(Q:VK)(E:XK)(r:Result)(s':Yj):Prop:=
 match r with
 | .ok (.ret u)=>CE outer P w H s Q u s'
 | .ok _=>False
 | .error e=>CX outer H s E e s'
structure eO (P:YF) (w:Zb) (K:Yc) (mg:Str->Option Ye) (base:Heap) (CX:Ek) (k:Nat) (f:Addr) (fd:Y8) (ps:List Str) (sp:Sp):Prop where
 len:∀ vs H Q E,sp vs H Q E->vs.length=ps.length
 run:∀ (A:YW) (outer:List Env) (s:Yj) (H:Hp) (args:Args) (us:List Ye) (vs:List V) (Q:VK) (E:XK),mz k A->R6 P w K mg base A outer s H->BindsTo s fd args (ps.zip us)->VL vs us->sp vs H Q E ->
  codeAny (Zk P w) A (.call (.ref f) args) (zaL CX outer P w H s Q E) s
theorem eO.mono {P:YF}{w:Zb}{K:Yc}{mg:Str->Option Ye}{base:Heap}{CX:Ek}{j k:Nat}{f:Addr}{fd:Y8}{ps:List Str}{sp:Sp}(F:eO P w K mg base CX j f fd ps sp)(h:j<=k) :
  eO P w K mg base CX k f fd ps sp:=⟨F.len,fun A outer s H args us vs Q E hr=>F.run A outer s H args us vs Q E (hr.mono h)⟩
theorem eO.imp {P:YF}{w:Zb}{K:Yc}{mg:Str->Option Ye}{base:Heap}{CX:Ek}{k:Nat}{f:Addr}{fd:Y8}{ps:List Str}{sp sp':Sp}(F:eO P w K mg base CX k f fd ps sp)
  (h:∀ vs H Q E,sp' vs H Q E->sp vs H Q E):eO P w K mg base CX k f fd ps sp':=
 ⟨fun vs H Q E q=>F.len vs H Q E (h _ _ _ _ q),fun A outer s H args us vs Q E hr he hb hv hs=>F.run A outer s H args us vs Q E hr he hb hv (h _ _ _ _ hs)⟩
section
variable {X:Cx}{pins:List (Addr×Obj)}{Z : St}{H:Hp}{s s':Yj}
theorem Go.env0 (I:Go X pins Z H s):R6 X.prog X.w X.K X.mg X.base X.A X.stack s H:=
 ⟨I.ok.frames,I.ok.mod,I.bs,YS I.ok.bsz I.sz,I.stack,I.stkFree,I.hok,I.bare,I.qt0⟩
theorem Go.after {Q:VK}{u:Ye}(I:Go X pins Z H s)(h:CE X.stack X.prog X.w H s Q u s'):EP X pins Z Q u s':=by
 obtain ⟨v,H',os,bare,un,hok,r,q⟩:=h;obtain ⟨hh,g,d,t,os'⟩:=s';obtain rfl:os'=s.os:=os;exact ⟨v,H',I.call (h':=hh) (g':=g) (d':=d) (t':=t) (ch:=[]) un hok bare<|fun b z=>absurd z<|by simp,r,q⟩
end
def Mx (sp:Sp)(dvs:List V)(E:XK)(t:TA):TE:=fun Z H Q=>t Z H fun vs H1=>sp (vs++dvs) H1 Q E
def Binds (K:Yc)(fd:Y8)(ps:List Str)(ds:List Ye):Prop:=
 ∀ (s:Yj) (us:List Ye),K.In s.heap->(us++ds).length=ps.length->BindsTo s fd ⟨us,[]⟩ (ps.zip (us++ds))
theorem Binds.all {K:Yc}{fd:Y8}{ps:List Str}(h:∀ us:List Ye,us.length=ps.length->bindArgs fd ⟨us,[]⟩=pure (ps.zip us)):Binds K fd ps []:=fun s us _ hl=>by
 rw [List.append_nil] at hl |-
 exact .of_eq<|h us hl
def Passes (CX:Ek)(X:Cx)(E:XK):Prop:=∀ (pins:List (Addr×Obj)) (Z : St) (H:Hp) (s:Yj) (e:Ye) (s':Yj),Go X pins Z H s->CX X.stack H s E e s'->X.xe e s'
section
variable {X:Cx}{CX:Ek}{k:Nat}{f C:Addr}{fd:Y8}{ps:List Str}{sp:Sp}{dvs:List V}{ds:List Ye}{E:XK}{x m:Str}{p pos apos:Pos}{e o:Expr}{es:List Expr}{ta:TE}{t:TA}
theorem Gs {pins:List (Addr×Obj)}{Z : St}{H:Hp}{s:Yj}{Q:VK}{us:List Ye}{vs:List V}(F:eO X.prog X.w X.K X.mg X.base CX k f fd ps sp)(hr:mz k X.A)(hb:Binds X.K fd ps ds)(hd:VL dvs ds)(hx:Passes CX X E)
  (I:Go X pins Z H s) (r:VL vs us) (h:sp (vs++dvs) H Q E):Y7 (Zk X.prog X.w) X.A (call (.ref f) us) (EP X pins Z Q) X.xe s:=by
 have r2:VL (vs++dvs) (us++ds):=r.append hd;have hl:(us++ds).length=ps.length:=by rw [<-r2.length];exact F.len _ _ _ _ h
 refine wpAny_call<|codeAny_mono (F.run X.A X.stack s H ⟨us,[]⟩ (us++ds) (vs++dvs) Q E hr I.env0 (hb s us I.kIn hl) r2 h) fun r s' hq=>?_
 cases r with
 | error e=>exact hx pins Z H s e s' I hq
 | ok fl=>
  cases fl with
  | ret u=>exact I.after hq
  | next=>exact Fb hq
  | brk=>exact Fb hq
  | cont=>exact Fb hq
theorem abf (F:eO X.prog X.w X.K X.mg X.base CX k f fd ps sp)(hr:mz k X.A)(hg:Gl X x)(hm:X.mg x=Dn (.ref f))(hk:Fx X.K (.ref f)=true)(hb:Binds X.K fd ps ds)(hd:VL dvs ds)(hx:Passes CX X E)
  (ha:PA X (e::es) t) (hdb:(x==("__debug__" : Str))=false:=by decide) (he:YG (e::es) X.env=(false,eval e X.env)::YG es X.env:=by rfl) (hpl:(Am pos (YG es X.env)).any (·.1)=false:=by rfl) :
  PE X (.Call (.Name x p) (e::es) [] pos) (Mx sp dvs E t):=by
 intro pins s Z H Q I h;refine K6<|vH I hg hm ?_ hdb
 refine PySem.W.callWith_K (h₀:=X.base) I.ok.mod.kin hk (X6 (ha pos pins s Z H _ I h) fun us s1 ⟨vs,H1,I1,r,q⟩=>⟨I1.kIn,?_⟩) he hpl;exact Gs F hr hb hd hx I1 r q
theorem zaR (F:eO X.prog X.w X.K X.mg X.base CX k f fd ps sp)(hr:mz k X.A)(hg:Gl X x)(hm:X.mg x=Dn (.ref f))(hk:Fx X.K (.ref f)=true)(hb:Binds X.K fd ps ds)(hd:VL dvs ds)(hx:Passes CX X E)
  (hdb:(x==("__debug__" : Str))=false:=by decide):PE X (.Call (.Name x p) [] [] pos) (Mx sp dvs E V7):=by
 intro pins s Z H Q I h;refine K6<|vH I hg hm ?_ hdb
 exact PySem.W.callWith_K0 I.kIn hk<|Gs (us:=[]) F hr hb hd hx I .nil h
structure zaf (K:Yc) (C f:Addr):Prop where
 makes:PySem.W.makesIn K C=true
 init:J1 K (.ref C) "__init__" = Dn (Dn (.ref f))
 fn:PySem.W.isFn K (.ref f)=true
 kp:Fx K (.ref C)=true
end
section
variable {X:Cx}{CX:Ek}{k:Nat}{f C:Addr}{fd:Y8}{ps ks:List Str}{sp:Sp}{E:XK}{x m:Str}{p pos apos kpos:Pos}{e o:Expr}{es:List Expr}{kws:List Dq}{te ta:TE}{t tk:TA}{nm:Option Str}
structure zak (K:Yc) (fd:Y8) (ps ks:List Str) (g:List Ye->List Ye->List Ye) (gV:List V->List V->List V):Prop where
 to:∀ (s:Yj) (us ws:List Ye),K.In s.heap->(g us ws).length=ps.length->BindsTo s fd ⟨us,ks.zip ws⟩ (ps.zip (g us ws))
 rel:∀ {vs:List V} {us:List Ye} {zs:List V} {ws:List Ye},VL vs us->VL zs ws->VL (gV vs zs) (g us ws)
variable {g:List Ye->List Ye->List Ye}{gV:List V->List V->List V}
end
structure bJ (N P:List Str) (sc:Scope):Prop where
 kind:sc.kind=.function
 co:sc.isCoroutine=false
 gen:sc.isGenerator=false
 nd:N.Nodup
 pre:N.take P.length=P
 par:∀ x∈P,sc.names.lookup x=Dn .local\/sc.names.lookup x=Dn .cell
 nofree:∀ y∈sc.names,y.2≠.free
theorem tH {Dk:Str->Option YX}{x:Str}:∀ {binds:List (Str×Ye)} {m:Str->Option Ye},(∀ v,(x,v)∉binds)->bindL Dk binds m x=m x
 | [],_,_=>rfl
 | (n,v)::r,m,h=>by
  unfold bindL;rw [tH fun w hw=>h w (YH _ hw)];split
  ·have:x≠n:=by rintro rfl;exact h v Yz
   simp [this]
  ·rfl
theorem tU {Dk:Str->Option YX}{x:Str}:∀ {binds:List (Str×Ye)} {m:Str->Option Ye},(∀ v,(x,v)∉binds)->bindC Dk binds m x=m x
 | [],_,_=>rfl
 | (n,v)::r,m,h=>by
  unfold bindC;rw [tU fun w hw=>h w (YH _ hw)];split
  ·rfl
  ·have:x≠n:=by rintro rfl;exact h v Yz
   simp [this]
theorem tO {Dk:Str->Option YX}{x:Str}{v:Ye}:∀ {P:List Str} {vs:List Ye} {i:Nat} {m:Str->Option Ye},P.Nodup->P[i]?=Dn x->vs[i]?=Dn v->Dk x=Dn .local ->
  bindL Dk (P.zip vs) m x=Dn v
 | [],_,_,_,_,h,_,_=>by simp at h
 | _::_,[],_,_,_,_,h,_=>by simp at h
 | p::P,w::vs,0,m,nd,h1,h2,hk=>by
  simp at h1 h2;subst h1;subst h2;show bindL Dk ((p,w)::P.zip vs) m p=_;unfold bindL;rw [tH fun v hv=>(KZ.mp nd).1 (List.of_mem_zip hv).1,if_pos hk];simp
 | p::P,w::vs,i+1,m,nd,h1,h2,hk=>by
  show bindL Dk ((p,w)::P.zip vs) m x=_;unfold bindL;exact tO (i:=i) (KZ.mp nd).2 (by simpa using h1) (by simpa using h2) hk
theorem tB {Dk:Str->Option YX}{x:Str}{v:Ye}:∀ {P:List Str} {vs:List Ye} {i:Nat} {m:Str->Option Ye},P.Nodup->P[i]?=Dn x->vs[i]?=Dn v->Dk x≠Dn .local ->
  bindC Dk (P.zip vs) m x=Dn v
 | [],_,_,_,_,h,_,_=>by simp at h
 | _::_,[],_,_,_,_,h,_=>by simp at h
 | p::P,w::vs,0,m,nd,h1,h2,hk=>by
  simp at h1 h2;subst h1;subst h2;show bindC Dk ((p,w)::P.zip vs) m p=_;unfold bindC;rw [tU fun v hv=>(KZ.mp nd).1 (List.of_mem_zip hv).1,if_neg hk];simp
 | p::P,w::vs,i+1,m,nd,h1,h2,hk=>by
  show bindC Dk ((p,w)::P.zip vs) m x=_;unfold bindC;exact tB (i:=i) (KZ.mp nd).2 (by simpa using h1) (by simpa using h2) hk
def start (N:List Str)(vs:List V):St:=vs.map Dn++ZD (N.length - vs.length) FN
def Iz (CX:Ek)(P:YF)(w:Zb)(K:Yc)(mg:Str->Option Ye)(base:Heap)(N:List Str)(qual:Str)(scope:Scope)(f:Addr)(cd:Ye)(A:YW)(outer:List Env)(s:Yj)(H:Hp)(E:XK):Cx where
 prog:=P
 w:=w
 K:=K
 mg:=mg
 base:=base
 A:=A.deeper (envOfC qual scope s.heap.objs.size f cd)
 N:=N
 s₀:=s
 H₀:=H
 env:=envOfC qual scope s.heap.objs.size f cd
 outer:=outer
 stack:=envOfC qual scope s.heap.objs.size f cd::outer
 ex:=[]
 calm:=A.handled.isNone
 fn:=fun _=>true
 pn:=[]
 xe:=fun e s'=>Y7 (Zk P w) (A.deeper (envOfC qual scope s.heap.objs.size f cd)) (leaving (envOfC qual scope s.heap.objs.size f cd) e) (fun _ s''=>CX outer H s E e s'') (fun e' s''=>CX outer H s E e' s'') s'
theorem xQ {sc:Scope}{n:Nat}{x:Str}(h:sc.names.lookup x=Dn .cell):∃ c,(Zt n sc.names []).lookup x=Dn c:=by
 have q:=PySem.W.cellsFrom_some sc.names n [] (.inl h);exact Option.isSome_iff_exists.mp q
theorem zaI {CX:Ek}{P:YF}{w:Zb}{K:Yc}{mg:Str->Option Ye}{base:Heap}{N ps:List Str}{qual:Str}{scope:Scope}{f:Addr}{cd:Ye}{A:YW}{outer:List Env}{s s1:Yj}{H:Hp}{E:XK}{us:List Ye}{vs:List V}
  (S:bJ N ps scope) (e0:R6 P w K mg base A outer s H) (hl:vs.length=ps.length) (r:VL vs us)
  (x:InCallC s s.heap.objs.size (bindL (envOfC qual scope s.heap.objs.size f cd).kindOf (ps.zip us) fun _=>FN) (Zt (s.heap.objs.size+1) scope.names []) (bindC (envOfC qual scope s.heap.objs.size f cd).kindOf (ps.zip us) fun _=>FN) s1) :
  Go (Iz CX P w K mg base N qual scope f cd A outer s H E) [] (start N vs) H s1:=by
 have hpl:ps.length<=N.length:=by have:=congrArg Jx S.pre;rw [Zo] at this;lia
 obtain ⟨h1,tk,rfl,hk⟩:=x.done;have noA:∀ b:Addr,b∉(Iz CX P w K mg base N qual scope f cd A outer s H E).ex:=fun b z=>absurd (show b∈([]:List Addr) from z) (by simp)
 refine ⟨⟨e0.mod,S.kind,rfl,rfl,Ym _,fun y z c h1 h2=>?_,fun y hy=>?_,fun y c _ h=>?_,fun z=>Option.isNone_iff_eq_none.mp (show A.handled.isNone=true from z),e0.qt,Around.frames_deeper e0.frames,.inr ⟨rfl,rfl⟩,fun b z=>absurd z (noA b),e0.bs,e0.bsz,fun b _ _=>noA b,fun b z=>absurd z (noA b),e0.funs,e0.frf⟩,
  rfl,e0.bare,Un.kept hk,⟨_,x.toInCall.ns,fun i y v h1 h2 h3=>?_⟩,fun y c h=>⟨_,x.cell y c h⟩,e0.hok.fresh (Ym _),fun y c h=>?_,fun p hp=>absurd (show p∈([]:List (Addr×Obj)) from hp) (by simp),e0.hok.kept hk,?_⟩
 ·exact name_of_addr x.apart (Zz h1)<|Zz h2
 ·have hy:scope.names.lookup y=Dn .cell\/scope.names.lookup y=Dn .free:=hy;rcases hy with hy | hy
  ·exact xQ hy
  ·exact absurd rfl<|S.nofree _<|Zz hy
 ·exact Je<|x.above y c<|Zz h
 ·have hi:i<vs.length:=by
   unfold start at h2;by_cases hi:i<vs.length
   ·exact hi
   ·rw [Zh (by simpa using hi)] at h2;rw [LC] at h2;split at h2 <;> cases h2
  have ha:vs[i]?=Dn v:=by
   unfold start at h2;rw [Zu (by simpa using hi),Yo] at h2;cases e:vs[i]? with
   | none=>rw [e] at h2;cases h2
   | some a=>rw [e] at h2;cases h2;rfl
  obtain ⟨u,hu,rv⟩:=r.get ha;have hp:ps[i]?=Dn y:=by
   rw [<-S.pre,List.getElem?_take_of_lt (by lia)];exact h1
  have ndP:ps.Nodup:=by rw [<-S.pre];exact S.nd.sublist (List.take_sublist _ _)
  refine ⟨u,rv,?_⟩;rcases S.par y (YL hp) with k | k
  ·exact .inl ⟨k,tO ndP hp hu k⟩
  ·obtain ⟨c,e⟩:=xQ (n:=s.heap.objs.size+1) k;refine .inr ⟨.inl k,c,e,?_⟩;have q:=x.cell y c e;rw [tB ndP hp hu (by show scope.names.lookup y≠_;rw [k];decide)] at q;exact q
 ·exact e0.hok.fresh<|Je<|x.above y c<|Zz h
 ·unfold start;show _=N.length;rw [Yw,Yd,List.length_replicate];lia
theorem Ug {CX:Ek}{P:YF}{w:Zb}{K:Yc}{mg:Str->Option Ye}{base:Heap}{k:Nat}{f:Addr}{name qual:Str}{params:Arguments}{body:List Stmt}{scope:Scope}{dV kV doc pm cdv ct oc:Ye}{an od:Option Addr}
  {osl:Array (Option Ye)} {N ps:List Str} {sp:Sp} (lk:K.lookup f=Dn ⟨oc,od,.func (JR name qual params body scope dV kV doc pm an cdv ct),osl⟩) (hcd:PySem.W.codeIn K cdv qual=true) (S:bJ N ps scope)
  (len:∀ vs H Q E,sp vs H Q E->vs.length=ps.length)
  (hbody:∀ (A:YW) (outer:List Env) (s:Yj) (H:Hp) (vs:List V) (Q:VK) (E:XK),mz k (A.deeper (envOfC qual scope s.heap.objs.size f cdv))->sp vs H Q E ->
   ∃ t,Dr (Iz CX P w K mg base N qual scope f cdv A outer s H E) body t/\t { nx:=fun _ H'=>Q .non H',rt:=Q } (start N vs) H) :
  eO P w K mg base CX (k+1) f (JR name qual params body scope dV kV doc pm an cdv ct) ps sp:=by
 refine ⟨len,fun A outer s H args us vs Q E hr e0 hb r hsp=>?_⟩;have hl:=len _ _ _ _ hsp;have KX:K.In s.heap:=e0.mod.kin.keeps fun b o e=>(e0.bs b o e).1
 have lim:s.heap.NoLimit:=e0.mod.nolimit.keeps fun b o e=>(e0.bs b o e).1
 have hkind:∀ y∈ps.zip us,scope.names.lookup y.1=Dn .local\/(scope.names.lookup y.1=Dn .cell/\((Zt (s.heap.objs.size+1) scope.names []).lookup y.1).isSome=true):=fun ⟨n,v⟩ hy=>by
  rcases S.par n (List.of_mem_zip hy).1 with q | q
  ·exact .inl q
  ·exact .inr ⟨q,PySem.W.cellsFrom_some _ _ _<|.inl q⟩
 refine codeAny_call_function hr.depth (KX _ _ lk) rfl S.co S.gen rfl (PySem.W.codeRec_of KX hcd)<|hb _ _ _ _ ?_
 refine wpAny_newFunctionEnv_cells S.kind hkind fun env he s1 x=>?_;subst he;refine ⟨lim.keeps x.toInCall.keep,codeAny_func ?_⟩;obtain ⟨t,ht,hq⟩:=hbody A outer s H vs Q E (hr.deeper _) hsp;have I:Go (Iz CX P w K mg base N qual scope f cdv A outer s H E) [] (start N vs) H s1:=zaI S e0 hl r x;refine ZW (ht [] s1 (start N vs) H _ I hq) (fun fl s' hs=>?_) fun e s' hs=>hs;have fin:∀ {Z':St} {H':Hp} {v:V} {u:Ye},Go (Iz CX P w K mg base N qual scope f cdv A outer s H E) [] Z' H' s'->RelV v u->Q v H'->CE outer P w H s Q u s':=
  fun {Z' H' v u} J rv q=>⟨v,H',J.os,J.bare,J.base,J.hok,rv,q⟩
 cases fl with
 | ret u=>
  obtain ⟨v,Z',H',J,rv,q⟩:=hs;exact fin J rv q
 | next=>
  obtain ⟨Z',H',J,q⟩:=hs;exact fin (v:=V.non) (u:=Value.none) J rfl q
 | brk=>
  obtain ⟨_,_,_,q⟩:=hs;exact Fb q
 | cont=>
  obtain ⟨_,_,_,q⟩:=hs;exact Fb q
section
variable {X:Cx}{x:Str}{p pos:Pos}{e:Expr}{es:List Expr}{t:TA}{id T:String}{r:List V->Hp->VK->Prop}
def tCB (r:List V->Hp->VK->Prop)(t:TA):TE:=fun Z H Q=>t Z H fun vs H1=>r vs H1 Q
theorem aaA (hc:jh X (.builtin id) r)(hg:Gl X x)(hm:X.mg x=FN)(hv:J9 x=Dn (.builtin id))(ha:PA X (e::es) t)(hn:x ≠ "__name__":=by decide)(hdb:(x==("__debug__" : Str))=false:=by decide)
  (he:YG (e::es) X.env=(false,eval e X.env)::YG es X.env:=by rfl) (hpl:(Am pos (YG es X.env)).any (·.1)=false:=by rfl):PE X (.Call (.Name x p) (e::es) [] pos) (tCB r t):=by
 intro pins s Z H Q I h;refine K6<|qF I hg hm hv ?_ hn hdb
 exact PyProof.Rows.callWith_builtin1 (X6 (ha pos pins s Z H _ I h) fun us s1 ⟨vs,H1,I1,r1,q1⟩=>hc pins s1 Z H1 vs us Q I1 r1 q1) he hpl
theorem tX (hc:jh X (.type T) r)(hg:Gl X x)(hm:X.mg x=FN)(hv:J9 x=Dn (.type T))(ha:PA X (e::es) t)(hn:x ≠ "__name__":=by decide)(hdb:(x==("__debug__" : Str))=false:=by decide)
  (he:YG (e::es) X.env=(false,eval e X.env)::YG es X.env:=by rfl) (hpl:(Am pos (YG es X.env)).any (·.1)=false:=by rfl):PE X (.Call (.Name x p) (e::es) [] pos) (tCB r t):=by
 intro pins s Z H Q I h;refine K6<|qF I hg hm hv ?_ hn hdb
 exact LK (X6 (ha pos pins s Z H _ I h) fun us s1 ⟨vs,H1,I1,r1,q1⟩=>hc pins s1 Z H1 vs us Q I1 r1 q1) he hpl
end
end L2
namespace HT
open PySem PyProof.Rows
section
open PySem.SeqAt
open PySem.AutoSeq1 (wpAny_loadPart')
open PySem.MeetsSeq PySem.MeetsSeq2 PySem.MeetsSeq3
end
section
variable {prog:YF}{w:Zb}{A:YW}{E:Ye->Yj->Prop}{s:Yj}
theorem JV {t b:Addr}{vs ws:List Ye}{Q:Ye->Yj->Prop}(ht:IsTup s.heap t vs.toArray)(hb:IsTup s.heap b ws.toArray)(hv:vs≠[])
  (h1:ws=[]->Q (.ref t) s) (h2:ws≠[]->Q (.ref s.heap.objs.size) { s with heap:=s.heap.push { cls:=.type "tuple",data:=.seq (vs++ws).toArray } })
  (hsz:vs.length+ws.length<=YQ):Y7 (Zk prog w) A (Cq .Add (.ref t) (.ref b)) Q E s:=by
 obtain ⟨⟨cls,dd,data,sl⟩,ho,hc,n,hd⟩:=id ht;obtain ⟨⟨cls2,dd2,data2,sl2⟩,ho2,hc2,n2,hd2⟩:=id hb;simp only at hc hd hc2 hd2;subst hc hd hc2 hd2;have e:vs.toArray++ws.toArray=(vs++ws).toArray:=by simp
 by_cases hw:ws=[]
 ·exact concat_meets ⟨_,ho,rfl⟩ ⟨_,ho2,rfl⟩ noFill_tuple_add seq_tuple_add PySem.F.slot_tuple_add PySem.F.entry_tuple_add (PySem.F.args_tuple_add_2 _ _)
   (tuple_addW1 t b vs.toArray ws.toArray n n2 dd dd2 sl sl2 (by simpa using hv) (by simp [hw])) ⟨ho,ho2,h1 hw⟩
 ·refine concat_meets ⟨_,ho,rfl⟩ ⟨_,ho2,rfl⟩ noFill_tuple_add seq_tuple_add PySem.F.slot_tuple_add PySem.F.entry_tuple_add (PySem.F.args_tuple_add_2 _ _)
   (tuple_addW2 t b vs.toArray ws.toArray n n2 dd dd2 sl sl2 (by simpa using hv) (by simpa using hw) (by rw [Yr,Yr];exact hsz)) ⟨ho,ho2,?_⟩
  rw [e];exact h2 hw
def sIx (n d:Nat):Option Int->Nat
 | none=>d
 | some v=>if v<0 then (v+(n:Int)).toNat else min v.toNat n
theorem Eu (n d:Nat):sIx n d FN=d:=rfl
theorem Li (n d k:Nat):sIx n d (Dn (k:Int))=min k n:=by
 show (if (k:Int)<0 then ((k:Int)+(n:Int)).toNat else min (k:Int).toNat n)=min k n;rw [if_neg (by lia),ZQ]
theorem Nu (n d:Nat)(hd:d<=n)(o:Option Int):sIx n d o<=n:=by
 cases o with
 | none=>exact hd
 | some v=>
  show (if v<0 then (v+(n:Int)).toNat else min v.toNat n)<=n;by_cases hv:v<0
  ·rw [if_pos hv];lia
  ·rw [if_neg hv];exact Nat.min_le_right _ _
theorem Br (v:Int)(n d:Nat):(if v<0 then max (v+(n:Int)) 0 else min v (n:Int))=((sIx n d (Dn v):Nat):Int):=by
 show (if v<0 then max (v+(n:Int)) 0 else min v (n:Int))=(((if v<0 then (v+(n:Int)).toNat else min v.toNat n):Nat):Int);by_cases hv:v<0
 ·simp only [if_pos hv];lia
 ·simp only [if_neg hv];lia
theorem yu (lo hi:Option Int)(n:Nat):Builtin.Slice.sliceAdjust lo hi 1 (n:Int)=(((sIx n 0 lo:Nat):Int),((sIx n n hi:Nat):Int)):=by
 have h1:¬ ((1:Int)<0):=by lia
 unfold Builtin.Slice.sliceAdjust;simp only [h1,if_false];refine Prod.ext ?_ ?_
 ·cases lo with
  | none=>rfl
  | some v=>exact Br v n 0
 ·cases hi with
  | none=>rfl
  | some v=>exact Br v n n
theorem yW (i j:Nat):Le (i:Int) (j:Int) 1=j - i:=by
 unfold Le;have h1:(1:Int)>0:=by lia
 simp only [h1,if_true,Int.ediv_one];split <;> lia
theorem ql {v:Ye}{o:Option Int}{Q:Option Int->Yj->Prop}(p:IsPart v o)(h:Q o s):Y7 (Zk prog w) A (Builtin.Slice.slicePartIndex v) Q E s:=by
 cases p with
 | none=>exact slicePart_none h
 | int i t=>exact slicePart_int h
theorem g8 {sl:Addr}{vl vu:Ye}{lo hi:Option Int}{n:Nat}{Q:Int×Int×Nat->Yj->Prop}(hs:s.heap.IsSliceOf sl vl vu .none)(pl:IsPart vl lo)(pu:IsPart vu hi)
  (h:Q (((sIx n 0 lo:Nat):Int),1,sIx n n hi - sIx n 0 lo) s):Y7 (Zk prog w) A (Builtin.Slice.sliceApplied (.ref sl) (pure (n:Int))) Q E s:=by
 obtain ⟨os,hos,hcs,hds⟩:=id hs;unfold Builtin.Slice.sliceApplied Builtin.Slice.sliceFields;refine Yg<|Yg<|ZJ hos hds (x:=vl) rfl<|Yg<|ZJ hos hds (x:=vu) rfl<|Yg<|ZJ hos hds (x:=.none) rfl<|Yx ?_
 refine Yg<|slicePart_none ?_
 show Y7 _ _ (if ((1:Int)==0)=true then _ else _) _ _ s;rw [if_neg (by decide)];refine Yg<|ql pl<|Yg<|ql pu<|Yg<|Yx ?_
 show Y7 _ _ (match Builtin.Slice.sliceAdjust lo hi 1 (n:Int) with | (lo,hi)=>pure (lo,(1:Int),Le lo hi 1)) _ _ s;rw [yu lo hi n];show Y7 _ _ (pure (((sIx n 0 lo:Nat):Int),(1:Int),Le ((sIx n 0 lo:Nat):Int) ((sIx n n hi:Nat):Int) 1)) _ _ s;rw [yW];exact Yx h
theorem zbc (xs:Array Ye)(i k:Nat):((ZX k).filterMap fun (m:Nat)=>xs[((i:Int)+(m:Int)*1).toNat]?).toArray=((xs.toList.drop i).take k).toArray:=by
 have e:(fun (m:Nat)=>xs[((i:Int)+(m:Int)*1).toNat]?)=fun m=>xs[i+m]?:=by
  funext m;have:((i:Int)+(m:Int)*1).toNat=i+m:=by lia
  rw [this]
 rw [e];have:=pick_run xs i k
 rw [List.filterMap_map] at this;have e2:((fun x=>xs[x]?) ∘ fun x=>i+x)=fun m=>xs[i+m]?:=rfl
 rw [e2] at this;rw [this]
theorem lO {t sl:Addr}{items:Array Ye}{vl vu:Ye}{lo hi:Option Int}{Q:Ye->Yj->Prop}(ht:IsTup s.heap t items)(hs:s.heap.IsSliceOf sl vl vu .none)(pl:IsPart vl lo)(pu:IsPart vu hi)
  (hw:¬ (sIx items.size 0 lo=0/\sIx items.size items.size hi=items.size))
  (h:Q (.ref s.heap.objs.size) { s with heap:=s.heap.push { cls:=.type "tuple",data:=.seq ((items.toList.drop (sIx items.size 0 lo)).take (sIx items.size items.size hi - sIx items.size 0 lo)).toArray } })
  (hsz:items.size<=YQ):Y7 (Zk prog w) A (getItem (.ref t) (.ref sl)) Q E s:=by
 have htake:sizeOk (.seq ((items.toList.drop (sIx items.size 0 lo)).take (sIx items.size items.size hi - sIx items.size 0 lo)).toArray):=by
  show ((items.toList.drop (sIx items.size 0 lo)).take (sIx items.size items.size hi - sIx items.size 0 lo)).toArray.size<=YQ;rw [Yr,Zo,J5,Kl];lia
 have hj:sIx items.size items.size hi<=items.size:=Nu _ _ (Ym _) hi;obtain ⟨os,hos,hcs,hds⟩:=id hs;have hTs:s.TypeIs (.ref sl) "slice":=⟨os,hos,hcs⟩
 unfold getItem;try with_reducible refine FZ ?_
 first | refine Yg (Yx ?_) | skip
 refine Yg<|wpAny_sequenceKey ht.typeIs (by decide) ?_
 refine Yg (ZV (name:=JM "__getitem__") ht.typeIs Zy
  (Jo Zy ht.typeIs entry_tuple_getitem ?_ (args_tuple_getitem _ _)))
 show Y7 _ _ (Builtin.Tuple.tupleItemsOf (.ref t) >>= _) _ _ s;refine Yg<|tupleItemsOf_ ht ?_
 refine Yg<|wpAny_typeOf hTs ?_
 rw [if_pos (by decide)];refine Yg<|g8 hs pl pu ?_
 have hno:¬ ((((sIx items.size 0 lo:Nat):Int)==0&&(1:Int)==1&&(sIx items.size items.size hi - sIx items.size 0 lo)==items.size)=true):=by
  intro q;rw [YM,YM] at q;have q1:((sIx items.size 0 lo:Nat):Int)=0:=eq_of_beq q.1.1;have q2:sIx items.size items.size hi - sIx items.size 0 lo=items.size:=eq_of_beq q.2;exact hw ⟨by lia,by lia⟩
 show Y7 _ _ (if (((sIx items.size 0 lo:Nat):Int)==0&&(1:Int)==1&&(sIx items.size items.size hi - sIx items.size 0 lo)==items.size)=true then _ else _) _ _ s;rw [if_neg hno,zbc];first
  | exact Yg (m:=Ld _) (J7 (Yx ⟨_,rfl,Yx h⟩) htake)
  | exact Yg (m:=Ld _) (J7 (Yg (Yx (Yx ⟨_,rfl,Yx h⟩))) htake)
  | exact Yg (Yg (m:=Ld _) (J7 (Yx (Yx ⟨_,rfl,Yx h⟩)) htake))
  | exact Yg (Yg (m:=Ld _) (J7 (Yx ⟨_,rfl,Yx h⟩) htake))
end
end HT
namespace L2
open PySem PySem.Spec PyProof.Rows
abbrev TO:=St->Hp->(Option Int->Hp->Prop)->Prop
def PO (X:Cx)(e:Option Expr)(t:TO):Prop:=
 ∀ (pins:List (Addr×Obj)) (s:Yj) (Z : St) (H:Hp) (Q:Option Int->Hp->Prop),Go X pins Z H s->t Z H Q ->
  Y7 (Zk X.prog X.w) X.A (evalPart e X.env) (fun u s'=>∃ o H',Go X pins Z H' s'/\IsPart u o/\Q o H') X.xe s
def abB:TO:=fun _ H Q=>Q FN H
def U6 (t:TE):TO:=fun Z H Q=>t Z H fun x H1=>∃ i,x=.int i/\Q (Dn i) H1
section
variable {X:Cx}{e:Expr}{te:TE}{lo hi:Option Expr}{tl th:TO}{pos p2:Pos}
theorem abz:PO X FN abB:=by
 intro pins s Z H Q I h;rw [evalPart_none];exact Yx ⟨FN,H,I,.none,h⟩
theorem abF (h:PE X e te):PO X (Dn e) (U6 te):=by
 intro pins s Z H Q I hw;rw [evalPart_some];refine X6 (h pins s Z H _ I hw) fun u s1 ⟨x,H1,I1,r1,q1⟩=>?_;obtain ⟨i,rfl,q⟩:=q1;obtain ⟨t,rfl⟩:=r1;exact ⟨Dn i,H1,I1,.int i t,q⟩
def Ez (X:Cx)(r:V->Option Int->Option Int->Hp->VK->Prop):Prop:=
 ∀ (pins:List (Addr×Obj)) (s:Yj) (Z : St) (H:Hp) (x:V) (v vl vu:Ye) (lo hi:Option Int) (sl:Addr) (Q:VK),Go X pins Z H s->RelV x v->s.heap.IsSliceOf sl vl vu .none->IsPart vl lo->IsPart vu hi->r x lo hi H Q ->
  ∃ T id,typeLookup (.type T) "__getitem__" = pure (Dn (.builtin id))/\s.TypeIs v T/\Y7 (Zk X.prog X.w) X.A (getItem v (.ref sl)) (EP X pins Z Q) X.xe s
theorem Ez.or {r r':V->Option Int->Option Int->Hp->VK->Prop}(h:Ez X r)(h':Ez X r'):Ez X (fun x lo hi H Q=>r x lo hi H Q\/r' x lo hi H Q):=by
 intro pins s Z H x v vl vu lo hi sl Q I rx hs pl pu q;rcases q with q | q
 ·exact h pins s Z H x v vl vu lo hi sl Q I rx hs pl pu q
 ·exact h' pins s Z H x v vl vu lo hi sl Q I rx hs pl pu q
def tSl (r:V->Option Int->Option Int->Hp->VK->Prop)(te:TE)(tl th:TO):TE:=fun Z H Q=>te Z H fun x H1=>tl Z H1 fun l H2=>th Z H2 fun u H3=>r x l u H3 Q
theorem xU {r:V->Option Int->Option Int->Hp->VK->Prop}(hr:Ez X r)(he:PE X e te)(hl:PO X lo tl)(hu:PO X hi th):PE X (.Subscript e (.Slice lo hi FN p2) pos) (tSl r te tl th):=by
 intro pins s Z H Q I h;refine Subscript_<|X6 (he pins s Z H _ I h) fun v s1 ⟨x,H1,I1,r1,q1⟩=>?_
 refine wpAny_Slice<|X6 (hl pins s1 Z H1 _ I1 q1) fun vl s2 ⟨l,H2,I2,pl,q2⟩=>X6 (hu pins s2 Z H2 _ I2 q2) fun vu s3 ⟨u,H3,I3,pu,q3⟩=>?_
 rw [evalPart_none];refine Yx ?_;have I4:Go X pins Z H3 { s3 with heap:=s3.heap.push { cls:=.type "slice",data:=.fields #[vl,vu,.none] } }:=I3.kept (t':=s3.toks) fun b ob q=>Yh _ q
 obtain ⟨T,id,hT,ht,hg⟩:=hr pins { s3 with heap:=s3.heap.push { cls:=.type "slice",data:=.fields #[vl,vu,.none] } } Z H3 x v vl vu l u s3.heap.objs.size Q I4 r1 (Heap.IsSliceOf.new ..) pl pu q3;show Y7 (Zk X.prog X.w) X.A (subscriptTail e (.Slice lo hi FN p2) v (.ref s3.heap.objs.size)) (EP X pins Z Q) X.xe { s3 with heap:=s3.heap.push { cls:=.type "slice",data:=.fields #[vl,vu,.none] } };exact tail_any (ops:=[.ref s3.heap.objs.size,v]) ht hT hg<|by with_unfolding_all rfl
def Dm (xs:List V)(lo hi:Option Int):List V:=(xs.drop (HT.sIx xs.length 0 lo)).take (HT.sIx xs.length xs.length hi - HT.sIx xs.length 0 lo)
theorem pF (xs:List V)(lo hi:Option Int):(Dm xs lo hi).length<=xs.length:=by
 unfold Dm;rw [Zo,J5];lia
def XJ (K:Yc):V->Option Int->Option Int->Hp->VK->Prop:=fun x lo hi H Q=>∃ a xs,x=.ref a/\Ac K H a xs /\
 ¬ (HT.sIx xs.length 0 lo=0/\HT.sIx xs.length xs.length hi=xs.length)/\∀ p,H p=FN->Q (.ref p) (X5 H p (.tup (Dm xs lo hi)))
theorem Nj:Ez X (XJ X.K):=by
 intro pins s Z H x v vl vu lo hi sl Q I rx hs pl pu h;obtain ⟨a,xs,rfl,hx,hw,q⟩:=h;cases rx;obtain ⟨its,r,ht,hz⟩:=I.tuple hx;have hlen:its.toArray.size=xs.length:=by rw [Yr];exact r.length.symm
 refine ⟨"tuple",_,Zy.lookup,ht.typeIs,?_⟩;refine HT.lO ht hs pl pu (by rw [hlen];exact hw) ?_ (by rw [hlen];exact hz);rw [hlen];refine ⟨.ref s.heap.objs.size,_,I.laid (t':=s.toks) (o:=.tup (Dm xs lo hi)) (fun b ob q=>Yh _ q) (Ym _) ?_,rfl,q _<|I.hok.fresh<|Ym _⟩;exact ⟨YS (pF xs lo hi) hz,_,(r.drop<|HT.sIx xs.length 0 lo).take (HT.sIx xs.length xs.length hi - HT.sIx xs.length 0 lo),Dy.new _ _⟩
def T8 (K:Yc):R2:=fun x y H Q=>∃ a b xs ys,x=.ref a/\y=.ref b/\Ac K H a xs/\Ac K H b ys/\xs≠[]/\xs.length+ys.length<=YQ /\
 (ys=[]->Q (.ref a) H)/\(ys≠[]->∀ p,H p=FN->Q (.ref p) (X5 H p (.tup (xs++ys))))
theorem VL.nil_iff {xs:List V}{us:List Ye}(r:VL xs us):us=[]↔xs=[]:=by
 cases r with
 | nil=>simp
 | cons _ _=>simp
theorem Lh:Ay X (Cq .Add) (T8 X.K):=by
 intro pins s Z H x y v u Q I rx ry h;obtain ⟨a,b,xs,ys,rfl,rfl,ha,hb,hx,hz,q1,q2⟩:=h;cases rx;cases ry;obtain ⟨its,r1,p1,_⟩:=I.tuple ha;obtain ⟨its2,r2,p2,_⟩:=I.tuple hb;refine HT.JV p1 p2 (fun z=>hx<|r1.nil_iff.mp z) (fun z=>⟨.ref a,H,I,rfl,q1<|r2.nil_iff.mp z⟩) (fun z=>?_) (by rw [<-r1.length,<-r2.length];exact hz);refine ⟨.ref s.heap.objs.size,_,I.laid (t':=s.toks) (o:=.tup (xs++ys)) (fun b ob q=>Yh _ q) (Ym _) ?_,rfl,q2 (fun w=>z<|r2.nil_iff.mpr w) _<|I.hok.fresh<|Ym _⟩;exact ⟨by rw [Yw];exact hz,_,r1.append r2,Dy.new _ _⟩
end
def Ea (n:Nat)(i:Int):Option Nat:=if 0<=i then (if i<n then Dn i.toNat else FN) else if -(n:Int)<=i then Dn (i+n).toNat else FN
def CK {α : Type}(xs:List α)(i:Int):Option α:=(Ea xs.length i).bind fun j=>xs[j]?
theorem zA {n:Nat}{i:Int}{j:Nat}(h:Ea n i=Dn j):seqIndex? i n=Dn j/\j<n/\-(n:Int)<=i/\i<n:=by
 unfold Ea at h;by_cases h0:0<=i
 ·rw [if_pos h0] at h;by_cases h1:i<n
  ·rw [if_pos h1] at h;have e:i.toNat=j:=Yp h;exact ⟨by rw [seqIndex_of h0 h1,e],by lia,by lia,h1⟩
  ·rw [if_neg h1] at h;cases h
 ·rw [if_neg h0] at h;by_cases h1:-(n:Int)<=i
  ·rw [if_pos h1] at h;have e:(i+n).toNat=j:=Yp h;exact ⟨by rw [seqIndex_neg (by lia) h1,e],by lia,h1,by lia⟩
  ·rw [if_neg h1] at h;cases h
theorem vd {α : Type}{xs:List α}{i:Int}{v:α}(h:CK xs i=Dn v):∃ j,seqIndex? i xs.length=Dn j/\xs[j]?=Dn v/\j<xs.length/\-(xs.length:Int)<=i/\i<xs.length:=by
 unfold CK at h;cases e:Ea xs.length i with
 | none=>rw [e] at h;cases h
 | some j=>
  rw [e] at h;obtain ⟨h1,h2,h3,h4⟩:=zA e;exact ⟨j,h1,h,h2,h3,h4⟩
theorem bF {α : Type}{xs:List α}{j:Nat}{v:α}(h:xs[j]?=Dn v):CK xs (j:Int)=Dn v:=by
 have hj:j<xs.length:=(Yn.mp h).1;have e:Ea xs.length (j:Int)=Dn j:=by
  unfold Ea;rw [if_pos (by lia),if_pos (by lia)];simp
 unfold CK;rw [e];exact h
theorem zbo {α : Type}(xs:List α)(v:α):CK (xs++[v]) (-1)=Dn v:=by
 have hl:(xs++[v]).length=xs.length+1:=by simp
 have e:Ea (xs++[v]).length (-1)=Dn xs.length:=by
  unfold Ea;rw [hl,if_neg (by decide),if_pos (by lia)];congr 1
  lia
 unfold CK;rw [e];show (xs++[v])[xs.length]?=Dn v;simp
def vL (b:Expr):Prop:=∀ o i,subscripted b false o i=operate [o,i] (getItem o i)
def Fz (X:Cx)(r:R2):Prop:=
 ∀ (value slice:Expr) (pins:List (Addr×Obj)) (s:Yj) (Z : St) (H:Hp) (x y:V) (v u:Ye) (Q:VK),Go X pins Z H s->RelV x v->RelV y u->r x y H Q ->
  subscripted slice false v u=operate [v,u] (getItem v u)->Y7 (Zk X.prog X.w) X.A (subscriptTail value slice v u) (EP X pins Z Q) X.xe s
def Dv (X:Cx)(id:String)(r:V->List V->Hp->VK->Prop):Prop:=
 ∀ (pins:List (Addr×Obj)) (s:Yj) (Z : St) (H:Hp) (x:V) (xs:List V) (v:Ye) (us:List Ye) (Q:VK),Go X pins Z H s->RelV x v->VL xs us->r x xs H Q ->
  Y7 (Zk X.prog X.w) X.A (call (.builtin id) (v::us)) (EP X pins Z Q) X.xe s
section
variable {X:Cx}{a b:Expr}{ta tb:TE}{pos:Pos}
theorem Fz.or {r r':R2}(h:Fz X r)(h':Fz X r'):Fz X (fun x y H Q=>r x y H Q\/r' x y H Q):=by
 intro value slice pins s Z H x y v u Q I rx ry q hs;rcases q with q | q
 ·exact h value slice pins s Z H x y v u Q I rx ry q hs
 ·exact h' value slice pins s Z H x y v u Q I rx ry q hs
theorem Dv.or {id:String}{r r':V->List V->Hp->VK->Prop}(h:Dv X id r)(h':Dv X id r'):Dv X id (fun x xs H Q=>r x xs H Q\/r' x xs H Q):=by
 intro pins s Z H x xs v us Q I rx rs q;rcases q with q | q
 ·exact h pins s Z H x xs v us Q I rx rs q
 ·exact h' pins s Z H x xs v us Q I rx rs q
theorem Og {r:R2}(hr:Fz X r)(ha:PE X a ta)(hb:PE X b tb)(hs:vL b):PE X (.Subscript a b pos) (tOp r ta tb):=by
 intro pins s Z H Q I h;exact Subscript_<|Vs ha hb I h fun v u s2 x y H2 I2 rx ry q=>hr a b pins s2 Z H2 x y v u Q I2 rx ry q<|hs _ _
def V1 (K:Yc):R2:=fun x y H Q=>∃ p xs i v,x=.ref p/\y=.int i/\XS K H p xs/\CK xs i=Dn v/\Q v H
def V8 (K:Yc):R2:=fun x y H Q=>∃ p xs i v,x=.ref p/\y=.int i/\Ac K H p xs/\CK xs i=Dn v/\Q v H
def Wm:R2:=fun x y H Q=>∃ z i c,x=.str z/\y=.int i/\z.length<=YQ/\CK z.cps.toList i=Dn c/\Q (.str ⟨#[c]⟩) H
theorem abC:Fz X (V1 X.K):=by
 intro value slice pins s Z H x y v u Q I rx ry h hs;obtain ⟨p,xs,i,z,rfl,rfl,hq,he,q⟩:=h;cases rx;obtain ⟨t,rfl⟩:=ry;obtain ⟨its,r,pl,hz⟩:=I.list hq;obtain ⟨j,h1,h2,h3,h4,h5⟩:=vd he;obtain ⟨w,ew,rw'⟩:=r.get h2;have hl:=r.length;have hn:=oF;have fin:EP X pins Z Q w s:=⟨z,H,I,rw',q⟩
 by_cases h0:0<=i
 ·have hj:i.toNat=j:=by
   rw [seqIndex_of h0 h5] at h1;exact Yp h1
  exact item_listR pl.isList h0 (by lia) (by rw [hj];simpa using ew) fin hs
 ·have hj:(i+(its.toArray.size:Int)).toNat=j:=by
   rw [seqIndex_neg (by lia) h4] at h1;rw [Yr,<-hl];exact Yp h1
  exact subscriptTail_builtinR (x:=w) pl.isList.typeIs slot_list_getitem.lookup
   (wpAny_getItem_list_neg (Q:=fun r s'=>r=w/\EP X pins Z Q r s') pl.isList (by lia) (by rw [Yr] <;> lia) (by lia) (by rw [hj];simpa using ew) ⟨rfl,fin⟩) hs
theorem O8:Fz X (V8 X.K):=by
 intro value slice pins s Z H x y v u Q I rx ry h hs;obtain ⟨p,xs,i,z,rfl,rfl,hq,he,q⟩:=h;cases rx;obtain ⟨t,rfl⟩:=ry;obtain ⟨its,r,pl,hz⟩:=I.tuple hq;obtain ⟨j,h1,h2,h3,h4,h5⟩:=vd he;obtain ⟨w,ew,rw'⟩:=r.get h2;have hl:=r.length;have hn:=oF;have fin:EP X pins Z Q w s:=⟨z,H,I,rw',q⟩
 exact subscriptTail_builtinR (x:=w) pl.typeIs slot_tuple_getitem.lookup
  (getItem_tuple (j:=j) (Q:=fun r s'=>r=w/\EP X pins Z Q r s') pl (by lia) (by lia) (by rw [Yr,<-hl];exact h1) (by simpa using ew) ⟨rfl,fin⟩) hs
theorem Qz:Fz X Wm:=by
 intro value slice pins s Z H x y v u Q I rx ry h hs;obtain ⟨z,i,c,rfl,rfl,hz,he,q⟩:=h;obtain ⟨t,rfl⟩:=rx;obtain ⟨t',rfl⟩:=ry;obtain ⟨j,h1,h2,h3,h4,h5⟩:=vd he;have hl:z.cps.toList.length=z.length:=by simp [Str.length]
 rw [hl] at h1 h4 h5;have hn:=oF;exact tail_any (Jc s z t) slot_str_getitem.lookup (getItem_str (c:=c) (by
  have e1:decide (i < -(2^63:Int))=false:=decide_eq_false (by lia);have e2:decide (i>=2^63)=false:=decide_eq_false (by lia);rw [e1,e2,Bool.or_false]) (by rw [h1];simpa using h2) ⟨.str ⟨#[c]⟩,H,I.tok _,⟨_,rfl⟩,q⟩) hs
def rIx (K:Yc):R2:=fun x y H Q=>V1 K x y H Q\/V8 K x y H Q\/Wm x y H Q
theorem HB:Fz X (rIx X.K):=abC.or (O8.or Qz)
theorem yV (its:List Ye)(n j:Nat)(u:Ye):Obj.mapSeq (·.setIfInBounds j u) { cls:=.type "list",data:=.seq its.toArray n } = { cls:=.type "list",data:=.seq (its.set j u).toArray n }:=by
 simp [Obj.mapSeq]
theorem Go.lst {pins:List (Addr×Obj)}{Z : St}{H:Hp}{s:Yj}{p:Addr}{xs:List V}(I:Go X pins Z H s)(h:H p=Dn (.lst xs)) :
  ∃ (its:List Ye) (n:Nat),VL xs its/\s.heap.get? p=Dn { cls:=.type "list",data:=.seq its.toArray n }/\xs.length<=YQ:=by
 obtain ⟨z,its,n,r,e⟩:=I.hok p _ h;exact ⟨its,n,r,e,z⟩
theorem Go.lstUpd {pins:List (Addr×Obj)}{Z : St}{H:Hp}{s:Yj}{p:Addr}{xs ys:List V}{its its':List Ye}{n n':Nat}{f:Obj->Obj}(I:Go X pins Z H s)(h:H p=Dn (.lst xs))
  (ho:s.heap.get? p=Dn { cls:=.type "list",data:=.seq its.toArray n }) (hf:f { cls:=.type "list",data:=.seq its.toArray n } = { cls:=.type "list",data:=.seq its'.toArray n' }) (r:VL ys its') (hz:ys.length<=YQ) (t:Nat) :
  Go X pins Z (X5 H p (.lst ys)) { s with heap:=s.heap.update p f,toks:=t }:=by
 have e:(s.heap.update p f).get? p=Dn { cls:=.type "list",data:=.seq its'.toArray n' }:=by
  rw [Heap.get?_update_self f ho (by rw [hf] <;> rfl),hf]
 refine I.write (x:=p) (e:=p) (by rw [h];trivial) (.inl rfl) (fun b u hb q=>(Heap.get?_update_other _ _<|Bk hb).trans q) ⟨_,e⟩ ?_;exact ⟨hz,its',n',r,e⟩
def Qa:V->V->V->Hp->(Hp->Prop)->Prop:=fun o i v H Q=>∃ p xs k j,o=.ref p/\i=.int k/\H p=Dn (.lst xs)/\Ea xs.length k=Dn j/\Q (X5 H p (.lst (xs.set j v)))
theorem set_list:Uh X Qa:=by
 intro pins s Z H o i v ov iv u Q I ro ri rv h;obtain ⟨p,xs,k,j,rfl,rfl,hp,hj,q⟩:=h;cases ro;obtain ⟨t,rfl⟩:=ri;obtain ⟨its,n,r,ho,hz⟩:=I.lst hp;obtain ⟨h1,h2,h3,h4⟩:=zA hj;have hl:=r.length;have hn:=oF;have I':Go X pins Z (X5 H p (.lst (xs.set j v))) { s with heap:=s.heap.update p (Obj.mapSeq (·.setIfInBounds j u)) }:=
  I.lstUpd hp ho (yV its n j u) (r.set rv j) (by rw [List.length_set];exact hz) s.toks
 by_cases h0:0<=k
 ·have hk:k.toNat=j:=by
   rw [seqIndex_of h0 h4] at h1;exact Yp h1
  exact PySem.W.ki_setAt ho h0 (by lia) (by rw [Yr,<-hl];exact h4) (by rw [hk];exact ⟨_,I',q⟩)
 ·have hk:(k+(its.toArray.size:Int)).toNat=j:=by
   rw [seqIndex_neg (by lia) h3] at h1;rw [Yr,<-hl];exact Yp h1
  exact PySem.W.ki_setBack ho (by lia) (by rw [Yr,<-hl];exact h3) (by lia) (by rw [hk];exact ⟨_,I',q⟩)
theorem uT (lo hi:Option Int)(n:Nat):(Jd lo hi FN n).1=((HT.sIx n 0 lo:Nat):Int)/\(Jd lo hi FN n).2.1=((HT.sIx n n hi:Nat):Int)/\(Jd lo hi FN n).2.2=1:=by
 refine ⟨?_,?_,rfl⟩
 ·cases lo with
  | none=>simp [Jd,HT.sIx]
  | some i=>
   simp only [Jd,HT.sIx,Option.getD_none,show (1:Int)>0 by decide,if_true];by_cases h:i<0
   ·simp only [h,if_true] <;> lia
   ·simp only [h,if_false] <;> lia
 ·cases hi with
  | none=>simp [Jd,HT.sIx]
  | some i=>
   simp only [Jd,HT.sIx,Option.getD_none,show (1:Int)>0 by decide,if_true];by_cases h:i<0
   ·simp only [h,if_true] <;> lia
   ·simp only [h,if_false] <;> lia
theorem qN (its:List Ye)(lo hi:Option Int):slicePick its.toArray lo hi FN=((its.drop (HT.sIx its.length 0 lo)).take (HT.sIx its.length its.length hi - HT.sIx its.length 0 lo)).toArray:=by
 obtain ⟨h1,h2,h3⟩:=uT lo hi its.toArray.size;unfold slicePick;rw [h1,h2,h3];simp only [sliceRange_one,pick_run,Yr] <;> rfl
def XC (K:Yc):V->Option Int->Option Int->Hp->VK->Prop:=fun x lo hi H Q=>∃ a xs,x=.ref a/\XS K H a xs/\∀ p,H p=FN->Q (.ref p) (X5 H p (.lst (Dm xs lo hi)))
theorem abA:Ez X (XC X.K):=by
 intro pins s Z H x v vl vu lo hi sl Q I rx hs pl pu h;obtain ⟨a,xs,rfl,hx,q⟩:=h;cases rx;obtain ⟨its,r,ht,hz⟩:=I.list hx;have hlen:=r.length;refine ⟨"list",_,slot_list_getitem.lookup,ht.isList.typeIs,?_⟩;refine wpAny_getItem_list_slice ht.isList hs pl pu .none (by simp) ?_ (by rw [Yr] <;> lia);rw [qN,<-hlen];refine ⟨.ref s.heap.objs.size,_,I.laid (t':=s.toks) (o:=.lst (Dm xs lo hi)) (fun b ob q=>Yh _ q) (Ym _) ?_,rfl,q _<|I.hok.fresh<|Ym _⟩;exact ⟨YS (pF xs lo hi) hz,_,0,(r.drop<|HT.sIx xs.length 0 lo).take (HT.sIx xs.length xs.length hi - HT.sIx xs.length 0 lo),YC _ rfl⟩
def lY:V->Bool
 | .non=>true
 | .bl _=>true
 | .int _=>true
 | .str _=>true
 | _=>false
def FW:V->V->Bool
 | .non,.non=>true
 | .bl a,.bl b=>a==b
 | .bl a,.int b=>(if a then 1 else 0)==b
 | .int a,.bl b=>a==(if b then 1 else 0)
 | .int a,.int b=>a==b
 | .str a,.str b=>a==b
 | _,_=>false
theorem HW {A:YW}{s:Yj}{y x:V}{u v:Ye}(ry:RelV y u)(rx:RelV x v)(fy:lY y=true)(fx:lY x=true):Zc A s u v (FW y x):=by
 cases y with
 | non=>
  cases ry;cases x with
  | non=>cases rx;exact SeqAt.EqAt.same _
  | bl b=>cases rx;exact SeqAt.EqAt.none_bool b
  | int b=>obtain ⟨t,rfl⟩:=rx;exact SeqAt.EqAt.none_int b t
  | str b=>obtain ⟨t,rfl⟩:=rx;exact SeqAt.EqAt.none_str b t
  | _=>exact absurd (show false=true from fx) Y6
 | bl a=>
  cases ry;cases x with
  | non=>cases rx;exact SeqAt.EqAt.bool_none a
  | bl b=>cases rx;exact SeqAt.EqAt.bool_bool a b
  | int b=>obtain ⟨t,rfl⟩:=rx;exact SeqAt.EqAt.bool_int a b t
  | str b=>obtain ⟨t,rfl⟩:=rx;exact SeqAt.EqAt.bool_str a b t
  | _=>exact absurd (show false=true from fx) Y6
 | int a=>
  obtain ⟨t',rfl⟩:=ry;cases x with
  | non=>cases rx;exact SeqAt.EqAt.int_none a t'
  | bl b=>cases rx;exact SeqAt.EqAt.int_bool a t' b
  | int b=>obtain ⟨t,rfl⟩:=rx;exact SeqAt.EqAt.int_int a t' b t
  | str b=>obtain ⟨t,rfl⟩:=rx;exact SeqAt.EqAt.int_str a t' b t
  | _=>exact absurd (show false=true from fx) Y6
 | str a=>
  obtain ⟨t',rfl⟩:=ry;cases x with
  | non=>cases rx;exact SeqAt.EqAt.str_none a t'
  | bl b=>cases rx;exact SeqAt.EqAt.str_bool a t' b
  | int b=>obtain ⟨t,rfl⟩:=rx;exact SeqAt.EqAt.str_int a t' b t
  | str b=>obtain ⟨t,rfl⟩:=rx;exact SeqAt.EqAt.str_str a t' b t
  | _=>exact absurd (show false=true from fx) Y6
 | _=>exact absurd (show false=true from fy) Y6
def Fo (x:V)(u:Ye):Bool:=match u with
 | .none=>FW .non x
 | .bool b=>FW (.bl b) x
 | .int i _=>FW (.int i) x
 | .str z _=>FW (.str z) x
 | _=>false
theorem GX {x y:V}{u:Ye}(r:RelV y u)(f:lY y=true):Fo x u=FW y x:=by
 cases y with
 | non=>cases r;rfl
 | bl b=>cases r;rfl
 | int i=>obtain ⟨t,rfl⟩:=r;rfl
 | str z=>obtain ⟨t,rfl⟩:=r;rfl
 | _=>exact absurd (show false=true from f) Y6
theorem vq {x:V}:∀ {xs:List V} {us:List Ye},VL xs us->xs.all lY=true->us.any (Fo x)=xs.any fun y=>FW y x
 | _,_,.nil,_=>rfl
 | y::xs,u::us,.cons r t,f=>by
  rw [IW,YM] at f;rw [Fv,Fv,GX r f.1,vq t f.2]
theorem qP {A:YW}{s:Yj}{x:V}{v:Ye}(rx:RelV x v)(fx:lY x=true):∀ {xs:List V} {us:List Ye},VL xs us->xs.all lY=true->∀ u∈us,Zc A s u v (Fo x u)
 | _,_,.nil,_=>fun u hu=>by cases hu
 | y::xs,u::us,.cons r t,f=>fun u' hu=>by
  rw [IW,YM] at f;rcases Yq.mp hu with rfl | hu
  ·rw [GX r f.1];exact HW r rx f.1 fx
  ·exact qP rx fx t f.2 u' hu
def inV (x:V)(xs:List V):Bool:=xs.any fun y=>FW y x
def rIn (K:Yc)(neg:Bool):R2:=fun x y H Q=>∃ p xs,y=.ref p/\(XS K H p xs\/Ac K H p xs)/\lY x=true/\xs.all lY=true/\Q (.bl (if neg then !inV x xs else inV x xs)) H
theorem zaQ:Ay X (Zv .In) (rIn X.K false):=by
 intro pins s Z H x y v u Q I rx ry h;obtain ⟨p,xs,rfl,hq,fx,fs,q⟩:=h;cases ry;rcases hq with hq | hq
 ·obtain ⟨its,r,pl,hz⟩:=I.list hq;refine SeqAt.in_listAt (Fo x) pl.isList (fun w hw=>qP rx fx r fs w<|by simpa using hw) ⟨.bl _,H,I,rfl,?_⟩;rw [show its.toArray.any (Fo x)=its.any (Fo x) by simp,vq r fs];exact q
 ·obtain ⟨its,r,pl,hz⟩:=I.tuple hq;refine SeqAt.in_tupleAt (Fo x) pl (fun w hw=>qP rx fx r fs w<|by simpa using hw) ⟨.bl _,H,I,rfl,?_⟩;rw [show its.toArray.any (Fo x)=its.any (Fo x) by simp,vq r fs];exact q
theorem tR:jh X (.builtin "len") (fun xs H Q=>∃ p ys,xs=[.ref p]/\(XS X.K H p ys\/Ac X.K H p ys)/\Q (.int ys.length) H):=by
 intro pins s Z H xs us Q I r h;obtain ⟨p,ys,rfl,hq,q⟩:=h;obtain ⟨u,rfl,rx⟩:=vals1 r;cases rx;have hn:=oF;rcases hq with hq | hq
 ·obtain ⟨its,r',pl,hz⟩:=I.list hq;have hlen:=r'.length;exact Calls.call_len_list pl.isList (by simp only [Yr] <;> lia) ⟨.int ys.length,H,I.tok _,⟨s.toks+1,by rw [Yr,hlen]⟩,q⟩
 ·obtain ⟨its,r',pl,hz⟩:=I.tuple hq;have hlen:=r'.length;exact len_tuple pl (by simp only [Yr] <;> lia) ⟨.int ys.length,H,I.tok _,⟨s.toks+1,by rw [Yr,hlen]⟩,q⟩
theorem jh.or {f:Ye}{r r':List V->Hp->VK->Prop}(h:jh X f r)(h':jh X f r'):jh X f (fun xs H Q=>r xs H Q\/r' xs H Q):=by
 intro pins s Z H xs us Q I rs q;rcases q with q | q
 ·exact h pins s Z H xs us Q I rs q
 ·exact h' pins s Z H xs us Q I rs q
theorem uU:jh X (.type "list") (fun xs H Q=>∃ p ys,xs=[.ref p]/\(XS X.K H p ys\/Ac X.K H p ys)/\∀ l,H l=FN->Q (.ref l) (X5 H l (.lst ys))):=by
 intro pins s Z H xs us Q I r h;obtain ⟨p,ys,rfl,hq,q⟩:=h;obtain ⟨u,rfl,rx⟩:=vals1 r;cases rx;have fin:∀ (its:List Ye),VL ys its->ys.length<=YQ->∀ (h':Heap) (c':Nat),(∀ b o',s.heap.get? b=Dn o'->h'.get? b=Dn o') ->
   h'.get? s.heap.objs.size=Dn { cls:=.type "list",dict:=FN,data:=.seq its.toArray c',slots:=#[] }->EP X pins Z Q (.ref s.heap.objs.size) { s with heap:=h' }:=fun its r' hz h' c' kp e=>
  ⟨.ref s.heap.objs.size,_,I.laid (t':=s.toks) kp (Ym _) (show gD X.prog X.w _ h' _ (.lst ys) from ⟨hz,its,c',r',e⟩),rfl,q _ (I.hok.fresh (Ym _))⟩
 rcases hq with hq | hq
 ·obtain ⟨its,r',pl,hz⟩:=I.list hq;have hlen:=r'.length;obtain ⟨o,ho,hc,n,hd⟩:=pl.isList;exact call_list_seq p (.inl rfl) ho hc hd (fun h' c' kp e=>fin its r' hz h' c' kp e) (by simp only [Yr] <;> lia)
 ·obtain ⟨its,r',pl,hz⟩:=I.tuple hq;have hlen:=r'.length;obtain ⟨o,ho,hc,n,hd⟩:=pl;exact call_list_seq p (.inr rfl) ho hc hd (fun h' c' kp e=>fin its r' hz h' c' kp e) (by simp only [Yr] <;> lia)
theorem rN:jh X (.type "tuple") (fun xs H Q=>∃ p ys,xs=[.ref p]/\((XS X.K H p ys/\∀ l,H l=FN->Q (.ref l) (X5 H l (.tup ys)))\/(Ac X.K H p ys/\Q (.ref p) H))):=by
 intro pins s Z H xs us Q I r h;obtain ⟨p,ys,rfl,h⟩:=h;obtain ⟨u,rfl,rx⟩:=vals1 r;cases rx;rcases h with ⟨hq,q⟩ | ⟨hq,q⟩
 ·obtain ⟨its,r',pl,hz⟩:=I.list hq;have hlen:=r'.length;refine call_tuple_list pl.isList (fun h' kp=>?_) (by simp only [Yr] <;> lia);have I1:Go X pins Z H { s with heap:=h' }:=I.kept (t':=s.toks) kp;have I2:Go X pins Z (X5 H h'.objs.size (.tup ys)) { s with heap:=h'.push { cls:=.type "tuple",data:=.seq its.toArray } }:=
   I1.laid (t':=s.toks) (fun b o e=>Yh _ e) (Ym _) (show gD X.prog X.w _ _ _ (.tup ys) from ⟨hz,its,r',Dy.new _ _⟩)
  exact ⟨.ref h'.objs.size,_,I2,rfl,q _<|I1.hok.fresh<|Ym _⟩
 ·obtain ⟨its,r',pl,hz⟩:=I.tuple hq;exact call_tuple_same pl ⟨.ref p,H,I,rfl,q⟩
def tyV (K:Yc)(T:String)(x:V)(H:Hp):Prop:=match x with
 | .str _=>T = "str"
 | .int _=>T = "int"
 | .ref p=>(T = "list"/\∃ xs,XS K H p xs)\/(T = "tuple"/\∃ o,K.lookup p=Dn o/\o.cls=.type "tuple"/\o.dict=FN) \/
   (T = "dict"/\((∃ kvs,H p=Dn (.dK kvs))\/∃ kvs,H p=Dn (.dT kvs)))\/(T = "set"/\∃ S n,H p=Dn (.set S n))
 | _=>False
theorem Hh {pins:List (Addr×Obj)}{Z : St}{H:Hp}{s:Yj}{T:String}{x:V}{v:Ye}(I:Go X pins Z H s)(r:RelV x v)(ty:tyV X.K T x H) :
  s.TypeIs v T/\∀ a,v=.ref a->∃ ob,s.heap.get? a=Dn ob/\ob.dict=FN:=by
 cases x with
 | str z=>
  obtain ⟨t,rfl⟩:=r;cases (show T = "str" from ty)
  exact ⟨Jc s z t,fun _ e=>nomatch e⟩
 | int i=>
  obtain ⟨t,rfl⟩:=r;cases (show T = "int" from ty)
  exact ⟨typeIs_int s i t,fun _ e=>nomatch e⟩
 | ref p=>
  cases r;rcases ty with ⟨rfl,xs,hq⟩ | ⟨rfl,o,hk,hc,hd⟩ | ⟨rfl,hk⟩ | ⟨rfl,S,n,hk⟩
  ·obtain ⟨its,_,pl,_⟩:=I.list hq;refine ⟨pl.isList.typeIs,fun a e=>?_⟩;cases e;obtain ⟨o,n,e,c,hd,_⟩:=pl;exact ⟨o,e,hd⟩
  ·refine ⟨⟨o,I.kIn p o hk,hc⟩,fun a e=>?_⟩;cases e;exact ⟨o,I.kIn _ o hk,hd⟩
  ·have z:∃ o,s.heap.get? p=Dn o/\o.ExactDict:=by
    rcases hk with ⟨kvs,hk⟩ | ⟨kvs,hk⟩
    ·obtain ⟨_,_,_,_,o,_,_,e,ex,_⟩:=I.hok p _ hk;exact ⟨o,e,ex⟩
    ·obtain ⟨_,_,_,_,o,_,_,e,ex,_⟩:=I.hok p _ hk;exact ⟨o,e,ex⟩
   obtain ⟨o,e,ex⟩:=z;refine ⟨⟨o,e,ex.1⟩,fun a e2=>?_⟩;cases e2;exact ⟨o,e,ex.2.1⟩
  ·obtain ⟨o,_,_,_,e,ex,_⟩:=I.hok p _ hk;refine ⟨⟨o,e,ex.1⟩,fun a e2=>?_⟩;cases e2;exact ⟨o,e,ex.2.1⟩
 | _=>exact Fb ty
def Xi (K:Yc)(T:String)(r:V->List V->Hp->VK->Prop)(to:TE):TE:=fun Z H Q=>to Z H fun x H1=>tyV K T x H1/\r x [] H1 Q
def tBM (K:Yc)(T:String)(r:V->List V->Hp->VK->Prop)(to:TE)(t:TA):TE:=fun Z H Q=>to Z H fun x H1=>tyV K T x H1/\t Z H1 fun xs H2=>r x xs H2 Q
variable {o e:Expr}{es:List Expr}{to:TE}{t:TA}{name:Str}{apos cpos:Pos}{T id:String}{r:V->List V->Hp->VK->Prop}
theorem QF (pa:PlainAttrs T)(slot:Slot T name id)(hty:typeOf (.builtin id)=pure (.type "method_descriptor"))(hm:Dv X id r)(ho:PE X o to)
  (hbase:JB o name X.env (eval o X.env)=eval o X.env:=by rfl) (hline:(apos.endLine==cpos.line)=true:=by rfl):PE X (.Call (.Attribute o name apos) [] [] cpos) (Xi X.K T r to):=by
 intro pins s Z H Q I h;refine wpAny_Call_method0_late hbase hline<|X6 (ho pins s Z H _ I h) fun v s1 ⟨x,H1,I1,r1,ty,q1⟩=>?_
 obtain ⟨h1,h2⟩:=Hh I1 r1 ty;exact ⟨T,id,pa,slot,hty,h1,h2,Ky rfl<|PySem.evalArgs_none<|hm pins s1 Z H1 x [] v [] Q I1 r1 .nil q1⟩
theorem Qx (pa:PlainAttrs T)(slot:Slot T name id)(hty:typeOf (.builtin id)=pure (.type "method_descriptor"))(hm:Dv X id r)(ho:PE X o to)(ha:PA X (e::es) t)
  (hbase:JB o name X.env (eval o X.env)=eval o X.env:=by rfl)
  (hfew:((Am cpos (YG (e::es) X.env)).all (fun x=>!x.1)&&(backToKw cpos (JF [] X.env)).all (fun x=>x.1.isSome)
   && decide ((e::es).length+([]:List Dq).length+(if ([]:List Dq).isEmpty then 0 else 1)<30))=true:=by rfl)
  (hline:(apos.endLine==cpos.line)=true:=by rfl) (hs:YG (e::es) X.env=(false,eval e X.env)::YG es X.env:=by rfl) (hplain:(Am cpos (YG es X.env)).any (·.1)=false:=by rfl) :
  PE X (.Call (.Attribute o name apos) (e::es) [] cpos) (tBM X.K T r to t):=by
 intro pins s Z H Q I h;refine wpAny_Call_method_late hbase hfew hline rfl<|X6 (ho pins s Z H _ I h) fun v s1 ⟨x,H1,I1,r1,ty,q1⟩=>?_
 obtain ⟨h1,h2⟩:=Hh I1 r1 ty;refine ⟨T,id,pa,slot,hty,h1,h2,?_⟩;have hA:=ha cpos pins s1 Z H1 _ I1 q1;rw [hs] at hA |-
 refine Ky (by show (false||(Am cpos<|YG es X.env).any (·.1))=false;rw [hplain] <;> rfl)<|Calls.evalArgs_plain ?_
 exact X6 hA fun us s2 ⟨vs,H2,I2,r2,q2⟩=>hm pins s2 Z H2 x vs v us Q I2 r1 r2 q2
/- xs.append(e), list.index on a module's tuple .. are Dv facts of 06m -/
end
def MtM (X:Cx)(id:String)(r:V->List V->Hp->VK->Prop):Prop:=
 ∀ (pins:List (Addr×Obj)) (s:Yj) (Z : St) (H:Hp) (x:V) (xs:List V) (v:Ye) (us:List Ye) (Q:VK),Go X pins Z H s->RelV x v->VL xs us->r x xs H Q ->
  Y7 (Zk X.prog X.w) X.A (call (.builtin id) (v::us)) (EP X pins Z Q) X.xe s
theorem VL.one:∀ {x:V} {us:List Ye},VL [x] us->∃ u,us=[u]/\RelV x u
 | _,_,.cons r .nil=>⟨_,rfl,r⟩
theorem VL.zero:∀ {us:List Ye},VL [] us->us=[]
 | _,.nil=>rfl
section
variable {X:Cx}{pins:List (Addr×Obj)}{Z : St}{H:Hp}{s:Yj}{l b:Addr}{xs ys zs:List V}
theorem Go.lset {its its':List Ye}{n:Nat}{f:Array Ye->Array Ye}{t':Nat}(I:Go X pins Z H s)(hH:H l=Dn (.lst xs))
  (e:s.heap.get? l=Dn { cls:=.type "list",data:=.seq its.toArray n }) (hf:f its.toArray=its'.toArray) (hv:VL ys its') (hz:ys.length<=YQ) :
  Go X pins Z (X5 H l (.lst ys)) { s with heap:=s.heap.update l (Obj.mapSeq f),toks:=t' }:=by
 have q:=PySem.IsL.update e f;rw [hf] at q;refine I.write (x:=l) (e:=l) (by rw [hH];exact trivial) (.inl rfl) (fun b' u hb hu=>(Heap.get?_update_other s.heap (Obj.mapSeq f)<|Bk hb).trans hu) ⟨_,q⟩ ?_;exact ⟨hz,its',_,hv,q⟩
theorem Go.lnew {its:List Ye}{t':Nat}(I:Go X pins Z H s)(hv:VL ys its)(hz:ys.length<=YQ) :
  Go X pins Z (X5 H s.heap.objs.size (.lst ys)) { s with heap:=s.heap.push { cls:=.type "list",data:=.seq its.toArray },toks:=t' }:=
 I.laid (fun _ _ q=>Yh _ q) (Ym _) ⟨hz,its,0,hv,YC _ rfl⟩
theorem Go.fresh (I:Go X pins Z H s):H s.heap.objs.size=FN:=I.hok.fresh (Ym _)
theorem Go.lstM (I:Go X pins Z H s)(hH:H l=Dn (.lst xs)):xs.length<=YQ/\∃ (its:List Ye) (n:Nat),VL xs its/\xs.length=its.length/\s.heap.get? l=Dn { cls:=.type "list",data:=.seq its.toArray n }:=by
 obtain ⟨z,its,n,r,e⟩:=I.hok l _ hH;exact ⟨z,its,n,r,r.length,e⟩
end
section
variable {X:Cx}
def Bm:V->List V->Hp->VK->Prop:=fun x vs H Q=>∃ l xs y,x=.ref l/\vs=[y]/\H l=Dn (.lst xs)/\xs.length<YQ/\Q .non (X5 H l (.lst (xs++[y])))
theorem uq:MtM X "list.append" Bm:=by
 intro pins s Z H x vs v us Q I rx rv h;obtain ⟨l,xs,y,rfl,rfl,hH,hz,q⟩:=h;cases rx;obtain ⟨u,rfl,ru⟩:=rv.one;obtain ⟨z,its,n,r,hl,e⟩:=I.lstM hH;refine JX F.slot_list_append ⟨_,e,rfl⟩ F.entry_list_append (F.args_list_append_2 _ _) (PySem.list_append l its.toArray n u (by rw [Yr];lia)) ⟨e,?_⟩;refine ⟨.non,_,I.lset (its':=its++[u]) hH e (by simp) (r.append<|.cons ru .nil) ?_,rfl,q⟩;rw [Yw,List.length_singleton];lia
def G9:V->List V->Hp->VK->Prop:=fun x vs H Q=>∃ l xs,x=.ref l/\vs=[]/\H l=Dn (.lst xs)/\Q .non (X5 H l (.lst []))
theorem aaw:MtM X "list.clear" G9:=by
 intro pins s Z H x vs v us Q I rx rv h;obtain ⟨l,xs,rfl,rfl,hH,q⟩:=h;cases rx;have hus:=rv.zero;subst hus;obtain ⟨z,its,n,r,hl,e⟩:=I.lstM hH;refine JX F.slot_list_clear ⟨_,e,rfl⟩ F.entry_list_clear (F.args_list_clear_1 _) (AutoSeq1.list_clear_list_0 l its.toArray n (by rw [Yr];lia)) ⟨e,?_⟩;exact ⟨.non,_,I.lset (its':=[]) (ys:=[]) hH e rfl .nil<|J8 _,rfl,q⟩
def Xv:R2:=fun x y H Q=>∃ l b xs zs,x=.ref l/\y=.ref b/\H l=Dn (.lst xs)/\H b=Dn (.lst zs)/\xs.length+zs.length<=YQ/\∀ p,H p=FN->Q (.ref p) (X5 H p (.lst (xs++zs)))
theorem Hu:Ay X (Cq .Add) Xv:=by
 intro pins s Z H x y v u Q I rx ry h;obtain ⟨l,b,xs,zs,rfl,rfl,hH,hB,hz,q⟩:=h;cases rx;cases ry;obtain ⟨z,its,n,r,hl,e⟩:=I.lstM hH;obtain ⟨z2,its2,n2,r2,hl2,e2⟩:=I.lstM hB;refine PySem.P.add_list e e2 ?_ (by rw [Yr,Yr];lia);have ea:its.toArray++its2.toArray=(its++its2).toArray:=by simp
 rw [ea];exact ⟨.ref _,_,I.lnew (t':=s.toks) (r.append r2) (by rw [Yw];lia),rfl,q _ I.fresh⟩
end
section
variable {prog:YF}{w:Zb}{A:YW}{E:Ye->Yj->Prop}{s:Yj}
end
section
variable {X:Cx}
end
end L2
namespace Att
open PySem PySem.W PySem.Calls PyProof.Rows
theorem nP {P:Params}{h:Heap}:∀ (ns:List Int) (vs:List Ye),WellAll P h vs (ns.map WData.int)->IntsAre vs ns:=by
 intro ns;induction ns with
 | nil=>
  intro vs w;rw [List.map_nil] at w;cases w;exact .nil
 | cons n ns ih=>
  intro vs w;rw [ZM] at w;cases w with
  | cons a b=>
   cases a;exact .cons _ _<|ih _ b
theorem zaP {l:OpenLaw}{n:Nat}(hn:l.most=Dn n){P:Params}{h:Heap}{args:List WData}{vals:List Ye}
  (hpre:l.row.toRowW.claim.pre args=true) (hwl:WellAll P h vals args) :
  ∃ a vs ns,vals=[Value.ref a]/\args=[WData.list (ns.map WData.int)]/\h.get? a=Dn { cls:=.type "list",data:=.seq vs.toArray }/\IntsAre vs ns/\ns.length<=n:=by
 have hsh:WShape.hasAll [] args [.list .int]=true:=(pre_splitW hpre).1;have hc:l.pre.holds [] { args:=args }=true:=(pre_splitW hpre).2;obtain ⟨d,r,rfl,h1,h2⟩:=hasAllW_cons hsh;obtain rfl:=hasAllW_nil h2;obtain ⟨xs,rfl,h3⟩:=hasW_list h1;obtain ⟨ns,rfl⟩:=items_int h3;have hlen:ns.length<=n:=by
  unfold OpenLaw.pre at hc;have h4:(WTm.not (.lt (.lit (.int (n:Int))) (.len (.arg 0)))).holds [] { args:=[.list (ns.map .int)] }=true:=by
   have h4:=(holds_andW hc).1;rw [hn] at h4;exact h4
  have h5:=condW_of h4 (w_not (w_lt w_lit (w_len_list (w_arg rfl))));rw [Yd] at h5;refine Nat.le_of_not_lt fun q=>?_;have q':(n:Int)<((ns.length:Nat):Int):=by lia
  first
   | (rw [decide_eq_true q'] at h5;exact absurd h5 (by decide))
   | (simp at h5;lia)
 cases hwl with
 | cons w1 w2=>
  cases w2;cases w1 with
  | list ho hall=>exact ⟨_,_,ns,rfl,rfl,ho,nP ns _ hall,hlen⟩
theorem zF (l:OpenLaw)(args:List WData):l.row.toRowW.claim.post args (.bool true) args=true:=
 postW_of (r:=l.row.toRowW) (X:=(true==true))
  (show WShape.has [] (.bool true) .bool=true by first | rfl | decide | simp [WShape.has,WShape.arms,WShape.armsAll])
  (show (WTm.eq .res (.lit (.bool true))).value [] { args:=args,res:=Dn (.bool true),after:=args }=Dn (.bool (true==true)) from w_eq_bool (w_res rfl) w_lit) rfl
theorem vR {l:OpenLaw}{n:Nat}{q:YF}{loose:List Str}{XP:(Str->Option Ye)->Heap->Prop}{YP:Zb->Heap->Prop}{d:DefRec}
  (hn:l.most=Dn n) (hdf:d.params.defaults=[])
  (call:∀ (w:Zb) (s₀ s₁ : Yj) (mg mb:Str->Option Ye) (fa:Addr) (o:Obj) (pm cd doc:Ye) (a:Addr) (vs:List Ye) (ns:List Int),
   Ground q loose [] XP w s₀ mg mb s₁.heap->YP w s₁.heap ->
   s₁.heap.get? fa=Dn o->o.data=.func (docDef d.name d.params d.body d.scope pm cd doc)->s₁.heap.CodeRec cd d.name->mg d.name=Dn (.ref fa) ->
   s₁.heap.get? a=Dn { cls:=.type "list",data:=.seq vs.toArray }->IntsAre vs ns->ns.length<=n->s₁.gens = #[] ->
   codeAny (Zk l.prog w) callerA (.call (.ref fa) ⟨[.ref a],[]⟩) (fun r s'=>r=.ok (.ret (.bool true))/\OldK s₁.heap s'.heap/\s'.os=s₁.os/\Ft s'.gens) s₁) :
  WalkO q loose XP YP l.row.toRowW d [] (fun f vs=>PySem.call f vs):=by
 intro w s₀ s₁ mg mb G Y fa o pm cd doc dV kV ho hd hcd hD hmg hg args vals as hpre hlay hrd hwl hlo;obtain rfl:dV=.none:=Dflts.none hD hdf;obtain rfl:kV=.none:=Dflts.noKw hD;obtain ⟨a,vs,ns,rfl,rfl,hobj,hints,hlen⟩:=zaP hn hpre hwl;refine enter_call<|codeAny_mono (call w s₀ s₁ mg mb fa o pm cd doc a vs ns G Y ho (fd_plain hd) hcd hmg hobj hints hlen hg) fun r s' hq=>?_
 obtain ⟨rfl,h2,h3,h4⟩:=hq;exact ⟨.inl ⟨.bool true,.bool true,[],rfl,fun _=>rfl,.bool true,zF l _,fun _=>⟨List.Pairwise.nil,fun _ hm=>(nomatch hm)⟩⟩,h2,h3,h4⟩
section
variable {prog:YF}{w:Zb}{A:YW}{E:Ye->Yj->Prop}{s:Yj}{K:Frag}
def ledger (h:Heap)(L d:Addr):List (Addr×Obj):=(ZX h.objs.size).filterMap fun a=>if a=L\/a=d then FN else (h.get? a).map fun o=>(a,o)
end
end Att
namespace L2
open PySem PySem.Spec PyProof.Rows
theorem uR:∀ {vs:List Ye} {ns:List Int},IntsAre vs ns->VL (ns.map V.int) vs
 | _,_,.nil=>.nil
 | _,_,.cons n t h=>.cons ⟨t,rfl⟩ (uR h)
def Only (H:Hp):Prop:=∀ b,H b=FN\/∃ o xs,H b=Dn (.frz o (.lst xs))
theorem zaW {P:YF}{w:Zb}{K:Yc}{mg mb:Str->Option Ye}{CX:Ek}{k:Nat}{fa a:Addr}{fd:Y8}{x:Str}{sp:Sp}{s₁ : Yj}{vs:List Ye}{ns:List Int}
  (KX:K.In s₁.heap) (hns:s₁.heap.Ns Ys mg) (hb:s₁.heap.Ns builtinsNs mb) (hbb:∀ x:Str,x ≠ "__name__"->mb x=J9 x) (hlim:s₁.heap.NoLimit) (hg:s₁.gens = #[])
  (ha:s₁.heap.get? a=Dn { cls:=.type "list",data:=.seq vs.toArray }) (hi:IntsAre vs ns) (hl:ns.length<=YQ) (hr:mz k callerA)
  (F:∀ base:Heap,K.In base->base.Ns Ys mg->eO P w K mg base CX k fa fd [x] sp) (hbind:∀ (s:Yj) (u:Ye),BindsTo s fd ⟨[u],[]⟩ [(x,u)])
  (hsp:∀ H:Hp,Only H->XS K H a (ns.map V.int)->sp [.ref a] H (fun v _=>v=.bl true) fun _ _ _=>False)
  (hCX:∀ H e s',CX [] H s₁ (fun _ _ _=>False) e s'->False) :
  codeAny (Zk P w) callerA (.call (.ref fa) ⟨[.ref a],[]⟩) (fun r s'=>r=.ok (.ret (.bool true))/\OldK s₁.heap s'.heap/\s'.os=s₁.os/\Ft s'.gens) s₁:=by
 have rv:=uR hi;have lenV:=hi.length
 -- from an abstract heap in which nothing but the script may be tracked
 have core:∀ H:Hp,Only H->XS K H a (ns.map V.int)->BJ P w H s₁.heap->(∀ b,H b≠FN->b=a)->(H a≠FN->K.lookup a=FN) ->
   codeAny (Zk P w) callerA (.call (.ref fa) ⟨[.ref a],[]⟩) (fun r s'=>r=.ok (.ret (.bool true))/\OldK s₁.heap s'.heap/\s'.os=s₁.os/\Ft s'.gens) s₁:=by
  intro H hO hS hok hA hK;have base_of:∀ {b:Addr} {o:Obj},s₁.heap.get? b=Dn o->H b=FN->(Gg s₁.heap H).get? b=Dn o:=fun e n=>zaY e n
  have noA:∀ {b:Addr} {o:Obj} {es:Array DictEntry} {ep:Nat},s₁.heap.get? b=Dn o->o.data=.dict es ep->H b=FN:=fun {b o es ep} e d=>by
   cases q:H b with
   | none=>rfl
   | some u=>
    have e':b=a:=hA b (by rw [q];simp);subst e';rw [ha] at e;cases e;have d':Data.seq vs.toArray _=Data.dict es ep:=d;cases d'
  have nsK:∀ {b:Addr} {m:Str->Option Ye},s₁.heap.Ns b m->(Gg s₁.heap H).Ns b m:=fun {b m} ⟨o,es,ep,e,d,r⟩=>⟨o,es,ep,base_of e (noA e d),d,r⟩
  have hKb:K.In (Gg s₁.heap H):=fun b o e=>base_of (KX b o e) (by
   cases q:H b with
   | none=>rfl
   | some u=>
    have e':b=a:=hA b (by rw [q];simp);subst e';rw [hK (by rw [q];simp)] at e;cases e)
  have hM:Mod K mg (Gg s₁.heap H):=⟨hKb,nsK hns,⟨mb,nsK hb,hbb⟩,let ⟨mc,h1,h2⟩:=hlim;⟨mc,nsK h1,h2⟩⟩
  have e0:R6 P w K mg (Gg s₁.heap H) callerA [] s₁ H:=⟨rfl,hM,fun b o e=>Ls e,Nat.le_of_eq (zaN _ _),trivial,fun b hb=>absurd (show b∈([]:List Addr) from hb) (by simp),hok,.of_eq hg,fun v e=>(nomatch e)⟩
  refine codeAny_mono ((F _ hKb<|nsK hns).run callerA [] s₁ H ⟨[.ref a],[]⟩ [.ref a] [.ref a] _ _ hr e0 (hbind s₁<|.ref a) (.cons rfl .nil) (hsp H hO hS)) fun r s' h=>?_;cases r with
  | error e=>exact (hCX H e s' h).elim
  | ok fl=>
   cases fl with
   | next=>exact Fb h
   | brk=>exact Fb h
   | cont=>exact Fb h
   | ret u=>
    obtain ⟨v,H',os,bare,un,hok',r',q⟩:=h;have q':v=.bl true:=q;subst q';obtain rfl:u=Value.bool true:=r';refine ⟨rfl,OldK.of_keep fun b o e=>?_,os,bare⟩;cases q:H b with
    | none=>exact un.keep b o e q (by intro z;exact absurd (show b∈([]:List Addr) from z) (by simp)) (by simp)
    | some u=>
     rcases hO b with z | ⟨ob,xs,z⟩
     ·rw [q] at z;cases z
     ·have z2:=un.frzs b ob _ z;obtain ⟨e1,_⟩:=hok b _ z;obtain ⟨e2,_⟩:=hok' b _ z2;rw [e] at e1;cases e1;exact e2
 cases hk:K.lookup a with
 | some o=>
  -- the script is one of the module's own objects
  have e:=KX a o hk;rw [ha] at e;cases e;refine core (fun _=>FN) (fun _=>.inl rfl) (.inr ⟨_,vs.toArray,_,hk,rfl,rfl,rfl,by rw [Yr,lenV];exact hl,by simpa using rv⟩) (fun b u z=>by have z':(FN:Option HO)=Dn u:=z;cases z') (fun b z=>absurd rfl z) fun z=>absurd rfl z
 | none=>
  refine core (fun b=>if b=a then Dn (.frz { cls:=.type "list",data:=.seq vs.toArray } (.lst<|ns.map V.int)) else FN) (fun b=>?_) (.inl<|.inr ⟨{ cls:=.type "list",data:=.seq vs.toArray },if_pos rfl⟩) (fun b u z=>?_) (fun b z=>?_) fun _=>hk
  ·by_cases hb:b=a
   ·exact .inr ⟨_,_,if_pos hb⟩
   ·exact .inl<|if_neg hb
  ·by_cases hb:b=a
   ·have z':=(if_pos hb).symm.trans z;cases z'
    subst hb;exact ⟨ha,by rw [Yd];exact hl,vs,_,rv,ha⟩
   ·have z':=(if_neg hb).symm.trans z;cases z'
  ·by_cases hb:b=a
   ·exact hb
   ·exact absurd (if_neg hb) z
theorem z7 {l:PySem.W.OpenLaw}{n k:Nat}{q:YF}{loose:List Str}{XP:(Str->Option Ye)->Heap->Prop}{YP:Zb->Heap->Prop}{d:DefRec}{K:Params->Yc}{CX:Zb->Ek}{sp:Zb->Sp}{x:Str}
  (hn:l.most=Dn n) (hn2:n<=YQ) (hdf:d.params.defaults=[]) (hr:mz k callerA)
  (hY:∀ (w:Zb) (h:Heap),YP w h->(K w.params).In h)
  (F:∀ (w:Zb) (mg:Str->Option Ye) (fa:Addr) (h:Heap),(K w.params).In h->h.Ns Ys mg->mg d.name=Dn (.ref fa) ->
   ∃ fd:Y8,(∀ (s:Yj) (u:Ye),BindsTo s fd ⟨[u],[]⟩ [(x,u)]) /\
    ∀ base:Heap,(K w.params).In base->base.Ns Ys mg->eO l.prog w (K w.params) mg base (CX w) k fa fd [x] (sp w))
  (hsp:∀ (w:Zb) (H:Hp) (a:Addr) (ns:List Int),ns.length<=n->Only H->XS (K w.params) H a (ns.map V.int)->sp w [.ref a] H (fun v _=>v=.bl true) fun _ _ _=>False)
  (hCX:∀ (w:Zb) (H:Hp) (s:Yj) (e:Ye) (s':Yj),CX w [] H s (fun _ _ _=>False) e s'->False) :
  PySem.W.WalkO q loose XP YP l.row.toRowW d [] (fun f vs=>PySem.call f vs):=by
 refine Att.vR hn hdf fun w s₀ s₁ mg mb fa o pm cd doc a vs ns G Y ho hd hcd hmg hobj hints hlen hg=>?_;have KX:=hY w _ Y;obtain ⟨fd,hb,hF⟩:=F w mg fa _ KX G.T.g hmg;exact zaW KX G.T.g G.T.b G.T.builtins G.T.nolimit hg hobj hints (YS hlen hn2) hr hF hb (fun H hO hS=>hsp w H a ns hlen hO hS) fun H e s'=>hCX w H s₁ e s'
end L2
/- THE LAST THEOREM (shape; LID, My.* are yours):
   My.Adr: a structure of the addresses that your layer names (classes,functions);My.Txt K t: a structure (Prop) of the equations over K;
   My.txt_mk:{K} {implicit addresses ..} (e1:nsIn K Ys "law" = Dn (Dn (.ref f))) (e2:K.lookup f=Dn ⟨oc,od,.func (fnOf "law" "law" params body scope dV kV doc pm an cdv ct),sl⟩) (e3:codeIn K cdv "law" = true) .. : ∃ t,My.Txt K t
theorem PySem.Challenge.cw_LID_holds : PySem.Challenge.rw_LID.Holds := by
 w_on;o_law;k_head;(case hw=>w_witness2)
 k_fill
 refine L2.z7 (l:=PySem.Challenge.rw_LID) (n:=63) (k:=40) (x := "script") (CX:=fun w=>..) (sp:=fun _=>My.sp_law) rfl (by decide) rfl ⟨rfl,by decide,by decide⟩ (fun w h Y=>PySem.W.kIn_of Y) ?F ?S ?C
 case F=>
  intro w mg fa h KX G hmg;have T:∃ t,My.Txt (L2.KOf KX) t:=by
   dsimp only [L2.KOf]                          -- K must stand as «<heap const> w.params» for k_is;refine' My.txt_mk ?e1 ?e2 ?e3 ..
   (case e1=>PySem.W.k_is)                    -- in the order: a name -> its address -> its object -> its parts
   (case e2=>PySem.W.k_is)
   ..
  obtain ⟨t,T⟩:=T;have e0:=hmg.symm.trans (YJ KX G T.law);cases e0                                       -- fa is the law's own address
  exact ⟨_,fun s u=>.of_eq rfl,fun base kb nb=>My.law_fn T kb nb⟩     -- if «.of_eq rfl» comes too early: refine' ⟨_,?b,fun base kb nb=>My.law_fn T kb nb⟩;exact fun s u=>.of_eq rfl
 case S=>exact fun w H a ns hl hO hS=>..
 case C=>exact ..
(the tactic k_is has no namespace: write k_is) -/
namespace L2
open PySem PySem.Spec PyProof.Rows
def nR (s:Stmt):Arguments:=match s with
 | .FunctionDef _ a _ _ _ _ _ _ _ _=>a
 | _=>{ posonlyargs:=[],args:=[],vararg:=FN,kwonlyargs:=[],kw_defaults:=[],kwarg:=FN,defaults:=[] }
def jK (s:Stmt):List Stmt:=match s with
 | .FunctionDef _ _ b _ _ _ _ _ _ _=>b
 | _=>[]
def aQ (s:Stmt):Scope:=match s with
 | .FunctionDef _ _ _ _ _ _ sc _ _ _=>sc
 | _=>{ kind:=.function,names:=[],isGenerator:=false,isCoroutine:=false }
abbrev kI:Ek:=fun _ _ _ _ _ _=>False
abbrev zbb:XK:=fun _ _ _=>False
theorem Qn {X:Cx}:Passes kI X zbb:=fun _ _ _ _ _ _ _ h=>h.elim
structure Ai (K:Yc) (x qual:Str) (st:Stmt) (f:Addr) (fd:Y8):Prop where
 ex:∃ (oc:Ye) (od:Option Addr) (kV doc pm:Ye) (an:Option Addr) (cdv ct:Ye) (osl:Array (Option Ye)),
  fd=JR x qual (nR st) (jK st) (aQ st) .none kV doc pm an cdv ct/\K.lookup f=Dn ⟨oc,od,.func fd,osl⟩/\PySem.W.codeIn K cdv qual=true
 kp:Fx K (.ref f)=true
section
variable {P:YF}{w:Zb}{K:Yc}{mg:Str->Option Ye}{base:Heap}
theorem Ai.ok {x qual:Str}{st:Stmt}{f:Addr}{fd:Y8}{N ps:List Str}{k:Nat}{sp:Sp}(F:Ai K x qual st f fd)(S:bJ N ps (aQ st))(len:∀ vs H Q E,sp vs H Q E->vs.length=ps.length)
  (hbody:∀ (cdv:Ye) (A:YW) (outer:List Env) (s:Yj) (H:Hp) (vs:List V) (Q:VK) (E:XK),mz k (A.deeper (envOfC qual (aQ st) s.heap.objs.size f cdv))->sp vs H Q E ->
   ∃ t,Dr (Iz kI P w K mg base N qual (aQ st) f cdv A outer s H E).nox (jK st) t/\t { nx:=fun _ H'=>Q .non H',rt:=Q } (start N vs) H):eO P w K mg base kI (k+1) f fd ps sp:=by
 obtain ⟨oc,od,kV,doc,pm,an,cdv,ct,osl,rfl,lk,hcd⟩:=F.ex;refine Ug lk hcd S len fun A outer s H vs Q E hr hsp=>?_;obtain ⟨t,h,q⟩:=hbody cdv A outer s H vs Q E hr hsp;exact ⟨t,h.nox,q⟩
theorem Ai.binds {x qual:Str}{st:Stmt}{f:Addr}{fd:Y8}{ps:List Str}(F:Ai K x qual st f fd)
  (h:∀ (kV doc pm:Ye) (an:Option Addr) (cdv ct:Ye) (us:List Ye),us.length=ps.length->bindArgs (JR x qual (nR st) (jK st) (aQ st) .none kV doc pm an cdv ct) ⟨us,[]⟩=pure (ps.zip us)):Binds K fd ps []:=by
 obtain ⟨oc,od,kV,doc,pm,an,cdv,ct,osl,rfl,lk,hcd⟩:=F.ex;exact .all<|h kV doc pm an cdv ct
theorem cA {x qual:Str}{st:Stmt}{f:Addr}{oc:Ye}{od an:Option Addr}{osl:Array (Option Ye)}{kV doc pm cdv ct:Ye}(l:K.lookup f=Dn ⟨oc,od,.func (JR x qual (nR st) (jK st) (aQ st) .none kV doc pm an cdv ct),osl⟩)
  (c:PySem.W.codeIn K cdv qual=true) (k:Fx K (.ref f)=true):Ai K x qual st f (JR x qual (nR st) (jK st) (aQ st) .none kV doc pm an cdv ct):=⟨⟨oc,od,kV,doc,pm,an,cdv,ct,osl,rfl,l,c⟩,k⟩
end
section
variable {X:Cx}
theorem pv (i:Nat){x:Str}{pos:Pos}(hN:X.N[i]?=Dn x:=by rfl)(hv:Vis X.env.scope x:=by first | exact Or.inl rfl | exact Or.inr (Or.inl rfl) | exact Or.inr (Or.inr rfl))(hd:(x==("__debug__" : Str))=false:=by decide)
  (hcd:(x==("__classdict__" : Str))=false:=by decide):PE X (.Name x pos) (Vi i):=QT hN hv hd hcd
end
def Mw (env:Env):List (Str×YX)->List (Str×Addr)->List (Str×Addr)
 | [],cs=>cs
 | (n,k)::r,cs=>Mw env r (if (k==NameKind.free)=true then (n,(env.cells.lookup n).getD 0)::cs else cs)
def Hs (scope:Scope)(env:Env):List (Str×Addr):=Mw env scope.names []
theorem sE {env:Env}{p:Str×Addr}:∀ (l:List (Str×YX)) (cs:List (Str×Addr)),p∈Mw env l cs->p∈cs\/((p.1,NameKind.free)∈l/\p.2=(env.cells.lookup p.1).getD 0)
 | [],cs,h=>.inl h
 | (n,k)::r,cs,h=>by
  rcases sE r _ h with h | ⟨h1,h2⟩
  ·by_cases hk:(k==NameKind.free)=true
   ·rw [if_pos hk] at h;rcases Yq.mp h with rfl | h
    ·have e:k=NameKind.free:=by simpa using hk
     subst e;exact .inr ⟨Yz,rfl⟩
    ·exact .inl h
   ·rw [if_neg hk] at h;exact .inl h
  ·exact .inr ⟨YH _ h1,h2⟩
theorem yg {env:Env}{x:Str}:∀ (l:List (Str×YX)) (cs:List (Str×Addr)),((x,NameKind.free)∈l\/∃ c,(x,c)∈cs)->∃ c,(x,c)∈Mw env l cs
 | [],cs,h=>by
  rcases h with h | h
  ·exact absurd h<|by simp
  ·exact h
 | (n,k)::r,cs,h=>by
  refine yg r _ ?_;rcases h with h | ⟨c,h⟩
  ·rcases Yq.mp h with e | h
   ·injection e with e1 e2
    subst e1;subst e2;exact .inr ⟨_,by rw [if_pos<|by rfl];exact Yz⟩
   ·exact .inl h
  ·refine .inr ⟨c,?_⟩;by_cases hk:(k==NameKind.free)=true
   ·rw [if_pos hk];exact YH _ h
   ·rw [if_neg hk];exact h
theorem gU {x:Str}{c:Addr}:∀ {l:List (Str×Addr)},(x,c)∈l->∃ c',l.lookup x=Dn c'
 | [],h=>absurd h (by simp)
 | (n,d)::r,h=>by
  by_cases e:x=n
  ·subst e;exact ⟨d,by simp [YZ]⟩
  ·rcases Yq.mp h with q | q
   ·injection q with q1 _
    exact absurd q1 e
   ·obtain ⟨c',h'⟩:=gU q;refine ⟨c',?_⟩;have e':(x==n)=false:=beq_eq_false_iff_ne.mpr e;rw [YZ,e'];exact h'
theorem Bx {scope:Scope}{env:Env}(h:∀ y∈scope.names,y.2=NameKind.free->∃ c,env.cells.lookup y.1=Dn c):closureFor scope env=pure (Hs scope env):=by
 unfold closureFor Hs;have key:∀ (l:List (Str×YX)) (cs:List (Str×Addr)),(∀ y∈l,y.2=NameKind.free->∃ c,env.cells.lookup y.1=Dn c) ->
   (forIn l cs (fun (x:Str×YX) (cs:List (Str×Addr))=>(if (x.2==NameKind.free)=true then cellOf env x.1 >>= fun c=>pure (ForInStep.yield ((x.1,c)::cs)) else pure (ForInStep.yield cs):Sem (ForInStep (List (Str×Addr))))))=pure (Mw env l cs):=by
  intro l;induction l with
  | nil=>intro cs _;rfl
  | cons x r ih=>
   intro cs hl;obtain ⟨n,k⟩:=x;rw [List.forIn_cons];have hr:∀ y∈r,y.2=NameKind.free->∃ c,env.cells.lookup y.1=Dn c:=fun y hy=>hl y (YH _ hy)
   by_cases hk:(k==NameKind.free)=true
   ·obtain ⟨c,hc⟩:=hl (n,k) Yz (by simpa using hk);have hc':env.cells.lookup n=Dn c:=hc;have e1:cellOf env n=pure c:=by unfold cellOf;rw [hc']
    simp only [hk,if_true,e1,pure_bind];rw [ih _ hr];simp only [Mw,hk,if_true,hc',KH]
   ·simp only [hk,if_false,pure_bind,KN];rw [ih _ hr];simp only [Mw,hk,if_false,KN]
 have q:=key scope.names [] h
 simpa using q
theorem iU {y:Str}{c:Addr}:∀ {names:List (Str×YX)} {n:Nat} {acc:List (Str×Addr)},(y,c)∈Zt n names acc↔(y,c)∈acc\/(y,c)∈Zt n names []
 | [],n,acc=>by simp [Zt]
 | (name,kind)::r,n,acc=>by
  unfold Zt;split
  ·rw [iU (acc:=(name,n)::acc),iU (acc:=[(name,n)])];simp only [Yq,Y5,or_false];exact ⟨fun h=>h.elim (fun h=>h.elim (fun h=>.inr<|.inl h) .inl) fun h=>.inr<|.inr h,fun h=>h.elim (fun h=>.inl<|.inr h) fun h=>h.elim (fun h=>.inl<|.inl h) .inr⟩
  ·exact iU
theorem vM {y:Str}{c:Addr}:∀ {names:List (Str×YX)} {n:Nat},(y,c)∈Zt n names []->(y,NameKind.cell)∈names
 | [],n,h=>by simp [Zt] at h
 | (name,kind)::r,n,h=>by
  unfold Zt at h;split at h
  ·rename_i hk;rcases iU.mp h with q | q
   ·have hk':kind=.cell:=by simpa using hk
    simp only [Yq,Y5,or_false,Prod.mk.injEq] at q;rw [q.1,hk'];exact Yz
   ·exact YH _<|vM q
  ·exact YH _<|vM h
theorem Bh {y:Str}:∀ {names:List (Str×YX)} {n:Nat},(y,NameKind.cell)∈names->∃ c,(y,c)∈Zt n names []
 | [],n,h=>by simp at h
 | (name,kind)::r,n,h=>by
  unfold Zt;rcases Yq.mp h with q | q
  ·cases q;rw [if_pos (by rfl)];exact ⟨n,iU.mpr<|.inl Yz⟩
  ·split
   ·obtain ⟨c,hc⟩:=Bh (n:=n+1) q;exact ⟨c,iU.mpr<|.inr hc⟩
   ·exact Bh q
theorem Rb {h:Heap}{names:List (Str×YX)}{y:Str}{c:Addr}(e:(y,c)∈Zt h.objs.size names []):(pushCells h names).IsCell c FN/\h.objs.size<=c:=
 (cellsFrom_ok names h h.objs.size [] ⟨fun _ _ z=>by simp at z,List.Pairwise.nil⟩ (Ym _)).empty y c e
theorem zbv {n:Nat}{names:List (Str×YX)}{y z:Str}{c:Addr}(e:(y,c)∈Zt n names [])(e':(z,c)∈Zt n names []):y=z:=by
 have key:∀ (k:Nat),∃ h:Heap,h.objs.size=k:=fun k=>by
  induction k with
  | zero=>exact ⟨{ (default:Heap) with objs:=#[] },rfl⟩
  | succ k ih=>
   obtain ⟨h,e⟩:=ih;exact ⟨h.push { cls:=.type "cell",data:=.cell FN },by rw [Fw,e]⟩
 obtain ⟨h,rfl⟩:=key n;exact name_of_addr (cellsFrom_ok names h h.objs.size [] ⟨fun _ _ z=>by simp at z,List.Pairwise.nil⟩<|Ym _).apart e e'
theorem zY {M:Model}{A:YW}{E:Ye->Yj->Prop}{s:Yj}{scope:Scope}{globals:Addr}{closure:List (Str×Addr)}{qual:Str}{func:Option Addr}{code:Ye}{ar:Env}{builtins:Addr}{Q:Env->Yj->Prop}
  (hQ:Q { scope:=scope,locals:=s.heap.objs.size,globals:=globals,cells:=Zt (s.heap.objs.size+1) scope.names closure,qual:=qual,func:=func,code:=ar.code,frame:=ar.frame,builtins:=ar.builtins } { s with heap:=pushCells (s.heap.push { cls:=.type "dict",data:=.dict #[] }) scope.names }) :
  Y7 M A (newFunctionEnv scope globals closure [] qual func code (Dn ar) builtins) Q E s:=by
 simp only [newFunctionEnv,Option.isSome_some,if_true];refine Yg<|wpAny_alloc ?_
 refine Yg<|wpAny_layCells _ (fun name kind cells=>by cases hkc:kind==NameKind.cell <;> simp [hkc]) _ _ _ _ ?_
 rw [show ({ s with heap:=s.heap.push { cls:=.type "dict",data:=.dict #[] } }:Yj).heap.objs.size=s.heap.objs.size+1 from Fw ..];rw [List.forIn_nil];exact Yg<|Yx<|Yx hQ
def blk (X:Cx)(scope:Scope)(N':List Str)(C:Addr)(s:Yj)(H:Hp)(ex:List Addr):Cx where
 prog:=X.prog
 w:=X.w
 K:=X.K
 mg:=X.mg
 base:=X.base
 A:=X.A
 N:=N'
 s₀:=s
 H₀:=H
 env:=compEnvC scope (Zt (C+1) scope.names (Hs scope X.env)) C X.env
 outer:=X.stack
 stack:=X.stack
 ex:=ex
 fn:=fun y=>decide (scope.names.lookup y=Dn .cell)
 calm:=X.calm
 pn:=[]
 xe:=fun _ _=>False
structure jB (X:Cx) (scope:Scope) (x:List Str) (ix:List Nat):Prop where
 kind:scope.kind=.function
 own:∀ y∈x,scope.names.lookup y=Dn .local\/scope.names.lookup y=Dn .cell
 names:∀ y∈scope.names,scope.names.lookup y.1=Dn y.2
 free:∀ y∈scope.names,y.2=.free->X.env.scope.names.lookup y.1=Dn .cell\/X.env.scope.names.lookup y.1=Dn .free
 ixs:∀ i∈ix,scope.names.lookup (X.N.getD i "")=Dn .free
 nd:(x++ix.map fun i=>X.N.getD i "").Nodup
def yh:List Str->Bool
 | []=>true
 | x::r=>!(r.contains x)&&yh r
def V6 (sc:Scope)(N:List Str)(scope:Scope)(x:List Str)(ix:List Nat):Bool:=
 decide (scope.kind=.function)&&x.all (fun y=>decide (scope.names.lookup y=Dn .local)||decide (scope.names.lookup y=Dn .cell)) &&
 scope.names.all (fun y=>decide (scope.names.lookup y.1=Dn y.2)) &&
 scope.names.all (fun y=>!decide (y.2=.free)||decide (sc.names.lookup y.1=Dn .cell)||decide (sc.names.lookup y.1=Dn .free)) &&
 ix.all (fun i=>decide (scope.names.lookup (N.getD i "")=Dn .free))&&yh (x++ix.map fun i=>N.getD i "")
theorem uM:∀ {l:List Str},yh l=true->l.Nodup
 | [],_=>List.nodup_nil
 | x::r,h=>by
  unfold yh at h;rw [YM] at h;refine KZ.mpr ⟨fun hm=>?_,uM h.2⟩;have:r.contains x=true:=List.contains_iff_mem.mpr hm
  rw [this] at h;exact absurd h.1<|by decide
theorem aY {X:Cx}{scope:Scope}{x:List Str}{ix:List Nat}(h:V6 X.env.scope X.N scope x ix=true):jB X scope x ix:=by
 unfold V6 at h;simp only [YM,Zf,decide_eq_true_eq,Bool.or_eq_true,Bool.not_eq_true',decide_eq_false_iff_not] at h;obtain ⟨⟨⟨⟨⟨h1,h3⟩,h4⟩,h5⟩,h6⟩,h7⟩:=h;refine ⟨h1,fun y hy=>h3 y hy,fun y hy=>h4 y hy,fun y hy hk=>?_,fun i hi=>h6 i hi,uM h7⟩
 ·rcases h5 y hy with (q | q) | q
  ·exact absurd hk q
  ·exact .inl q
  ·exact .inr q
def yE (ix:List Nat)(Z : St):St:=ix.map fun i=>(Z[i]?).getD FN
abbrev iG (X:Cx)(x:List Str)(ix:List Nat):List Str:=x++ix.map fun i=>X.N.getD i ""
theorem fX {scope:Scope}{env:Env}{x:Str}:∀ {names:List (Str×YX)} {k:YX},
  (names.map fun (p:Str×YX)=>if (p.2==NameKind.free&&env.scope.kind==.function&&env.kindOf p.1==Dn .cell)=true then (p.1,NameKind.cell) else (p.1,p.2)).lookup x=Dn k ->
  names.lookup x=Dn k\/(k=.cell/\names.lookup x=Dn .free)
 | [],k,h=>by simp at h
 | (n,k')::r,k,h=>by
  rw [ZM] at h;cases hx:x==n with
  | true=>
   by_cases hc:(k'==NameKind.free&&env.scope.kind==.function&&env.kindOf n==Dn .cell)=true
   ·rw [if_pos hc] at h;simp only [YZ,hx] at h;have hk:k'=.free:=by
     have:=(Bool.and_eq_true_iff.mp (Bool.and_eq_true_iff.mp hc).1).1
     simpa using this
    subst hk;cases h;exact .inr ⟨rfl,by simp [YZ,hx]⟩
   ·rw [if_neg hc] at h;simp only [YZ,hx] at h;cases h;exact .inl<|by simp [YZ,hx]
  | false=>
   have h':(r.map fun (p:Str×YX)=>if (p.2==NameKind.free&&env.scope.kind==.function&&env.kindOf p.1==Dn .cell)=true then (p.1,NameKind.cell) else (p.1,p.2)).lookup x=Dn k:=by
    by_cases hc:(k'==NameKind.free&&env.scope.kind==.function&&env.kindOf n==Dn .cell)=true
    ·rw [if_pos hc] at h;simpa only [YZ,hx] using h
    ·rw [if_neg hc] at h;simpa only [YZ,hx] using h
   rcases fX (scope:=scope) (env:=env) h' with q | ⟨q1,q2⟩
   ·exact .inl<|by simpa only [YZ,hx] using q
   ·exact .inr ⟨q1,by simpa only [YZ,hx] using q2⟩
theorem mQ {env:Env}{x:Str}:∀ {names:List (Str×YX)},names.lookup x=Dn .free ->
  (names.map fun (p:Str×YX)=>if (p.2==NameKind.free&&env.scope.kind==.function&&env.kindOf p.1==Dn .cell)=true then (p.1,NameKind.cell) else (p.1,p.2)).lookup x=Dn .cell \/
  (names.map fun (p:Str×YX)=>if (p.2==NameKind.free&&env.scope.kind==.function&&env.kindOf p.1==Dn .cell)=true then (p.1,NameKind.cell) else (p.1,p.2)).lookup x=Dn .free
 | [],h=>by simp at h
 | (n,k')::r,h=>by
  rw [ZM];cases hx:x==n with
  | true=>
   simp only [YZ,hx] at h;cases h;by_cases hc:(NameKind.free==NameKind.free&&env.scope.kind==.function&&env.kindOf n==Dn .cell)=true
   ·rw [if_pos hc];exact .inl (by simp [YZ,hx])
   ·rw [if_neg hc];exact .inr (by simp [YZ,hx])
  | false=>
   have h':r.lookup x=Dn .free:=by simpa only [YZ,hx] using h
   have ih:=mQ (env:=env) h';by_cases hc:(k'==NameKind.free&&env.scope.kind==.function&&env.kindOf n==Dn .cell)=true
   ·rw [if_pos hc];simpa only [YZ,hx] using ih
   ·rw [if_neg hc];simpa only [YZ,hx] using ih
theorem mj {env:Env}{x:Str}:∀ {names:List (Str×YX)},names.lookup x=Dn .cell ->
  (names.map fun (p:Str×YX)=>if (p.2==NameKind.free&&env.scope.kind==.function&&env.kindOf p.1==Dn .cell)=true then (p.1,NameKind.cell) else (p.1,p.2)).lookup x=Dn .cell
 | [],h=>by simp at h
 | (n,k')::r,h=>by
  rw [ZM];cases hx:x==n with
  | true=>
   simp only [YZ,hx] at h;cases h;rw [if_neg (by simp)];simp [YZ,hx]
  | false=>
   have ih:=mj (env:=env) (show r.lookup x=Dn .cell by simpa only [YZ,hx] using h);split
   ·simpa only [YZ,hx] using ih
   ·simpa only [YZ,hx] using ih
section
variable {X:Cx}{pins:List (Addr×Obj)}{Z : St}{H:Hp}{s:Yj}{scope:Scope}{x:List Str}{ix:List Nat}{C:Addr}{fp:List Addr}
theorem zW (B:jB X scope x ix){y:Str}(hy:y∈x):Loc (relabel scope X.env) y/\(decide (scope.names.lookup y=Dn .cell)=true\/(relabel scope X.env).names.lookup y=Dn .local):=by
 rcases B.own y hy with q | q
 ·have:=lookup_relabel_local (env:=X.env) q
  exact ⟨.inl this,.inr this⟩
 ·exact ⟨.inr<|mj (env:=X.env) q,.inl<|decide_eq_true q⟩
theorem rP (I:Go X pins Z H s)(B:jB X scope x ix):∀ y∈scope.names,y.2=NameKind.free->∃ c,X.env.cells.lookup y.1=Dn c:=fun y hy hk=>I.ok.has y.1 (B.free y hy hk)
theorem Q8 (I:Go X pins Z H s)(B:jB X scope x ix){y:Str}{c:Addr}(h:(y,c)∈Hs scope X.env):X.env.cells.lookup y=Dn c:=by
 rcases sE scope.names [] h with q | ⟨q1,q2⟩
 ·exact absurd q<|by simp
 ·obtain ⟨c',e⟩:=rP I B _ q1 rfl;have e':X.env.cells.lookup y=Dn c':=e;have q2':c=(X.env.cells.lookup y).getD 0:=q2;rw [e',KH] at q2';rw [e',q2']
theorem mO (I:Go X pins Z H s)(B:jB X scope x ix){y:Str}{c:Addr}(h:(Zt (C+1) scope.names (Hs scope X.env)).lookup y=Dn c):X.env.cells.lookup y=Dn c\/(y,c)∈Zt (C+1) scope.names []:=
 (iU.mp (Zz h)).imp_left (Q8 I B)
theorem Aw {n:Nat}{names:List (Str×YX)}{y:Str}{c:Addr}(e:(y,c)∈Zt n names []):n<=c:=by
 have key:∀ (names:List (Str×YX)) (n:Nat),(y,c)∈Zt n names []->n<=c:=by
  intro names;induction names with
  | nil=>intro n h;simp [Zt] at h
  | cons a r ih=>
   intro n h;obtain ⟨name,kind⟩:=a;unfold Zt at h;split at h
   ·rcases iU.mp h with q | q
    ·simp only [Yq,Y5,or_false,Prod.mk.injEq] at q;exact Nat.le_of_eq q.2.symm
    ·exact YS (Ew n)<|ih (n+1) q
   ·exact ih n h
 exact key names n e
theorem aaB (B:jB X scope x ix){y:Str}{c:Addr}(hf:scope.names.lookup y=Dn .free)(h:(y,c)∈Zt (C+1) scope.names []):False:=by
 have:=B.names _ (vM h)
 simp only at this;rw [hf] at this;cases this
theorem xM {y:Str}(h:scope.names.lookup y=Dn .free\/scope.names.lookup y=Dn .cell):∃ c,(Zt (C+1) scope.names (Hs scope X.env)).lookup y=Dn c:=by
 rcases h with h | h
 ·obtain ⟨c,hc⟩:=yg (env:=X.env) scope.names [] (.inl (Zz h));exact gU<|iU.mpr<|.inl hc
 ·obtain ⟨c,hc⟩:=Bh (n:=C+1) (Zz h);exact gU<|iU.mpr<|.inr hc
theorem Nk (I:Go X pins Z H s)(B:jB X scope x ix)(hC:s.heap.objs.size<=C)(hf:∀ b∈fp,wW X pins H b)(ho:∀ b∈fp,∃ o,s.heap.get? b=Dn o) :
  (blk X scope (iG X x ix) C s H fp).Ok where
 mod:=I.ok.mod
 kind:=B.kind
 glob:=I.ok.glob
 blt:=I.ok.blt
 above:=hC
 inj:=fun y z c h1 h2=>by
  have far:∀ {y z:Str},X.env.cells.lookup y=Dn c->(z,c)∈Zt (C+1) scope.names []->False:=fun {y z} e q=>by
   obtain ⟨v,w⟩:=I.cell y c e;exact absurd (Yl w.lt<|YS (YS hC<|Ew C)<|Aw q)<|ZP _
  rcases mO I B h1 with q1 | q1
  ·rcases mO I B h2 with q2 | q2
   ·exact I.ok.inj y z c q1 q2
   ·exact (far q1 q2).elim
  ·rcases mO I B h2 with q2 | q2
   ·exact (far q2 q1).elim
   ·exact zbv q1 q2
 has:=fun y hy=>by
  have hy':(relabel scope X.env).names.lookup y=Dn .cell\/(relabel scope X.env).names.lookup y=Dn .free:=hy;rcases hy' with q | q
  ·rcases fX (scope:=scope) (env:=X.env) q with r | ⟨_,r⟩
   ·exact xM<|.inr r
   ·exact xM<|.inl r
  ·rcases fX (scope:=scope) (env:=X.env) q with r | ⟨r,_⟩
   ·exact xM<|.inl r
   ·cases r
 cab:=fun y c hf h=>by
  have hf':scope.names.lookup y=Dn .cell:=of_decide_eq_true hf;rcases iU.mp (Zz h) with q | q
  ·rcases sE scope.names [] q with q | ⟨q1,_⟩
   ·exact absurd q<|by simp
   ·have:=B.names _ q1
    simp only at this;rw [hf'] at this;cases this
  ·exact YS (YS hC<|Ew C)<|Aw q
 hd:=I.ok.hd
 qt:=I.qt0
 frames:=I.ok.frames
 stk:=.inl rfl
 exf:=fun b hb=>by
  obtain ⟨o,e⟩:=ho b hb;refine ⟨Yv<|Yl (Yt e) hC,fun y c h=>?_⟩;rcases mO I B h with q | q
  ·exact (hf b hb).2.2.2.2.1 y c q
  ·intro z;rw [z] at q;exact absurd (Yl (Yt e)<|YS (YS hC<|Ew C)<|Aw q)<|ZP _
 bs:=I.bs
 bsz:=YS I.ok.bsz I.sz
 noex:=fun b o e hb=>by
  rcases (hf b hb).2.2.2.1 with q | q
  ·exact I.ok.noex b o e q
  ·exact absurd (Yl (Yt e)<|YS I.ok.bsz q)<|ZP _
 exfs:=fun b hb z=>by
  obtain ⟨_,h1,h2,_⟩:=hf b hb;rcases Yq.mp (I.stkSub b z) with e | e
  ·exact h1 e
  ·exact h2 e
 funs:=I.stack
 frf:=I.stkFree
theorem abE {D:Addr}{h1:Heap}{tk:Nat}{m:Str->Option Ye}(I:Go X pins Z H s)(B:jB X scope x ix)(ok:(blk X scope (iG X x ix) C s H fp).Ok)
  (hD:D=s.heap.objs.size) (k:∀ b o,s.heap.get? b=Dn o->h1.get? b=Dn o) (hl:h1.get? D=Dn { cls:=.type "list",data:=.seq #[] }) (hns:h1.Ns C m) (hCD:C≠D) (hC:s.heap.objs.size<=C) (hce:∀ y c,(y,c)∈Zt (C+1) scope.names []->h1.IsCell c FN) :
  Go (blk X scope (iG X x ix) C s H fp) [] (ZD x.length FN++yE ix Z) (X5 H D (.lst [])) { s with heap:=h1,toks:=tk } where
 ok:=ok
 os:=rfl
 bare:=I.bare
 base:=Un.laid k (by rw [hD];exact Ym _) (I.hok.fresh (by rw [hD];exact Ym _))
 loc:=by
  refine ⟨m,hns,fun i y v e1 e2 e3=>?_⟩;by_cases hix:i<x.length
  ·rw [Zu (by simpa using hix),LC,if_pos hix] at e2;cases e2
  ·rw [Zh (by simpa using hix),List.length_replicate] at e2;have e1':(ix.map fun i=>X.N.getD i "")[i - x.length]?=Dn y:=by
    have z:(x++ix.map fun i=>X.N.getD i "")[i]?=Dn y:=e1
    rwa [Zh (by simpa using hix)] at z
   generalize i - x.length=j at e1' e2;unfold yE at e2;rw [Yo] at e1' e2;cases hj:ix[j]? with
   | none=>rw [hj] at e2;cases e2
   | some i'=>
    rw [hj] at e1' e2;simp only [Ka,Option.some.injEq] at e1' e2;have hi:Z[i']?=Dn (Dn v):=by
     cases q:Z[i']? with
     | none=>rw [q] at e2;cases e2
     | some z=>rw [q] at e2;exact congrArg Dn e2
    have hlt:i'<X.N.length:=by
     have:=(Yn.mp hi).1
     rw [I.len] at this;exact this
    have hn:X.N[i']?=Dn y:=by
     rw [Zi,Yk hlt,KH] at e1';rw [Yk hlt,e1']
    have hfree:scope.names.lookup y=Dn .free:=by
     have:=B.ixs i' (YL hj)
     rw [e1'] at this;exact this
    have kx:=B.free _ (Zz hfree) rfl;have vis:Vis X.env.scope y:=by
     rcases kx with q | q
     ·exact .inr<|.inl q
     ·exact .inr<|.inr q
    obtain ⟨m',_,hl'⟩:=I.loc;obtain ⟨u,r,lk⟩:=hl' i' y v hn hi vis;refine ⟨u,r,?_⟩;rcases lk with ⟨q,_⟩ | ⟨_,c,hc,hcell⟩
    ·have q':X.env.scope.names.lookup y=Dn .local:=q;rcases kx with z | z <;> (rw [q'] at z;cases z)
    ·obtain ⟨c',hc'⟩:=xM (X:=X) (C:=C) (.inl hfree);have e:=(mO I B hc').resolve_right fun z=>aaB B hfree z
     rw [hc] at e;cases e;refine .inr ⟨mQ (env:=X.env) hfree,c,hc',?_⟩;obtain ⟨o,ho,hd⟩:=hcell;exact ⟨o,k c o ho,hd⟩
 cell:=fun y c h=>by
  rcases mO I B h with q | q
  ·obtain ⟨v,o,ho,hd⟩:=I.cell y c q;exact ⟨v,o,k c o ho,hd⟩
  ·exact ⟨FN,hce y c q⟩
 free:=by
  show X5 H D (.lst []) C=FN;rw [aR hCD];exact I.hok.fresh hC
 freeC:=fun y c h=>by
  show X5 H D (.lst []) c=FN;rcases mO I B h with q | q
  ·obtain ⟨v,o,ho,hd⟩:=I.cell y c q;rw [aR (by rw [hD];exact Yv (Yt ho))];exact I.freeC y c q
  ·have g:s.heap.objs.size<c:=Yl (Nat.lt_succ_of_le hC) (Aw q);rw [aR (by rw [hD];exact ZS g)];exact I.hok.fresh<|Je g
 pin:=fun p hp=>absurd (show p∈([]:List (Addr×Obj)) from hp) (by simp)
 hok:=I.hok.laid k (by rw [hD];exact Ym _) ⟨J8 _,[],0,.nil,hl⟩
 len:=by
  show (ZD x.length FN++yE ix Z).length=(iG X x ix).length;simp [yE]
theorem CG {Z':St}{H':Hp}{s':Yj}{h':Heap}{p':List (Addr×Obj)}(I:Go X pins Z H s)(hC:s.heap.objs.size<=C)(hf:∀ b∈fp,wW X pins H b)(J:Go (blk X scope (iG X x ix) C s H fp) p' Z' H' s')
  (hs:Jf C s'.heap h'):Go X pins Z H' { s' with heap:=h' }:=by
 have I1:Go X pins Z H' s':=I.call' (ch:=fp) J.os J.base J.hok J.bare fun b hb=>⟨(hf b hb).2.2.2.1,(hf b hb).2.1,(hf b hb).2.2.2.2.1,(hf b hb).2.2.2.2.2⟩
 refine I1.turned (it:=C) (t':=s'.toks) (fun b o hb e=>(hs.2 b hb).trans e) J.free (ZS<|Yl I.lt hC) (.inr<|YS I.sz hC) (fun y c e z=>?_)<|fun p hp z=>?_
 ·obtain ⟨v,q⟩:=I.cell y c e;exact absurd (Yl q.lt (by rw [z];exact hC))<|ZP _
 ·exact absurd (Yl (Yt (I.pin p hp).1) (by rw [z];exact hC))<|ZP _
end
def MN (X:Cx)(ifs:List Expr)(t:TT):Prop:=
 ∀ (pins:List (Addr×Obj)) (s:Yj) (Z : St) (H:Hp) (Q:Bool->Hp->Prop),Go X pins Z H s->t Z H Q ->
  Y7 (Zk X.prog X.w) X.A (forIn ifs true fun c r=>if r=true then do let ok <-isTrue c X.env (eval c X.env);pure (ForInStep.yield ok) else pure (ForInStep.yield r)) (TP X pins Z Q) X.xe s
def Wv:TT:=fun _ H Q=>Q true H
theorem aaG {X:Cx}:MN X [] Wv:=fun _ _ _ H _ I h=>Yx ⟨H,I,h⟩
theorem MK {X:Cx}{c:Expr}{t:TT}(h:PT X c t):MN X [c] t:=fun pins s Z H Q I hq=>by
 rw [List.forIn_cons];refine Yg ?_;rw [if_pos rfl];refine Yg<|X6 (h pins s Z H Q I hq) fun b s1 q=>Yx ?_
 exact Yx q
def Uc (n:Nat)(own:V->Hp->List V->Prop)(ix:List Nat)(tt:TT)(te:TE)(Z : St)(Q:VK)(J:It)(H1:Hp)(D:Addr):Prop:=∃ W:Nat->Nat->List V->Hp->Prop,(∃ m,W 0 m [] (X5 H1 D (.lst [])))/\∀ i m ys H,W i m ys H->H D=Dn (.lst ys) ->
 (J.stop i H/\Q (.ref D) H)\/(J.go i H/\ys.length<YQ/\∀ x H',J.yld i H x H'->∃ vs,own x H' vs/\vs.length=n/\tt (vs.map Dn++yE ix Z) H' fun b H2=>
  if b=true then te (vs.map Dn++yE ix Z) H2 (fun v H3=>H3 D=Dn (.lst ys)/\∃ m',m'<m/\W (i+1) m' (ys++[v]) (X5 H3 D (.lst (ys++[v]))))
  else H2 D=Dn (.lst ys)/\∃ m',m'<m/\W (i+1) m' ys H2)
def wLC (n:Nat)(own:V->Hp->List V->Prop)(ix:List Nat)(tt:TT)(te:TE)(Z : St)(Q:VK)(J:It)(H1:Hp):Prop:=∀ D,H1 D=FN->Uc n own ix tt te Z Q J H1 D
def tLC (n:Nat)(own:V->Hp->List V->Prop)(ix:List Nat)(wi:TI)(tt:TT)(te:TE):TE:=fun Z H Q=>wi Z H fun J H1=>wLC n own ix tt te Z Q J H1
def Ho (n:Nat)(own:V->Hp->List V->Prop):TG:=fun v Z H N=>∃ vs,own v H vs/\vs.length=n/\N (vs.map Dn++Z.drop n) H
theorem zV {P:YF}{w:Zb}{A:YW}{R:Result->Yj->Prop}{s:Yj}{elt target iter:Expr}{ifs:List Expr}{scope:Scope}{pos:Pos}{it acc:Ye}{env:Env}(Iv:Nat->Yj->Prop)
  (turn:∀ n s,Iv n s->Y7 (Zk P w) A (pyNext it) (fun r s₁=>match r with
   | none=>R (.ok .next) s₁
   | some v=>Y7 (Zk P w) A (letOwnedTupleGo target it v) (fun _ t₁=>Y7 (Zk P w) A (assign target env v) (fun _ s₂=>
     Y7 (Zk P w) A (forIn ifs true fun c r=>if r=true then do let ok <-isTrue c env (eval c env);pure (ForInStep.yield ok) else pure (ForInStep.yield r)) (fun ok s₃=>
      if ok=true then Y7 (Zk P w) A (eval elt env) (fun x s₄=>
       Y7 (Zk P w) A (call (.builtin "list.append") [acc,x]) (fun _ s₅=>∃ m,m<n/\Iv m s₅) (notedBy (Zk P w) A env fun e s'=>R (.error e) s') s₄) (notedBy (Zk P w) A env fun e s'=>R (.error e) s') s₃
      else ∃ m,m<n/\Iv m s₃) (notedBy (Zk P w) A env fun e s'=>R (.error e) s') s₂) (notedBy (Zk P w) A env fun e s'=>R (.error e) s') t₁) (notedBy (Zk P w) A env fun e s'=>R (.error e) s') s₁) (notedBy (Zk P w) A env fun e s'=>R (.error e) s') s)
  (n:Nat) (h:Iv n s):codeAny (Zk P w) A (.compLoop (.ListComp elt [⟨target,iter,ifs,0⟩] scope pos) 0 it acc env) R s:=by
 refine codeAny_loop rfl Iv (fun n s hI=>?_) n h;show Y7 _ A ((compTurn (.ListComp elt [⟨target,iter,ifs,0⟩] scope pos) 0 it acc env).onRaise (fun x=>do noteFrame x env;theTreesLotGoes x)) _ _ s;refine wpAny_noted ?_;rw [compTurn_list];refine Yg<|wpAny_standAt<|Yg<|ZW (turn n s hI) (fun r s₁ k₁=>?_) fun _ _ z=>z
 cases r with
 | none=>exact Yx k₁
 | some v=>
  refine Yg<|ZW k₁ (fun _ t₁ k₂=>Yg<|ZW k₂ (fun _ s₂ k₃=>Yg<|ZW k₃ (fun ok s₃ k₄=>?_) fun _ _ z=>z) fun _ _ z=>z) fun _ _ z=>z
  cases ok with
  | false=>exact Yx ⟨rfl,k₄⟩
  | true=>exact Yg (Yg (ZW k₄ (fun x s₄ k₅=>Yg (ZW k₅ (fun _ s₅ k₆=>Yx (Yx ⟨rfl,k₆⟩)) fun _ _ z=>z)) fun _ _ z=>z))
section
variable {X:Cx}{scope:Scope}{x:List Str}{ix:List Nat}{elt iter tg:Expr}{ifs:List Expr}{px pos:Pos}{wi:TI}{tt:TT}{te:TE}{own:V->Hp->List V->Prop}
theorem Bg {pins:List (Addr×Obj)}{Z : St}{s₂ : Yj}{H2:Hp}{it:Addr}{fp:List Addr}{tn:Nat->Heap->Prop}{J:It}{Q:VK}{E:Ye->Yj->Prop}{RR:Ye->Addr->Result->Yj->Prop}
  (hc:J.cm=true->X.calm=true) (B:jB X scope x ix) (hg:∀ C s H fp,PG (blk X scope (iG X x ix) C s H fp) tg (Ho x.length own)) (ht:∀ C s H fp,MN (blk X scope (iG X x ix) C s H fp) ifs tt) (he:∀ C s H fp,PE (blk X scope (iG X x ix) C s H fp) elt te)
  (I2:Go X pins Z H2 s₂) (T:Turn X.prog X.w X.K tg J fp it tn) (st2:tn 0 s₂.heap) (f2:∀ b∈fp,wW X pins H2 b) (hq:wLC x.length own ix tt te Z Q J H2)
  (hRR:∀ D C s' Z' H' p',s₂.heap.objs.size<=C->Go (blk X scope (iG X x ix) C s₂ H2 fp) p' Z' H' s'->Q (.ref D) H'->RR (.ref D) C (.ok .next) s') :
  Y7 (Zk X.prog X.w) X.A (newList []) (fun acc s₃=>Y7 (Zk X.prog X.w) X.A (newFunctionEnv scope X.env.globals (Hs scope X.env) [] X.env.qual FN .none (Dn X.env)) (fun cenv s₄=>
   codeAny (Zk X.prog X.w) X.A (.compStart (.ListComp elt [⟨tg,iter,ifs,0⟩] scope pos) 0 (.ref it) acc { cenv with scope:=relabel scope X.env }) (RR acc cenv.locals) s₄) E s₃) E s₂:=by
 refine J7<|zY ?_
 dsimp only;generalize hH2:s₂.heap.push { cls:=.type "list",dict:=FN,data:=.seq ([]:List Ye).toArray }=HH;generalize hh1:pushCells (HH.push { cls:=.type "dict",data:=.dict #[] }) scope.names=h₁;have hns₁ : h₁.Ns HH.objs.size (fun _=>FN):=by
  obtain ⟨o,es,ep,ho,r⟩:=Heap.Ns.new HH (.type "dict");exact ⟨o,es,ep,by rw [<-hh1];exact pushCells_keeps _ _ _ _ ho,r⟩
 have hkeep:∀ b o,HH.get? b=Dn o->h₁.get? b=Dn o:=fun b o e=>by rw [<-hh1];exact pushCells_keeps _ _ _ _ (Yh _ e)
 have hce:∀ y c,(y,c)∈Zt (HH.objs.size+1) scope.names []->h₁.IsCell c FN:=fun y c e=>by
  rw [<-hh1];exact (Rb (h:=HH.push { cls:=.type "dict",data:=.dict #[] }) (by rw [Fw];exact e)).1
 have hC:HH.objs.size=s₂.heap.objs.size+1:=by rw [<-hH2,Fw]
 have hDC:s₂.heap.objs.size≠HH.objs.size:=by rw [hC];exact Yv (JK _)
 have hCle:s₂.heap.objs.size<=HH.objs.size:=by rw [hC];exact Ew _
 have old:∀ b o,s₂.heap.get? b=Dn o->h₁.get? b=Dn o:=fun b o e=>hkeep b o (hH2 ▸ Yh _ e)
 have hacc:h₁.get? s₂.heap.objs.size=Dn { cls:=.type "list",data:=.seq #[] }:=hkeep _ _ (hH2 ▸ YC _ rfl);have hob:∀ b∈fp,∃ o,s₂.heap.get? b=Dn o:=fun b hb=>let ⟨o,e,_⟩:=T.obj 0 _ st2 b hb;⟨o,e⟩
 have ok:=Nk (C:=HH.objs.size) I2 B hCle f2 hob;obtain ⟨W,⟨m0,w0⟩,turn⟩:=hq s₂.heap.objs.size (I2.hok.fresh (Ym _))
 -- the iterator's records, in the block
 have stat:∀ {H':Hp},(∀ b∈fp,H' b=FN)->∀ b∈fp,wW (blk X scope (iG X x ix) HH.objs.size s₂ H2 fp) [] H' b:=fun {H'} hn b hb=>by
  obtain ⟨o,e⟩:=hob b hb;obtain ⟨_,g1,g2,g3,g4,g5⟩:=f2 b hb;refine ⟨hn b hb,Yv<|Yl (Yt e) hCle,fun z=>?_,.inl hb,fun y c h=>?_,fun p hp=>absurd (show p∈([]:List (Addr×Obj)) from hp)<|by simp⟩
  ·rcases Yq.mp (I2.stkSub b z) with q | q
   ·exact g1 q
   ·exact g2 q
  ·rcases mO I2 B h with q | q
   ·exact g4 y c q
   ·intro z;rw [z] at q;exact absurd (Yl (Yt e)<|YS (YS hCle<|Ew _)<|Aw q)<|ZP _
 have loop:∀ s₃ : Yj,s₃ = { s₂ with heap:=h₁ } ->
   codeAny (Zk X.prog X.w) X.A (.compLoop (.ListComp elt [⟨tg,iter,ifs,0⟩] scope pos) 0 (.ref it) (.ref s₂.heap.objs.size) (compEnvC scope (Zt (HH.objs.size+1) scope.names (Hs scope X.env)) HH.objs.size X.env))
    (RR (.ref s₂.heap.objs.size) HH.objs.size) s₃:=by
  rintro s₃ rfl;have J0:=abE (fp:=fp) (C:=HH.objs.size) (tk:=s₂.toks) I2 B ok rfl old hacc hns₁ (Bk hDC) hCle hce;have fr0:∀ b∈fp,X5 H2 s₂.heap.objs.size (.lst []) b=FN:=fun b hb=>by
   obtain ⟨o,e⟩:=hob b hb;rw [aR (Yv (Yt e))];exact (f2 b hb).1
  refine zV (fun k s'=>∃ i ys H',Go (blk X scope (iG X x ix) HH.objs.size s₂ H2 fp) [] (ZD x.length FN++yE ix Z) H' s'/\tn i s'.heap/\(∀ b∈fp,H' b=FN)/\H' s₂.heap.objs.size=Dn (.lst ys)/\W i k ys H') ?_ m0
   ⟨0,[],_,J0,T.keep 0 _ _ st2 (fun b _ o e=>old b o e),fr0,bR,w0⟩
  rintro n s₄ ⟨i,ys,H4,I4,st4,fr4,hD4,w4⟩;rcases turn i n ys H4 w4 hD4 with ⟨stop,qn⟩ | ⟨go,hz,step⟩
  ·refine X6 (T.done (blk X scope (iG X x ix) HH.objs.size s₂ H2 fp) rfl rfl rfl hc i [] s₄ _ H4 _ I4 (stat fr4) st4 stop) fun r s5 ⟨hr,I5⟩=>?_;subst hr;exact hRR _ _ s5 _ H4 [] hCle I5 qn
  ·refine X6 (T.item (blk X scope (iG X x ix) HH.objs.size s₂ H2 fp) rfl rfl rfl hc i [] s₄ _ H4 _ I4 (stat fr4) st4 go) fun r s5 ⟨u,hr,h5⟩=>?_;subst hr;refine ZW h5 (fun _ s6 ⟨xv,H6,I6,r6,y6,st6,fr6⟩=>?_) fun _ _ z=>z;have I6':=I6.pinned (stat fr6) (T.obj _ _ st6);obtain ⟨vs,hov,hvl,q7⟩:=step xv H6 y6;have fgt:∀ {Z9:St} {H9:Hp} {s9:Yj} {p9:List (Addr×Obj)},Z9.length=x.length->Go (blk X scope (iG X x ix) HH.objs.size s₂ H2 fp) p9 (Z9++yE ix Z) H9 s9->Go (blk X scope (iG X x ix) HH.objs.size s₂ H2 fp) p9 (ZD x.length FN++yE ix Z) H9 s9:=fun {Z9 H9 s9 p9} hl I9=>
    I9.weak (by simp [hl]) fun k v e=>by
     by_cases hk:k<x.length
     ·rw [Zu (by simpa using hk),LC,if_pos hk] at e;cases e
     ·rw [Zh (by simpa using hk),List.length_replicate] at e;rw [Zh (by rw [hl];lia),hl];exact e
   refine ZW (hg _ _ _ _ _ s6 _ H6 xv u (fun Z9 H9=>Z9=vs.map Dn++(ZD x.length (FN:Option V)++yE ix Z).drop x.length/\H9=H6) I6' r6 ⟨vs,hov,hvl,rfl,rfl⟩) (fun _ s7 ⟨Z7,H7,I7,e7,e8⟩=>?_) fun _ _ z=>z.elim;subst e7 e8;rw [List.drop_left' (by simp)] at I7;have hml:(vs.map Dn).length=x.length:=by rw [Yd];exact hvl
   refine ZW (ht _ _ _ _ _ s7 _ H7 _ I7 q7) (fun b s8 ⟨H8,I8,q8⟩=>?_) fun _ _ z=>z.elim;have pinned:∀ {H9:Hp} {s9:Yj} {Z9:St},Go (blk X scope (iG X x ix) HH.objs.size s₂ H2 fp) ([]++ux fp s6.heap) Z9 H9 s9->tn (i+1) s9.heap/\∀ b∈fp,H9 b=FN:=fun {H9 s9 Z9} I9=>by
    refine ⟨T.keep _ _ _ st6 fun b hb o e=>(I9.pin (b,o)<|Zm _<|Zm _<|jt hb e).1,fun b hb=>?_⟩;obtain ⟨o,e,d⟩:=T.obj _ _ st6 b hb;exact (I9.pin (b,o)<|Zm _<|Zm _<|jt hb e).2.1
   cases b with
   | false=>
    rw [if_neg Y6] at q8 |-
    obtain ⟨hD8,m',hm,w8⟩:=q8;obtain ⟨t8,f8⟩:=pinned I8;exact ⟨m',hm,i+1,ys,H8,fgt hml I8.unpinned,t8,f8,hD8,w8⟩
   | true=>
    rw [if_pos rfl] at q8 |-
    refine ZW (he _ _ _ _ _ s8 _ H8 _ I8 q8) (fun u9 s9 ⟨v9,H9,I9,r9,hD9,m',hm,w9⟩=>?_) fun _ _ z=>z.elim;refine ZW (uq (X:=blk X scope (iG X x ix) HH.objs.size s₂ H2 fp) _ s9 _ H9 (.ref s₂.heap.objs.size) [v9] _ [u9] (fun _ H'=>H'=X5 H9 s₂.heap.objs.size (.lst<|ys++[v9])) I9 rfl (.cons r9 .nil) ⟨_,ys,v9,rfl,rfl,hD9,hz,rfl⟩) (fun _ s10 ⟨_,H10,I10,_,e10⟩=>?_) fun _ _ z=>z.elim;subst e10;obtain ⟨t10,f10⟩:=pinned I10;exact ⟨m',hm,i+1,ys++[v9],_,fgt hml I10.unpinned,t10,f10,bR,w9⟩
 exact codeAny_compStart_list (loop _ rfl)<|T.self _ 0 _ _ _ (T.keep 0 _ _ st2<|fun b _ o e=>old b o e)<|loop _ rfl
theorem Uw (ix:List Nat)(hc:X.calm=true)(B:jB X scope x ix)(hg:∀ C s H fp,PG (blk X scope (iG X x ix) C s H fp) tg (Ho x.length own))(hi:PI X tg iter wi)(ht:∀ C s H fp,MN (blk X scope (iG X x ix) C s H fp) ifs tt)(he:∀ C s H fp,PE (blk X scope (iG X x ix) C s H fp) elt te)
  (hs:∀ v,Jp iter X.env v=pure v:=by intro _;rfl):PE X (.ListComp elt [⟨tg,iter,ifs,0⟩] scope pos) (tLC x.length own ix wi tt te):=by
 intro pins s Z H Q I h;rw [eval_ListComp];refine wpAny_comprehension_free (use:=FN) rfl hs (Bx<|rP I B) B.kind (fun y hy hk=>by rw [B.names y hy,hk]) ?_;refine X6 (hi pins s Z H _ I h) fun v s1 h1=>X6 h1 fun itv s2 h2=>?_;obtain ⟨it,fp,tn,J,H2,e,I2,T,st2,f2,hq⟩:=h2;subst e;refine Bg (RR:=fun acc C=>compPost (Zk X.prog X.w) X.A X.xe FN (EP X pins Z Q) acc C) (fun _=>hc) B hg ht he I2 T st2 f2 hq fun D C s' Z' H' p' hC I' q'=>?_;obtain ⟨m,hn,_⟩:=I'.loc;exact ⟨m,hn,fun h' hs'=>⟨.ref D,H',CG I2 hC f2 I' hs',rfl,q'⟩⟩
theorem Ni (ix:List Nat){i:Nat}{y:Str}{py spos:Pos}(hN:X.N.Nodup)(hi':X.N[i]?=Dn y)(hy:Loc X.env.scope y)(hc:X.calm=true)(B:jB X scope x ix)(hg:∀ C s H fp,PG (blk X scope (iG X x ix) C s H fp) tg (Ho x.length own))(hi:PI X tg iter wi)
  (ht:∀ C s H fp,MN (blk X scope (iG X x ix) C s H fp) ifs tt) (he:∀ C s H fp,PE (blk X scope (iG X x ix) C s H fp) elt te)
  (hsw:swapsWith (.ListComp elt [⟨tg,iter,ifs,0⟩] scope pos) (Dn (.Name y py)) spos.line X.env=pure true:=by rfl)
  (hf:X.fn y=true\/X.env.scope.names.lookup y=Dn .local:=by first | exact .inl rfl | exact .inr rfl | assumption)
  (hs:∀ v,Jp iter X.env v=pure v:=by intro _;rfl):PS X (.Assign [.Name y py] (.ListComp elt [⟨tg,iter,ifs,0⟩] scope pos) spos) (Ox (tLC x.length own ix wi tt te) (Cu i)):=by
 intro pins s Z H D I h;rw [exec_Assign_Name_used _ _ _ _ hsw];refine Yg<|wpAny_standAt<|Yg ?_
 show Y7 _ X.A (do let _ <-comprehension (.ListComp elt [⟨tg,iter,ifs,0⟩] scope pos) scope X.env _ (newList []) false (eval iter X.env) (Dn (assign (.Name y py) X.env))) _ _ s;refine Yg<|ZW (wpAny_comprehension_free (use:=Dn (assign (.Name y py) X.env)) (Q:=fun _ s'=>SP X pins D .next s') rfl hs (Bx<|rP I B) B.kind (fun y hy hk=>by rw [B.names y hy,hk]) ?_) (fun _ s' hq=>Yx<|Yx hq) fun _ _ e=>e
 refine X6 (hi pins s Z H _ I h) fun v s1 h1=>X6 h1 fun itv s2 h2=>?_;obtain ⟨it,fp,tn,J,H2,e,I2,T,st2,f2,hq⟩:=h2;subst e;refine Bg (RR:=fun acc C=>compPost (Zk X.prog X.w) X.A X.xe (Dn<|assign (.Name y py) X.env) (fun _ s'=>SP X pins D .next s') acc C) (fun _=>hc) B hg ht he I2 T st2 f2 hq fun D' C s' Z' H' p' hC I' q'=>?_;obtain ⟨m,hn,_⟩:=I'.loc;have I3:Go X pins Z H' s':=CG (h':=s'.heap) I2 hC f2 I' (.refl ..);show Y7 _ X.A (assign (.Name y py) X.env (.ref D')) _ _ s';have cneC:∀ z c,X.env.cells.lookup z=Dn c->c≠C:=fun z c e q=>by
  obtain ⟨v,w⟩:=I2.cell z c e;exact absurd (Yl w.lt (by rw [q];exact hC))<|ZP _
 have lneC:X.env.locals≠C:=Yv (Yl I2.lt hC);refine wpAny_assign_Name<|uP (v:=.ref D') I3 hN hi' hy rfl (fun s'' I'' hsb=>?_) hf
 obtain ⟨a,hsb,ha⟩:=hsb;have haC:C≠a:=by
  rcases ha with rfl | ha
  ·exact Bk lneC
  ·exact Bk<|cneC _ _ ha
 refine ⟨m,hn.sameBut hsb haC,fun h' hs'=>⟨_,H',?_,q'⟩⟩;refine I''.turned (it:=C) (t':=s''.toks) (fun b o hb e=>(hs'.2 b hb).trans e) I'.free (Bk lneC) (.inr<|YS I2.sz hC) cneC<|fun p hp z=>?_
 exact absurd (Yl (Yt (I2.pin p hp).1) (by rw [z];exact hC))<|ZP _
end
def Sm (n:Nat)(i:Int):Prop:=i.natAbs<2^n
theorem Sm.bits {n:Nat}{i:Int}(h:Sm n i):Builtin.Int.intBits i<=n:=by
 unfold Builtin.Int.intBits;by_cases e:i=0
 ·subst e;exact J8 _
 ·have e':(i==0)=false:=beq_eq_false_iff_ne.mpr e;rw [e'];have h0:i.natAbs≠0:=by lia
  have:=(Nat.log2_lt h0).mpr h
  simp only [KN,if_false];lia
theorem Sm.mono {m n:Nat}{i:Int}(h:Sm m i)(hmn:m<=n):Sm n i:=Yl h (Nat.pow_le_pow_right (by decide) hmn)
theorem Sm.mul {m n:Nat}{i j:Int}(h:Sm m i)(h':Sm n j):Sm (m+n) (i*j):=by
 unfold Sm at *;rw [Int.natAbs_mul,Nat.pow_add];by_cases e:j.natAbs=0
 ·rw [e,Nat.mul_zero];exact Nat.mul_pos (Nat.pow_pos<|by decide)<|Nat.pow_pos<|by decide
 ·exact Yl (Nat.mul_lt_mul_of_pos_right h<|Nat.pos_of_ne_zero e)<|Nat.mul_le_mul_left _<|Je h'
theorem Sm.add {m n:Nat}{i j:Int}(h:Sm m i)(h':Sm n j):Sm (max m n+1) (i+j):=by
 have h1:=h.mono (Nat.le_max_left m n);have h2:=h'.mono (Nat.le_max_right m n);unfold Sm at *;rw [Nat.pow_succ];lia
theorem Sm.neg {n:Nat}{i:Int}(h:Sm n i):Sm n (-i):=by unfold Sm at *;rw [Int.natAbs_neg];exact h
theorem Sm.sub {m n:Nat}{i j:Int}(h:Sm m i)(h':Sm n j):Sm (max m n+1) (i - j):=by
 rw [Int.sub_eq_add_neg];exact h.add h'.neg
theorem Sm.zero {n:Nat}:Sm n 0:=Nat.pow_pos (by decide)
theorem Lg {n:Nat}{i:Int}(h1:-(2^n:Int)<i)(h2:i<(2^n:Int)):Sm n i:=by
 unfold Sm;have e:((2^n:Nat):Int)=(2:Int)^n:=by simp
 lia
def sV (i j:Int):Prop:=∃ m n,m<=1000000/\n<=1000000/\Sm m i/\Sm n j
theorem sV.ok {i j:Int}(h:sV i j):IntMulOk i j:=by
 obtain ⟨m,n,hm,hn,h1,h2⟩:=h;have e:(2:Nat)^20=1048576:=by decide
 exact .of_bits (by have:=h1.bits;lia) (by have:=h2.bits;lia)
def GF (_ j:Int):Prop:=j≠0/\∃ n,n<=8000/\Sm n j
theorem aak {n:Nat}{j:Int}(hn:n<=8000)(h:Sm n j):j.natAbs.log2<9000:=by
 by_cases e:j.natAbs=0
 ·rw [e];decide
 ·have:=(Nat.log2_lt e).mpr h
  lia
section
variable {X:Cx}
theorem abm:Ay X (Cq .Mult) (rI sV fun i j=>.int (i*j)):=opI fun _ _ _ _ _ _ _ hc q=>mul_int q hc.ok
theorem zO:Ay X (Cq .FloorDiv) (rI GF fun i j=>.int (i.fdiv j)):=opI fun i j _ _ _ _ _ hc q=>by
 obtain ⟨h1,n,hn,h2⟩:=hc;exact floordiv_int h1 q<|.inl<|PyProof.noPylong_of_log2<|aak hn h2
theorem ou:∀ {bs:List Bool} {its:List Ye} {i:Nat} {v:Ye},VL (bs.map V.bl) its->its[i]?=Dn v->∃ b,bs[i]?=Dn b/\v=.bool b
 | [],_,_,_,.nil,e=>by simp at e
 | b::bs,_,0,_,.cons r _,e=>by simp at e;subst e;exact ⟨b,rfl,r⟩
 | _::bs,_,i+1,v,.cons _ t,e=>by
  obtain ⟨b,h1,h2⟩:=ou (i:=i) (v:=v) t (by simpa using e);exact ⟨b,by simpa using h1,h2⟩
theorem yR:∀ (bs:List Bool),((ZX bs.length).all fun i=>(bs[i]?).getD true)=bs.all id:=fun bs=>by
 rw [Jw,Zf,Zf];constructor
 ·intro h b hb;obtain ⟨i,hi,rfl⟩:=List.mem_iff_getElem.mp hb;have:=h i (Ju.mpr hi)
  simpa [hi] using this
 ·intro h i hi;have hi':=Ju.mp hi;have:=h bs[i] (J4 hi')
  simpa [hi'] using this
theorem zaK (hc:X.calm=true):jh X (.builtin "all") (fun xs H Q=>∃ (p:Addr) (bs:List Bool),xs=[.ref p]/\XS X.K H p (bs.map V.bl)/\Q (.bl (bs.all id)) H):=by
 intro pins s Z H xs us Q I r h;obtain ⟨p,bs,rfl,hS,q⟩:=h;obtain ⟨u,rfl,ru⟩:=vals1 r;cases ru;obtain ⟨its,rv,pl,hz⟩:=I.list hS;have hlen:its.length=bs.length:=by rw [<-rv.length,Yd]
 have hl:=pl.isList;have hlt:p<s.heap.objs.size:=by obtain ⟨_,e,_⟩:=hl;exact Yt e
 refine call_all_walk<|Kc hl ?_
 refine ⟨s.heap.objs.size,[s.heap.objs.size,p],[s.heap.objs.size],its.toArray.size,_,_,fun i=>(bs[i]?).getD true,rfl,Walks.list (A:=X.A.in1) (I.ok.hd hc) _ p (Yv hlt) its.toArray,
  ⟨⟨_,YC _ rfl,rfl,rfl⟩,hl.push _⟩,fun i v s' Q' E' hP hQ=>?_,fun h' tk hk=>?_⟩
 ·obtain ⟨b,e,rfl⟩:=ou rv (by simpa using hP);simp only [e,KH] at hQ;exact K5 hQ
 ·have e:((ZX its.toArray.size).all fun i=>(bs[i]?).getD true)=bs.all id:=by
   rw [Yr,hlen];exact yR bs
  rw [e];refine ⟨.bl<|bs.all id,H,I.kept (h':=h') (t':=tk)<|fun b x e=>?_,rfl,q⟩;exact hk b x (fun hm=>by rw [Y0.mp hm] at e;exact ZP _ (Yt e))<|Yh _ e
def Wi (K:Yc)(H:Hp):V->String->Bool->Prop
 | .int _,T,b=>(T = "int"/\b=true)\/(T = "bool"/\b=false)\/(T = "tuple"/\b=false)\/(T = "list"/\b=false)
 | .bl _,T,b=>(T = "int"/\b=true)\/(T = "bool"/\b=true)\/(T = "tuple"/\b=false)\/(T = "list"/\b=false)
 | .str _,T,b=>(T = "int"/\b=false)\/(T = "bool"/\b=false)\/(T = "tuple"/\b=false)\/(T = "list"/\b=false)
 | .non,T,b=>(T = "int"/\b=false)\/(T = "bool"/\b=false)\/(T = "tuple"/\b=false)\/(T = "list"/\b=false)
 | .ref p,T,b=>(∃ xs,Ac K H p xs/\((T = "int"/\b=false)\/(T = "bool"/\b=false)\/(T = "tuple"/\b=true)\/(T = "list"/\b=false))) \/
   (∃ xs,XS K H p xs/\((T = "int"/\b=false)\/(T = "bool"/\b=false)\/(T = "tuple"/\b=false)\/(T = "list"/\b=true)))
 | _,_,_=>False
theorem abU:jh X (.builtin "isinstance") (fun xs H Q=>∃ x T b,xs=[x,.ty T]/\Wi X.K H x T b/\Q (.bl b) H):=by
 intro pins s Z H xs us Q I r h;obtain ⟨x,T,b,rfl,hi,q⟩:=h;obtain ⟨u,w',rfl,rx,ru⟩:=vals2 r;cases ru;have k0:EP X pins Z Q (.bool b) s:=⟨.bl b,H,I,rfl,q⟩
 have k1:EP X pins Z Q (.bool b) { s with toks:=s.toks+1 }:=⟨.bl b,H,I.tok _,rfl,q⟩
 cases x with
 | int i=>
  obtain ⟨t,rfl⟩:=rx;rcases hi with ⟨rfl,rfl⟩ | ⟨rfl,rfl⟩ | ⟨rfl,rfl⟩ | ⟨rfl,rfl⟩
  ·exact IsiPair.int_int k0
  ·exact IsiPair.int_bool k1
  ·exact IsiPair.int_tuple k1
  ·exact IsiPair.int_list k1
 | bl i=>
  cases rx;rcases hi with ⟨rfl,rfl⟩ | ⟨rfl,rfl⟩ | ⟨rfl,rfl⟩ | ⟨rfl,rfl⟩
  ·first | exact IsiPair.bool_int k0 | exact IsiPair.bool_int k1
  ·first | exact IsiPair.bool_bool k0 | exact IsiPair.bool_bool k1
  ·exact IsiPair.bool_tuple k1
  ·exact IsiPair.bool_list k1
 | str i=>
  obtain ⟨t,rfl⟩:=rx;rcases hi with ⟨rfl,rfl⟩ | ⟨rfl,rfl⟩ | ⟨rfl,rfl⟩ | ⟨rfl,rfl⟩
  ·exact IsiPair.str_int k1
  ·exact IsiPair.str_bool k1
  ·exact IsiPair.str_tuple k1
  ·exact IsiPair.str_list k1
 | non=>
  cases rx;rcases hi with ⟨rfl,rfl⟩ | ⟨rfl,rfl⟩ | ⟨rfl,rfl⟩ | ⟨rfl,rfl⟩
  ·exact IsiPair.NoneType_int k1
  ·exact IsiPair.NoneType_bool k1
  ·exact IsiPair.NoneType_tuple k1
  ·exact IsiPair.NoneType_list k1
 | ref p=>
  cases rx;rcases hi with ⟨xs,hS,hi⟩ | ⟨xs,hS,hi⟩
  ·obtain ⟨its,_,⟨o,e,c,_⟩,_⟩:=I.tuple hS;rcases hi with ⟨rfl,rfl⟩ | ⟨rfl,rfl⟩ | ⟨rfl,rfl⟩ | ⟨rfl,rfl⟩
   ·exact IsiPair.tuple_int e c k1
   ·exact IsiPair.tuple_bool e c k1
   ·exact IsiPair.tuple_tuple e c k0
   ·exact IsiPair.tuple_list e c k1
  ·obtain ⟨its,_,pl,_⟩:=I.list hS;obtain ⟨o,e,c,_⟩:=pl.isList;rcases hi with ⟨rfl,rfl⟩ | ⟨rfl,rfl⟩ | ⟨rfl,rfl⟩ | ⟨rfl,rfl⟩
   ·exact IsiPair.list_int e c k1
   ·exact IsiPair.list_bool e c k1
   ·exact IsiPair.list_tuple e c k1
   ·exact IsiPair.list_list e c k0
 | _=>exact (show False from hi).elim
end
inductive W where
 | non | bl (b:Bool) | int (i:Int) | str (x:Str) | ty (n:String) | tup (ws:List W) | lst (ws:List W) | loc (n:Nat) | kls (ws:List W) | exc (n:Str)
 | exa (n:Str) (ws:List W)
 | fnv (f:Addr) (i:Nat)
inductive Cell where
 | lst (ws:List W) | obj (C:Addr) (fs:List (Str×W)) | dct (kvs:List (Key×W))
 | dtt (kvs:List (List Int×W))
structure Gh where
 nx:Nat
 c:Nat->Option Cell
structure Mu where
 f:Nat->Option Addr
 hid:Addr->Prop
def Xz (K:Yc)(p:Addr)(xs:List V):Prop:=
 ∃ (o:Obj) (its:Array Ye) (n:Nat),K.lookup p=Dn o/\o.cls=.type "list"/\o.dict=FN/\o.data=.seq its n/\its.size<=YQ/\VL xs its.toList
def Frz (H:Hp)(U : Mu)(p:Addr)(xs:List V):Prop:=H p=Dn (.lst xs)/\(∀ n,U.f n≠Dn p)/\¬ U.hid p
def Frk (K:Yc)(H:Hp)(p:Addr)(xs:List V):Prop:=(∃ o,H p=Dn (.frz o (.lst xs)))\/Xz K p xs
theorem Frz.sq {K:Yc}{H:Hp}{U : Mu}{p:Addr}{xs:List V}(h:Frz H U p xs):XS K H p xs:=.inl (.inl h.1)
theorem Frk.sq {K:Yc}{H:Hp}{p:Addr}{xs:List V}(h:Frk K H p xs):XS K H p xs:=by
 rcases h with h | h
 ·exact .inl<|.inr h
 ·exact .inr h
def vmB:List Ye:=[.type "ValueError",.type "Exception",.type "BaseException",.type "object"]
def WD (K:Yc)(C:Addr)(n:Str):Bool:=Zg K Ys n==Dn (Dn (.ref C))&&PySem.W.typeIn K (.ref C)==Dn (.type "type")&&match PySem.W.clsIn K C with
 | some cd=>cd.name==n&&cd.mro.contains (.type "BaseException")
 | none=>false
def Vj (K:Yc)(C:Addr)(n:Str):Bool:=WD K C n&&(match PySem.W.clsIn K C with
 | some cd=>(match cd.mro with
  | [.ref C',.ref R,a,b,c,d]=>C'==C&&[a,b,c,d]==vmB&&Zg K Ys "EaselError"==Dn (Dn (.ref R))&&(PySem.W.clsIn K R).any (fun c=>c.name==("EaselError" : Str))
  | _=>false)
 | none=>false)&&J1 K (.ref C) "__getattribute__"==Dn (Dn (.builtin "BaseException.__getattribute__"))&&J1 K (.ref C) "__getattr__"==Dn FN&&J1 K (.ref C) "__class__"==Dn (Dn (.builtin "object.__class__"))&&PySem.W.specialIn K (.builtin "object.__class__") "__get__"==Dn (Dn (.builtin "getset_descriptor.__get__"))
 && PySem.W.takesIn K (.builtin "object.__class__")==Dn true
def V9 (n:Str):List Str:=if n = "Apart" then ["word", "places"] else ["at"]
def XM (K:Yc)(C:Addr)(n:Str):Bool:=Vj K C n&&PySem.W.hasDictIn K C&&(V9 n).all fun f=>J1 K (.ref C) f==Dn FN
def Xoa (K:Yc)(o:Obj)(n:Str)(dd:Addr):Prop:=∃ C,o.cls=.ref C/\o.dict=Dn dd/\PySem.W.notCls o=true/\XM K C n=true
def Xob (K:Yc)(o:Obj)(n:Str):Prop:=∃ C,o.cls=.ref C/\o.dict=FN/\PySem.W.notCls o=true/\Vj K C n=true
mutual
def FX (K:Yc)(H:Hp)(U : Mu):W->V->Prop
 | .non,v=>v=.non
 | .bl b,v=>v=.bl b
 | .int i,v=>v=.int i
 | .str x,v=>v=.str x
 | .ty n,v=>v=.ty n
 | .tup ws,v=>∃ p xs,v=.ref p/\Ac K H p xs/\aP K H U ws xs
 | .lst ws,v=>∃ p xs,v=.ref p/\Frz H U p xs/\aP K H U ws xs
 | .kls ws,v=>∃ p xs,v=.ref p/\Frk K H p xs/\aP K H U ws xs
 | .loc n,v=>∃ p,v=.ref p/\U.f n=Dn p
 | .exc n,v=>∃ p o u,v=.ref p/\H p=Dn (.frz o u)/\Xob K o n
 | .exa n ws,v=>∃ p o u dd ns xs,v=.ref p/\H p=Dn (.frz o u)/\Xoa K o n dd/\H dd=Dn (.xd (List.zip ns xs))/\ns=V9 n/\ns.length=xs.length/\aP K H U ws xs
 | .fnv f _,v=>v=.ref f
def aP (K:Yc)(H:Hp)(U : Mu):List W->List V->Prop
 | [],xs=>xs=[]
 | w::ws,xs=>∃ v vs,xs=v::vs/\FX K H U w v/\aP K H U ws vs
end
section
variable {K:Yc}{H H' H1 H2:Hp}{U U' U1 U2:Mu}{h h':Gh}{w:W}{ws:List W}{v:V}{xs:List V}
theorem aP.len:∀ {ws:List W} {xs:List V},aP K H U ws xs->ws.length=xs.length
 | [],xs,h=>by
  have e:xs=[]:=by rw [aP] at h;exact h
  rw [e];rfl
 | w::ws,xs,h=>by
  rw [aP] at h;obtain ⟨v,vs,e,_,h⟩:=h;rw [e,YB,YB,aP.len h]
theorem aP.get:∀ {ws:List W} {xs:List V} {i:Nat} {w:W},aP K H U ws xs->ws[i]?=Dn w->∃ v,xs[i]?=Dn v/\FX K H U w v
 | [],_,_,_,_,e=>by simp at e
 | a::ws,xs,0,w,h,e=>by
  rw [aP] at h;obtain ⟨v,vs,e1,r,_⟩:=h;simp at e;subst e;subst e1;exact ⟨v,rfl,r⟩
 | a::ws,xs,i+1,w,h,e=>by
  rw [aP] at h;obtain ⟨v,vs,e1,_,h⟩:=h;subst e1;obtain ⟨u,h1,h2⟩:=aP.get (i:=i) (w:=w) h (by simpa using e);exact ⟨u,by simpa using h1,h2⟩
theorem aP.nil:aP K H U [] []:=by rw [aP]
theorem aP.cons (r:FX K H U w v)(h:aP K H U ws xs):aP K H U (w::ws) (v::xs):=by
 rw [aP];exact ⟨v,xs,rfl,r,h⟩
theorem aP.append:∀ {ws:List W} {xs:List V} {us:List W} {ys:List V},aP K H U ws xs->aP K H U us ys->aP K H U (ws++us) (xs++ys)
 | [],xs,us,ys,h,g=>by
  rw [aP] at h;subst h;exact g
 | w::ws,xs,us,ys,h,g=>by
  rw [aP] at h;obtain ⟨v,vs,e,r,h⟩:=h;subst e;exact aP.cons r<|aP.append h g
theorem aP.one (r:FX K H U w v):aP K H U [w] [v]:=aP.cons r aP.nil
theorem aP.set (r:FX K H U w v):∀ {ws:List W} {xs:List V} (i:Nat),aP K H U ws xs->aP K H U (ws.set i w) (xs.set i v)
 | [],xs,i,h=>by rw [aP] at h;subst h;exact aP.nil
 | a::ws,xs,0,h=>by
  rw [aP] at h;obtain ⟨u,vs,e,_,h⟩:=h;subst e;exact aP.cons r h
 | a::ws,xs,i+1,h=>by
  rw [aP] at h;obtain ⟨u,vs,e,q,h⟩:=h;subst e;exact aP.cons q<|aP.set r i h
theorem aP.take:∀ {ws:List W} {xs:List V} (n:Nat),aP K H U ws xs->aP K H U (ws.take n) (xs.take n)
 | _,_,0,_=>by simp only [List.take_zero];exact aP.nil
 | [],xs,n+1,h=>by rw [aP] at h;subst h;exact aP.nil
 | a::ws,xs,n+1,h=>by
  rw [aP] at h;obtain ⟨u,vs,e,q,h⟩:=h;subst e;exact aP.cons q<|aP.take n h
theorem aP.drop:∀ {ws:List W} {xs:List V} (n:Nat),aP K H U ws xs->aP K H U (ws.drop n) (xs.drop n)
 | _,_,0,h=>h
 | [],xs,n+1,h=>by rw [aP] at h;subst h;exact aP.nil
 | a::ws,xs,n+1,h=>by
  rw [aP] at h;obtain ⟨u,vs,e,q,h⟩:=h;subst e;exact aP.drop n h
structure Ex0 (K:Yc) (H:Hp) (U : Mu) (H':Hp) (U':Mu):Prop where
 t:∀ p xs,Ac K H p xs->Ac K H' p xs
 l:∀ p xs,Frz H U p xs->Frz H' U' p xs
 k:∀ p xs,Frk K H p xs->Frk K H' p xs
 m:∀ n p,U.f n=Dn p->U'.f n=Dn p
 x:∀ p o u,H p=Dn (.frz o u)->H' p=Dn (.frz o u)
 y:∀ p fs,H p=Dn (.xd fs)->H' p=Dn (.xd fs)
structure Ex (K:Yc) (H:Hp) (U : Mu) (H':Hp) (U':Mu):Prop extends Ex0 K H U H' U' where
 o:∀ p u,U.hid p->H p=Dn u->U'.hid p/\H' p=Dn u
mutual
theorem FX.ex (e:Ex0 K H U H' U'):∀ {w:W} {v:V},FX K H U w v->FX K H' U' w v
 | .non,_,h=>by rw [FX] at h |-;exact h
 | .bl _,_,h=>by rw [FX] at h |-;exact h
 | .int _,_,h=>by rw [FX] at h |-;exact h
 | .str _,_,h=>by rw [FX] at h |-;exact h
 | .ty _,_,h=>by rw [FX] at h |-;exact h
 | .tup ws,_,h=>by
  rw [FX] at h |-
  obtain ⟨p,xs,e1,hs,hr⟩:=h;exact ⟨p,xs,e1,e.t _ _ hs,aP.ex e hr⟩
 | .lst ws,_,h=>by
  rw [FX] at h |-
  obtain ⟨p,xs,e1,hs,hr⟩:=h;exact ⟨p,xs,e1,e.l _ _ hs,aP.ex e hr⟩
 | .kls ws,_,h=>by
  rw [FX] at h |-
  obtain ⟨p,xs,e1,hs,hr⟩:=h;exact ⟨p,xs,e1,e.k _ _ hs,aP.ex e hr⟩
 | .loc n,_,h=>by
  rw [FX] at h |-
  obtain ⟨p,e1,hm⟩:=h;exact ⟨p,e1,e.m _ _ hm⟩
 | .exc n,_,h=>by
  rw [FX] at h |-
  obtain ⟨p,o,u,e1,hm,hx⟩:=h;exact ⟨p,o,u,e1,e.x _ _ _ hm,hx⟩
 | .exa n ws,_,h=>by
  rw [FX] at h |-
  obtain ⟨p,o,u,dd,ns,xs,e1,hm,hx,hd,e2,e3,hr⟩:=h;exact ⟨p,o,u,dd,ns,xs,e1,e.x _ _ _ hm,hx,e.y _ _ hd,e2,e3,aP.ex e hr⟩
 | .fnv _ _,_,h=>by rw [FX] at h |-;exact h
theorem aP.ex (e:Ex0 K H U H' U'):∀ {ws:List W} {xs:List V},aP K H U ws xs->aP K H' U' ws xs
 | [],_,h=>by rw [aP] at h |-;exact h
 | w::ws,_,h=>by
  rw [aP] at h |-
  obtain ⟨v,vs,e1,r,h⟩:=h;exact ⟨v,vs,e1,FX.ex e r,aP.ex e h⟩
end
structure XQ (K:Yc) (H:Hp) (U : Mu) (H':Hp) (U':Mu):Prop where
 r:∀ w v,FX K H U w v->FX K H' U' w v
 o:∀ p u,U.hid p->H p=Dn u->U'.hid p/\H' p=Dn u
theorem XQ.refl:XQ K H U H U:=⟨fun _ _ h=>h,fun _ _ h g=>⟨h,g⟩⟩
theorem XQ.trans (a:XQ K H U H1 U1)(b:XQ K H1 U1 H2 U2):XQ K H U H2 U2:=
 ⟨fun w v h=>b.r w v (a.r w v h),fun p u h g=>let ⟨h1,g1⟩:=a.o p u h g;b.o p u h1 g1⟩
theorem Ex.ext (e:Ex K H U H' U'):XQ K H U H' U':=⟨fun _ _ h=>FX.ex e.toEx0 h,e.o⟩
theorem XQ.s (e:XQ K H U H' U'):∀ {ws:List W} {xs:List V},aP K H U ws xs->aP K H' U' ws xs
 | [],_,h=>by rw [aP] at h |-;exact h
 | w::ws,_,h=>by
  rw [aP] at h |-
  obtain ⟨v,vs,e1,r,h⟩:=h;exact ⟨v,vs,e1,e.r _ _ r,XQ.s e h⟩
def R9:Option HO->Prop
 | some (.lst _)=>True
 | some (.dK _)=>True
 | some (.ins _ _ _)=>True
 | some (.ext _)=>True
 | _=>False
def m6 {κ : Type}(K:Yc)(H:Hp)(U : Mu):List (κ×W)->List (κ×V)->Prop:=JD fun (p:κ×W) (q:κ×V)=>p.1=q.1/\FX K H U p.2 q.2
def Xr (x:List Int×Addr×Ye):DictEntry:=⟨reduceHash (Builtin.Tuple.tupleHashOf (x.1.map hashInt)),.ref x.2.1,x.2.2⟩
def Xo (a:Addr)(xs:List (List Int×Addr×Ye))(h:Heap):Prop:=xs.length<=YQ/\(a==Em)=false/\(xs.map (·.1)).Nodup/\∃ o es ep,h.get? a=Dn o/\o.ExactDict/\o.data=.dict es ep/\es.toList=xs.map Xr
def p8 (K:Yc)(H:Hp)(U : Mu)(p:Addr):Cell->Prop
 | .lst ws=>∃ xs,H p=Dn (.lst xs)/\aP K H U ws xs
 | .obj C fs=>∃ dx fvs,H p=Dn (.ins C dx fvs)/\m6 K H U fs fvs
 | .dct kvs=>∃ kvv,H p=Dn (.dK kvv)/\m6 K H U kvs kvv
 | .dtt kvs=>∃ xs vs,H p=Dn (.ext (Xo p xs))/\kvs.map (·.1)=xs.map (·.1)/\VL vs (xs.map (·.2.2))/\aP K H U (kvs.map fun x=>W.tup (x.1.map W.int)) (xs.map fun x=>V.ref x.2.1)/\aP K H U (kvs.map (·.2)) vs
structure Wo (K:Yc) (U : Mu) (H:Hp) (h:Gh):Prop where
 inj:∀ m n p,U.f m=Dn p->U.f n=Dn p->m=n
 dom:∀ n p,U.f n=Dn p->n<h.nx
 trk:∀ n p,U.f n=Dn p->R9 (H p)
 cel:∀ n c,h.c n=Dn c->∃ p,U.f n=Dn p/\p8 K H U p c
 hd:∀ p,U.hid p->(∃ xs,H p=Dn (.lst xs))/\∀ n,U.f n≠Dn p
theorem p8.ext {p:Addr}{c:Cell}(e:XQ K H U H' U')(hp:H' p=H p)(x:p8 K H U p c):p8 K H' U' p c:=by
 cases c with
 | lst ws=>obtain ⟨xs,a,b⟩:=x;exact ⟨xs,hp.trans a,e.s b⟩
 | obj C fs=>obtain ⟨dx,fvs,a,b⟩:=x;exact ⟨dx,fvs,hp.trans a,Paired.mapP b fun _ _ z=>⟨z.1,e.r _ _ z.2⟩⟩
 | dct kvs=>obtain ⟨kvv,a,b⟩:=x;exact ⟨kvv,hp.trans a,Paired.mapP b fun _ _ z=>⟨z.1,e.r _ _ z.2⟩⟩
 | dtt kvs=>obtain ⟨xs,vs,a,b,c,d,f⟩:=x;exact ⟨xs,vs,hp.trans a,b,c,e.s d,e.s f⟩
theorem Rd.laid {p q:Addr}{o u:HO}(hp:H p=FN)(r:Rd H q u):Rd (X5 H p o) q u:=by
 have ne:q≠p:=by
  rcases r with r | ⟨_,r⟩
  ·exact aW r hp
  ·exact aW r hp
 unfold Rd;rw [aR ne];exact r
theorem Ex.laid {p:Addr}{o:HO}(hp:H p=FN):Ex K H U (X5 H p o) U where
 t:=fun q xs h=>by
  rcases h with h | h
  ·exact .inl<|h.laid hp
  ·exact .inr h
 l:=fun q xs h=>⟨by rw [aR (aW h.1 hp)];exact h.1,h.2⟩
 k:=fun q xs h=>by
  rcases h with ⟨o',h⟩ | h
  ·exact .inl ⟨o',by rw [aR<|aW h hp];exact h⟩
  ·exact .inr h
 m:=fun _ _ h=>h
 x:=fun q o' u e=>by rw [aR (aW e hp)];exact e
 y:=fun q fs e=>by rw [aR (aW e hp)];exact e
 o:=fun q u z e=>⟨z,by rw [aR (aW e hp)];exact e⟩
theorem Wo.laid {p:Addr}{o:HO}(R:Wo K U H h)(hp:H p=FN):Wo K U (X5 H p o) h where
 inj:=R.inj
 dom:=R.dom
 trk:=fun n q e=>by
  have:=R.trk n q e
  have ne:q≠p:=fun z=>by subst z;rw [hp] at this;exact this
  rw [aR ne];exact this
 cel:=fun n c e=>by
  obtain ⟨q,e1,x⟩:=R.cel n c e;have:=R.trk n q e1
  have ne:q≠p:=fun z=>by subst z;rw [hp] at this;exact this
  exact ⟨q,e1,x.ext (Ex.laid hp).ext (aR ne)⟩
 hd:=fun q z=>by
  obtain ⟨⟨xs,e⟩,g⟩:=R.hd q z;exact ⟨⟨xs,by rw [aR<|aW e hp];exact e⟩,g⟩
theorem FX.tupNew {p:Addr}(hp:H p=FN)(r:aP K H U ws xs):FX K (X5 H p (.tup xs)) U (.tup ws) (.ref p):=by
 rw [FX];exact ⟨p,xs,rfl,Ac.of bR,(Ex.laid hp).ext.s r⟩
theorem FX.lstNew {p:Addr}(R:Wo K U H h)(hp:H p=FN)(r:aP K H U ws xs):FX K (X5 H p (.lst xs)) U (.lst ws) (.ref p):=by
 rw [FX];refine ⟨p,xs,rfl,⟨bR,fun n e=>?_,fun z=>?_⟩,(Ex.laid hp).ext.s r⟩
 ·have:=R.trk n p e
  rw [hp] at this;exact this
 ·obtain ⟨⟨xs,e⟩,_⟩:=R.hd p z;rw [hp] at e;cases e
def Mu.put (U : Mu)(n:Nat)(p:Addr):Mu:=⟨fun m=>if m=n then Dn p else U.f m,U.hid⟩
theorem Mu.put_same {n:Nat}{p:Addr}:(U.put n p).f n=Dn p:=by show (if n=n then Dn p else U.f n)=_;rw [if_pos rfl]
theorem Mu.put_ne {m n:Nat}{p:Addr}(e:m≠n):(U.put n p).f m = U.f m:=by show (if m=n then Dn p else U.f m)=_;rw [if_neg e]
def Gh.new (h:Gh)(c:Cell):Gh:=⟨h.nx+1,fun m=>if m=h.nx then Dn c else h.c m⟩
def Gh.set (h:Gh)(n:Nat)(c:Cell):Gh:=⟨h.nx,fun m=>if m=n then Dn c else h.c m⟩
theorem Wo.dead (R:Wo K U H h){n:Nat}(hn:h.nx<=n):U.f n=FN:=by
 cases e:U.f n with
 | none=>rfl
 | some p=>exact absurd (R.dom n p e) (by lia)
theorem Ex.newCell {p:Addr}{o:HO}(R:Wo K U H h)(hp:H p=FN):Ex K H U (X5 H p o) (U.put h.nx p) where
 t:=fun q xs z=>(Ex.laid (U:=U) hp).t q xs z
 l:=fun q xs z=>by
  have nq:=aW z.1 hp;refine ⟨by rw [aR nq];exact z.1,fun n e=>?_,z.2.2⟩;by_cases hn:n=h.nx
  ·subst hn;rw [Mu.put_same] at e;exact nq (Yp e).symm
  ·rw [Mu.put_ne hn] at e;exact z.2.1 n e
 k:=fun q xs z=>(Ex.laid (U:=U) hp).k q xs z
 m:=fun n q e=>by
  have hn:n≠h.nx:=fun z=>by subst z;rw [R.dead (Ym _)] at e;cases e
  rw [Mu.put_ne hn];exact e
 x:=fun q o' u e=>by rw [aR (aW e hp)];exact e
 y:=fun q fs e=>by rw [aR (aW e hp)];exact e
 o:=fun q u z e=>⟨z,by rw [aR (aW e hp)];exact e⟩
theorem Wo.newCell {p:Addr}{o:HO}{c:Cell}(R:Wo K U H h)(hp:H p=FN)(mo:R9 (Dn o))(ck:p8 K (X5 H p o) (U.put h.nx p) p c):Wo K (U.put h.nx p) (X5 H p o) (h.new c) where
 inj:=fun m n q em en=>by
  by_cases hm:m=h.nx
  ·by_cases hn:n=h.nx
   ·rw [hm,hn]
   ·rw [hm,Mu.put_same] at em;rw [Mu.put_ne hn] at en;have e:p=q:=Yp em;subst e;have:=R.trk n _ en
    rw [hp] at this;exact this.elim
  ·rw [Mu.put_ne hm] at em;by_cases hn:n=h.nx
   ·rw [hn,Mu.put_same] at en;have e:p=q:=Yp en;subst e;have:=R.trk m _ em
    rw [hp] at this;exact this.elim
   ·rw [Mu.put_ne hn] at en;exact R.inj m n q em en
 dom:=fun n q e=>by
  show n<h.nx+1;by_cases hn:n=h.nx
  ·lia
  ·rw [Mu.put_ne hn] at e;have:=R.dom n q e
   lia
 trk:=fun n q e=>by
  by_cases hn:n=h.nx
  ·rw [hn,Mu.put_same] at e;have e:p=q:=Yp e;subst e;rw [bR];exact mo
  ·rw [Mu.put_ne hn] at e;have:=R.trk n q e
   have ne:q≠p:=fun z=>by subst z;rw [hp] at this;exact this
   rw [aR ne];exact this
 cel:=fun n d e=>by
  have e:(if n=h.nx then Dn c else h.c n)=Dn d:=e;by_cases hn:n=h.nx
  ·rw [if_pos hn] at e;have e:c=d:=Yp e;subst e;exact ⟨p,by rw [hn,Mu.put_same],ck⟩
  ·rw [if_neg hn] at e;obtain ⟨q,e1,x⟩:=R.cel n d e;have:=R.trk n q e1
   have ne:q≠p:=fun z=>by subst z;rw [hp] at this;exact this
   exact ⟨q,by rw [Mu.put_ne hn];exact e1,x.ext (Ex.newCell R hp).ext (aR ne)⟩
 hd:=fun q z=>by
  obtain ⟨⟨xs,e⟩,g⟩:=R.hd q z;have ne:=aW e hp;refine ⟨⟨xs,by rw [aR ne];exact e⟩,fun n en=>?_⟩;by_cases hn:n=h.nx
  ·rw [hn,Mu.put_same] at en;exact ne (Yp en).symm
  ·rw [Mu.put_ne hn] at en;exact g n en
theorem Rd.kept {p q:Addr}{o u:HO}(mo:R9 (H p))(r:Rd H q u)(hn:q≠p):Rd (X5 H p o) q u:=by
 unfold Rd;rw [aR hn];exact r
theorem Ex.write {n:Nat}{p:Addr}{o:HO}(R:Wo K U H h)(hn:U.f n=Dn p):Ex K H U (X5 H p o) U where
 t:=fun q xs z=>by
  rcases z with z | z
  ·refine .inl<|z.kept (R.trk n p hn) fun e=>?_
   subst e;have:=R.trk n q hn
   rcases z with r | ⟨_,r⟩ <;> rw [r] at this <;> exact this
  ·exact .inr z
 l:=fun q xs z=>⟨by rw [aR (fun e=>z.2.1 n (by rw [e];exact hn))];exact z.1,z.2⟩
 k:=fun q xs z=>by
  rcases z with ⟨o',z⟩ | z
  ·refine .inl ⟨o',?_⟩;rw [aR (fun e=>?_)]
   ·exact z
   ·subst e;have:=R.trk n q hn
    rw [z] at this;exact this
  ·exact .inr z
 m:=fun _ _ e=>e
 x:=fun q o' u e=>by
  rw [aR (fun y=>?_)]
  ·exact e
  ·subst y;have:=R.trk n q hn
   rw [e] at this;exact this
 y:=fun q fs e=>by
  rw [aR (fun y=>?_)]
  ·exact e
  ·subst y;have:=R.trk n q hn
   rw [e] at this;exact this
 o:=fun q u z e=>⟨z,by rw [aR (fun y=>(R.hd q z).2 n (by rw [y];exact hn))];exact e⟩
theorem Wo.write {n:Nat}{p:Addr}{o:HO}{c:Cell}(R:Wo K U H h)(hn:U.f n=Dn p)(mo:R9 (Dn o))(ck:p8 K (X5 H p o) U p c):Wo K U (X5 H p o) (h.set n c) where
 inj:=R.inj
 dom:=R.dom
 trk:=fun m q e=>by
  by_cases z:q=p
  ·subst z;rw [bR];exact mo
  ·rw [aR z];exact R.trk m q e
 cel:=fun m d e=>by
  have e:(if m=n then Dn c else h.c m)=Dn d:=e;by_cases hm:m=n
  ·rw [if_pos hm] at e;have e:c=d:=Yp e;subst e;exact ⟨p,by rw [hm];exact hn,ck⟩
  ·rw [if_neg hm] at e;obtain ⟨q,e1,x⟩:=R.cel m d e;have ne:q≠p:=fun z=>by subst z;exact hm (R.inj m n q e1 hn)
   exact ⟨q,e1,x.ext (Ex.write R hn).ext (aR ne)⟩
 hd:=fun q z=>by
  obtain ⟨⟨xs,e⟩,g⟩:=R.hd q z;exact ⟨⟨xs,by rw [aR<|fun y=>g n (by rw [y];exact hn)];exact e⟩,g⟩
mutual
def Lo (k:Nat):W->Prop
 | .tup ws=>FJ k ws
 | .lst ws=>FJ k ws
 | .kls ws=>FJ k ws
 | .exa _ ws=>FJ k ws
 | .loc n=>n<k
 | _=>True
def FJ (k:Nat):List W->Prop
 | []=>True
 | w::ws=>Lo k w/\FJ k ws
end
mutual
theorem FX.lo {k:Nat}(hd:∀ n p,U.f n=Dn p->n<k):∀ {w:W} {v:V},FX K H U w v->Lo k w
 | .non,_,_=>by rw [Lo] <;> first | trivial | (intros;contradiction)
 | .bl _,_,_=>by rw [Lo] <;> first | trivial | (intros;contradiction)
 | .int _,_,_=>by rw [Lo] <;> first | trivial | (intros;contradiction)
 | .str _,_,_=>by rw [Lo] <;> first | trivial | (intros;contradiction)
 | .ty _,_,_=>by rw [Lo] <;> first | trivial | (intros;contradiction)
 | .exc _,_,_=>by rw [Lo] <;> first | trivial | (intros;contradiction)
 | .fnv _ _,_,_=>by rw [Lo] <;> first | trivial | (intros;contradiction)
 | .exa _ ws,_,h=>by
  rw [FX] at h;obtain ⟨_,_,_,_,_,_,_,_,_,_,_,_,hr⟩:=h;rw [Lo];exact aP.lo hd hr
 | .tup ws,_,h=>by
  rw [FX] at h;obtain ⟨p,xs,_,_,hr⟩:=h;rw [Lo];exact aP.lo hd hr
 | .lst ws,_,h=>by
  rw [FX] at h;obtain ⟨p,xs,_,_,hr⟩:=h;rw [Lo];exact aP.lo hd hr
 | .kls ws,_,h=>by
  rw [FX] at h;obtain ⟨p,xs,_,_,hr⟩:=h;rw [Lo];exact aP.lo hd hr
 | .loc n,_,h=>by
  rw [FX] at h;obtain ⟨p,_,hm⟩:=h;rw [Lo];exact hd n p hm
theorem aP.lo {k:Nat}(hd:∀ n p,U.f n=Dn p->n<k):∀ {ws:List W} {xs:List V},aP K H U ws xs->FJ k ws
 | [],_,_=>by rw [FJ];trivial
 | w::ws,_,h=>by
  rw [aP] at h;obtain ⟨v,vs,_,r,h⟩:=h;rw [FJ];exact ⟨FX.lo hd r,aP.lo hd h⟩
end
def Mu.cut (U : Mu)(k:Nat):Mu:=⟨fun n=>if n<k then U.f n else FN,U.hid⟩
theorem Mu.cut_some {k n:Nat}{p:Addr}(e:(U.cut k).f n=Dn p):n<k/\U.f n=Dn p:=by
 have e:(if n<k then U.f n else FN)=Dn p:=e;by_cases hn:n<k
 ·rw [if_pos hn] at e;exact ⟨hn,e⟩
 ·rw [if_neg hn] at e;cases e
mutual
theorem FX.cut {k:Nat}:∀ {w:W} {v:V},FX K H U w v->Lo k w->FX K H (U.cut k) w v
 | .non,_,h,_=>by rw [FX] at h |-;exact h
 | .bl _,_,h,_=>by rw [FX] at h |-;exact h
 | .int _,_,h,_=>by rw [FX] at h |-;exact h
 | .str _,_,h,_=>by rw [FX] at h |-;exact h
 | .ty _,_,h,_=>by rw [FX] at h |-;exact h
 | .exc _,_,h,_=>by rw [FX] at h |-;exact h
 | .fnv _ _,_,h,_=>by rw [FX] at h |-;exact h
 | .exa _ ws,_,h,l=>by
  rw [FX] at h |-
  rw [Lo] at l;obtain ⟨p,o,u,dd,ns,xs,e1,hm,hx,hd,e2,e3,hr⟩:=h;exact ⟨p,o,u,dd,ns,xs,e1,hm,hx,hd,e2,e3,aP.cut hr l⟩
 | .tup ws,_,h,l=>by
  rw [FX] at h |-
  rw [Lo] at l;obtain ⟨p,xs,e1,hs,hr⟩:=h;exact ⟨p,xs,e1,hs,aP.cut hr l⟩
 | .lst ws,_,h,l=>by
  rw [FX] at h |-
  rw [Lo] at l;obtain ⟨p,xs,e1,hs,hr⟩:=h;exact ⟨p,xs,e1,⟨hs.1,fun n e=>hs.2.1 n (Mu.cut_some e).2,hs.2.2⟩,aP.cut hr l⟩
 | .kls ws,_,h,l=>by
  rw [FX] at h |-
  rw [Lo] at l;obtain ⟨p,xs,e1,hs,hr⟩:=h;exact ⟨p,xs,e1,hs,aP.cut hr l⟩
 | .loc n,_,h,l=>by
  rw [FX] at h |-
  rw [Lo] at l;obtain ⟨p,e1,hm⟩:=h;refine ⟨p,e1,?_⟩;show (if n<k then U.f n else FN)=Dn p;rw [if_pos l];exact hm
theorem aP.cut {k:Nat}:∀ {ws:List W} {xs:List V},aP K H U ws xs->FJ k ws->aP K H (U.cut k) ws xs
 | [],_,h,_=>by rw [aP] at h |-;exact h
 | w::ws,_,h,l=>by
  rw [aP] at h |-
  rw [FJ] at l;obtain ⟨v,vs,e1,r,h⟩:=h;exact ⟨v,vs,e1,FX.cut r l.1,aP.cut h l.2⟩
end
end
section
variable {K:Yc}{H H' H1 H2:Hp}{U U' U1 U2:Mu}{h h':Gh}{w:W}{ws:List W}{v:V}{xs ys:List V}{p:Addr}
def Mu.hide (U : Mu)(p:Addr):Mu:=⟨U.f,fun q=>q=p\/U.hid q⟩
def Mu.unhide (U : Mu)(p:Addr):Mu:=⟨U.f,fun q=>q≠p/\U.hid q⟩
structure Di (p:Addr) (K:Yc) (H:Hp) (U : Mu) (H':Hp) (U':Mu):Prop where
 r:∀ w v,FX K H U w v->FX K H' U' w v
 o:∀ q u,q≠p->U.hid q->H q=Dn u->U'.hid q/\H' q=Dn u
theorem XQ.x (a:XQ K H U H1 U1)(hp:¬ U.hid p)(b:Di p K H1 U1 H2 U2):XQ K H U H2 U2:=
 ⟨fun w v z=>b.r w v (a.r w v z),fun q u z e=>let ⟨z1,e1⟩:=a.o q u z e;b.o q u (fun y=>hp (by rw [<-y];exact z)) z1 e1⟩
theorem XQ.hide {o:HO}(hp:H p=FN):XQ K H U (X5 H p o) (U.hide p):=Ex.ext {
 t:=fun q xs z=>(Ex.laid (U:=U) hp).t q xs z
 l:=fun q xs z=>by
  have nq:=aW z.1 hp;refine ⟨by rw [aR nq];exact z.1,z.2.1,fun y=>?_⟩;rcases y with y | y
  ·exact nq y
  ·exact z.2.2 y
 k:=fun q xs z=>(Ex.laid (U:=U) hp).k q xs z
 m:=fun _ _ e=>e
 x:=fun q o' u e=>by rw [aR (aW e hp)];exact e
 y:=fun q fs e=>by rw [aR (aW e hp)];exact e
 o:=fun q u z e=>⟨.inr z,by rw [aR (aW e hp)];exact e⟩ }
theorem Wo.nohid (R:Wo K U H h)(hp:H p=FN):¬ U.hid p:=fun z=>by
 obtain ⟨⟨xs,e⟩,_⟩:=R.hd p z;rw [hp] at e;cases e
theorem Wo.hide (R:Wo K U H h)(hp:H p=FN):Wo K (U.hide p) (X5 H p (.lst xs)) h where
 inj:=R.inj
 dom:=R.dom
 trk:=(R.laid hp).trk
 cel:=fun n c e=>by
  obtain ⟨q,e1,x⟩:=R.cel n c e;have:=R.trk n q e1
  have ne:q≠p:=fun z=>by subst z;rw [hp] at this;exact this
  exact ⟨q,e1,x.ext (XQ.hide hp)<|aR ne⟩
 hd:=fun q z=>by
  rcases z with z | z
  ·subst z;refine ⟨⟨xs,bR⟩,fun n e=>?_⟩;have:=R.trk n q e
   rw [hp] at this;exact this
  ·exact (R.laid (o:=.lst xs) hp).hd q z
theorem Ex0.grow (R:Wo K U H h)(hp:U.hid p):Ex0 K H U (X5 H p (.lst ys)) U where
 t:=fun q xs z=>by
  rcases z with z | z
  ·refine .inl ?_;unfold Rd;rw [aR (fun y=>?_)]
   ·exact z
   ·subst y;obtain ⟨⟨xs',e⟩,_⟩:=R.hd q hp;rcases z with r | ⟨_,r⟩ <;> rw [e] at r <;> cases r
  ·exact .inr z
 l:=fun q xs z=>⟨by rw [aR (fun y=>z.2.2 (by rw [y];exact hp))];exact z.1,z.2⟩
 k:=fun q xs z=>by
  rcases z with ⟨o',z⟩ | z
  ·refine .inl ⟨o',?_⟩;rw [aR (fun y=>?_)]
   ·exact z
   ·subst y;obtain ⟨⟨xs',e⟩,_⟩:=R.hd q hp;rw [e] at z;cases z
  ·exact .inr z
 m:=fun _ _ e=>e
 x:=fun q o' u e=>by
  rw [aR (fun y=>?_)]
  ·exact e
  ·subst y;obtain ⟨⟨xs',e'⟩,_⟩:=R.hd q hp;rw [e'] at e;cases e
 y:=fun q fs e=>by
  rw [aR (fun y=>?_)]
  ·exact e
  ·subst y;obtain ⟨⟨xs',e'⟩,_⟩:=R.hd q hp;rw [e'] at e;cases e
theorem Di.grow (R:Wo K U H h)(hp:U.hid p):Di p K H U (X5 H p (.lst ys)) U:=
 ⟨fun _ _ z=>FX.ex (Ex0.grow R hp) z,fun q u ne z e=>⟨z,by rw [aR ne];exact e⟩⟩
theorem Wo.grow (R:Wo K U H h)(hp:U.hid p):Wo K U (X5 H p (.lst ys)) h where
 inj:=R.inj
 dom:=R.dom
 trk:=fun n q e=>by
  have ne:q≠p:=fun z=>(R.hd p hp).2 n (by rw [<-z];exact e)
  rw [aR ne];exact R.trk n q e
 cel:=fun n c e=>by
  obtain ⟨q,e1,x⟩:=R.cel n c e;have ne:q≠p:=fun z=>(R.hd p hp).2 n (by rw [<-z];exact e1)
  refine ⟨q,e1,?_⟩;cases c with
  | lst ws=>obtain ⟨xs,a,b⟩:=x;exact ⟨xs,(aR ne).trans a,aP.ex (Ex0.grow R hp) b⟩
  | obj C fs=>obtain ⟨dx,fvs,a,b⟩:=x;exact ⟨dx,fvs,(aR ne).trans a,Paired.mapP b fun _ _ z=>⟨z.1,FX.ex (Ex0.grow R hp) z.2⟩⟩
  | dct kvs=>obtain ⟨kvv,a,b⟩:=x;exact ⟨kvv,(aR ne).trans a,Paired.mapP b fun _ _ z=>⟨z.1,FX.ex (Ex0.grow R hp) z.2⟩⟩
  | dtt kvs=>obtain ⟨xs,vs,a,b,c,d,f⟩:=x;exact ⟨xs,vs,(aR ne).trans a,b,c,aP.ex (Ex0.grow R hp) d,aP.ex (Ex0.grow R hp) f⟩
 hd:=fun q z=>by
  by_cases e:q=p
  ·subst e;exact ⟨⟨ys,bR⟩,(R.hd q hp).2⟩
  ·rw [aR e];exact R.hd q z
theorem Ex0.unhide:Ex0 K H U H (U.unhide p) where
 t:=fun _ _ z=>z
 l:=fun q xs z=>⟨z.1,z.2.1,fun y=>z.2.2 y.2⟩
 k:=fun _ _ z=>z
 m:=fun _ _ e=>e
 x:=fun _ _ _ e=>e
 y:=fun _ _ e=>e
theorem Di.unhide:Di p K H U H (U.unhide p):=⟨fun _ _ z=>FX.ex Ex0.unhide z,fun q u ne z e=>⟨⟨ne,z⟩,e⟩⟩
theorem Wo.unhide (R:Wo K U H h):Wo K (U.unhide p) H h where
 inj:=R.inj
 dom:=R.dom
 trk:=R.trk
 cel:=fun n c e=>by
  obtain ⟨q,e1,x⟩:=R.cel n c e;refine ⟨q,e1,?_⟩;cases c with
  | lst ws=>obtain ⟨xs,a,b⟩:=x;exact ⟨xs,a,aP.ex Ex0.unhide b⟩
  | obj C fs=>obtain ⟨dx,fvs,a,b⟩:=x;exact ⟨dx,fvs,a,Paired.mapP b fun _ _ z=>⟨z.1,FX.ex Ex0.unhide z.2⟩⟩
  | dct kvs=>obtain ⟨kvv,a,b⟩:=x;exact ⟨kvv,a,Paired.mapP b fun _ _ z=>⟨z.1,FX.ex Ex0.unhide z.2⟩⟩
  | dtt kvs=>obtain ⟨xs,vs,a,b,c,d,f⟩:=x;exact ⟨xs,vs,a,b,c,aP.ex Ex0.unhide d,aP.ex Ex0.unhide f⟩
 hd:=fun q z=>R.hd q z.2
theorem FX.built (R:Wo K U H h)(hp:U.hid p)(e:H p=Dn (.lst xs))(r:aP K H U ws xs):FX K H (U.unhide p) (.lst ws) (.ref p):=by
 rw [FX];exact ⟨p,xs,rfl,⟨e,(R.hd p hp).2,fun z=>z.1 rfl⟩,aP.ex Ex0.unhide r⟩
end
abbrev Sw:=List (Option W)
abbrev WK:=W->Gh->Prop
abbrev ME:=Sw->Gh->WK->Prop
abbrev MT:=Sw->Gh->(Bool->Gh->Prop)->Prop
abbrev MA:=Sw->Gh->(List W->Gh->Prop)->Prop
structure bU where
 nx:Sw->Gh->Prop
 rt:WK
 bk:Sw->Gh->Prop:=fun _ _=>False
 ct:Sw->Gh->Prop:=fun _ _=>False
abbrev MS:=bU->Sw->Gh->Prop
abbrev MG:=W->Sw->Gh->(Sw->Gh->Prop)->Prop
abbrev Ei:=List W->Sw->Gh->(Sw->Gh->Prop)->Prop
structure Xw where
 cls:Str
 fs:List (Str×W)
abbrev X4:=Xw->Gh->Prop
abbrev VR:=List W->Gh->WK->X4->Prop
def EF:X4:=fun _ _=>False
structure Slots (K:Yc) (H:Hp) (U : Mu) (Zw:Sw) (Z : St):Prop where
 len:Zw.length = Z.length
 get:∀ (i:Nat) (w:W),Zw[i]?=Dn (Dn w)->∃ v,Z[i]?=Dn (Dn v)/\FX K H U w v
inductive DQ (K:Yc) (H:Hp) (U : Mu) (Q:WK) (v:V) (H':Hp):Prop where
 | mk (U':Mu) (w:W) (h':Gh) (e:XQ K H U H' U') (R:Wo K U' H' h') (r:FX K H' U' w v) (q:Q w h'):DQ K H U Q v H'
inductive DB (K:Yc) (H:Hp) (U : Mu) (Q:Bool->Gh->Prop) (b:Bool) (H':Hp):Prop where
 | mk (U':Mu) (h':Gh) (e:XQ K H U H' U') (R:Wo K U' H' h') (q:Q b h'):DB K H U Q b H'
inductive DA (K:Yc) (H:Hp) (U : Mu) (Q:List W->Gh->Prop) (vs:List V) (H':Hp):Prop where
 | mk (U':Mu) (ws:List W) (h':Gh) (e:XQ K H U H' U') (R:Wo K U' H' h') (r:aP K H' U' ws vs) (q:Q ws h'):DA K H U Q vs H'
inductive DN (K:Yc) (H:Hp) (U : Mu) (N:Sw->Gh->Prop) (Z':St) (H':Hp):Prop where
 | mk (U':Mu) (Zw':Sw) (h':Gh) (e:XQ K H U H' U') (R:Wo K U' H' h') (S:Slots K H' U' Zw' Z') (q:N Zw' h'):DN K H U N Z' H'
section
variable {K:Yc}{H H' H1 H2:Hp}{U U' U1 U2:Mu}{h h' h1:Gh}{w:W}{v:V}{Z : St}{Zw:Sw}
theorem Slots.ext (S:Slots K H U Zw Z)(e:XQ K H U H' U'):Slots K H' U' Zw Z:=⟨S.len,fun i w q=>let ⟨v,a,b⟩:=S.get i w q;⟨v,a,e.r _ _ b⟩⟩
theorem Slots.set (S:Slots K H U Zw Z)(r:FX K H U w v)(i:Nat):Slots K H U (Zw.set i (Dn w)) (Z.set i (Dn v)):=by
 refine ⟨by rw [List.length_set,List.length_set,S.len],fun j u q=>?_⟩;rw [List.getElem?_set] at q |-
 by_cases hij:i=j
 ·rw [if_pos hij] at q |-
  by_cases hl:i < Zw.length
  ·rw [if_pos hl] at q;rw [if_pos (by rw [<-S.len];exact hl)];have e:w=u:=by injection q with q;injection q
   subst e;exact ⟨v,rfl,r⟩
  ·rw [if_neg hl] at q;cases q
 ·rw [if_neg hij] at q |-
  exact S.get j u q
theorem DQ.trans {Q:WK}(e:XQ K H U H1 U1)(q:DQ K H1 U1 Q v H'):DQ K H U Q v H':=let ⟨U',w,h',a,b,c,d⟩:=q;⟨U',w,h',e.trans a,b,c,d⟩
theorem DB.trans {Q:Bool->Gh->Prop}{b:Bool}(e:XQ K H U H1 U1)(q:DB K H1 U1 Q b H'):DB K H U Q b H':=let ⟨U',h',a,b,c⟩:=q;⟨U',h',e.trans a,b,c⟩
theorem DN.trans {N:Sw->Gh->Prop}{Z':St}(e:XQ K H U H1 U1)(q:DN K H1 U1 N Z' H'):DN K H U N Z' H':=let ⟨U',w,h',a,b,c,d⟩:=q;⟨U',w,h',e.trans a,b,c,d⟩
end
inductive tD (K:Yc) (m:ME) (Z : St) (H:Hp) (Q:VK):Prop where
 | mk (U : Mu) (h:Gh) (Zw:Sw) (Qw:WK) (R:Wo K U H h) (S:Slots K H U Zw Z) (x:m Zw h Qw) (k:∀ v H',DQ K H U Qw v H'->Q v H'):tD K m Z H Q
inductive tDT (K:Yc) (m:MT) (Z : St) (H:Hp) (Q:Bool->Hp->Prop):Prop where
 | mk (U : Mu) (h:Gh) (Zw:Sw) (Qw:Bool->Gh->Prop) (R:Wo K U H h) (S:Slots K H U Zw Z) (x:m Zw h Qw) (k:∀ b H',DB K H U Qw b H'->Q b H'):tDT K m Z H Q
inductive tDA (K:Yc) (m:MA) (Z : St) (H:Hp) (Q:List V->Hp->Prop):Prop where
 | mk (U : Mu) (h:Gh) (Zw:Sw) (Qw:List W->Gh->Prop) (R:Wo K U H h) (S:Slots K H U Zw Z) (x:m Zw h Qw) (k:∀ vs H',DA K H U Qw vs H'->Q vs H'):tDA K m Z H Q
inductive tDG (K:Yc) (g:MG) (v:V) (Z : St) (H:Hp) (N:St->Hp->Prop):Prop where
 | mk (U : Mu) (h:Gh) (Zw:Sw) (w:W) (Nw:Sw->Gh->Prop) (R:Wo K U H h) (S:Slots K H U Zw Z) (r:FX K H U w v) (x:g w Zw h Nw) (k:∀ Z' H',DN K H U Nw Z' H'->N Z' H'):tDG K g v Z H N
inductive VF (K:Yc) (g:Ei) (vs:List V) (Z : St) (H:Hp) (N:St->Hp->Prop):Prop where
 | mk (U : Mu) (h:Gh) (Zw:Sw) (ws:List W) (Nw:Sw->Gh->Prop) (R:Wo K U H h) (S:Slots K H U Zw Z) (r:aP K H U ws vs) (x:g ws Zw h Nw) (k:∀ Z' H',DN K H U Nw Z' H'->N Z' H'):VF K g vs Z H N
structure wI (K:Yc) (H:Hp) (U : Mu) (Dw:bU) (D:Ends):Prop where
 nx:∀ Z' H',DN K H U Dw.nx Z' H'->D.nx Z' H'
 rt:∀ v H',DQ K H U Dw.rt v H'->D.rt v H'
 bk:∀ Z' H',DN K H U Dw.bk Z' H'->D.bk Z' H'
 ct:∀ Z' H',DN K H U Dw.ct Z' H'->D.ct Z' H'
inductive tDS (K:Yc) (m:MS) (D:Ends) (Z : St) (H:Hp):Prop where
 | mk (U : Mu) (h:Gh) (Zw:Sw) (Dw:bU) (R:Wo K U H h) (S:Slots K H U Zw Z) (x:m Dw Zw h) (k:wI K H U Dw D):tDS K m D Z H
theorem wI.trans {K:Yc}{H H1:Hp}{U U1:Mu}{Dw:bU}{D:Ends}(k:wI K H U Dw D)(e:XQ K H U H1 U1):wI K H1 U1 Dw D:=
 ⟨fun _ _ q=>k.nx _ _ (q.trans e),fun _ _ q=>k.rt _ _ (q.trans e),fun _ _ q=>k.bk _ _ (q.trans e),fun _ _ q=>k.ct _ _ (q.trans e)⟩
section
variable {X:Cx}{e:Expr}{es:List Expr}{st:Stmt}{sts:List Stmt}
theorem PE.of {t t':TE}(h:PE X e t)(k:∀ Z H Q,t' Z H Q->t Z H Q):PE X e t':=fun pins s Z H Q I q=>h pins s Z H Q I (k Z H Q q)
theorem PT.of {t t':TT}(h:PT X e t)(k:∀ Z H Q,t' Z H Q->t Z H Q):PT X e t':=fun pins s Z H Q I q=>h pins s Z H Q I (k Z H Q q)
theorem PW.of {t t':TT}(h:PW X e t)(k:∀ Z H Q,t' Z H Q->t Z H Q):PW X e t':=fun wh pins s Z H Q I q=>h wh pins s Z H Q I (k Z H Q q)
theorem PA.of {t t':TA}(h:PA X es t)(k:∀ Z H Q,t' Z H Q->t Z H Q):PA X es t':=fun pos pins s Z H Q I q=>h pos pins s Z H Q I (k Z H Q q)
theorem PG.of {t t':TG}(h:PG X e t)(k:∀ v Z H Q,t' v Z H Q->t v Z H Q):PG X e t':=fun pins s Z H v u Q I r q=>h pins s Z H v u Q I r (k v Z H Q q)
theorem Fy.of {t t':Fe}(h:Fy X es t)(k:∀ v Z H Q,t' v Z H Q->t v Z H Q):Fy X es t':=fun pins s Z H v u Q I r q=>h pins s Z H v u Q I r (k v Z H Q q)
theorem PS.of {t t':TS}(h:PS X st t)(k:∀ D Z H,t' D Z H->t D Z H):PS X st t':=fun pins s Z H D I q=>h pins s Z H D I (k D Z H q)
theorem Dr.of {t t':TS}(h:Dr X sts t)(k:∀ D Z H,t' D Z H->t D Z H):Dr X sts t':=fun pins s Z H D I q=>h pins s Z H D I (k D Z H q)
end
abbrev DE (X:Cx)(e:Expr)(m:ME):Prop:=PE X e (tD X.K m)
abbrev DT (X:Cx)(e:Expr)(m:MT):Prop:=PT X e (tDT X.K m)
abbrev DWt (X:Cx)(e:Expr)(m:MT):Prop:=PW X e (tDT X.K m)
abbrev Bo (X:Cx)(es:List Expr)(m:MA):Prop:=PA X es (tDA X.K m)
abbrev DG (X:Cx)(e:Expr)(m:MG):Prop:=PG X e (tDG X.K m)
abbrev RT (X:Cx)(es:List Expr)(m:Ei):Prop:=Fy X es (VF X.K m)
abbrev DS (X:Cx)(st:Stmt)(m:MS):Prop:=PS X st (tDS X.K m)
abbrev JC (X:Cx)(st:List Stmt)(m:MS):Prop:=Dr X st (tDS X.K m)
section
variable {X:Cx}{e a b c:Expr}{ma mb mc:ME}{pos:Pos}
def aG (i:Nat):ME:=fun Z h Q=>match Z[i]? with
 | some (Dn w)=>Q w h
 | _=>False
def mC (w:W):ME:=fun _ h Q=>Q w h
theorem dv (i:Nat)(he:PE X e (Vi i)):DE X e (aG i):=he.of fun Z H Q ⟨U,h,Zw,Qw,R,S,m,k⟩=>by
 unfold aG at m;cases q:Zw[i]? with
 | none=>rw [q] at m;exact m.elim
 | some o=>
  rw [q] at m;cases o with
  | none=>exact m.elim
  | some w=>
   obtain ⟨v,h1,h2⟩:=S.get i w q;exact ⟨v,h1,k _ _ ⟨U,w,h,.refl,R,h2,m⟩⟩
theorem dc {w:W}{v:V}(he:PE X e (tC v))(r:∀ H U,FX X.K H U w v):DE X e (mC w):=he.of fun Z H Q ⟨U,h,Zw,Qw,R,S,m,k⟩=>k _ _ ⟨U,w,h,.refl,R,r H U,m⟩
theorem aJ {i:Int}{j pos}:DE X (.Constant (.int i) j pos) (mC (.int i)):=dc Qo fun _ _=>by rw [FX]
theorem zp {i:Bool}{j pos}:DE X (.Constant (.bool i) j pos) (mC (.bl i)):=dc Uk fun _ _=>by rw [FX]
theorem bA {i:Str}{j pos}:DE X (.Constant (.str i) j pos) (mC (.str i)):=dc Gx fun _ _=>by rw [FX]
abbrev M2:=W->W->Gh->WK->Prop
def Mk (r:M2)(ma mb:ME):ME:=fun Z h Q=>ma Z h fun x h1=>mb Z h1 fun y h2=>r x y h2 Q
def U7 (K:Yc)(r:R2)(mr:M2):Prop:=∀ {H:Hp} {U : Mu} {h:Gh} {x y:V} {wx wy:W} {Qw:WK} {Q:VK},Wo K U H h->FX K H U wx x->FX K H U wy y->mr wx wy h Qw ->
 (∀ v H',DQ K H U Qw v H'->Q v H')->r x y H Q
theorem two {K:Yc}{Z : St}{H:Hp}{Q:VK}{mr:M2}{R2':V->V->Hp->Prop}(h:tD K (Mk mr ma mb) Z H Q)
  (k:∀ {H2:Hp} {U2:Mu} {h2:Gh} {x y:V} {wx wy:W} {Qw:WK},Wo K U2 H2 h2->FX K H2 U2 wx x->FX K H2 U2 wy y->mr wx wy h2 Qw->(∀ v H',DQ K H2 U2 Qw v H'->Q v H')->R2' x y H2) :
  tD K ma Z H fun x H1=>tD K mb Z H1 fun y H2=>R2' x y H2:=by
 obtain ⟨U,g,Zw,Qw,R,S,m,q⟩:=h;refine ⟨U,g,Zw,_,R,S,m,fun x H1 ⟨U1,wx,h1,e1,R1,r1,m1⟩=>?_⟩;refine ⟨U1,h1,Zw,_,R1,S.ext e1,m1,fun y H2 ⟨U2,wy,h2,e2,R2,r2,m2⟩=>?_⟩;exact k R2 (e2.r _ _ r1) r2 m2 fun v H' z=>q _ _<|(z.trans e2).trans e1
def Bl (X:Cx)(f:Ye->Ye->Sem Ye)(mr:M2):Prop:=∃ r,Ay X f r/\U7 X.K r mr
theorem dX {op:Operator}{mr:M2}(ho:Bl X (Cq op) mr)(ha:DE X a ma)(hb:DE X b mb):DE X (.BinOp a op b pos) (Mk mr ma mb):=by
 obtain ⟨r,o,s⟩:=ho;exact (Ul o ha hb).of fun Z H Q h=>two h fun R r1 r2 m k=>s R r1 r2 m k
theorem Bq {op:CmpOp}{mr:M2}(ho:Bl X (Zv op) mr)(ha:DE X a ma)(hb:DE X b mb)(hm:Jz op b=false):DE X (.Compare a [op] [b] pos) (Mk mr ma mb):=by
 obtain ⟨r,o,s⟩:=ho;exact (Lp o ha hb hm).of fun Z H Q h=>two h fun R r1 r2 m k=>s R r1 r2 m k
def bZ (m:ME):MT:=fun Z h Q=>m Z h fun w h1=>match w with
 | .bl c=>Q c h1
 | _=>False
theorem aaq {K:Yc}{Z : St}{H:Hp}{m:ME}{Q:Bool->Hp->Prop}(h:tDT K (bZ m) Z H Q):tD K m Z H fun x H'=>∃ k,x=.bl k/\Q k H':=by
 obtain ⟨U,g,Zw,Qw,R,S,mm,q⟩:=h;refine ⟨U,g,Zw,_,R,S,mm,fun v H' ⟨U1,w,h1,e1,R1,r1,m1⟩=>?_⟩;cases w with
 | bl c=>rw [FX] at r1;exact ⟨c,r1,q _ _ ⟨U1,h1,e1,R1,m1⟩⟩
 | _=>exact m1.elim
theorem bG {op:CmpOp}{mr:M2}(ho:Bl X (Zv op) mr)(ha:DE X a ma)(hb:DE X b mb)(hm:Jz op b=false):DT X (.Compare a [op] [b] pos) (bZ (Mk mr ma mb)):=by
 obtain ⟨r,o,s⟩:=ho;exact (aaj o ha hb hm).of fun Z H Q h=>two (aaq h) fun R r1 r2 m k=>s R r1 r2 m k
def AP (c:Bool)(a b:Prop):Prop:=match c with
 | true=>a
 | false=>b
def br (c:Bool)(a b:Prop):Prop:=(c=true->a)/\(c=false->b)
theorem Td {c:Bool}{a b:Prop}(e:c=true)(x:a):br c a b:=⟨fun _=>x,fun z=>by rw [e] at z;cases z⟩
theorem Ir {c:Bool}{a b:Prop}(e:c=false)(x:b):br c a b:=⟨fun z=>(by rw [e] at z;cases z),fun _=>x⟩
theorem oY {c:Prop} [Decidable c] {a b:Prop} (x:c->a) (y:¬ c->b):br (decide c) a b:=⟨fun e=>x (of_decide_eq_true e),fun e=>y (of_decide_eq_false e)⟩
def Xg (t u:MT):MT:=fun Z h Q=>t Z h fun c h1=>br c (u Z h1 Q) (Q false h1)
def Ca (t u:MT):MT:=fun Z h Q=>t Z h fun c h1=>br c (Q true h1) (u Z h1 Q)
def q9 (t:MT):MT:=fun Z h Q=>t Z h fun c h1=>Q (!c) h1
variable {tA tB':MT}{rest:List Expr}
theorem iM (ha:DT X a tA):DWt X (.BoolOp .Or [a] pos) tA:=OJ ha
theorem gP (ha:DT X a tA)(hb:DWt X (.BoolOp .Or (b::rest) pos) tB'):DWt X (.BoolOp .Or (a::b::rest) pos) (Ca tA tB'):=(T9 ha hb).of fun Z H Q ⟨U,g,Zw,Qw,R,S,m,q⟩=>by
 refine ⟨U,g,Zw,_,R,S,m,fun c H1 ⟨U1,h1,e1,R1,m1⟩=>?_⟩;cases c with
 | true=>
  rw [if_pos rfl];exact q _ _ ⟨U1,h1,e1,R1,m1.1 rfl⟩
 | false=>
  rw [if_neg Y6];exact ⟨U1,h1,Zw,_,R1,S.ext e1,m1.2 rfl,fun b H' z=>q _ _<|z.trans e1⟩
theorem dR (ha:DT X a tA):DT X (.UnaryOp .Not a pos) (q9 tA):=(Qj ha).of fun Z H Q ⟨U,g,Zw,Qw,R,S,m,q⟩=>
 ⟨U,g,Zw,_,R,S,m,fun c H1 ⟨U1,h1,e1,R1,m1⟩=>q _ _ ⟨U1,h1,e1,R1,m1⟩⟩
def uN (a b:ME):ME:=fun Z h Q=>a Z h fun x h1=>match x with
 | .bl true=>b Z h1 Q
 | .bl false=>Q (.bl false) h1
 | _=>False
def W2 (a b:ME):ME:=fun Z h Q=>a Z h fun x h1=>match x with
 | .bl false=>b Z h1 Q
 | .bl true=>Q (.bl true) h1
 | _=>False
def Gp (a:ME):ME:=fun Z h Q=>a Z h fun x h1=>match x with
 | .bl c=>Q (.bl (!c)) h1
 | _=>False
theorem Er {op}(h:DE X a ma):DE X (.BoolOp op [a] pos) ma:=Rz h
theorem yH (ha:DE X a ma)(hb:DE X (.BoolOp .And (b::rest) pos) mb):DE X (.BoolOp .And (a::b::rest) pos) (uN ma mb):=(M8 ha hb).of fun Z H Q ⟨U,g,Zw,Qw,R,S,m,q⟩=>by
 refine ⟨U,g,Zw,_,R,S,m,fun v H1 ⟨U1,w,h1,e1,R1,r1,m1⟩=>?_⟩;cases w with
 | bl c=>
  rw [FX] at r1;refine ⟨c,r1,?_⟩;cases c with
  | true=>rw [if_pos rfl];exact ⟨U1,h1,Zw,_,R1,S.ext e1,m1,fun b H' z=>q _ _ (z.trans e1)⟩
  | false=>rw [if_neg Y6];exact q _ _ ⟨U1,.bl false,h1,e1,R1,by rw [FX],m1⟩
 | _=>exact m1.elim
theorem Oz (ha:DE X a ma):DE X (.UnaryOp .Not a pos) (Gp ma):=(Py ha).of fun Z H Q ⟨U,g,Zw,Qw,R,S,m,q⟩=>by
 refine ⟨U,g,Zw,_,R,S,m,fun v H1 ⟨U1,w,h1,e1,R1,r1,m1⟩=>?_⟩;cases w with
 | bl c=>rw [FX] at r1;exact ⟨c,r1,q _ _ ⟨U1,.bl (!c),h1,e1,R1,by rw [FX],m1⟩⟩
 | _=>exact m1.elim
def mIf (t:MT)(a b:ME):ME:=fun Z h Q=>t Z h fun c h1=>br c (a Z h1 Q) (b Z h1 Q)
def Gm (r:W->Gh->WK->Prop)(a:ME):ME:=fun Z h Q=>a Z h fun x h1=>r x h1 Q
def Io:W->Gh->WK->Prop:=fun x h Q=>match x with
 | .int i=>Q (.int (-i)) h
 | _=>False
theorem tE (ha:DE X a ma):DE X (.UnaryOp .USub a pos) (Gm Io ma):=(Ut Ph ha).of fun Z H Q ⟨U,g,Zw,Qw,R,S,m,q⟩=>by
 refine ⟨U,g,Zw,_,R,S,m,fun v H1 ⟨U1,w,h1,e1,R1,r1,m1⟩=>?_⟩;cases w with
 | int i=>rw [FX] at r1;exact ⟨i,r1,q _ _ ⟨U1,.int (-i),h1,e1,R1,by rw [FX],m1⟩⟩
 | _=>exact m1.elim
def aO:MA:=fun _ h Q=>Q [] h
def au (a:ME)(r:MA):MA:=fun Z h Q=>a Z h fun x h1=>r Z h1 fun xs h2=>Q (x::xs) h2
variable {es:List Expr}{mr:MA}
theorem aq:Bo X [] aO:=HY.of fun Z H Q ⟨U,g,Zw,Qw,R,S,m,q⟩=>q _ _ ⟨U,[],g,.refl,R,.nil,m⟩
theorem ak (ha:DE X e ma)(hr:Bo X es mr)(hs:YG (e::es) X.env=(false,eval e X.env)::YG es X.env:=by rfl):Bo X (e::es) (au ma mr):=(BZ ha hr hs).of fun Z H Q ⟨U,g,Zw,Qw,R,S,m,q⟩=>by
 refine ⟨U,g,Zw,_,R,S,m,fun v H1 ⟨U1,w,h1,e1,R1,r1,m1⟩=>?_⟩;refine ⟨U1,h1,Zw,_,R1,S.ext e1,m1,fun vs H2 ⟨U2,ws,h2,e2,R2,r2,m2⟩=>?_⟩;exact q _ _ ⟨U2,w::ws,h2,e1.trans e2,R2,.cons (e2.r _ _ r1) r2,m2⟩
def jD (n:Nat)(P:Prop):Prop:=AP (Nat.ble n 1000) P (n<=YQ/\P)
theorem jD.ok {n:Nat}{P:Prop}(h:jD n P):n<=YQ/\P:=by
 unfold jD at h;cases e:Nat.ble n 1000 with
 | true=>rw [e] at h;exact ⟨YS (YD e) (by decide),h⟩
 | false=>rw [e] at h;exact h
theorem jD.mk {n:Nat}{P:Prop}(hn:n<=YQ)(h:P):jD n P:=by
 unfold jD;cases e:Nat.ble n 1000 with
 | true=>exact h
 | false=>exact ⟨hn,h⟩
def lJ (t:MA):ME:=fun Z h Q=>t Z h fun ws h1=>jD ws.length (Q (.tup ws) h1)
def pL (t:MA):ME:=fun Z h Q=>t Z h fun ws h1=>jD ws.length (Q (.lst ws) h1)
def lE (t:MA):ME:=fun Z h Q=>t Z h fun ws h1=>jD ws.length (Q (.loc h1.nx) (h1.new (.lst ws)))
theorem bW {x1}(h:Bo X es mr):DE X (.Tuple es x1 pos) (lJ mr):=(Rq h).of fun Z H Q ⟨U,g,Zw,Qw,R,S,m,q⟩=>
 ⟨U,g,Zw,_,R,S,m,fun vs H1 ⟨U1,ws,h1,e1,R1,r1,sz⟩=>⟨by rw [<-r1.len];exact sz.ok.1,fun p hp=>q _ _ ⟨U1,.tup ws,h1,e1.trans (Ex.laid hp).ext,R1.laid hp,.tupNew hp r1,sz.ok.2⟩⟩⟩
theorem cX (h:Bo X es mr):DE X (.List es pos) (pL mr):=(GJ h).of fun Z H Q ⟨U,g,Zw,Qw,R,S,m,q⟩=>
 ⟨U,g,Zw,_,R,S,m,fun vs H1 ⟨U1,ws,h1,e1,R1,r1,sz⟩=>⟨by rw [<-r1.len];exact sz.ok.1,fun p hp=>q _ _ ⟨U1,.lst ws,h1,e1.trans (Ex.laid hp).ext,R1.laid hp,.lstNew R1 hp r1,sz.ok.2⟩⟩⟩
theorem Hl {K:Yc}{H:Hp}{U : Mu}{h:Gh}{p:Addr}{ws:List W}{xs:List V}(R:Wo K U H h)(hp:H p=FN)(r:aP K H U ws xs) :
  Wo K (U.put h.nx p) (X5 H p (.lst xs)) (h.new (.lst ws)):=R.newCell hp trivial ⟨xs,bR,(Ex.newCell R hp).ext.s r⟩
theorem iD (h:Bo X es mr):DE X (.List es pos) (lE mr):=(GJ h).of fun Z H Q ⟨U,g,Zw,Qw,R,S,m,q⟩=>
 ⟨U,g,Zw,_,R,S,m,fun vs H1 ⟨U1,ws,h1,e1,R1,r1,sz⟩=>⟨by rw [<-r1.len];exact sz.ok.1,fun p hp=>q _ _ ⟨U1.put h1.nx p,.loc h1.nx,h1.new (.lst ws),e1.trans (Ex.newCell R1 hp).ext,Hl R1 hp r1,by rw [FX];exact ⟨p,rfl,Mu.put_same⟩,sz.ok.2⟩⟩⟩
inductive lift (K:Yc) (ms:VR) (vs:List V) (H:Hp) (Q:VK) (E:XK):Prop where
 | mk (U : Mu) (h:Gh) (ws:List W) (Qw:WK) (R:Wo K U H h) (r:aP K H U ws vs) (x:ms ws h Qw EF) (k:∀ v H',DQ K H U Qw v H'->Q v H'):lift K ms vs H Q E
def bM (ms:VR)(E:X4)(ma:MA):ME:=fun Z h Q=>ma Z h fun ws h1=>ms ws h1 Q E
theorem call_of {K:Yc}{Z : St}{H:Hp}{Q:VK}{E:XK}{ms:VR}{ma:MA}(h:tD K (bM ms EF ma) Z H Q):Mx (lift K ms) [] E (tDA K ma) Z H Q:=by
 obtain ⟨U,g,Zw,Qw,R,S,m,q⟩:=h;refine ⟨U,g,Zw,_,R,S,m,fun vs H1 ⟨U1,ws,h1,e1,R1,r1,m1⟩=>?_⟩;show lift K ms (vs++[]) H1 Q E;rw [List.append_nil];exact ⟨U1,h1,ws,Qw,R1,r1,m1,fun v H' z=>q _ _<|z.trans e1⟩
theorem aV {k:Nat}{f:Addr}{fd:Y8}{ps:List Str}{ms:VR}{x:Str}{p:Pos}(F:eO X.prog X.w X.K X.mg X.base kI k f fd ps (lift X.K ms))(hr:mz k X.A)(hg:Gl X x)(hm:X.mg x=Dn (.ref f))(hk:Fx X.K (.ref f)=true)
  (hb:Binds X.K fd ps []) (ha:Bo X (e::es) mr) (hdb:(x==("__debug__" : Str))=false:=by decide) (he:YG (e::es) X.env=(false,eval e X.env)::YG es X.env:=by rfl) (hpl:(Am pos (YG es X.env)).any (·.1)=false:=by rfl) :
  DE X (.Call (.Name x p) (e::es) [] pos) (bM ms EF mr):=(abf F hr hg hm hk hb .nil Qn ha hdb he hpl).of fun _ _ _ h=>call_of h
theorem aaE {k:Nat}{f:Addr}{fd:Y8}{ps:List Str}{ms:VR}{x:Str}{p:Pos}(F:eO X.prog X.w X.K X.mg X.base kI k f fd ps (lift X.K ms))(hr:mz k X.A)(hg:Gl X x)(hm:X.mg x=Dn (.ref f))(hk:Fx X.K (.ref f)=true)
  (hb:Binds X.K fd ps []) (hdb:(x==("__debug__" : Str))=false:=by decide):DE X (.Call (.Name x p) [] [] pos) (bM ms EF aO):=(zaR F hr hg hm hk hb .nil Qn hdb).of fun Z H Q ⟨U,g,Zw,Qw,R,S,m,q⟩=>
 ⟨U,g,[],Qw,R,.nil,m,q⟩
def RQ (h:Gh)(w:W):Option Bool:=match w with
 | .non=>Dn false
 | .bl b=>Dn b
 | .int i=>Dn (i != 0)
 | .tup ws=>Dn (!ws.isEmpty)
 | .lst ws=>Dn (!ws.isEmpty)
 | .kls ws=>Dn (!ws.isEmpty)
 | .loc n=>(match h.c n with
  | some (.lst ws)=>Dn (!ws.isEmpty)
  | _=>FN)
 | _=>FN
def sS (m:ME):MT:=fun Z h Q=>m Z h fun w h1=>match RQ h1 w with
 | some b=>Q b h1
 | none=>False
theorem aP.emp {K:Yc}{H:Hp}{U : Mu}{ws:List W}{xs:List V}(r:aP K H U ws xs):ws.isEmpty=xs.isEmpty:=by
 have:=r.len
 cases ws <;> cases xs <;> first | rfl | cases this
theorem dW (he:DE X e ma)(h:∀ whole,isTrue e X.env whole=(do let v <-whole;standAt e.pos;holding [v] (truthy v)):=by intro _;rfl):DT X e (sS ma):=(abh he h).of fun Z H Q ⟨U,g,Zw,Qw,R,S,m,q⟩=>by
 refine ⟨U,g,Zw,_,R,S,m,fun v H1 ⟨U1,w,h1,e1,R1,r1,m1⟩=>?_⟩;split at m1
 ·rename_i b eb;refine ⟨b,?_,q _ _ ⟨U1,h1,e1,R1,m1⟩⟩;cases w with
  | non=>rw [FX] at r1;subst r1;cases eb;rfl
  | bl c=>rw [FX] at r1;subst r1;cases eb;rfl
  | int c=>rw [FX] at r1;subst r1;cases eb;rfl
  | tup ws=>
   rw [FX] at r1;obtain ⟨p,xs,ev,hs,rs⟩:=r1;subst ev;cases eb;exact .inr<|.inl ⟨xs,hs,by rw [rs.emp]⟩
  | lst ws=>
   rw [FX] at r1;obtain ⟨p,xs,ev,hs,rs⟩:=r1;subst ev;cases eb;exact .inl ⟨xs,hs.sq,by rw [rs.emp]⟩
  | kls ws=>
   rw [FX] at r1;obtain ⟨p,xs,ev,hs,rs⟩:=r1;subst ev;cases eb;exact .inl ⟨xs,hs.sq,by rw [rs.emp]⟩
  | loc n=>
   rw [FX] at r1;obtain ⟨p,ev,hm⟩:=r1;subst ev;unfold RQ at eb;dsimp only at eb;cases ec:h1.c n with
   | none=>rw [ec] at eb;cases eb
   | some cl=>
    rw [ec] at eb;cases cl with
    | lst ws=>
     cases eb;obtain ⟨p',hm',xs,hx,rs⟩:=R1.cel n _ ec;have ep:p'=p:=by rw [hm] at hm';exact (Yp hm').symm
     subst ep;exact .inl ⟨xs,.of hx,by rw [rs.emp]⟩
    | _=>cases eb
  | _=>cases eb
 ·exact m1.elim
abbrev MC:=List W->Gh->WK->Prop
def X7 (r:MC)(ma:MA):ME:=fun Z h Q=>ma Z h fun ws h1=>r ws h1 Q
def VH (K:Yc)(r:List V->Hp->VK->Prop)(mr:MC):Prop:=∀ {H:Hp} {U : Mu} {h:Gh} {vs:List V} {ws:List W} {Qw:WK} {Q:VK},Wo K U H h->aP K H U ws vs->mr ws h Qw->(∀ v H',DQ K H U Qw v H'->Q v H')->r vs H Q
def pB (X:Cx)(f:Ye)(mr:MC):Prop:=∃ r,jh X f r/\VH X.K r mr
theorem N6 {K:Yc}{Z : St}{H:Hp}{Q:VK}{r:List V->Hp->VK->Prop}{mc:MC}{ma:MA}(s:VH K r mc)(h:tD K (X7 mc ma) Z H Q):tCB r (tDA K ma) Z H Q:=by
 obtain ⟨U,g,Zw,Qw,R,S,m,q⟩:=h;exact ⟨U,g,Zw,_,R,S,m,fun vs H1 ⟨U1,ws,h1,e1,R1,r1,m1⟩=>s R1 r1 m1 fun v H' z=>q _ _<|z.trans e1⟩
theorem aL {x:Str}{p:Pos}{id:String}{mc:MC}(hc:pB X (.builtin id) mc)(hg:Gl X x)(hm:X.mg x=FN)(hv:J9 x=Dn (.builtin id))(ha:Bo X (e::es) mr)(hn:x ≠ "__name__":=by decide)(hdb:(x==("__debug__" : Str))=false:=by decide)
  (he:YG (e::es) X.env=(false,eval e X.env)::YG es X.env:=by rfl) (hpl:(Am pos (YG es X.env)).any (·.1)=false:=by rfl):DE X (.Call (.Name x p) (e::es) [] pos) (X7 mc mr):=by
 obtain ⟨r,c,s⟩:=hc;exact (aaA c hg hm hv ha hn hdb he hpl).of fun _ _ _ h=>N6 s h
theorem nu {x:Str}{p:Pos}{T:String}{mc:MC}(hc:pB X (.type T) mc)(hg:Gl X x)(hm:X.mg x=FN)(hv:J9 x=Dn (.type T))(ha:Bo X (e::es) mr)(hn:x ≠ "__name__":=by decide)(hdb:(x==("__debug__" : Str))=false:=by decide)
  (he:YG (e::es) X.env=(false,eval e X.env)::YG es X.env:=by rfl) (hpl:(Am pos (YG es X.env)).any (·.1)=false:=by rfl):DE X (.Call (.Name x p) (e::es) [] pos) (X7 mc mr):=by
 obtain ⟨r,c,s⟩:=hc;exact (tX c hg hm hv ha hn hdb he hpl).of fun _ _ _ h=>N6 s h
end
section
variable {X:Cx}{e a b c tg:Expr}{ma mb mc:ME}{pos:Pos}{es:List Expr}
def JI (i:Nat):MG:=fun w Z h N=>N (Z.set i (Dn w)) h
theorem d9 {i:Nat}(hg:PG X e (Cu i)):DG X e (JI i):=hg.of fun v Z H N ⟨U,h,Zw,w,Nw,R,S,r,m,k⟩=>k _ _ ⟨U,Zw.set i (Dn w),h,.refl,R,S.set r i,m⟩
def Qk:Ei:=fun ws Z h N=>match ws with
 | []=>N Z h
 | _=>False
def uI (g:MG)(r:Ei):Ei:=fun ws Z h N=>match ws with
 | w::ws'=>g w Z h fun Z1 h1=>r ws' Z1 h1 N
 | []=>False
theorem vW:RT X [] Qk:=Ck.of fun vs Z H N ⟨U,h,Zw,ws,Nw,R,S,r,m,k⟩=>by
 cases ws with
 | nil=>rw [aP] at r;exact ⟨r,k _ _ ⟨U,Zw,h,.refl,R,S,m⟩⟩
 | cons w ws=>exact m.elim
theorem jA {g:MG}{u:Ei}(h1:DG X e g)(h2:RT X es u)(hs:(ZF (e::es) X.env).map (·.2)=assign e X.env::(ZF es X.env).map (·.2):=by rfl):RT X (e::es) (uI g u):=(sJ h1 h2 hs).of fun vs Z H N ⟨U,h,Zw,ws,Nw,R,S,r,m,k⟩=>by
 cases ws with
 | nil=>exact m.elim
 | cons w ws=>
  rw [aP] at r;obtain ⟨v,vr,ev,r1,r2⟩:=r;refine ⟨v,vr,ev,U,h,Zw,w,_,R,S,r1,m,fun Z1 H1 ⟨U1,Zw1,h1,e1,R1,S1,m1⟩=>?_⟩;exact ⟨U1,h1,Zw1,ws,_,R1,S1,e1.s r2,m1,fun Z2 H2 z=>k _ _<|z.trans e1⟩
def Wf (n:Nat)(g:Ei):MG:=fun w Z h N=>match w with
 | .tup ws=>AP (DK ws.length n) (g ws Z h N) False
 | _=>False
abbrev Rt:=W->W->W->Gh->(Gh->Prop)->Prop
def Gw (K:Yc)(t:Qq)(ms:Rt):Prop:=∀ {H:Hp} {U : Mu} {h:Gh} {o i v:V} {wo wi w:W} {Nw:Gh->Prop} {N:Hp->Prop},Wo K U H h->FX K H U wo o->FX K H U wi i->FX K H U w v->ms wo wi w h Nw ->
 (∀ H',(∃ U' h',XQ K H U H' U'/\Wo K U' H' h'/\Nw h')->N H')->t o i v H N
def RX (mo mi:ME)(ms:Rt):MG:=fun w Z h N=>mo Z h fun o h1=>mi Z h1 fun i h2=>ms o i w h2 fun h3=>N Z h3
theorem Ik {o i:Expr}{mo mi:ME}{t:Qq}{ms:Rt}(ho:DE X o mo)(hi:DE X i mi)(hs:Uh X t)(hm:Gw X.K t ms)
  (ha:∀ v,assign (.Subscript o i pos) X.env v=(do
   let ov <-holding [v] (eval o X.env)
   let iv <-holding [v,ov] (eval i X.env)
   standAt pos
   holding [v,ov,iv] (setItem ov iv v)
   release [v,ov,iv] []):=by intro _;rfl):DG X (.Subscript o i pos) (RX mo mi ms):=
 (PJ ho hi hs ha).of fun v Z H N ⟨U,h,Zw,w,Nw,R,S,r,m,k⟩=>by
  refine ⟨U,h,Zw,_,R,S,m,fun o H1 ⟨U1,wo,h1,e1,R1,r1,m1⟩=>?_⟩;refine ⟨U1,h1,Zw,_,R1,S.ext e1,m1,fun i H2 ⟨U2,wi,h2,e2,R2,r2,m2⟩=>?_⟩;refine hm R2 (e2.r _ _ r1) r2 (e2.r _ _<|e1.r _ _ r) m2 fun H3 ⟨U3,h3,e3,R3,m3⟩=>?_;exact k _ _ ⟨U3,Zw,h3,(e1.trans e2).trans e3,R3,S.ext<|(e1.trans e2).trans e3,m3⟩
def Gj:Rt:=fun o i w h N=>match o,i with
 | .loc n,.int k=>(match h.c n with
  | some (.lst ws)=>(match Ea ws.length k with
   | some j=>N (h.set n (.lst (ws.set j w)))
   | none=>False)
  | _=>False)
 | _,_=>False
theorem Wo.lstAt {K:Yc}{U : Mu}{H:Hp}{h:Gh}{n:Nat}{ws:List W}(R:Wo K U H h)(e:h.c n=Dn (.lst ws)):∃ p xs,U.f n=Dn p/\H p=Dn (.lst xs)/\aP K H U ws xs:=by
 obtain ⟨p,e1,xs,e2,r⟩:=R.cel n _ e;exact ⟨p,xs,e1,e2,r⟩
theorem xq {K:Yc}:Gw K Qa Gj:=by
 intro H U h o i v wo wi w Nw N R ro ri r m k;cases wo with
 | loc n=>
  cases wi with
  | int z=>
   rw [FX] at ro;rw [FX] at ri;obtain ⟨p,eo,hp⟩:=ro;unfold Gj at m;dsimp only at m;cases ec:h.c n with
   | none=>rw [ec] at m;exact m.elim
   | some cl=>
    rw [ec] at m;cases cl with
    | lst ws=>
     dsimp only at m;obtain ⟨p',xs,hp',hx,rs⟩:=R.lstAt ec;have ep:p'=p:=by rw [hp] at hp';exact (Yp hp').symm
     subst ep;cases ej:Ea ws.length z with
     | none=>rw [ej] at m;exact m.elim
     | some j=>
      rw [ej] at m;refine ⟨p',xs,z,j,eo,ri,hx,by rw [<-rs.len];exact ej,k _ ⟨U,_,(Ex.write R hp).ext,R.write hp trivial ?_,m⟩⟩;exact ⟨_,bR,aP.set ((Ex.write R hp).ext.r _ _ r) j<|(Ex.write R hp).ext.s rs⟩
    | _=>exact m.elim
  | _=>exact m.elim
 | _=>exact m.elim
variable {st:Stmt}{rest body:List Stmt}{m1 m2:MS}{t:MT}
def dF:MS:=fun D Z h=>D.nx Z h
def bY (m u:MS):MS:=fun D Z h=>m { D with nx:=u D } Z h
theorem aZ:JC X [] dF:=aaN.of fun D Z H ⟨U,h,Zw,Dw,R,S,m,k⟩=>k.nx _ _ ⟨U,Zw,h,.refl,R,S,m⟩
theorem aH (h1:DS X st m1):JC X [st] m1:=abx h1
theorem aD (h1:DS X st m1)(h2:JC X rest m2):JC X (st::rest) (bY m1 m2):=(zbA h1 h2).of fun D Z H ⟨U,h,Zw,Dw,R,S,m,k⟩=>by
 refine ⟨U,h,Zw,_,R,S,m,?_,k.rt,k.bk,k.ct⟩;intro Z' H' ⟨U1,Zw1,h1,e1,R1,S1,m1⟩;exact ⟨U1,h1,Zw1,Dw,R1,S1,m1,k.trans e1⟩
def mW (m:ME):MS:=fun D Z h=>m Z h fun _ h1=>D.nx Z h1
theorem d8 (he:DE X e ma)(hs:swapsWith e FN pos.line X.env=pure false:=by rfl):DS X (.Expr e pos) (mW ma):=(aaK he hs).of fun D Z H ⟨U,h,Zw,Dw,R,S,m,k⟩=>
 ⟨U,h,Zw,_,R,S,m,fun v H1 ⟨U1,w,h1,e1,R1,_,m1⟩=>k.nx _ _ ⟨U1,Zw,h1,e1,R1,S.ext e1,m1⟩⟩
def gA (m:ME):MS:=fun D Z h=>m Z h D.rt
theorem bK (he:DE X e ma):DS X (.Return (Dn e) pos) (gA ma):=(Qp he).of fun D Z H ⟨U,h,Zw,Dw,R,S,m,k⟩=>⟨U,h,Zw,_,R,S,m,k.rt⟩
def lK (t:MT)(a b:MS):MS:=fun D Z h=>t Z h fun c h1=>br c (a D Z h1) (b D Z h1)
theorem cN {a b:List Stmt}(hc:DT X c t)(ha:JC X a m1)(hb:JC X b m2):DS X (.If c a b pos) (lK t m1 m2):=(Ua hc ha hb).of fun D Z H ⟨U,h,Zw,Dw,R,S,m,k⟩=>by
 refine ⟨U,h,Zw,_,R,S,m,fun b H1 ⟨U1,h1,e1,R1,q⟩=>?_⟩;cases b with
 | true=>rw [if_pos rfl];exact ⟨U1,h1,Zw,Dw,R1,S.ext e1,q.1 rfl,k.trans e1⟩
 | false=>rw [if_neg Y6];exact ⟨U1,h1,Zw,Dw,R1,S.ext e1,q.2 rfl,k.trans e1⟩
def o8 (x:Str)(E:X4):MS:=fun _ _ h=>E ⟨x,[]⟩ h
theorem lH {x:Str}:DS X st (o8 x EF):=abI.of fun _ _ _ ⟨_,_,_,_,_,_,m,_⟩=>m.elim
def cY (m:ME)(g:MG):MS:=fun D Z h=>m Z h fun w h1=>g w Z h1 D.nx
theorem Pg {K:Yc}{Z : St}{H:Hp}{D:Ends}{m:ME}{g:MG}(q:tDS K (cY m g) D Z H):Ox (tD K m) (tDG K g) D Z H:=by
 obtain ⟨U,h,Zw,Dw,R,S,m,k⟩:=q;exact ⟨U,h,Zw,_,R,S,m,fun v H1 ⟨U1,w,h1,e1,R1,r1,m1⟩=>⟨U1,h1,Zw,w,_,R1,S.ext e1,r1,m1,fun Z' H' z=>k.nx _ _<|z.trans e1⟩⟩
theorem zR {g:MG}(he:DE X e ma)(hg:DG X tg g)(hs:swapsWithSole [tg] e pos.line X.env=pure false:=by rfl)(hw:swappedStores [tg] e X.env=pure FN:=by rfl)
  (h1:(ZF [tg] X.env).map (·.2)=[assign tg X.env]:=by rfl):DS X (.Assign [tg] e pos) (cY ma g):=(Rg he hg hs hw h1).of fun _ _ _ q=>Pg q
theorem Ar {K:Yc}{Z : St}{H:Hp}{D:Ends}{m:ME}{t:TE}{i:Nat}(ht:∀ Z H Q,tD K m Z H Q->t Z H Q)(q:tDS K (cY m (JI i)) D Z H):Ox t (Cu i) D Z H:=by
 obtain ⟨U,h,Zw,Dw,R,S,m,k⟩:=q;exact ht _ _ _ ⟨U,h,Zw,_,R,S,m,fun v H1 ⟨U1,w,h1,e1,R1,r1,m1⟩=>k.nx _ _ ⟨U1,Zw.set i<|some w,h1,e1,R1,(S.ext e1).set r1 i,m1⟩⟩
theorem aU {i:Nat}{x:Str}{pos':Pos}(hN:X.N.Nodup)(hi:X.N[i]?=Dn x)(hx:Loc X.env.scope x)(he:DE X e ma)(hs:swapsWith e (Dn (.Name x pos')) pos.line X.env=pure false:=by rfl)
  (hf:X.fn x=true\/X.env.scope.names.lookup x=Dn .local:=by first | exact .inl rfl | exact .inr rfl | assumption) :
  DS X (.Assign [.Name x pos'] e pos) (cY ma (JI i)):=(N5 hN hi hx he hs hf).of fun _ _ _ q=>Ar (fun _ _ _ z=>z) q
def zam (i j:Nat)(ta:MA):MS:=fun D Z h=>ta Z h fun ws h1=>match ws with
 | [v,w]=>D.nx ((Z.set i (Dn v)).set j (Dn w)) h1
 | _=>False
structure Src where
 ws:List W
 cell:Option (Nat×List W)
def Src.chk (s:Src)(h:Gh):Prop:=match s.cell with
 | none=>True
 | some n=>h.c n.1=Dn (.lst n.2)
abbrev MI:=Sw->Gh->(Src->Gh->Prop)->Prop
def LR (K:Yc)(J:It)(src:Src)(H:Hp)(U : Mu):Prop:=∀ {H2:Hp} {U2:Mu} {h2:Gh} {i:Nat},XQ K H U H2 U2->Wo K U2 H2 h2->src.chk h2 ->
 (∀ w,src.ws[i]?=Dn w->J.go i H2/\∀ x H3,J.yld i H2 x H3->∃ U3,XQ K H2 U2 H3 U3/\Wo K U3 H3 h2/\FX K H3 U3 w x)/\(src.ws.length<=i->J.stop i H2)
inductive DI (K:Yc) (H:Hp) (U : Mu) (Rw:Src->Gh->Prop) (J:It) (H':Hp):Prop where
 | mk (U':Mu) (src:Src) (h':Gh) (e:XQ K H U H' U') (R:Wo K U' H' h') (o:LR K J src H' U') (q:Rw src h'):DI K H U Rw J H'
inductive tDI (K:Yc) (mi:MI) (Z : St) (H:Hp) (R:It->Hp->Prop):Prop where
 | mk (U : Mu) (h:Gh) (Zw:Sw) (Rw:Src->Gh->Prop) (q:Wo K U H h) (S:Slots K H U Zw Z) (x:mi Zw h Rw) (k:∀ J H',DI K H U Rw J H'->R J H'):tDI K mi Z H R
abbrev Fj (X:Cx)(tg iter:Expr)(mi:MI):Prop:=PI X tg iter (tDI X.K mi)
theorem PI.of {iter:Expr}{t t':TI}(h:PI X tg iter t)(k:∀ Z H R,t' Z H R->t Z H R):PI X tg iter t':=fun pins s Z H R I q=>h pins s Z H R I (k Z H R q)
def cC (h:Gh):W->Option (List W)
 | .lst ws=>Dn ws
 | .kls ws=>Dn ws
 | .loc n=>(match h.c n with
  | some (.lst ws)=>Dn ws
  | _=>FN)
 | _=>FN
def view (h:Gh):W->Option (List W)
 | .tup ws=>Dn ws
 | .lst ws=>Dn ws
 | .kls ws=>Dn ws
 | .loc n=>cC h (.loc n)
 | _=>FN
def Qs (h:Gh):W->Option Src
 | .tup ws=>Dn ⟨ws,FN⟩
 | .lst ws=>Dn ⟨ws,FN⟩
 | .kls ws=>Dn ⟨ws,FN⟩
 | .loc n=>(match h.c n with
  | some (.lst ws)=>Dn ⟨ws,Dn (n,ws)⟩
  | _=>FN)
 | _=>FN
theorem aaJ {K:Yc}{H:Hp}{U : Mu}{p:Addr}{ws:List W}(r:FX K H U (.lst ws) (.ref p)):LR K (Itl K p) ⟨ws,FN⟩ H U:=by
 intro H2 U2 h2 i e R2 _;have r2:=e.r _ _ r;rw [FX] at r2;obtain ⟨q,xs,eq,hf,rs⟩:=r2;cases eq;refine ⟨fun w ew=>?_,fun hl=>⟨xs,hf.sq,by rw [<-rs.len];exact hl⟩⟩;obtain ⟨v,ev,rv⟩:=rs.get ew;refine ⟨⟨xs,v,hf.sq,ev⟩,fun x H3 ⟨e3,y⟩=>?_⟩;subst e3;have:=y xs hf.sq
 rw [ev] at this;cases this;exact ⟨U2,.refl,R2,rv⟩
theorem abR {K:Yc}{H:Hp}{U : Mu}{p:Addr}{ws:List W}(r:FX K H U (.kls ws) (.ref p)):LR K (Itl K p) ⟨ws,FN⟩ H U:=by
 intro H2 U2 h2 i e R2 _;have r2:=e.r _ _ r;rw [FX] at r2;obtain ⟨q,xs,eq,hf,rs⟩:=r2;cases eq;refine ⟨fun w ew=>?_,fun hl=>⟨xs,hf.sq,by rw [<-rs.len];exact hl⟩⟩;obtain ⟨v,ev,rv⟩:=rs.get ew;refine ⟨⟨xs,v,hf.sq,ev⟩,fun x H3 ⟨e3,y⟩=>?_⟩;subst e3;have:=y xs hf.sq
 rw [ev] at this;cases this;exact ⟨U2,.refl,R2,rv⟩
theorem zbx {K:Yc}{H:Hp}{U : Mu}{p:Addr}{n:Nat}{ws:List W}(r:FX K H U (.loc n) (.ref p)):LR K (Itl K p) ⟨ws,Dn (n,ws)⟩ H U:=by
 intro H2 U2 h2 i e R2 ck;have r2:=e.r _ _ r;rw [FX] at r2;obtain ⟨q,eq,hm⟩:=r2;cases eq;obtain ⟨p',xs,hm',hx,rs⟩:=R2.lstAt (show h2.c n=Dn (.lst ws) from ck);have ep:p'=p:=by rw [hm] at hm';exact (Yp hm').symm
 subst ep;refine ⟨fun w ew=>?_,fun hl=>⟨xs,.of hx,by rw [<-rs.len];exact hl⟩⟩;obtain ⟨v,ev,rv⟩:=rs.get ew;refine ⟨⟨xs,v,.of hx,ev⟩,fun x H3 ⟨e3,y⟩=>?_⟩;subst e3;have:=y xs (.of hx)
 rw [ev] at this;cases this;exact ⟨U2,.refl,R2,rv⟩
theorem abt {K:Yc}{H:Hp}{U : Mu}{p:Addr}{ws:List W}(r:FX K H U (.tup ws) (.ref p)):LR K (Itt K p) ⟨ws,FN⟩ H U:=by
 intro H2 U2 h2 i e R2 _;have r2:=e.r _ _ r;rw [FX] at r2;obtain ⟨q,xs,eq,hf,rs⟩:=r2;cases eq;refine ⟨fun w ew=>?_,fun hl=>⟨xs,hf,by rw [<-rs.len];exact hl⟩⟩;obtain ⟨v,ev,rv⟩:=rs.get ew;refine ⟨⟨xs,v,hf,ev⟩,fun x H3 ⟨e3,y⟩=>?_⟩;subst e3;have:=y xs hf
 rw [ev] at this;cases this;exact ⟨U2,.refl,R2,rv⟩
def Xf (K:Yc)(tl:TE):TI:=fun Z H R=>tl Z H fun x H1=>(∃ a,x=.ref a/\(∃ xs,XS K H1 a xs)/\R (Itl K a) H1)\/(∃ a,x=.ref a/\(∃ xs,Ac K H1 a xs)/\R (Itt K a) H1)
theorem Rn {l:Expr}{tl:TE}(hl:PE X l tl):PI X tg l (Xf X.K tl):=by
 intro pins s Z H R I h;refine X6 (hl pins s Z H _ I h) fun v s1 ⟨x,H1,I1,r1,q1⟩=>?_;rcases q1 with ⟨a,e,⟨xs,hq⟩,q⟩ | ⟨a,e,⟨xs,hq⟩,q⟩
 ·subst e;cases r1;obtain ⟨its,rv,p,hz⟩:=I1.list hq;refine Kc p.isList ?_;refine ⟨s1.heap.objs.size,[s1.heap.objs.size],_,_,H1,rfl,I1.kept (t':=s1.toks) fun b o e=>Yh _ e,zaF a _,⟨_,YC _ rfl,rfl,rfl⟩,fun b hb=>?_,q⟩;have e:b=s1.heap.objs.size:=by simpa using hb
  subst e;exact I1.fpOk (Ym _)<|I1.hok.fresh<|Ym _
 ·subst e;cases r1;obtain ⟨its,rv,p,hz⟩:=I1.tuple hq;refine wpAny_pyIter_tuple (show s1.heap.IsTuple a its.toArray from p) ?_;refine ⟨s1.heap.objs.size,[s1.heap.objs.size],_,_,H1,rfl,I1.kept (t':=s1.toks) fun b o e=>Yh _ e,yL a _,⟨_,YC _ rfl,rfl,rfl⟩,fun b hb=>?_,q⟩;have e:b=s1.heap.objs.size:=by simpa using hb
  subst e;exact I1.fpOk (Ym _)<|I1.hok.fresh<|Ym _
def DX (m:ME):MI:=fun Z h R=>m Z h fun w h1=>match Qs h1 w with
 | some s=>R s h1
 | none=>False
theorem iC {l:Expr}(hl:DE X l ma):Fj X tg l (DX ma):=PI.of (Rn hl) fun Z H Q ⟨U,h,Zw,Rw,R,S,m,k⟩=>by
 refine ⟨U,h,Zw,_,R,S,m,fun v H1 ⟨U1,w,h1,e1,R1,r1,m1⟩=>?_⟩;cases w with
 | tup ws=>
  have r1':=r1;rw [FX] at r1;obtain ⟨p,xs,ev,hs,_⟩:=r1;subst ev;exact .inr ⟨p,rfl,⟨xs,hs⟩,k _ _ ⟨U1,⟨ws,FN⟩,h1,e1,R1,abt r1',m1⟩⟩
 | lst ws=>
  have r1':=r1;rw [FX] at r1;obtain ⟨p,xs,ev,hs,_⟩:=r1;subst ev;exact .inl ⟨p,rfl,⟨xs,hs.sq⟩,k _ _ ⟨U1,⟨ws,FN⟩,h1,e1,R1,aaJ r1',m1⟩⟩
 | kls ws=>
  have r1':=r1;rw [FX] at r1;obtain ⟨p,xs,ev,hs,_⟩:=r1;subst ev;exact .inl ⟨p,rfl,⟨xs,hs.sq⟩,k _ _ ⟨U1,⟨ws,FN⟩,h1,e1,R1,abR r1',m1⟩⟩
 | loc n=>
  have r1':=r1;rw [FX] at r1;obtain ⟨p,ev,hm⟩:=r1;subst ev;unfold Qs at m1;dsimp only at m1;cases ec:h1.c n with
  | none=>rw [ec] at m1;exact m1.elim
  | some cl=>
   rw [ec] at m1;cases cl with
   | lst ws=>
    obtain ⟨p',xs,hm',hx,rs⟩:=R1.lstAt ec;have ep:p'=p:=by rw [hm] at hm';exact (Yp hm').symm
    subst ep;exact .inl ⟨p',rfl,⟨xs,.of hx⟩,k _ _ ⟨U1,⟨ws,Dn (n,ws)⟩,h1,e1,R1,zbx r1',m1⟩⟩
   | _=>exact m1.elim
 | _=>exact m1.elim
def wu (lo:Int)(n:Nat):List W:=(ZX n).map fun (k:Nat)=>.int (lo+(k:Int))
theorem Nv {K:Yc}{H:Hp}{U : Mu}{lo:Int}{n:Nat}:LR K (Itr lo n) ⟨wu lo n,FN⟩ H U:=by
 intro H2 U2 h2 i e R2 _;refine ⟨fun w ew=>?_,fun hl=>?_⟩
 ·have hi:i<n:=by
   have:=(Yn.mp ew).1
   simpa [wu] using this
  have ew':w=.int (lo+(i:Int)):=by
   unfold wu at ew;rw [Yo,List.getElem?_range hi] at ew;exact (Yp ew).symm
  subst ew';refine ⟨hi,fun x H3 ⟨e3,y⟩=>?_⟩;subst e3;exact ⟨U2,.refl,R2,by rw [FX];exact y⟩
 ·have:n<=i:=by simpa [wu] using hl
  exact this
def zx (j:Int)(P:Prop):Prop:=AP (decide (-1000<=j)&&decide (j<=1000)) P ((-(2^62)<=j/\j<2^62)/\P)
theorem zx.ok {j:Int}{P:Prop}(h:zx j P):(-(2^62)<=j/\j<2^62)/\P:=by
 unfold zx at h;cases e:(decide (-1000<=j)&&decide (j<=1000)) with
 | true=>
  rw [e] at h;rw [YM,decide_eq_true_iff,decide_eq_true_iff] at e;exact ⟨⟨by lia,by lia⟩,h⟩
 | false=>rw [e] at h;exact h
theorem zx.mk {j:Int}{P:Prop}(h1:-(2^62)<=j)(h2:j<2^62)(h:P):zx j P:=by
 unfold zx;cases e:(decide (-1000<=j)&&decide (j<=1000)) with
 | true=>exact h
 | false=>exact ⟨⟨h1,h2⟩,h⟩
def gw (ma:MA):MI:=fun Z h R=>ma Z h fun ws h1=>match ws with
 | [.int j]=>zx j (R ⟨wu 0 j.toNat,FN⟩ h1)
 | _=>False
theorem bT {a:Expr}{mr:MA}{p pos:Pos}(hg:Gl X "range")(hm:X.mg "range" = FN)(ha:Bo X [a] mr)(hs:YG [a] X.env=[(false,eval a X.env)]:=by rfl):Fj X tg (.Call (.Name "range" p) [a] [] pos) (gw mr):=
 PI.of (zaz hg hm ha hs) fun Z H Q ⟨U,h,Zw,Rw,R,S,m,k⟩=>by
  refine ⟨U,h,Zw,_,R,S,m,fun vs H1 ⟨U1,ws,h1,e1,R1,r1,m1⟩=>?_⟩;split at m1
  ·rename_i j;rw [aP] at r1;obtain ⟨v,vr,ev,ra,r1⟩:=r1;rw [aP] at r1;rw [FX] at ra;subst ev r1 ra;exact ⟨j,rfl,m1.ok.1.1,m1.ok.1.2,k _ _ ⟨U1,_,h1,e1,R1,Nv,m1.ok.2⟩⟩
  ·exact m1.elim
def Src.go (s:Src)(h:Gh)(P:Prop):Prop:=match s.cell with
 | none=>P
 | some n=>h.c n.1=Dn (.lst n.2)/\P
theorem Src.go_ok {s:Src}{h:Gh}{P:Prop}(x:s.go h P):s.chk h/\P:=by
 unfold Src.go at x;unfold Src.chk;cases e:s.cell with
 | none=>rw [e] at x;exact ⟨trivial,x⟩
 | some n=>rw [e] at x;exact x
def ji (s:Src)(g:MG)(b:MS)(D:bU):List W->Sw->Gh->Prop
 | [],Z,h=>s.go h (D.nx Z h)
 | w::r,Z,h=>s.go h (g w Z h fun Z1 h1=>b { D with nx:=ji s g b D r,ct:=ji s g b D r,bk:=D.nx } Z1 h1)
def zq (mi:MI)(g:MG)(b:MS):MS:=fun D Z h=>mi Z h fun s h1=>ji s g b D s.ws Z h1
theorem mU {iter:Expr}{body:List Stmt}{mi:MI}{g:MG}{mb0:MS}{pos:Pos}(hp:abG (Zk X.prog X.w) X.A X.env X.xe)(hc:X.calm=true)(hi:Fj X tg iter mi)(hg:DG X tg g)(hb:JC X body mb0)
  (hs:∀ x,Jp iter X.env x=pure x:=by intro _;rfl):DS X (.For tg iter body [] pos) (zq mi g mb0):=(QV hp hc hi hg hb hs).of fun D Z H ⟨U,h,Zw,Dw,R,S,m,k⟩=>by
 refine ⟨U,h,Zw,_,R,S,m,fun J H1 ⟨U1,src,h1,e1,R1,ok,m1⟩=>?_⟩;refine ⟨fun i n Z' H'=>n=src.ws.length - i/\i<=src.ws.length/\DN X.K H1 U1 (ji src g mb0 Dw<|src.ws.drop i) Z' H',⟨src.ws.length,by simp,J8 _,U1,Zw,h1,.refl,R1,S.ext e1,by rw [Jt];exact m1⟩,?_⟩;rintro i n Z2 H2 ⟨hn,hle,U2,Zw2,h2,e2,R2,S2,m2⟩;by_cases hlt:i<src.ws.length
 ·rw [Z5 hlt] at m2;obtain ⟨ck,m2⟩:=Src.go_ok m2;obtain ⟨hgo,hy⟩:=(ok e2 R2 ck).1 src.ws[i] (Yk hlt);refine .inr ⟨hgo,fun Z' H'=>DN X.K H2 U2 (ji src g mb0 Dw<|src.ws.drop<|i+1) Z' H',fun Z' H' z=>⟨src.ws.length - (i+1),by lia,rfl,hlt,z.trans e2⟩,fun x H3 y=>?_⟩;obtain ⟨U3,e3,R3,rx⟩:=hy x H3 y;refine ⟨U3,h2,Zw2,src.ws[i],_,R3,S2.ext e3,rx,m2,fun Z4 H4 ⟨U4,Zw4,h4,e4,R4,S4,m4⟩=>?_⟩;have e24:=e3.trans e4;have e14:=(e1.trans e2).trans e24;exact ⟨U4,h4,Zw4,_,R4,S4,m4,fun Z' H' z=>z.trans e24,fun v H' z=>k.rt _ _<|z.trans e14,fun Z' H' z=>k.nx _ _<|z.trans e14,fun Z' H' z=>z.trans e24⟩
 ·have ei:i=src.ws.length:=by lia
  subst ei;rw [List.drop_length] at m2;obtain ⟨ck,m2⟩:=Src.go_ok m2;exact .inl ⟨(ok e2 R2 ck).2 (Ym _),k.nx _ _ ⟨U2,Zw2,h2,e1.trans e2,R2,S2,m2⟩⟩
def pP (ix:List Nat)(Z : Sw):Sw:=ix.map fun i=>(Z[i]?).getD FN
theorem Slots.blk {K:Yc}{H:Hp}{U : Mu}{Zw:Sw}{Z : St}{ix:List Nat}(S:Slots K H U Zw Z):∀ {ws:List W} {vs:List V},aP K H U ws vs->Slots K H U (ws.map Dn++pP ix Zw) (vs.map Dn++yE ix Z):=by
 intro ws vs r;have hl:=r.len;refine ⟨by simp [pP,yE,hl],fun i u q=>?_⟩;by_cases hi:i<ws.length
 ·rw [Zu (by simpa using hi),Yo] at q;have q':ws[i]?=Dn u:=by
   cases e:ws[i]? with
   | none=>rw [e] at q;cases q
   | some a=>rw [e] at q;simpa using q
  obtain ⟨v,hv,rv⟩:=r.get q';refine ⟨v,?_,rv⟩;rw [Zu (by rw [Yd];lia),Yo,hv];rfl
 ·rw [Zh (by simpa using hi),Yd] at q;rw [Zh (by rw [Yd];lia),Yd,<-hl];generalize i - ws.length=i at q |-
  unfold pP at q;unfold yE;rw [Yo] at q |-
  cases e:ix[i]? with
  | none=>rw [e] at q;cases q
  | some j=>
   rw [e] at q;cases e2:Zw[j]? with
   | none=>simp [e2] at q
   | some o=>
    have eo:o=Dn u:=by simpa [e2] using q
    subst eo;obtain ⟨v',h1,h2⟩:=S.get j u e2;exact ⟨v',by simp [h1],h2⟩
def tu:MT:=fun _ h Q=>Q true h
def oA (s:Src)(own:W->Option (List W))(ix:List Nat)(tt:MT)(te:ME)(Z : Sw)(Q:WK):List W->List W->Gh->Prop
 | [],acc,h=>s.go h (Q (.lst acc) h)
 | w::r,acc,h=>s.go h (match own w with
  | some vs=>tt (vs.map Dn++pP ix Z) h fun c h1=>AP c (te (vs.map Dn++pP ix Z) h1 fun v h2=>oA s own ix tt te Z Q r (acc++[v]) h2) (oA s own ix tt te Z Q r acc h1)
  | none=>False)
def Aj (own:W->Option (List W))(ix:List Nat)(mi:MI)(tt:MT)(te:ME):ME:=fun Z h Q=>mi Z h fun s h1=>jD s.ws.length (oA s own ix tt te Z Q s.ws [] h1)
def vf (K:Yc)(n:Nat)(own:V->Hp->List V->Prop)(ow:W->Option (List W)):Prop:=∀ {H:Hp} {U : Mu} {w:W} {v:V} {ws:List W},FX K H U w v->ow w=Dn ws->∃ vs,own v H vs/\vs.length=n/\aP K H U ws vs
def BP (w:W):Option (List W):=Dn [w]
def owT (n:Nat)(w:W):Option (List W):=match w with
 | .tup ws=>(match DK ws.length n with
  | true=>Dn ws
  | false=>FN)
 | _=>FN
def ov1:V->Hp->List V->Prop:=fun v _ vs=>vs=[v]
def ovT (K:Yc):V->Hp->List V->Prop:=fun v H vs=>∃ a,v=.ref a/\Ac K H a vs
theorem fD {K:Yc}:vf K 1 ov1 BP:=by
 intro H U w v ws r e;cases (show Dn [w]=Dn ws from e)
 exact ⟨[v],rfl,rfl,.one r⟩
theorem T5 {K:Yc}{n:Nat}:vf K n (ovT K) (owT n):=by
 intro H U w v ws r e;cases w with
 | tup us=>
  unfold owT at e;dsimp only at e;cases en:DK us.length n with
  | false=>rw [en] at e;cases e
  | true=>
   rw [en] at e;cases (show Dn us=Dn ws from e)
   rw [FX] at r;obtain ⟨p,xs,ev,hs,rs⟩:=r;exact ⟨xs,⟨p,ev,hs⟩,by rw [<-rs.len];exact Ko en,rs⟩
 | _=>cases e
abbrev P0 (X:Cx)(ifs:List Expr)(m:MT):Prop:=MN X ifs (tDT X.K m)
theorem cW:P0 X [] tu:=fun pins s Z H Q I ⟨U,h,Zw,Qw,R,S,m,k⟩=>aaG pins s Z H Q I (k _ _ ⟨U,h,.refl,R,m⟩)
theorem jj (h:DT X c t):P0 X [c] t:=MK h
theorem Qg {K:Yc}{Z : St}{H:Hp}{Q:VK}{n:Nat}{own:V->Hp->List V->Prop}{ow:W->Option (List W)}{ix:List Nat}{mi:MI}{tt:MT}{te:ME}(oo:vf K n own ow)(q:tD K (Aj ow ix mi tt te) Z H Q):tLC n own ix (tDI K mi) (tDT K tt) (tD K te) Z H Q:=by
 obtain ⟨U,h,Zw,Qw,R,S,m,k⟩:=q;refine ⟨U,h,Zw,_,R,S,m,fun J H1 ⟨U1,src,h1,e1,R1,ok,hz0⟩=>?_⟩;obtain ⟨hz,m1⟩:=hz0.ok;intro D hD;have nD:=R1.nohid hD;have hD1:XQ K H1 U1 (X5 H1 D (.lst [])) (U1.hide D):=XQ.hide hD;refine ⟨fun i n ys H'=>n=src.ws.length - i/\i<=src.ws.length/\ys.length<=i/\H' D=Dn (.lst ys)/\∃ U' acc h',XQ K H1 U1 H' U'/\Wo K U' H' h'/\U'.hid D/\aP K H' U' acc ys/\oA src ow ix tt te Zw Qw (src.ws.drop i) acc h',
  ⟨src.ws.length,by simp,J8 _,Ym _,bR,U1.hide D,[],h1,hD1,R1.hide hD,.inl rfl,.nil,by rw [Jt];exact m1⟩,?_⟩
 rintro i n' ys H2 ⟨hn,hle,hys,hH2,U2,acc,h2,e2,R2,hid2,ra,m2⟩ _;by_cases hlt:i<src.ws.length
 ·rw [Z5 hlt] at m2;obtain ⟨ck,m2⟩:=Src.go_ok m2;obtain ⟨hgo,hy⟩:=(ok e2 R2 ck).1 src.ws[i] (Yk hlt);refine .inr ⟨hgo,by lia,fun x H3 y=>?_⟩;obtain ⟨U3,e3,R3,rx⟩:=hy x H3 y;have e13:=e2.trans e3;cases eo:ow src.ws[i] with
  | none=>rw [eo] at m2;exact m2.elim
  | some us=>
   rw [eo] at m2;obtain ⟨vs,hov,hvl,rvs⟩:=oo rx eo;have S3:=(S.ext (e1.trans e13)).blk (ix:=ix) rvs;refine ⟨vs,hov,hvl,U3,h2,_,_,R3,S3,m2,fun b H4 ⟨U4,h4,e4,R4,m4⟩=>?_⟩;have e24:=e3.trans e4;obtain ⟨hid4,hH4⟩:=e24.o D _ hid2 hH2;cases b with
   | false=>
    dsimp only;rw [if_neg Y6];exact ⟨hH4,src.ws.length - (i+1),by lia,rfl,hlt,by lia,hH4,U4,acc,h4,e2.trans e24,R4,hid4,e24.s ra,m4⟩
   | true=>
    dsimp only;rw [if_pos rfl];refine ⟨U4,h4,_,_,R4,S3.ext e4,m4,fun v H5 ⟨U5,w5,h5,e5,R5,r5,m5⟩=>?_⟩;have e25:=e24.trans e5;obtain ⟨hid5,hH5⟩:=e25.o D _ hid2 hH2;have g:=Di.grow (ys:=ys++[v]) R5 hid5;have rs:aP K (X5 H5 D (.lst (ys++[v]))) U5 (acc++[w5]) (ys++[v]):=aP.ex (Ex0.grow R5 hid5) (aP.append (e25.s ra) (aP.one r5));exact ⟨hH5,src.ws.length - (i+1),by lia,rfl,hlt,by rw [Yw];simp;lia,bR,U5,acc++[w5],h5,(e2.trans e25).x nD g,R5.grow hid5,hid5,rs,m5⟩
 ·have ei:i=src.ws.length:=by lia
  subst ei;rw [List.drop_length] at m2;obtain ⟨ck,m2⟩:=Src.go_ok m2;exact .inl ⟨(ok e2 R2 ck).2 (Ym _),k _ _ ⟨U2.unhide D,.lst acc,h2,e1.trans<|e2.x nD .unhide,R2.unhide,FX.built R2 hid2 hH2 ra,m2⟩⟩
variable {scope:Scope}{x:Str}{xs:List Str}{ix:List Nat}{elt iter:Expr}{ifs:List Expr}{px:Pos}{mi:MI}{tt:MT}{te:ME}
theorem fB (B:jB X scope [x] ix)(C:Addr)(s:Yj)(H:Hp)(fp:List Addr):PG (blk X scope (iG X [x] ix) C s H fp) (.Name x px) (Ho 1 ov1):=by
 obtain ⟨o1,o2⟩:=zW B (y:=x) (by simp);intro pins s' Z H' v u Q I r ⟨vs,hv,hl,q⟩;cases hv;refine cV (X:=blk X scope (iG X [x] ix) C s H fp) (i:=0) B.nd rfl o1 o2 pins s' Z H' v u Q I r ?_;have hlen:Z.length=(iG X [x] ix).length:=I.len;cases Z with
 | nil=>simp at hlen
 | cons o Z=>exact q
theorem U8 {y:Str}{py pt:Pos}{kt:Nat}(hc:X.calm=true)(B:jB X scope [x,y] ix)(C:Addr)(s:Yj)(H:Hp)(fp:List Addr)
  (h1:∀ env,(ZF [.Name x px,.Name y py] env).map (·.2)=assign (.Name x px) env::(ZF [.Name y py] env).map (·.2):=by intro _;rfl)
  (h2:∀ env,(ZF [.Name y py] env).map (·.2)=assign (.Name y py) env::(ZF [] env).map (·.2):=by intro _;rfl)
  (h3:∀ env,(ZF [.Name x px,.Name y py] env).length=2:=by intro _;rfl) (h4:∀ env,(ZF [.Name x px,.Name y py] env).findIdx? (·.1)=FN:=by intro _;rfl) :
  PG (blk X scope (iG X [x,y] ix) C s H fp) (.Tuple [.Name x px,.Name y py] kt pt) (Ho 2 (ovT X.K)):=by
 obtain ⟨o1,u1⟩:=zW B (y:=x) (by simp);obtain ⟨o2,u2⟩:=zW B (y:=y) (by simp);intro pins s' Z H' v u Q I r ⟨vs,⟨a,ea,ha⟩,hl,q⟩;have hlen:Z.length=(iG X [x,y] ix).length:=I.len;refine QX (X:=blk X scope (iG X [x,y] ix) C s H fp) (n:=2) hc (sJ (cV (i:=0) B.nd rfl o1 u1) (sJ (cV (i:=1) B.nd rfl o2 u2) Ck<|h2 _)<|h1 _) (h3 _) (h4 _) pins s' Z H' v u Q I r ?_;refine ⟨a,vs,ea,ha,hl,?_⟩;match vs,hl,q with
 | [v1,v2],_,q=>
  match Z,hlen,q with
  | [],hlen,_=>simp at hlen
  | [_],hlen,_=>simp at hlen
  | _::_::Z,_,q=>exact ⟨v1,[v2],rfl,v2,[],rfl,rfl,q⟩
theorem yt {own:V->Hp->List V->Prop}{ow:W->Option (List W)}(ix:List Nat)(hc:X.calm=true)(B:jB X scope xs ix)(oo:vf X.K xs.length own ow)(hg:∀ C s H fp,PG (blk X scope (iG X xs ix) C s H fp) tg (Ho xs.length own))(hi:Fj X tg iter mi)
  (ht:∀ C s H fp,P0 (blk X scope (iG X xs ix) C s H fp) ifs tt) (he:∀ C s H fp,DE (blk X scope (iG X xs ix) C s H fp) elt te)
  (hs:∀ v,Jp iter X.env v=pure v:=by intro _;rfl):DE X (.ListComp elt [⟨tg,iter,ifs,0⟩] scope pos) (Aj ow ix mi tt te):=(Uw ix hc B hg hi ht he hs).of fun _ _ _ q=>Qg oo q
theorem rK {own:V->Hp->List V->Prop}{ow:W->Option (List W)}(ix:List Nat){i:Nat}{y:Str}{py spos:Pos}(hN:X.N.Nodup)(hi':X.N[i]?=Dn y)(hy:Loc X.env.scope y)(hc:X.calm=true)(B:jB X scope xs ix)(oo:vf X.K xs.length own ow)
  (hg:∀ C s H fp,PG (blk X scope (iG X xs ix) C s H fp) tg (Ho xs.length own)) (hi:Fj X tg iter mi)
  (ht:∀ C s H fp,P0 (blk X scope (iG X xs ix) C s H fp) ifs tt) (he:∀ C s H fp,DE (blk X scope (iG X xs ix) C s H fp) elt te)
  (hsw:swapsWith (.ListComp elt [⟨tg,iter,ifs,0⟩] scope pos) (Dn (.Name y py)) spos.line X.env=pure true:=by rfl)
  (hf:X.fn y=true\/X.env.scope.names.lookup y=Dn .local:=by first | exact .inl rfl | exact .inr rfl | assumption)
  (hs:∀ v,Jp iter X.env v=pure v:=by intro _;rfl):DS X (.Assign [.Name y py] (.ListComp elt [⟨tg,iter,ifs,0⟩] scope pos) spos) (cY (Aj ow ix mi tt te) (JI i)):=
 (Ni ix hN hi' hy hc B hg hi ht he hsw hf hs).of fun _ _ _ q=>Ar (fun _ _ _ z=>Qg oo z) q
theorem Tn {κ : Type}{K:Yc}{H0 H:Hp}{U0 U : Mu}{k:Nat}(hd:∀ n p,U0.f n=Dn p->n<k):∀ {fs:List (κ×W)} {f0 fv:List (κ×V)},m6 K H0 U0 fs f0->m6 K H U fs fv->m6 K H (U.cut k) fs fv
 | [],_,_,_,.nil=>.nil
 | _::_,_,_,.cons a b,.cons c d=>.cons ⟨c.1,FX.cut c.2 (FX.lo hd a.2)⟩ (Tn hd b d)
def pO (pure:Bool)(h:Gh)(w:W)(h':Gh)(Q:WK):Prop:=match pure with
 | false=>Q w h'
 | true=>(∀ n c,n<h.nx->h.c n=Dn c->h'.c n=Dn c)/\((Lo h.nx w/\Q w h)\/∃ n ws,w=.loc n/\h.nx<=n/\h'.c n=Dn (.lst ws)/\FJ h.nx ws/\Q (.lst ws) h)
def Ae (n N:Nat)(pure:Bool)(body:X4->MS):VR:=fun ws h Q E=>AP (DK ws.length n)
 (body E { nx:=fun _ h'=>pO pure h .non h' Q,rt:=fun w h'=>pO pure h w h' Q } (ws.map Dn++ZD (N - ws.length) FN) h) False
theorem Hy {n N:Nat}{pure:Bool}{body:X4->MS}{ws:List W}{h:Gh}{Q:WK}{E:X4}(x:Ae n N pure body ws h Q E):ws.length=n /\
  body E { nx:=fun _ h'=>pO pure h .non h' Q,rt:=fun w h'=>pO pure h w h' Q } (ws.map Dn++ZD (N - ws.length) FN) h:=by
 unfold Ae at x;cases e:DK ws.length n with
 | true=>rw [e] at x;exact ⟨Ko e,x⟩
 | false=>rw [e] at x;exact (show False from x).elim
theorem Wo.cut {K:Yc}{H H':Hp}{U U':Mu}{h h':Gh}(R:Wo K U H h)(R':Wo K U' H' h')(e:XQ K H U H' U')(hc:∀ n c,h.c n=Dn c->h'.c n=Dn c):Wo K (U'.cut h.nx) H' h where
 inj:=fun m n p a b=>R'.inj m n p (Mu.cut_some a).2 (Mu.cut_some b).2
 dom:=fun n p a=>(Mu.cut_some a).1
 trk:=fun n p a=>R'.trk n p (Mu.cut_some a).2
 cel:=fun n c a=>by
  obtain ⟨p0,m0,x0⟩:=R.cel n c a;obtain ⟨p,m,x⟩:=R'.cel n c (hc n c a);have hn:=R.dom n p0 m0;refine ⟨p,by show (if n<h.nx then U'.f n else FN)=Dn p;rw [if_pos hn];exact m,?_⟩;cases c with
  | lst ws=>
   obtain ⟨xs0,_,r0⟩:=x0;obtain ⟨xs,hx,r⟩:=x;exact ⟨xs,hx,aP.cut r<|aP.lo R.dom r0⟩
  | obj C fs=>
   obtain ⟨dx0,f0,_,r0⟩:=x0;obtain ⟨dx,fv,hx,r⟩:=x;exact ⟨dx,fv,hx,Tn R.dom r0 r⟩
  | dct kvs=>
   obtain ⟨f0,_,r0⟩:=x0;obtain ⟨fv,hx,r⟩:=x;exact ⟨fv,hx,Tn R.dom r0 r⟩
  | dtt kvs=>
   obtain ⟨_,_,_,_,_,d0,f0⟩:=x0;obtain ⟨xs,vs,a,b,c,d,f⟩:=x;exact ⟨xs,vs,a,b,c,aP.cut d<|aP.lo R.dom d0,aP.cut f<|aP.lo R.dom f0⟩
 hd:=fun p z=>⟨(R'.hd p z).1,fun n a=>(R'.hd p z).2 n (Mu.cut_some a).2⟩
theorem XQ.cut {K:Yc}{H H':Hp}{U U':Mu}{h:Gh}(R:Wo K U H h)(e:XQ K H U H' U'):XQ K H U H' (U'.cut h.nx):=
 ⟨fun w v r=>FX.cut (e.r w v r) (FX.lo R.dom r),fun p u z a=>e.o p u z a⟩
theorem BK {K:Yc}{H H':Hp}{U U':Mu}{h h':Gh}{w:W}{v:V}{Q:WK}{pure:Bool}(R:Wo K U H h)(e:XQ K H U H' U')(R':Wo K U' H' h')(r:FX K H' U' w v)(x:pO pure h w h' Q):DQ K H U Q v H':=by
 cases pure with
 | false=>exact ⟨U',w,h',e,R',r,x⟩
 | true=>
  obtain ⟨hc0,⟨lo,q⟩ | ⟨n,ws,ew,hn,ec,lo,q⟩⟩:=x;all_goals have hc:∀ n c,h.c n=Dn c->h'.c n=Dn c:=fun n c a=>hc0 n c (let ⟨p,m,_⟩:=R.cel n c a;R.dom n p m) a
  ·exact ⟨U'.cut h.nx,w,h,e.cut R,R.cut R' e hc,FX.cut r lo,q⟩
  ·subst ew;refine ⟨U'.cut h.nx,.lst ws,h,e.cut R,R.cut R' e hc,?_,q⟩;rw [FX] at r;rw [FX];obtain ⟨p,ev,hm⟩:=r;obtain ⟨p',xs,hm',hx,rs⟩:=R'.lstAt ec;have ep:p'=p:=by rw [hm] at hm';exact (Yp hm').symm
   subst ep;refine ⟨p',xs,ev,⟨hx,fun m a=>?_,fun z=>(R'.hd p' z).2 n hm⟩,aP.cut rs lo⟩;obtain ⟨a1,a2⟩:=Mu.cut_some a;have:=R'.inj m n p' a2 hm
   lia
theorem vB {K:Yc}{H:Hp}{U : Mu}{N:List Str}:∀ {ws:List W} {vs:List V},aP K H U ws vs->Slots K H U (ws.map Dn++ZD (N.length - ws.length) FN) (start N vs):=by
 intro ws vs r;have hl:=r.len;refine ⟨by simp [start,hl],fun i w q=>?_⟩;by_cases hi:i<ws.length
 ·rw [Zu (by simpa using hi),Yo] at q;have q':ws[i]?=Dn w:=by
   cases e:ws[i]? with
   | none=>rw [e] at q;cases q
   | some a=>rw [e] at q;simpa using q
  obtain ⟨v,hv,rv⟩:=r.get q';refine ⟨v,?_,rv⟩;unfold start;rw [Zu (by rw [Yd];lia),Yo,hv];rfl
 ·rw [Zh (by simpa using hi),LC] at q;split at q <;> cases q
theorem mG {P:YF}{w:Zb}{K:Yc}{mg:Str->Option Ye}{base:Heap}{x qual:Str}{st:Stmt}{f:Addr}{fd:Y8}{N ps:List Str}{k:Nat}{pure:Bool}{body:X4->MS}(F:Ai K x qual st f fd)(S:bJ N ps (aQ st))
  (hb:∀ (cdv:Ye) (A:YW) (outer:List Env) (s:Yj) (H:Hp) (E:XK),mz k (A.deeper (envOfC qual (aQ st) s.heap.objs.size f cdv)) ->
   JC (Iz kI P w K mg base N qual (aQ st) f cdv A outer s H E).nox (jK st) (body EF)):eO P w K mg base kI (k+1) f fd ps (lift K (Ae ps.length N.length pure body)):=by
 refine F.ok S (fun vs H Q E ⟨U,h,ws,Qw,R,r,m,k⟩=>by rw [<-r.len];exact (Hy m).1)<|fun cdv A outer s H vs Q E hr ⟨U,h,ws,Qw,R,r,m0,k⟩=>?_
 obtain ⟨hl,m⟩:=Hy m0;refine ⟨_,hb cdv A outer s H E hr,U,h,_,_,R,vB r,m,?_,?_,?_,?_⟩
 ·rintro Z' H' ⟨U1,Zw1,h1,e1,R1,S1,m1⟩;exact k _ _<|BK (w:=.non) R e1 R1 (by rw [FX]) m1
 ·rintro v H' ⟨U1,w1,h1,e1,R1,r1,m1⟩;exact k _ _<|BK R e1 R1 r1 m1
 ·rintro Z' H' ⟨U1,Zw1,h1,e1,R1,S1,m1⟩;exact m1.elim
 ·rintro Z' H' ⟨U1,Zw1,h1,e1,R1,S1,m1⟩;exact m1.elim
end
section
variable {X:Cx}{K:Yc}
theorem DQ.int {H:Hp}{U : Mu}{h:Gh}{i:Int}{Q:WK}(R:Wo K U H h)(q:Q (.int i) h):DQ K H U Q (.int i) H:=⟨U,.int i,h,.refl,R,by rw [FX],q⟩
theorem DQ.bl {H:Hp}{U : Mu}{h:Gh}{i:Bool}{Q:WK}(R:Wo K U H h)(q:Q (.bl i) h):DQ K H U Q (.bl i) H:=⟨U,.bl i,h,.refl,R,by rw [FX],q⟩
def zav (C:Int->Int->Prop)(g:Int->Int->Int):M2:=fun x y h Q=>match x,y with
 | .int i,.int j=>C i j/\Q (.int (g i j)) h
 | _,_=>False
def KQ:M2:=fun x y h Q=>match x,y with
 | .int i,.int j=>Q (.int (i - j)) h
 | _,_=>False
theorem JT:Bl X (Cq .Sub) KQ:=⟨_,Oe,by
 intro H U h x y wx wy Qw Q R rx ry m k;unfold KQ at m;split at m
 ·rw [FX] at rx ry;exact ⟨_,_,rx,ry,k _ _<|.int R m⟩
 ·exact m.elim⟩
def Ov:M2:=fun x y h Q=>match x,y with
 | .int i,.int j=>sV i j/\Q (.int (i*j)) h
 | _,_=>False
theorem PL:Bl X (Cq .Mult) Ov:=⟨_,abm,by
 intro H U h x y wx wy Qw Q R rx ry m k;unfold Ov at m;split at m
 ·rw [FX] at rx ry;exact ⟨_,_,rx,ry,m.1,k _ _<|.int R m.2⟩
 ·exact m.elim⟩
def RG:M2:=fun x y h Q=>match x,y with
 | .int i,.int j=>GF i j/\Q (.int (i.fdiv j)) h
 | _,_=>False
theorem Ks:Bl X (Cq .FloorDiv) RG:=⟨_,zO,by
 intro H U h x y wx wy Qw Q R rx ry m k;unfold RG at m;split at m
 ·rw [FX] at rx ry;exact ⟨_,_,rx,ry,m.1,k _ _<|.int R m.2⟩
 ·exact m.elim⟩
def Bd:M2:=fun x y h Q=>match x,y with
 | .int i,.int j=>j≠0/\Q (.int (i.fmod j)) h
 | _,_=>False
theorem uD:Bl X (Cq .Mod) Bd:=⟨_,aar,by
 intro H U h x y wx wy Qw Q R rx ry m k;unfold Bd at m;split at m
 ·rw [FX] at rx ry;exact ⟨_,_,rx,ry,m.1,k _ _<|.int R m.2⟩
 ·exact m.elim⟩
def Sv:M2:=fun x y h Q=>match x,y with
 | .int i,.int j=>Ve i j/\Q (.int (i^j.toNat)) h
 | _,_=>False
theorem Vl:Bl X (Cq .Pow) Sv:=⟨_,Pr,by
 intro H U h x y wx wy Qw Q R rx ry m k;unfold Sv at m;split at m
 ·rw [FX] at rx ry;exact ⟨_,_,rx,ry,m.1,k _ _<|.int R m.2⟩
 ·exact m.elim⟩
def kLt:M2:=fun x y h Q=>match x,y with
 | .int i,.int j=>Q (.bl (decide (i<j))) h
 | _,_=>False
theorem FP:Bl X (Zv .Lt) kLt:=⟨_,Va,by
 intro H U h x y wx wy Qw Q R rx ry m k;unfold kLt at m;split at m
 ·rw [FX] at rx ry;exact ⟨_,_,rx,ry,k _ _<|.bl R m⟩
 ·exact m.elim⟩
def kLe:M2:=fun x y h Q=>match x,y with
 | .int i,.int j=>Q (.bl (decide (i<=j))) h
 | _,_=>False
theorem Xd:Bl X (Zv .LtE) kLe:=⟨_,S8,by
 intro H U h x y wx wy Qw Q R rx ry m k;unfold kLe at m;split at m
 ·rw [FX] at rx ry;exact ⟨_,_,rx,ry,k _ _<|.bl R m⟩
 ·exact m.elim⟩
def kGt:M2:=fun x y h Q=>match x,y with
 | .int i,.int j=>Q (.bl (decide (j<i))) h
 | _,_=>False
theorem Sq:Bl X (Zv .Gt) kGt:=⟨_,Uv,by
 intro H U h x y wx wy Qw Q R rx ry m k;unfold kGt at m;split at m
 ·rw [FX] at rx ry;exact ⟨_,_,rx,ry,k _ _<|.bl R m⟩
 ·exact m.elim⟩
def kGe:M2:=fun x y h Q=>match x,y with
 | .int i,.int j=>Q (.bl (decide (j<=i))) h
 | _,_=>False
theorem Wu:Bl X (Zv .GtE) kGe:=⟨_,Uz,by
 intro H U h x y wx wy Qw Q R rx ry m k;unfold kGe at m;split at m
 ·rw [FX] at rx ry;exact ⟨_,_,rx,ry,k _ _<|.bl R m⟩
 ·exact m.elim⟩
theorem aP.ne_nil {H:Hp}{U : Mu}{ws:List W}{xs:List V}(r:aP K H U ws xs):xs=[]↔ws=[]:=by
 have:=r.len
 constructor
 ·intro e;subst e;exact Lf this
 ·intro e;subst e;exact Lf this.symm
def W9:M2:=fun x y h Q=>match y with
 | .int i=>(match view h x with
  | some ws=>(match CK ws i with
   | some w=>Q w h
   | none=>False)
  | none=>False)
 | _=>False
theorem aP.at {H:Hp}{U : Mu}{ws:List W}{xs:List V}{i:Int}{w:W}(r:aP K H U ws xs)(e:CK ws i=Dn w):∃ v,CK xs i=Dn v/\FX K H U w v:=by
 unfold CK at e |-
 rw [<-r.len];cases q:Ea ws.length i with
 | none=>rw [q] at e;cases e
 | some j=>rw [q] at e;exact r.get e
theorem cB {H:Hp}{U : Mu}{h:Gh}{w:W}{v:V}{ws:List W}(R:Wo K U H h)(r:FX K H U w v)(e:cC h w=Dn ws):∃ p xs,v=.ref p/\XS K H p xs/\aP K H U ws xs:=by
 cases w with
 | lst us=>
  rw [FX] at r;obtain ⟨p,xs,ev,hs,rs⟩:=r;cases (show Dn us=Dn ws from e)
  exact ⟨p,xs,ev,hs.sq,rs⟩
 | kls us=>
  rw [FX] at r;obtain ⟨p,xs,ev,hs,rs⟩:=r;cases (show Dn us=Dn ws from e)
  exact ⟨p,xs,ev,hs.sq,rs⟩
 | loc n=>
  rw [FX] at r;obtain ⟨p,ev,hm⟩:=r;unfold cC at e;dsimp only at e;cases ec:h.c n with
  | none=>rw [ec] at e;cases e
  | some cl=>
   rw [ec] at e;cases cl with
   | lst us=>
    cases (show Dn us=Dn ws from e)
    obtain ⟨p',xs,hm',hx,rs⟩:=R.lstAt ec;have ep:p'=p:=by rw [hm] at hm';exact (Yp hm').symm
    subst ep;exact ⟨p',xs,ev,.of hx,rs⟩
   | _=>cases e
 | _=>cases e
theorem sI {H:Hp}{U : Mu}{h:Gh}{w:W}{v:V}{ws:List W}(R:Wo K U H h)(r:FX K H U w v)(e:view h w=Dn ws):∃ p xs,v=.ref p/\(XS K H p xs\/Ac K H p xs)/\aP K H U ws xs:=by
 cases w with
 | tup us=>
  rw [FX] at r;obtain ⟨p,xs,ev,hs,rs⟩:=r;cases (show Dn us=Dn ws from e)
  exact ⟨p,xs,ev,.inr hs,rs⟩
 | lst us=>
  obtain ⟨p,xs,ev,hs,rs⟩:=cB (ws:=ws) R r e;exact ⟨p,xs,ev,.inl hs,rs⟩
 | kls us=>
  obtain ⟨p,xs,ev,hs,rs⟩:=cB (ws:=ws) R r e;exact ⟨p,xs,ev,.inl hs,rs⟩
 | loc n=>
  obtain ⟨p,xs,ev,hs,rs⟩:=cB (ws:=ws) R r e;exact ⟨p,xs,ev,.inl hs,rs⟩
 | _=>cases e
theorem Pk:U7 K (rIx K) W9:=by
 intro H U h x y wx wy Qw Q R rx ry m k;unfold W9 at m;split at m
 ·rename_i i;split at m
  ·rename_i ws ev;split at m
   ·rename_i w ew;obtain ⟨p,xs,ex,hs,rs⟩:=sI R rx ev;obtain ⟨v,hv,rv⟩:=rs.at ew;rw [FX] at ry;have fin:=k _ _ ⟨U,w,h,.refl,R,rv,m⟩;rcases hs with hs | hs
    ·exact .inl ⟨p,xs,i,v,ex,ry,hs,hv,fin⟩
    ·exact .inr<|.inl ⟨p,xs,i,v,ex,ry,hs,hv,fin⟩
   ·exact m.elim
  ·exact m.elim
 ·exact m.elim
theorem bO {a b:Expr}{ma mb:ME}{pos:Pos}(ha:DE X a ma)(hb:DE X b mb)(hs:vL b):DE X (.Subscript a b pos) (Mk W9 ma mb):=(Og HB ha hb hs).of fun Z H Q h=>two h fun R r1 r2 m k=>Pk R r1 r2 m k
abbrev MO:=Sw->Gh->(Option Int->Gh->Prop)->Prop
def tDO (K:Yc)(m:MO):TO:=fun Z H Q=>∃ U h Zw Qw,Wo K U H h/\Slots K H U Zw Z/\m Zw h Qw/\∀ o H',(∃ U' h',XQ K H U H' U'/\Wo K U' H' h'/\Qw o h')->Q o H'
abbrev DO (X:Cx)(e:Option Expr)(m:MO):Prop:=PO X e (tDO X.K m)
theorem PO.of {e:Option Expr}{t t':TO}(h:PO X e t)(k:∀ Z H Q,t' Z H Q->t Z H Q):PO X e t':=by
 unfold PO at h |-
 intros
 apply h <;> first | assumption | (apply k;assumption)
def cR:MO:=fun _ h Q=>Q FN h
def iI (m:ME):MO:=fun Z h Q=>m Z h fun w h1=>match w with
 | .int i=>Q (Dn i) h1
 | _=>False
theorem eE:DO X FN cR:=PO.of abz fun Z H Q ⟨U,h,Zw,Qw,R,S,m,k⟩=>k _ _ ⟨U,h,.refl,R,m⟩
theorem dB {e:Expr}{ma:ME}(he:DE X e ma):DO X (Dn e) (iI ma):=PO.of (abF he) fun Z H Q ⟨U,h,Zw,Qw,R,S,m,k⟩=>by
 refine ⟨U,h,Zw,_,R,S,m,fun v H1 ⟨U1,w,h1,e1,R1,r1,m1⟩=>?_⟩;split at m1
 ·rw [FX] at r1;exact ⟨_,r1,k _ _ ⟨U1,h1,e1,R1,m1⟩⟩
 ·exact m1.elim
def qd (xs:List W)(lo hi:Option Int):List W:=(xs.drop (HT.sIx xs.length 0 lo)).take (HT.sIx xs.length xs.length hi - HT.sIx xs.length 0 lo)
def DW (r:W->Option Int->Option Int->Gh->WK->Prop)(m:ME)(l u:MO):ME:=fun Z h Q=>m Z h fun x h1=>l Z h1 fun lo h2=>u Z h2 fun hi h3=>r x lo hi h3 Q
theorem aP.cutv {H:Hp}{U : Mu}{ws:List W}{xs:List V}(r:aP K H U ws xs)(lo hi:Option Int):aP K H U (qd ws lo hi) (Dm xs lo hi):=by
 unfold qd Dm;rw [<-r.len];exact (r.drop _).take _
end
mutual
def Wj:W->W->Bool
 | .non,.non=>true
 | .bl a,.bl b=>a==b
 | .bl a,.int b=>(if a then 1 else 0)==b
 | .int a,.bl b=>a==(if b then 1 else 0)
 | .int a,.int b=>a==b
 | .str a,.str b=>a==b
 | .tup a,.tup b=>mK a b
 | .lst a,.lst b=>mK a b
 | _,_=>false
def mK:List W->List W->Bool
 | [],[]=>true
 | a::as,b::bs=>Wj a b&&mK as bs
 | _,_=>false
end
def WR:Nat->W->Bool
 | _,.non=>true
 | _,.bl _=>true
 | _,.int _=>true
 | _,.str _=>true
 | n+1,.tup ws=>ws.all (WR n)
 | n+1,.lst ws=>ws.all (WR n)
 | _,_=>false
mutual
def Dt (K:Yc)(H:Hp):W->V->Prop
 | .non,v=>v=.non
 | .bl b,v=>v=.bl b
 | .int i,v=>v=.int i
 | .str x,v=>v=.str x
 | .tup ws,v=>∃ p xs,v=.ref p/\Ac K H p xs/\Yb K H ws xs
 | .lst ws,v=>∃ p xs,v=.ref p/\XS K H p xs/\Yb K H ws xs
 | .ty _,_=>False
 | .kls _,_=>False
 | .loc _,_=>False
 | .exc _,_=>False
 | .exa _ _,_=>False
 | .fnv _ _,_=>False
def Yb (K:Yc)(H:Hp):List W->List V->Prop
 | [],xs=>xs=[]
 | w::ws,xs=>∃ v vs,xs=v::vs/\Dt K H w v/\Yb K H ws vs
end
section
variable {X:Cx}{K:Yc}{H:Hp}{U : Mu}{h:Gh}
theorem Yb.len:∀ {ws:List W} {xs:List V},Yb K H ws xs->ws.length=xs.length
 | [],xs,h=>by
  have e:xs=[]:=by rw [Yb] at h;exact h
  rw [e];rfl
 | w::ws,xs,h=>by
  rw [Yb] at h;obtain ⟨v,vs,e,_,h⟩:=h;rw [e,YB,YB,Yb.len h]
theorem Yb.get:∀ {ws:List W} {xs:List V} {i:Nat} {w:W},Yb K H ws xs->ws[i]?=Dn w->∃ v,xs[i]?=Dn v/\Dt K H w v
 | [],_,_,_,_,e=>by simp at e
 | a::ws,xs,0,w,h,e=>by
  rw [Yb] at h;obtain ⟨v,vs,e1,r,_⟩:=h;simp at e;subst e;subst e1;exact ⟨v,rfl,r⟩
 | a::ws,xs,i+1,w,h,e=>by
  rw [Yb] at h;obtain ⟨v,vs,e1,_,h⟩:=h;subst e1;obtain ⟨u,h1,h2⟩:=Yb.get (i:=i) (w:=w) h (by simpa using e);exact ⟨u,by simpa using h1,h2⟩
theorem uO {n:Nat}(one:∀ {w:W} {v:V},FX K H U w v->WR n w=true->Dt K H w v):∀ {ws:List W} {xs:List V},aP K H U ws xs->ws.all (WR n)=true->Yb K H ws xs
 | [],_,h,_=>by rw [aP] at h;rw [Yb];exact h
 | w::ws,_,h,p=>by
  rw [aP] at h;rw [Yb];obtain ⟨v,vs,e,r,h⟩:=h;rw [IW,YM] at p;exact ⟨v,vs,e,one r p.1,uO one h p.2⟩
theorem Gk:∀ (n:Nat) {w:W} {v:V},FX K H U w v->WR n w=true->Dt K H w v:=by
 intro n;induction n with
 | zero=>
  intro w v r p;cases w with
  | non=>rw [FX] at r;rw [Dt];exact r
  | bl _=>rw [FX] at r;rw [Dt];exact r
  | int _=>rw [FX] at r;rw [Dt];exact r
  | str _=>rw [FX] at r;rw [Dt];exact r
  | _=>simp [WR] at p
 | succ n ih=>
  intro w v r p;cases w with
  | non=>rw [FX] at r;rw [Dt];exact r
  | bl _=>rw [FX] at r;rw [Dt];exact r
  | int _=>rw [FX] at r;rw [Dt];exact r
  | str _=>rw [FX] at r;rw [Dt];exact r
  | tup ws=>
   rw [FX] at r;rw [Dt];obtain ⟨p',xs,e,hs,rs⟩:=r;exact ⟨p',xs,e,hs,uO ih rs<|by simpa [WR] using p⟩
  | lst ws=>
   rw [FX] at r;rw [Dt];obtain ⟨p',xs,e,hs,rs⟩:=r;exact ⟨p',xs,e,hs.sq,uO ih rs<|by simpa [WR] using p⟩
  | _=>simp [WR] at p
theorem rC:∀ {a b:List W},a.length≠b.length->mK a b=false
 | [],[],h=>absurd rfl h
 | [],_::_,_=>by simp [mK]
 | _::_,[],_=>by simp [mK]
 | a::as,b::bs,h=>by
  rw [mK,rC (a:=as) (b:=bs) (by simpa using h),Bool.and_false]
def O2 (a b:List W)(j:Nat):Bool:=Wj (a.getD j .non) (b.getD j .non)
theorem qU:∀ {a b:List W},a.length=b.length->(ZX a.length).all (O2 a b)=mK a b
 | [],[],_=>by simp [mK]
 | [],_::_,h=>by simp at h
 | _::_,[],h=>by simp at h
 | a::as,b::bs,h=>by
  rw [mK,<-qU (a:=as) (b:=bs) (by simpa using h),YB,List.range_succ_eq_map,IW,List.all_map];rfl
mutual
theorem yc {pins:List (Addr×Obj)}{s:Yj}{Z : St}(I:Go X pins Z H s):∀ {w u:W} {v:V},Dt X.K H w v->Dt X.K H u v->Wj w u=true
 | .non,u,v,h,g=>by rw [Dt] at h;subst h;cases u <;> rw [Dt] at g <;> first | rfl | exact g.elim | (obtain ⟨_,_,g,_⟩:=g;cases g;done) | (cases g;done)
 | .bl b,u,v,h,g=>by rw [Dt] at h;subst h;cases u <;> rw [Dt] at g <;> first | (injection g with g;simp [Wj,g];done) | exact g.elim | (obtain ⟨_,_,g,_⟩:=g;cases g;done) | (cases g;done)
 | .int b,u,v,h,g=>by rw [Dt] at h;subst h;cases u <;> rw [Dt] at g <;> first | (injection g with g;simp [Wj,g];done) | exact g.elim | (obtain ⟨_,_,g,_⟩:=g;cases g;done) | (cases g;done)
 | .str b,u,v,h,g=>by rw [Dt] at h;subst h;cases u <;> rw [Dt] at g <;> first | (injection g with g;simp [Wj,g];done) | exact g.elim | (obtain ⟨_,_,g,_⟩:=g;cases g;done) | (cases g;done)
 | .tup ws,u,v,h,g=>by
  rw [Dt] at h;obtain ⟨p,xs,e,hs,ds⟩:=h;subst e;cases u with
  | tup us=>
   rw [Dt] at g;obtain ⟨p',xs',e',hs',ds'⟩:=g;cases e'
   have:=I.tuple_inj hs hs'
   subst this;rw [Wj];exact oU I ds ds'
  | lst us=>
   rw [Dt] at g;obtain ⟨p',xs',e',hs',ds'⟩:=g;cases e'
   obtain ⟨_,_,t,_⟩:=I.tuple hs;obtain ⟨_,_,l,_⟩:=I.list hs';exact absurd rfl<|Kz l.isList<|show s.heap.IsTuple _ _ from t
  | ty _=>rw [Dt] at g;exact g.elim
  | loc _=>rw [Dt] at g;exact g.elim
  | kls _=>rw [Dt] at g;exact g.elim
  | _=>rw [Dt] at g;cases g
 | .lst ws,u,v,h,g=>by
  rw [Dt] at h;obtain ⟨p,xs,e,hs,ds⟩:=h;subst e;cases u with
  | lst us=>
   rw [Dt] at g;obtain ⟨p',xs',e',hs',ds'⟩:=g;cases e'
   have:=I.list_inj hs hs'
   subst this;rw [Wj];exact oU I ds ds'
  | tup us=>
   rw [Dt] at g;obtain ⟨p',xs',e',hs',ds'⟩:=g;cases e'
   obtain ⟨_,_,t,_⟩:=I.tuple hs';obtain ⟨_,_,l,_⟩:=I.list hs;exact absurd rfl<|Kz l.isList<|show s.heap.IsTuple _ _ from t
  | ty _=>rw [Dt] at g;exact g.elim
  | loc _=>rw [Dt] at g;exact g.elim
  | kls _=>rw [Dt] at g;exact g.elim
  | _=>rw [Dt] at g;cases g
 | .ty _,_,_,h,_=>by rw [Dt] at h;exact h.elim
 | .loc _,_,_,h,_=>by rw [Dt] at h;exact h.elim
 | .exc _,_,_,h,_=>by rw [Dt] at h;exact h.elim
 | .exa _ _,_,_,h,_=>by rw [Dt] at h;exact h.elim
 | .kls _,_,_,h,_=>by rw [Dt] at h;exact h.elim
theorem oU {pins:List (Addr×Obj)}{s:Yj}{Z : St}(I:Go X pins Z H s):∀ {ws us:List W} {vs:List V},Yb X.K H ws vs->Yb X.K H us vs->mK ws us=true
 | [],us,vs,h,g=>by
  rw [Yb] at h;subst h;cases us with
  | nil=>rfl
  | cons _ _=>rw [Yb] at g;obtain ⟨_,_,g,_⟩:=g;cases g
 | w::ws,us,vs,h,g=>by
  rw [Yb] at h;obtain ⟨v,vs',e,h1,h2⟩:=h;subst e;cases us with
  | nil=>rw [Yb] at g;cases g
  | cons u us=>
   rw [Yb] at g;obtain ⟨v',vs'',e',g1,g2⟩:=g;cases e'
   rw [mK,yc I h1 g1,oU I h2 g2];rfl
end
theorem in1_units {A:YW}:A.in1.units=A.units+1:=rfl
theorem abD {n:Nat}{ws:List W}(h:WR n (.tup ws)=true):∃ m,n=m+1/\ws.all (WR m)=true:=by
 cases n with
 | zero=>simp [WR] at h
 | succ m=>exact ⟨m,rfl,by simpa [WR] using h⟩
theorem zG {n:Nat}{ws:List W}(h:WR n (.lst ws)=true):∃ m,n=m+1/\ws.all (WR m)=true:=by
 cases n with
 | zero=>simp [WR] at h
 | succ m=>exact ⟨m,rfl,by simpa [WR] using h⟩
theorem wD {s:Yj}{A:YW}{n:Nat}{ws us:List W}{xs ys:List V}{its jts:List Ye}(d1:Yb K H ws xs)(d2:Yb K H us ys)(p1:ws.all (WR n)=true)(p2:us.all (WR n)=true)(r1:VL xs its)(r2:VL ys jts)
  (one:∀ {w u:W} {v x:V} {a b:Ye},Dt K H w v->Dt K H u x->WR n w=true->WR n u=true->RelV v a->RelV x b->Zc A s a b (Wj w u)) :
  ∀ j (h1:j<its.toArray.size) (h2:j<jts.toArray.size),Zc A s its.toArray[j] jts.toArray[j] (O2 ws us j):=by
 intro j h1 h2;have l1:j<ws.length:=by rw [d1.len,r1.length];simpa using h1
 have l2:j<us.length:=by rw [d2.len,r2.length];simpa using h2
 obtain ⟨v,ev,dv⟩:=d1.get (Yk l1);obtain ⟨x,ex,dx⟩:=d2.get (Yk l2);obtain ⟨a,ea,ra⟩:=r1.get ev;obtain ⟨b,eb,rb⟩:=r2.get ex;have ea':its.toArray[j]=a:=by simpa using (Yn.mp ea).2
 have eb':jts.toArray[j]=b:=by simpa using (Yn.mp eb).2
 have e:O2 ws us j=Wj ws[j] us[j]:=by
  unfold O2;rw [Zi,Zi,Yk l1,Yk l2];rfl
 rw [ea',eb',e];exact one dv dx (Zf.mp p1 _<|J4 l1) (Zf.mp p2 _<|J4 l2) ra rb
theorem size_of {ws:List W}{xs:List V}{its:List Ye}(d:Yb K H ws xs)(r:VL xs its):its.toArray.size=ws.length:=by
 rw [d.len,r.length];simp
theorem abL {ws us:List W}:((ZX (min ws.length us.length)).all (O2 ws us)&&ws.length==us.length)=mK ws us:=by
 by_cases e:ws.length=us.length
 ·rw [<-e,Nat.min_self,qU e];simp
 ·rw [rC e];have e2:(ws.length==us.length)=false:=beq_eq_false_iff_ne.mpr e;rw [e2,Bool.and_false]
inductive Kd (s:Yj):W->Ye->Prop where
 | non:Kd s .non .none
 | bl (b:Bool):Kd s (.bl b) (.bool b)
 | int (i:Int) (t:Tok):Kd s (.int i) (.int i t)
 | str (x:Str) (t:Tok):Kd s (.str x) (.str x t)
 | tup (ws:List W) {p:Addr} {its:Array Ye} (q:s.heap.IsTuple p its):Kd s (.tup ws) (.ref p)
 | lst (ws:List W) {p:Addr} {its:Array Ye} (q:s.heap.IsList p its):Kd s (.lst ws) (.ref p)
theorem uy {pins:List (Addr×Obj)}{s:Yj}{Z : St}(I:Go X pins Z H s){w:W}{v:V}{a:Ye}(d:Dt X.K H w v)(r:RelV v a):Kd s w a:=by
 cases w with
 | non=>rw [Dt] at d;subst d;cases r;exact .non
 | bl b=>rw [Dt] at d;subst d;cases r;exact .bl b
 | int b=>rw [Dt] at d;subst d;obtain ⟨t,rfl⟩:=r;exact .int b t
 | str b=>rw [Dt] at d;subst d;obtain ⟨t,rfl⟩:=r;exact .str b t
 | tup ws=>rw [Dt] at d;obtain ⟨p,xs,e,hs,_⟩:=d;subst e;cases r;obtain ⟨its,_,q,_⟩:=I.tuple hs;exact .tup ws q
 | lst ws=>rw [Dt] at d;obtain ⟨p,xs,e,hs,_⟩:=d;subst e;cases r;obtain ⟨its,_,q,_⟩:=I.list hs;exact .lst ws q.isList
 | _=>rw [Dt] at d;exact d.elim
def sq1:W->Bool
 | .tup _=>true
 | .lst _=>true
 | _=>false
def n6:W->W->Bool
 | .tup _,.tup _=>true
 | .lst _,.lst _=>true
 | _,_=>false
def RV (w u:W):Bool:=!(sq1 w||sq1 u)
open SeqAt.EqAt in
theorem HD {s:Yj}{A:YW}{w u:W}{a b:Ye}(hu:A.units<Bj)(k1:Kd s w a)(k2:Kd s u b)(h:n6 w u=false)(f:RV w u=false):Zc A s a b (Wj w u):=by
 cases k1 <;> cases k2 <;> try (first | (cases h;done) | (cases f;done))
 ·apply none_tuple <;> assumption
 ·apply none_list <;> assumption
 ·apply bool_tuple <;> assumption
 ·apply bool_list <;> assumption
 ·apply int_tuple <;> assumption
 ·apply int_list <;> assumption
 ·apply str_tuple <;> assumption
 ·apply str_list <;> assumption
 ·apply tuple_none <;> assumption
 ·apply tuple_bool <;> assumption
 ·apply tuple_int <;> assumption
 ·apply tuple_str <;> assumption
 ·apply tuple_list <;> assumption
 ·apply list_none <;> assumption
 ·apply list_bool <;> assumption
 ·apply list_int <;> assumption
 ·apply list_str <;> assumption
 ·apply list_tuple <;> assumption
open SeqAt.RcAt in
theorem Q5 {s:Yj}{A:YW}{w u:W}{a b:Ye}(hu:A.units<Bj)(k1:Kd s w a)(k2:Kd s u b)(h:n6 w u=false):SeqAt.RcAt A s a b (Wj w u):=by
 cases k1 <;> cases k2 <;> try (first | (cases h;done))
 ·apply none_none <;> assumption
 ·apply none_bool <;> assumption
 ·apply none_int <;> assumption
 ·apply none_str <;> assumption
 ·apply none_tuple <;> assumption
 ·apply none_list <;> assumption
 ·apply bool_none <;> assumption
 ·apply bool_bool <;> assumption
 ·apply bool_int <;> assumption
 ·apply bool_str <;> assumption
 ·apply bool_tuple <;> assumption
 ·apply bool_list <;> assumption
 ·apply int_none <;> assumption
 ·apply int_bool <;> assumption
 ·apply int_int <;> assumption
 ·apply int_str <;> assumption
 ·apply int_tuple <;> assumption
 ·apply int_list <;> assumption
 ·apply str_none <;> assumption
 ·apply str_bool <;> assumption
 ·apply str_int <;> assumption
 ·apply str_str <;> assumption
 ·apply str_tuple <;> assumption
 ·apply str_list <;> assumption
 ·apply tuple_none <;> assumption
 ·apply tuple_bool <;> assumption
 ·apply tuple_int <;> assumption
 ·apply tuple_str <;> assumption
 ·apply tuple_list <;> assumption
 ·apply list_none <;> assumption
 ·apply list_bool <;> assumption
 ·apply list_int <;> assumption
 ·apply list_str <;> assumption
 ·apply list_tuple <;> assumption
open SeqAt.RcNeAt in
theorem Ri {s:Yj}{A:YW}{w u:W}{a b:Ye}(hu:A.units<Bj)(k1:Kd s w a)(k2:Kd s u b)(h:n6 w u=false):SeqAt.RcNeAt A s a b (!Wj w u):=by
 cases k1 <;> cases k2 <;> try (first | (cases h;done))
 ·apply none_none <;> assumption
 ·apply none_bool <;> assumption
 ·apply none_int <;> assumption
 ·apply none_str <;> assumption
 ·apply none_tuple <;> assumption
 ·apply none_list <;> assumption
 ·apply bool_none <;> assumption
 ·apply bool_bool <;> assumption
 ·apply bool_int <;> assumption
 ·apply bool_str <;> assumption
 ·apply bool_tuple <;> assumption
 ·apply bool_list <;> assumption
 ·apply int_none <;> assumption
 ·apply int_bool <;> assumption
 ·apply int_int <;> assumption
 ·apply int_str <;> assumption
 ·apply int_tuple <;> assumption
 ·apply int_list <;> assumption
 ·apply str_none <;> assumption
 ·apply str_bool <;> assumption
 ·apply str_int <;> assumption
 ·apply str_str <;> assumption
 ·apply str_tuple <;> assumption
 ·apply str_list <;> assumption
 ·apply tuple_none <;> assumption
 ·apply tuple_bool <;> assumption
 ·apply tuple_int <;> assumption
 ·apply tuple_str <;> assumption
 ·apply tuple_list <;> assumption
 ·apply list_none <;> assumption
 ·apply list_bool <;> assumption
 ·apply list_int <;> assumption
 ·apply list_str <;> assumption
 ·apply list_tuple <;> assumption
theorem tM:∀ {w u:W},n6 w u=true->(∃ ws us,w=.tup ws/\u=.tup us)\/∃ ws us,w=.lst ws/\u=.lst us
 | .tup ws,.tup us,_=>.inl ⟨ws,us,rfl,rfl⟩
 | .lst ws,.lst us,_=>.inr ⟨ws,us,rfl,rfl⟩
def wV:V->W
 | .bl b=>.bl b
 | .int b=>.int b
 | .str b=>.str b
 | _=>.non
theorem T7 {v x:V}(h:lY v=true)(g:lY x=true):Wj (wV v) (wV x)=FW v x:=by
 cases v <;> first | (cases h;done) | (cases x <;> first | (cases g;done) | rfl)
theorem GZ {w:W}{v:V}(d:Dt K H w v)(h:sq1 w=false):lY v=true/\w=wV v:=by
 cases w with
 | tup _=>cases h
 | lst _=>cases h
 | non=>rw [Dt] at d;subst d;exact ⟨rfl,rfl⟩
 | bl _=>rw [Dt] at d;subst d;exact ⟨rfl,rfl⟩
 | int _=>rw [Dt] at d;subst d;exact ⟨rfl,rfl⟩
 | str _=>rw [Dt] at d;subst d;exact ⟨rfl,rfl⟩
 | _=>rw [Dt] at d;exact d.elim
theorem Hx {s:Yj}{A:YW}{w u:W}{v x:V}{a b:Ye}(dw:Dt K H w v)(du:Dt K H u x)(hf:RV w u=true)(ra:RelV v a)(rb:RelV x b):Zc A s a b (Wj w u):=by
 have hf:=Bool.or_eq_false_iff.mp (Eq.mp (Bool.not_eq_true' _) hf);have ⟨f1,e1⟩:=GZ dw hf.1;have ⟨f2,e2⟩:=GZ du hf.2;rw [e1,e2,T7 f1 f2];exact HW ra rb f1 f2
theorem Hw {pins:List (Addr×Obj)}{s:Yj}{Z : St}(I:Go X pins Z H s){n:Nat}{A:YW}{w u:W}{v x:V}{a b:Ye}(ih:∀ {w u:W} {v x:V} {a b:Ye},Dt X.K H w v->Dt X.K H u x->WR n w=true->WR n u=true->RelV v a->RelV x b->Zc A.in1 s a b (Wj w u))(hu:A.units<Bj)(h2:n6 w u=true)(dw:Dt X.K H w v)(du:Dt X.K H u x)(pw:WR (n+1) w=true)(pu:WR (n+1) u=true)(ra:RelV v a)(rb:RelV x b):∃ p q,v=.ref p/\x=.ref q/\a=.ref p/\b=.ref q/\SeqAt.RcAt A s a b (Wj w u)/\SeqAt.RcNeAt A s a b (!Wj w u):=by
 rcases tM h2 with ⟨ws,us,rfl,rfl⟩ | ⟨ws,us,rfl,rfl⟩ <;> rw [Dt] at dw du <;> obtain ⟨p,xs1,rfl,hs1,ds1⟩:=dw <;> obtain ⟨q,xs2,rfl,hs2,ds2⟩:=du <;> cases ra <;> cases rb <;> refine ⟨p,q,rfl,rfl,rfl,rfl,?_⟩ <;> rw [Wj] <;> rw [WR] at pw pu
 ·obtain ⟨its1,rv1,q1,_⟩:=I.tuple hs1;obtain ⟨its2,rv2,q2,_⟩:=I.tuple hs2;have it:=wD ds1 ds2 pw pu rv1 rv2 ih;rw [<-abL,<-size_of ds1 rv1,<-size_of ds2 rv2];exact ⟨.tuples q1 q2 hu it,.tuples q1 q2 hu it⟩
 ·obtain ⟨its1,rv1,q1,_⟩:=I.list hs1;obtain ⟨its2,rv2,q2,_⟩:=I.list hs2;by_cases hl:ws.length=us.length
  ·have it:=wD ds1 ds2 pw pu rv1 rv2 ih;have e:its1.toArray.size=its2.toArray.size:=by rw [size_of ds1 rv1,size_of ds2 rv2,hl]
   rw [<-qU hl,<-size_of ds1 rv1];exact ⟨.lists q1.isList q2.isList e hu it,.lists q1.isList q2.isList e hu it⟩
  ·rw [rC hl];have e:(its1.toArray.size != its2.toArray.size)=true:=by rw [size_of ds1 rv1,size_of ds2 rv2];exact bne_iff_ne.mpr hl
   exact ⟨.lists_lengths q1.isList q2.isList e hu,.lists_lengths q1.isList q2.isList e hu⟩
theorem z8 {w u:W}(h:n6 w u=true):∀ {n:Nat},WR n w=true->∃ m,n=m+1
 | 0,p=>by rcases tM h with ⟨_,_,rfl,_⟩ | ⟨_,_,rfl,_⟩ <;> cases p
 | m+1,_=>⟨m,rfl⟩
theorem Ro {pins:List (Addr×Obj)}{s:Yj}{Z : St}(I:Go X pins Z H s):∀ (n:Nat) {A:YW} {w u:W} {v x:V} {a b:Ye},A.units+n<Bj->Dt X.K H w v->Dt X.K H u x->WR n w=true->WR n u=true->RelV v a->RelV x b->Zc A s a b (Wj w u):=by
 intro n;induction n with
 | zero=>
  intro A w u v x a b hu dw du pw pu ra rb;by_cases hf:RV w u=true
  ·exact Hx dw du hf ra rb
  by_cases h2:n6 w u=true
  ·obtain ⟨m,e⟩:=z8 h2 pw;cases e
  ·exact HD hu (uy I dw ra) (uy I du rb) (K4 _ ▸ h2)<|K4 _ ▸ hf
 | succ n ih=>
  intro A w u v x a b hu dw du pw pu ra rb;by_cases hf:RV w u=true
  ·exact Hx dw du hf ra rb
  by_cases h2:n6 w u=true
  ·have hu':=KC (K3 _ _) hu;obtain ⟨p,q,rfl,rfl,rfl,rfl,z,_⟩:=Hw I (ih (A:=A.in1) (by rw [in1_units,Nat.add_assoc,Nat.add_comm 1];exact hu)) hu' h2 dw du pw pu ra rb;by_cases hp:p=q
   ·subst hp;rw [yc I dw du];exact SeqAt.EqAt.same _
   ·exact SeqAt.EqAt.of_refs hp z
  ·exact HD (KC (K3 _ _) hu) (uy I dw ra) (uy I du rb) (K4 _ ▸ h2)<|K4 _ ▸ hf
theorem rcN {pins:List (Addr×Obj)}{s:Yj}{Z : St}(I:Go X pins Z H s){m:Nat}{A:YW}{w u:W}{v x:V}{a b:Ye}{p:Prop}(hu:A.units+(m+1)<Bj)(hu':A.units<Bj)(h2:n6 w u=true)(dw:Dt X.K H w v)(du:Dt X.K H u x)(pw:WR (m+1) w=true)(pu:WR (m+1) u=true)(ra:RelV v a)(rb:RelV x b)(f:SeqAt.RcAt A s a b (Wj w u)/\SeqAt.RcNeAt A s a b (!Wj w u)->p):p:=by
 obtain ⟨_,_,_,_,_,_,z⟩:=Hw I (Ro I m (A:=A.in1) (by rw [in1_units,Nat.add_assoc,Nat.add_comm 1];exact hu)) hu' h2 dw du pw pu ra rb;exact f z
theorem Vb {pins:List (Addr×Obj)}{s:Yj}{Z : St}(I:Go X pins Z H s)(n:Nat){A:YW}{w u:W}{v x:V}{a b:Ye}(hu:A.units+n<Bj)(dw:Dt X.K H w v)(du:Dt X.K H u x)(pw:WR n w=true)(pu:WR n u=true)(ra:RelV v a)(rb:RelV x b):SeqAt.RcAt A s a b (Wj w u):=by
 have hu':=KC (K3 _ _) hu;by_cases h2:n6 w u=true
 ·obtain ⟨m,rfl⟩:=z8 h2 pw;exact rcN I hu hu' h2 dw du pw pu ra rb (·.1)
 ·exact Q5 hu' (uy I dw ra) (uy I du rb)<|K4 _ ▸ h2
theorem aaf {pins:List (Addr×Obj)}{s:Yj}{Z : St}(I:Go X pins Z H s)(n:Nat){A:YW}{w u:W}{v x:V}{a b:Ye}(hu:A.units+n<Bj)(dw:Dt X.K H w v)(du:Dt X.K H u x)(pw:WR n w=true)(pu:WR n u=true)(ra:RelV v a)(rb:RelV x b):SeqAt.RcNeAt A s a b (!Wj w u):=by
 have hu':=KC (K3 _ _) hu;by_cases h2:n6 w u=true
 ·obtain ⟨m,rfl⟩:=z8 h2 pw;exact rcN I hu hu' h2 dw du pw pu ra rb (·.2)
 ·exact Ri hu' (uy I dw ra) (uy I du rb)<|K4 _ ▸ h2
def lq (h:Gh):W->Option W
 | .loc n=>(match h.c n with
  | some (.lst ws)=>Dn (.lst ws)
  | _=>FN)
 | w=>Dn w
theorem lU {w d:W}{v:V}{n:Nat}(R:Wo K U H h)(r:FX K H U w v)(e:lq h w=Dn d)(p:WR n d=true):Dt K H d v:=by
 have other:lq h w=Dn w->Dt K H d v:=fun z=>by
  rw [z] at e;cases e;exact Gk n r p
 cases w with
 | loc m=>
  unfold lq at e;dsimp only at e;cases ec:h.c m with
  | none=>rw [ec] at e;cases e
  | some cl=>
   rw [ec] at e;cases cl with
   | lst us=>
    cases (show Dn (W.lst us)=Dn d from e)
    obtain ⟨p',xs,hm',hx,rs⟩:=R.lstAt ec;rw [FX] at r;obtain ⟨q,ev,hm⟩:=r;have ep:p'=q:=by rw [hm] at hm';exact (Yp hm').symm
    subst ep;obtain ⟨k,rfl,p⟩:=zG p;rw [Dt];exact ⟨p',xs,ev,.of hx,uO (Gk k) rs p⟩
   | _=>cases e
 | _=>exact other rfl
def Ws (K:Yc)(neg:Bool):R2:=fun x y H Q=>∃ w u,Dt K H w x/\Dt K H u y/\WR 30 w=true/\WR 30 u=true/\Q (.bl (if neg then !Wj w u else Wj w u)) H
theorem Ij (hu:X.A.units+30<Bj):Ay X (Zv .Eq) (Ws X.K false):=by
 intro pins s Z H x y v u Q I rx ry ⟨w,w',d1,d2,p1,p2,q⟩;exact Vb I 30 hu d1 d2 p1 p2 rx ry X.prog X.w X.xe _<|Hz I q rfl
theorem BL (hu:X.A.units+30<Bj):Ay X (Zv .NotEq) (Ws X.K true):=by
 intro pins s Z H x y v u Q I rx ry ⟨w,w',d1,d2,p1,p2,q⟩;exact aaf I 30 hu d1 d2 p1 p2 rx ry X.prog X.w X.xe _<|Hz I q rfl
def Dp:M2:=fun x y h Q=>match lq h x,lq h y with
 | some a,Dn b=>AP (WR 30 a&&WR 30 b) (Q (.bl (Wj a b)) h) False
 | _,_=>False
def Cp:M2:=fun x y h Q=>match lq h x,lq h y with
 | some a,Dn b=>AP (WR 30 a&&WR 30 b) (Q (.bl (!Wj a b)) h) False
 | _,_=>False
theorem Km (hu:X.A.units+30<Bj):Bl X (Zv .Eq) Dp:=⟨_,Ij hu,by
 intro H U h x y wx wy Qw Q R rx ry m k;unfold Dp at m;split at m
 ·rename_i a b ea eb;cases hp:(WR 30 a&&WR 30 b) with
  | true=>
   rw [hp] at m;rw [YM] at hp;exact ⟨a,b,lU R rx ea hp.1,lU R ry eb hp.2,hp.1,hp.2,k _ _<|.bl R m⟩
  | false=>rw [hp] at m;exact (show False from m).elim
 ·exact m.elim⟩
theorem rO (hu:X.A.units+30<Bj):Bl X (Zv .NotEq) Cp:=⟨_,BL hu,by
 intro H U h x y wx wy Qw Q R rx ry m k;unfold Cp at m;split at m
 ·rename_i a b ea eb;cases hp:(WR 30 a&&WR 30 b) with
  | true=>
   rw [hp] at m;rw [YM] at hp;exact ⟨a,b,lU R rx ea hp.1,lU R ry eb hp.2,hp.1,hp.2,k _ _<|.bl R m⟩
  | false=>rw [hp] at m;exact (show False from m).elim
 ·exact m.elim⟩
theorem jC {A:YW}{k:Nat}(hr:mz k A):A.units+30<Bj:=by have:=hr.units;lia
end
section
variable {X:Cx}{K:Yc}
theorem jY {H:Hp}{U : Mu}{w:W}{vs:List V}(r:aP K H U [w] vs):∃ v,vs=[v]/\FX K H U w v:=by
 rw [aP] at r;obtain ⟨v,vr,ev,ra,r⟩:=r;rw [aP] at r;subst r;exact ⟨v,ev,ra⟩
theorem zK {H:Hp}{U : Mu}{w u:W}{vs:List V}(r:aP K H U [w,u] vs):∃ v x,vs=[v,x]/\FX K H U w v/\FX K H U u x:=by
 rw [aP] at r;obtain ⟨v,vr,ev,ra,r⟩:=r;obtain ⟨x,e,rb⟩:=jY r;subst e;exact ⟨v,x,ev,ra,rb⟩
theorem sV.of {i j:Int}{m n:Nat}(hi:Sm m i)(hj:Sm n j)(hm:m<=1000000)(hn:n<=1000000):sV i j:=⟨m,n,hm,hn,hi,hj⟩
theorem Sm.lit {i:Int}(h:Nat.ble (i.natAbs+1) (2^64)=true):Sm 64 i:=by
 have:=YD h
 unfold Sm;lia
def X3:MC:=fun ws h Q=>match ws with
 | [w]=>(match view h w with
  | some xs=>Q (.int (xs.length:Int)) h
  | none=>False)
 | _=>False
theorem cg:pB X (.builtin "len") X3:=⟨_,tR,by
 intro H U h vs ws Qw Q R r m k;unfold X3 at m;split at m
 ·split at m
  ·rename_i w _ xs ev;obtain ⟨v,e,rv⟩:=jY r;obtain ⟨p,ys,ex,hs,rs⟩:=sI R rv ev;subst e ex;exact ⟨p,ys,rfl,hs,by rw [<-rs.len];exact k _ _ (.int R m)⟩
  ·exact m.elim
 ·exact m.elim⟩
def Xa:MC:=fun ws h Q=>match ws with
 | [.int i]=>Q (.int (if i<0 then -i else i)) h
 | _=>False
def Dh:List W->Option (List Bool)
 | []=>Dn []
 | .bl b::ws=>(Dh ws).map (b::·)
 | _=>FN
theorem wC {H:Hp}{U : Mu}:∀ {ws:List W} {xs:List V} {bs:List Bool},aP K H U ws xs->Dh ws=Dn bs->xs=bs.map V.bl
 | [],xs,bs,r,e=>by
  rw [aP] at r;cases (show Dn []=Dn bs from e)
  exact r
 | w::ws,xs,bs,r,e=>by
  rw [aP] at r;obtain ⟨v,vr,ev,ra,r⟩:=r;cases w with
  | bl b=>
   rw [FX] at ra;rw [Dh] at e;cases q:Dh ws with
   | none=>rw [q] at e;cases e
   | some cs=>
    rw [q] at e;cases (show Dn (b::cs)=Dn bs from e)
    rw [ev,ra,wC r q];rfl
  | _=>cases e
def La:MC:=fun ws h Q=>match ws with
 | [w]=>(match cC h w with
  | some us=>(match Dh us with
   | some bs=>Q (.bl (bs.all id)) h
   | none=>False)
  | none=>False)
 | _=>False
theorem K7 (hc:X.calm=true):pB X (.builtin "all") La:=⟨_,zaK hc,by
 intro H U h vs ws Qw Q R r m k;unfold La at m;split at m
 ·split at m
  ·split at m
   ·rename_i w _ us ev _ bs eb;obtain ⟨v,e,rv⟩:=jY r;obtain ⟨p,ys,ex,hs,rs⟩:=cB R rv ev;subst e ex;exact ⟨p,bs,rfl,by rw [<-wC rs eb];exact hs,k _ _<|.bl R m⟩
   ·exact m.elim
  ·exact m.elim
 ·exact m.elim⟩
def Dc (h:Gh)(w:W)(T:String):Option Bool:=match w with
 | .int _=>if T = "int" then Dn true else if T = "bool"\/T = "tuple"\/T = "list" then Dn false else FN
 | .bl _=>if T = "int"\/T = "bool" then Dn true else if T = "tuple"\/T = "list" then Dn false else FN
 | .str _=>if T = "int"\/T = "bool"\/T = "tuple"\/T = "list" then Dn false else FN
 | .non=>if T = "int"\/T = "bool"\/T = "tuple"\/T = "list" then Dn false else FN
 | .tup _=>if T = "tuple" then Dn true else if T = "int"\/T = "bool"\/T = "list" then Dn false else FN
 | w=>(match cC h w with
  | some _=>if T = "list" then Dn true else if T = "int"\/T = "bool"\/T = "tuple" then Dn false else FN
  | none=>FN)
theorem aay {H:Hp}{U : Mu}{h:Gh}{w:W}{v:V}{T:String}{b:Bool}(R:Wo K U H h)(r:FX K H U w v)(e:Dc h w T=Dn b):Wi K H v T b:=by
 unfold Dc at e;split at e
 ·rw [FX] at r;subst r;split at e
  ·rename_i t;subst t;cases e;exact .inl ⟨rfl,rfl⟩
  ·split at e
   ·rename_i t;cases e;rcases t with t | t | t <;> subst t
    ·exact .inr<|.inl ⟨rfl,rfl⟩
    ·exact .inr<|.inr<|.inl ⟨rfl,rfl⟩
    ·exact .inr<|.inr<|.inr ⟨rfl,rfl⟩
   ·cases e
 ·rw [FX] at r;subst r;split at e
  ·rename_i t;cases e;rcases t with t | t <;> subst t
   ·exact .inl ⟨rfl,rfl⟩
   ·exact .inr<|.inl ⟨rfl,rfl⟩
  ·split at e
   ·rename_i t;cases e;rcases t with t | t <;> subst t
    ·exact .inr<|.inr<|.inl ⟨rfl,rfl⟩
    ·exact .inr<|.inr<|.inr ⟨rfl,rfl⟩
   ·cases e
 ·rw [FX] at r;subst r;split at e
  ·rename_i t;cases e;rcases t with t | t | t | t <;> subst t
   ·exact .inl ⟨rfl,rfl⟩
   ·exact .inr<|.inl ⟨rfl,rfl⟩
   ·exact .inr<|.inr<|.inl ⟨rfl,rfl⟩
   ·exact .inr<|.inr<|.inr ⟨rfl,rfl⟩
  ·cases e
 ·rw [FX] at r;subst r;split at e
  ·rename_i t;cases e;rcases t with t | t | t | t <;> subst t
   ·exact .inl ⟨rfl,rfl⟩
   ·exact .inr<|.inl ⟨rfl,rfl⟩
   ·exact .inr<|.inr<|.inl ⟨rfl,rfl⟩
   ·exact .inr<|.inr<|.inr ⟨rfl,rfl⟩
  ·cases e
 ·rw [FX] at r;obtain ⟨p,xs,ev,hs,_⟩:=r;subst ev;refine .inl ⟨xs,hs,?_⟩;split at e
  ·rename_i t;subst t;cases e;exact .inr (.inr (.inl ⟨rfl,rfl⟩))
  ·split at e
   ·rename_i t;cases e;rcases t with t | t | t <;> subst t
    ·exact .inl ⟨rfl,rfl⟩
    ·exact .inr<|.inl ⟨rfl,rfl⟩
    ·exact .inr<|.inr<|.inr ⟨rfl,rfl⟩
   ·cases e
 ·split at e
  ·rename_i ws ev;obtain ⟨p,xs,ex,hs,_⟩:=cB R r ev;subst ex;refine .inr ⟨xs,hs,?_⟩;split at e
   ·rename_i t;subst t;cases e;exact .inr (.inr (.inr ⟨rfl,rfl⟩))
   ·split at e
    ·rename_i t;cases e;rcases t with t | t | t <;> subst t
     ·exact .inl ⟨rfl,rfl⟩
     ·exact .inr<|.inl ⟨rfl,rfl⟩
     ·exact .inr<|.inr<|.inl ⟨rfl,rfl⟩
    ·cases e
  ·cases e
def vX:MC:=fun ws h Q=>match ws with
 | [w,.ty T]=>(match Dc h w T with
  | some b=>Q (.bl b) h
  | none=>False)
 | _=>False
theorem nQ:pB X (.builtin "isinstance") vX:=⟨_,abU,by
 intro H U h vs ws Qw Q R r m k;unfold vX at m;split at m
 ·split at m
  ·rename_i w T _ b eb;obtain ⟨v,x,e,rv,rx⟩:=zK r;have hi:=aay R rv eb;rw [FX] at rx;subst e rx;exact ⟨v,T,b,rfl,hi,k _ _<|.bl R m⟩
  ·exact m.elim
 ·exact m.elim⟩
def w6:MC:=fun ws h Q=>match ws with
 | [.tup us]=>Q (.tup us) h
 | [w]=>(match cC h w with
  | some us=>Q (.tup us) h
  | none=>False)
 | _=>False
theorem abr:pB X (.type "tuple") w6:=⟨_,rN,by
 intro H U h vs ws Qw Q R r m k;unfold w6 at m;split at m
 ·obtain ⟨v,e,rv⟩:=jY r;have rv':=rv;rw [FX] at rv;obtain ⟨p,xs,ex,hs,rs⟩:=rv;subst e ex;exact ⟨p,xs,rfl,.inr ⟨hs,k _ _ ⟨U,_,h,.refl,R,rv',m⟩⟩⟩
 ·split at m
  ·rename_i w _ _ us ev;obtain ⟨v,e,rv⟩:=jY r;obtain ⟨p,ys,ex,hs,rs⟩:=cB R rv ev;subst e ex;exact ⟨p,ys,rfl,.inl ⟨hs,fun l hl=>k _ _ ⟨U,_,h,(Ex.laid hl).ext,R.laid hl,.tupNew hl rs,m⟩⟩⟩
  ·exact m.elim
 ·exact m.elim⟩
def yx:MC:=fun ws h Q=>match ws with
 | [w]=>(match view h w with
  | some us=>Q (.lst us) h
  | none=>False)
 | _=>False
theorem HF:pB X (.type "list") yx:=⟨_,uU,by
 intro H U h vs ws Qw Q R r m k;unfold yx at m;split at m
 ·split at m
  ·rename_i w _ xs ev;obtain ⟨v,e,rv⟩:=jY r;obtain ⟨p,ys,ex,hs,rs⟩:=sI R rv ev;subst e ex;exact ⟨p,ys,rfl,hs,fun l hl=>k _ _ ⟨U,_,h,(Ex.laid hl).ext,R.laid hl,.lstNew R hl rs,m⟩⟩
  ·exact m.elim
 ·exact m.elim⟩
abbrev MM:=W->List W->Gh->WK->Prop
def Gb (K:Yc)(r:V->List V->Hp->VK->Prop)(mr:MM):Prop:=∀ {H:Hp} {U : Mu} {h:Gh} {x:V} {vs:List V} {wx:W} {ws:List W} {Qw:WK} {Q:VK},Wo K U H h->FX K H U wx x->aP K H U ws vs->mr wx ws h Qw->(∀ v H',DQ K H U Qw v H'->Q v H')->r x vs H Q
def pQ (h:Gh)(w:W)(P:Prop):Prop:=match w with
 | .loc n=>(match h.c n with
  | some (.lst _)=>P
  | _=>False)
 | _=>False
theorem nA {H:Hp}{U : Mu}{h:Gh}{w:W}{v:V}{P:Prop}(R:Wo K U H h)(r:FX K H U w v)(e:pQ h w P):tyV K "list" v H/\P:=by
 unfold pQ at e;split at e
 ·split at e
  ·rename_i n _ ws ec;rw [FX] at r;obtain ⟨p,ev,hm⟩:=r;obtain ⟨p',xs,hm',hx,rs⟩:=R.lstAt ec;have ep:p'=p:=by rw [hm] at hm';exact (Yp hm').symm
   subst ep ev;exact ⟨.inl ⟨rfl,xs,.of hx⟩,e⟩
  ·exact e.elim
 ·exact e.elim
def zy (r:MM)(mo:ME)(ma:MA):ME:=fun Z h Q=>mo Z h fun x h1=>pQ h1 x (ma Z h1 fun xs h2=>r x xs h2 Q)
def Fi (r:MM)(mo:ME):ME:=fun Z h Q=>mo Z h fun x h1=>pQ h1 x (r x [] h1 Q)
variable {o e:Expr}{es:List Expr}{mo:ME}{ma:MA}{name:Str}{apos cpos:Pos}{id:String}{r:V->List V->Hp->VK->Prop}{mr:MM}
theorem Xy (slot:Slot "list" name id)(hty:typeOf (.builtin id)=pure (.type "method_descriptor"))(hm:Dv X id r)(hs:Gb X.K r mr)(ho:DE X o mo)(ha:Bo X (e::es) ma)
  (hbase:JB o name X.env (eval o X.env)=eval o X.env:=by rfl)
  (hfew:((Am cpos (YG (e::es) X.env)).all (fun x=>!x.1)&&(backToKw cpos (JF [] X.env)).all (fun x=>x.1.isSome)
   && decide ((e::es).length+([]:List Dq).length+(if ([]:List Dq).isEmpty then 0 else 1)<30))=true:=by rfl)
  (hline:(apos.endLine==cpos.line)=true:=by rfl) (hst:YG (e::es) X.env=(false,eval e X.env)::YG es X.env:=by rfl) (hplain:(Am cpos (YG es X.env)).any (·.1)=false:=by rfl) :
  DE X (.Call (.Attribute o name apos) (e::es) [] cpos) (zy mr mo ma):=(Qx PySem.F.plainAttrs_list slot hty hm ho ha hbase hfew hline hst hplain).of fun Z H Q ⟨U,h,Zw,Qw,R,S,m,k⟩=>by
 refine ⟨U,h,Zw,_,R,S,m,fun v H1 ⟨U1,w,h1,e1,R1,r1,il⟩=>⟨(nA R1 r1 il).1,?_⟩⟩;have m1:=(nA R1 r1 il).2;exact ⟨U1,h1,Zw,_,R1,S.ext e1,m1,fun vs H2 ⟨U2,ws,h2,e2,R2,r2,m2⟩=>hs R2 (e2.r _ _ r1) r2 m2 fun v H' z=>k _ _<|(z.trans e2).trans e1⟩
theorem Tw (slot:Slot "list" name id)(hty:typeOf (.builtin id)=pure (.type "method_descriptor"))(hm:Dv X id r)(hs:Gb X.K r mr)(ho:DE X o mo)
  (hbase:JB o name X.env (eval o X.env)=eval o X.env:=by rfl) (hline:(apos.endLine==cpos.line)=true:=by rfl) :
  DE X (.Call (.Attribute o name apos) [] [] cpos) (Fi mr mo):=(QF PySem.F.plainAttrs_list slot hty hm ho hbase hline).of fun Z H Q ⟨U,h,Zw,Qw,R,S,m,k⟩=>by
 refine ⟨U,h,Zw,_,R,S,m,fun v H1 ⟨U1,w,h1,e1,R1,r1,il⟩=>⟨(nA R1 r1 il).1,?_⟩⟩;have m1:=(nA R1 r1 il).2;exact hs R1 r1 .nil m1 fun v H' z=>k _ _<|z.trans e1
def cT:MM:=fun x ws h Q=>match x,ws with
 | .loc n,[w]=>(match h.c n with
  | some (.lst us)=>us.length<YQ/\Q .non (h.set n (.lst (us++[w])))
  | _=>False)
 | _,_=>False
theorem Mi {H:Hp}{U : Mu}{h:Gh}{n:Nat}{v:V}{us:List W}(R:Wo K U H h)(r:FX K H U (.loc n) v)(ec:h.c n=Dn (.lst us)):∃ p xs,v=.ref p/\U.f n=Dn p/\H p=Dn (.lst xs)/\aP K H U us xs:=by
 rw [FX] at r;obtain ⟨p,ev,hm⟩:=r;obtain ⟨p',xs,hm',hx,rs⟩:=R.lstAt ec;have ep:p'=p:=by rw [hm] at hm';exact (Yp hm').symm
 subst ep;exact ⟨p',xs,ev,hm,hx,rs⟩
theorem DQ.wrote {H:Hp}{U : Mu}{h:Gh}{n:Nat}{p:Addr}{us:List W}{xs:List V}{Q:WK}{w:W}{v:V}(R:Wo K U H h)(hm:U.f n=Dn p)(rs:aP K H U us xs)(rw':FX K H U w v)(q:Q w (h.set n (.lst us))):DQ K H U Q v (X5 H p (.lst xs)):=
 ⟨U,w,h.set n (.lst us),(Ex.write R hm).ext,R.write hm trivial ⟨xs,bR,(Ex.write R hm).ext.s rs⟩,(Ex.write R hm).ext.r _ _ rw',q⟩
theorem zaZ:Gb K Bm cT:=by
 intro H U h x vs wx ws Qw Q R rx rs m k;unfold cT at m;split at m
 ·split at m
  ·rename_i n w _ us ec;obtain ⟨p,xs,ex,hm,hx,r1⟩:=Mi R rx ec;obtain ⟨v,ev,rv⟩:=jY rs;exact ⟨p,xs,v,ex,ev,hx,by rw [<-r1.len];exact m.1,k _ _<|.wrote R hm (r1.append<|.one rv) (by rw [FX]) m.2⟩
  ·exact m.elim
 ·exact m.elim
theorem dz (ho:DE X o mo)(ha:Bo X [e] ma)
  (hbase:JB o "append" X.env (eval o X.env)=eval o X.env:=by rfl)
  (hfew:((Am cpos (YG [e] X.env)).all (fun x=>!x.1)&&(backToKw cpos (JF [] X.env)).all (fun x=>x.1.isSome)
   && decide (([e]:List Expr).length+([]:List Dq).length+(if ([]:List Dq).isEmpty then 0 else 1)<30))=true:=by rfl)
  (hline:(apos.endLine==cpos.line)=true:=by rfl) (hst:YG [e] X.env=(false,eval e X.env)::YG [] X.env:=by rfl) (hplain:(Am cpos (YG [] X.env)).any (·.1)=false:=by rfl) :
  DE X (.Call (.Attribute o "append" apos) [e] [] cpos) (zy cT mo ma):=Xy PySem.F.slot_list_append PySem.F.type_list_append uq zaZ ho ha hbase hfew hline hst hplain
end
section
variable {X:Cx}{K:Yc}
def Ow:W->Bool
 | .non=>true
 | _=>false
def kIs:M2:=fun x y h Q=>match x,y with
 | .bl c,.bl b=>Q (.bl (c==b)) h
 | w,.non=>Q (.bl (Ow w)) h
 | _,_=>False
def Vt:M2:=fun x y h Q=>match x,y with
 | .bl c,.bl b=>Q (.bl (!(c==b))) h
 | w,.non=>Q (.bl (!Ow w)) h
 | _,_=>False
theorem yU (bs:List Bool):((ZX bs.length).any fun i=>(bs[i]?).getD true)=bs.any id:=by
 rw [Jw,Ke,Ke];constructor
 ·rintro ⟨i,hi,e⟩;have hi':=Ju.mp hi;exact ⟨bs[i],J4 hi',by simpa [hi'] using e⟩
 ·rintro ⟨b,hb,e⟩;obtain ⟨i,hi,rfl⟩:=List.mem_iff_getElem.mp hb;exact ⟨i,Ju.mpr hi,by simpa [hi] using e⟩
theorem zaG (hc:X.calm=true):jh X (.builtin "any") (fun xs H Q=>∃ (p:Addr) (bs:List Bool),xs=[.ref p]/\XS X.K H p (bs.map V.bl)/\Q (.bl (bs.any id)) H):=by
 intro pins s Z H xs us Q I r ⟨p,bs,e,hS,q⟩;subst e;obtain ⟨u,rfl,ru⟩:=vals1 r;cases ru;obtain ⟨its,rv,pl,hz⟩:=I.list hS;have hlen:its.length=bs.length:=by rw [<-rv.length,Yd]
 have hl:=pl.isList;have hlt:p<s.heap.objs.size:=by obtain ⟨_,e,_⟩:=hl;exact Yt e
 refine call_any_walk<|Kc hl ?_
 refine ⟨s.heap.objs.size,[s.heap.objs.size,p],[s.heap.objs.size],its.toArray.size,_,_,fun i=>(bs[i]?).getD true,rfl,Walks.list (A:=X.A.in1) (I.ok.hd hc) _ p (Yv hlt) its.toArray,
  ⟨⟨_,YC _ rfl,rfl,rfl⟩,hl.push _⟩,fun i v s' Q' E' hP hQ=>?_,fun h' tk hk=>?_⟩
 ·obtain ⟨b,e,rfl⟩:=ou rv (by simpa using hP);simp only [e,KH] at hQ;exact K5 hQ
 ·have e:((ZX its.toArray.size).any fun i=>(bs[i]?).getD true)=bs.any id:=by
   rw [Yr,hlen];exact yU bs
  rw [e];refine ⟨.bl<|bs.any id,H,I.kept (h':=h') (t':=tk)<|fun b x e=>?_,rfl,q⟩;exact hk b x (fun hm=>by rw [Y0.mp hm] at e;exact ZP _ (Yt e))<|Yh _ e
def Rx:MC:=fun ws h Q=>match ws with
 | [w]=>(match cC h w with
  | some us=>(match Dh us with
   | some bs=>Q (.bl (bs.any id)) h
   | none=>False)
  | none=>False)
 | _=>False
theorem S9 (hc:X.calm=true):pB X (.builtin "any") Rx:=⟨_,zaG hc,by
 intro H U h vs ws Qw Q R r m k;unfold Rx at m;split at m
 ·split at m
  ·split at m
   ·rename_i w _ us ev _ bs eb;obtain ⟨v,e,rv⟩:=jY r;obtain ⟨p,ys,ex,hs,rs⟩:=cB R rv ev;subst e ex;exact ⟨p,bs,rfl,by rw [<-wC rs eb];exact hs,k _ _<|.bl R m⟩
   ·exact m.elim
  ·exact m.elim
 ·exact m.elim⟩
def kj:W->Bool
 | .non=>true
 | .bl _=>true
 | .int _=>true
 | .str _=>true
 | _=>false
theorem Ib {H:Hp}{U : Mu}{w:W}{v:V}(r:FX K H U w v)(f:kj w=true):lY v=true:=by
 cases w <;> first | (rw [FX] at r;subst r;rfl) | cases f
theorem CJ {H:Hp}{U : Mu}:∀ {ws:List W} {vs:List V},aP K H U ws vs->ws.all kj=true->vs.all lY=true
 | [],_,r,_=>by rw [aP] at r;subst r;rfl
 | w::ws,_,r,f=>by
  rw [aP] at r;obtain ⟨v,vs,e,r1,r2⟩:=r;subst e;rw [IW,YM] at f |-
  exact ⟨Ib r1 f.1,CJ r2 f.2⟩
theorem Xh {H:Hp}{U : Mu}{w u:W}{v x:V}(r:FX K H U w v)(q:FX K H U u x)(f:kj w=true)(g:kj u=true):FW v x=Wj w u:=by
 cases w <;> cases u <;> first
  | (rw [FX] at r;rw [FX] at q;subst r;subst q;rfl)
  | (cases f;done)
  | (cases g;done)
theorem QJ {H:Hp}{U : Mu}{u:W}{x:V}(q:FX K H U u x)(g:kj u=true):∀ {ws:List W} {vs:List V},aP K H U ws vs->ws.all kj=true->inV x vs=ws.any fun w=>Wj w u
 | [],_,r,_=>by rw [aP] at r;subst r;rfl
 | w::ws,_,r,f=>by
  rw [aP] at r;obtain ⟨v,vs,e,r1,r2⟩:=r;subst e;rw [IW,YM] at f;have:=QJ q g r2 f.2
  unfold inV at this |-
  rw [Fv,Fv,this,Xh r1 q f.1 g]
def kIn:M2:=fun x y h Q=>match view h y with
 | some ws=>AP (kj x&&ws.all kj) (Q (.bl (ws.any fun w=>Wj w x)) h) False
 | none=>False
theorem Wg:Bl X (Zv .In) kIn:=⟨_,zaQ,by
 intro H U h x y wx wy Qw Q R rx ry m k;unfold kIn at m;split at m
 ·rename_i ws ev;obtain ⟨p,xs,ey,hs,rs⟩:=sI R ry ev;cases hp:(kj wx&&ws.all kj) with
  | true=>
   rw [hp] at m;rw [YM] at hp;exact ⟨p,xs,ey,hs,Ib rx hp.1,CJ rs hp.2,k _ _ (by rw [if_neg Y6,QJ rx hp.1 rs hp.2];exact .bl R m)⟩
  | false=>rw [hp] at m;exact (show False from m).elim
 ·exact m.elim⟩
theorem zbq:Ay X (Cq .Add) (fun x y H Q=>∃ a b ys,x=.ref a/\y=.ref b/\Ac X.K H a []/\Ac X.K H b ys/\Q (.ref b) H):=by
 intro pins s Z H x y v u Q I rx ry ⟨a,b,ys,ex,ey,ha,hb,q⟩;subst ex ey;cases rx;cases ry;obtain ⟨its,r1,p1,_⟩:=I.tuple ha;obtain ⟨jts,r2,p2,_⟩:=I.tuple hb;cases r1;obtain ⟨⟨cls,dd,data,sl⟩,ho,hc,n,hd⟩:=id p1;obtain ⟨⟨cls2,dd2,data2,sl2⟩,ho2,hc2,n2,hd2⟩:=id p2;simp only at hc hd hc2 hd2;subst hc hd hc2 hd2;exact concat_meets ⟨_,ho,rfl⟩ ⟨_,ho2,rfl⟩ noFill_tuple_add seq_tuple_add PySem.F.slot_tuple_add PySem.F.entry_tuple_add (PySem.F.args_tuple_add_2 _ _)
  (tuple_addW0 a b _ _ n n2 dd dd2 sl sl2 (by simp)) ⟨ho,ho2,⟨.ref b,H,I,rfl,q⟩⟩
def Df (h:Gh):W->Option (List W)
 | .lst ws=>Dn ws
 | .loc n=>(match h.c n with
  | some (.lst ws)=>Dn ws
  | _=>FN)
 | _=>FN
theorem rT {H:Hp}{U : Mu}{h:Gh}{w:W}{v:V}{ws:List W}(R:Wo K U H h)(r:FX K H U w v)(e:Df h w=Dn ws):∃ p xs,v=.ref p/\H p=Dn (.lst xs)/\aP K H U ws xs:=by
 cases w with
 | lst us=>
  rw [FX] at r;obtain ⟨p,xs,ev,hs,rs⟩:=r;cases (show Dn us=Dn ws from e)
  exact ⟨p,xs,ev,hs.1,rs⟩
 | loc n=>
  unfold Df at e;dsimp only at e;cases ec:h.c n with
  | none=>rw [ec] at e;cases e
  | some cl=>
   rw [ec] at e;cases cl with
   | lst us=>
    cases (show Dn us=Dn ws from e)
    obtain ⟨p,xs,ev,_,hx,rs⟩:=Mi R r ec;exact ⟨p,xs,ev,hx,rs⟩
   | _=>cases e
 | _=>cases e
def fj:M2:=fun x y h Q=>match x,y with
 | .int i,.int j=>Q (.int (i+j)) h
 | .tup [],.tup b=>Q (.tup b) h
 | .tup (a0::a),.tup b=>jD (a.length+1+b.length) (Q (.tup (a0::a++b)) h)
 | x,y=>(match Df h x,Df h y with
  | some a,Dn b=>jD (a.length+b.length) (Q (.lst (a++b)) h)
  | _,_=>False)
theorem fL:Bl X (Cq .Add) fj:=⟨_,(Pj.or (zbq.or Lh)).or Hu,by
 intro H U h x y wx wy Qw Q R rx ry m k;unfold fj at m;split at m
 ·rw [FX] at rx ry;exact .inl<|.inl ⟨_,_,rx,ry,k _ _<|.int R m⟩
 ·rename_i b;have ry':=ry;rw [FX] at rx ry;obtain ⟨p,xs,ex,hx,r1⟩:=rx;obtain ⟨q,ys,ey,hy,r2⟩:=ry;rw [aP] at r1;subst r1;rw [ey] at ry';exact .inl<|.inr<|.inl ⟨p,q,ys,ex,ey,hx,hy,k _ _ ⟨U,_,h,.refl,R,ry',m⟩⟩
 ·rename_i a0 a b;have rx':=rx;rw [FX] at rx ry;obtain ⟨p,xs,ex,hx,r1⟩:=rx;obtain ⟨q,ys,ey,hy,r2⟩:=ry;have sz:=m.ok.1;refine .inl<|.inr<|.inr ⟨p,q,xs,ys,ex,ey,hx,hy,fun z=>(by have:=r1.ne_nil.mp z;cases this),by rw [<-r1.len,<-r2.len];exact sz,fun z=>?_,fun z l hl=>?_⟩
  ·have eb:b=[]:=r2.ne_nil.mp z;subst eb;refine k _ _ ⟨U,.tup (a0::a++[]),h,.refl,R,?_,m.ok.2⟩;rw [List.append_nil,<-ex];exact rx'
  ·exact k _ _ ⟨U,_,h,(Ex.laid hl).ext,R.laid hl,.tupNew hl<|r1.append r2,m.ok.2⟩
 ·split at m
  ·rename_i a b ea eb;obtain ⟨p,xs,ex,hx,r1⟩:=rT R rx ea;obtain ⟨q,ys,ey,hy,r2⟩:=rT R ry eb;have sz:=m.ok.1;exact .inr ⟨p,q,xs,ys,ex,ey,hx,hy,by rw [<-r1.len,<-r2.len];exact sz,fun l hl=>k _ _ ⟨U,_,h,(Ex.laid hl).ext,R.laid hl,.lstNew R hl<|r1.append r2,m.ok.2⟩⟩
  ·exact m.elim⟩
variable {o e:Expr}{mo:ME}{ma:MA}{apos cpos:Pos}
end
def Ge (K:Yc):Sp:=fun vs H Q _=>∃ (a:Addr) (ns:List Int),vs=[.ref a]/\XS K H a (ns.map V.int)/\Only H/\ns.length<=63/\∀ H',Q (.bl true) H'
def g0:Gh:=⟨0,fun _=>FN⟩
def U0:Mu:=⟨fun _=>FN,fun _=>False⟩
theorem VD {K:Yc}{H:Hp}:Wo K U0 H g0 where
 inj:=fun m n p h=>by cases (show (FN:Option Addr)=Dn p from h)
 dom:=fun n p h=>by cases (show (FN:Option Addr)=Dn p from h)
 trk:=fun n p h=>by cases (show (FN:Option Addr)=Dn p from h)
 cel:=fun n c h=>by cases (show (FN:Option Cell)=Dn c from h)
 hd:=fun p h=>Fb h
theorem tG {K:Yc}{H:Hp}{U : Mu}:∀ ns:List Int,aP K H U (ns.map W.int) (ns.map V.int)
 | []=>.nil
 | n::ns=>.cons (by rw [FX]) (tG ns)
theorem Lk {P:YF}{w:Zb}{K:Yc}{mg:Str->Option Ye}{base:Heap}{k:Nat}{f:Addr}{fd:Y8}{ps:List Str}{ms:VR}
  (hm:∀ ns:List Int,ns.length<=63->ms [.kls (ns.map W.int)] g0 (fun w _=>w=.bl true) EF) (F:eO P w K mg base kI k f fd ps (lift K ms)):eO P w K mg base kI k f fd ps (Ge K):=
 F.imp fun vs H Q E ⟨a,ns,e,hS,hO,hl,q⟩=>by
  subst e;refine ⟨U0,g0,[.kls<|ns.map W.int],_,VD,.one ?_,hm ns hl,fun v H' ⟨U',w',h',_,_,r,e⟩=>?_⟩
  ·rw [FX];refine ⟨a,ns.map V.int,rfl,?_,tG ns⟩;rcases hS with (hS | hS) | hS
   ·rcases hO a with z | ⟨o,xs,z⟩ <;> rw [hS] at z <;> cases z
   ·exact .inl hS
   ·exact .inr hS
  ·subst e;rw [FX] at r;subst r;exact q H'
inductive Sk where
 | l | t
def Sk.sq (k:Sk)(h:Heap)(a:Addr)(its:Array Ye):Prop:=match k with
 | .l=>h.IsList a its
 | .t=>h.IsTuple a its
def Sk.it (k:Sk)(h:Heap)(i a:Addr)(n:Nat):Prop:=match k with
 | .l=>h.IsListIter i a n
 | .t=>h.IsTupleIter i a n
def Sk.nm:Sk->String
 | .l => "list_iterator"
 | .t => "tuple_iterator"
section
variable {P:YF}{w:Zb}{A:YW}{E:Ye->Yj->Prop}{s:Yj}{k k1 k2:Sk}
theorem Sk.it_at {h h':Heap}{i a:Addr}{n:Nat}(x:k.it h i a n)(e:∀ o,h.get? i=Dn o->h'.get? i=Dn o):k.it h' i a n:=by
 cases k with
 | l=>obtain ⟨o,ho,r⟩:=x;exact ⟨o,e o ho,r⟩
 | t=>obtain ⟨o,ho,r⟩:=x;exact ⟨o,e o ho,r⟩
theorem Sk.sq_at {h h':Heap}{a:Addr}{its:Array Ye}(x:k.sq h a its)(e:∀ o,h.get? a=Dn o->h'.get? a=Dn o):k.sq h' a its:=by
 cases k with
 | l=>obtain ⟨o,ho,r⟩:=x;exact ⟨o,e o ho,r⟩
 | t=>obtain ⟨o,ho,r⟩:=x;exact ⟨o,e o ho,r⟩
theorem Sk.it_obj {h:Heap}{i a:Addr}{n:Nat}(x:k.it h i a n):∃ o,h.get? i=Dn o/\o.cls=.type k.nm/\o.data=.fields #[.ref a,.int n 0]:=by
 cases k with
 | l=>exact x
 | t=>exact x
theorem zbt {it t:Addr}{i:Nat}{its:Array Ye}{x:Ye}{Q:Ye->Yj->Prop}(hi:s.heap.IsTupleIter it t i)(ht:s.heap.IsTuple t its)(hx:its[i]?=Dn x)
  (q:∀ h',h'.IsTupleIter it t (i+1)->Jf it s.heap h'->Q x { s with heap:=h' }):Y7 (Zk P w) A (Zd (.ref it)) Q E s:=by
 obtain ⟨o,go,gc,gd⟩:=id hi;obtain ⟨ol,gol,_,nl,gdl⟩:=ht;unfold Zd;refine Yg (ZV (name:=JM "__next__") hi.typeIs LQ
  (Jo LQ hi.typeIs PySem.F.entry_tuple_iterator_next ?_ (PySem.F.args_tuple_iterator_next_1 _)))
 show Y7 _ _ (field (.ref it) 0 >>= _) _ _ s;refine Yg<|ZJ go gd (x:=.ref t) rfl ?_
 show Y7 _ _ (if (Value.ref t==Value.none)=true then _ else _) _ _ s;rw [if_neg (by exact Y6)];show Y7 _ _ (field (.ref it) 1 >>= _) _ _ s;refine Yg<|ZJ go gd (x:=.int i 0) rfl ?_
 show Y7 _ _ (seqItems? (.ref t) >>= _) _ _ s;refine Yg<|JL gol gdl ?_
 simp only [ZQ,hx];refine Yg<|wpAny_setField go gd (by simp)<|Yx ⟨x,rfl,Yx<|q _ ?_<|Heap.SameBut.update ..⟩
 exact ⟨_,Heap.get?_update_self _ go<|Obj.isFreed_of_fields<|Obj.data_mapFields gd _,(Obj.cls_mapFields ..).trans gc,by rw [Obj.data_mapFields gd];simp [rawInt]⟩
theorem tL {it t:Addr}{i:Nat}{its:Array Ye}{Q:Ye->Yj->Prop}(hh:A.handled=FN)(hi:s.heap.IsTupleIter it t i)(ht:s.heap.IsTuple t its)(hx:its[i]?=FN)
  (q:∀ h' e,Heap.ExtBut it s.heap h'->(∃ o,h'.get? e=Dn o/\o.cls=.type "StopIteration")->E (.ref e) { s with heap:=h' }):Y7 (Zk P w) A (Zd (.ref it)) Q E s:=by
 obtain ⟨o,go,gc,gd⟩:=id hi;obtain ⟨ol,gol,_,nl,gdl⟩:=ht;unfold Zd;refine Yg (ZV (name:=JM "__next__") hi.typeIs LQ
  (Jo LQ hi.typeIs PySem.F.entry_tuple_iterator_next ?_ (PySem.F.args_tuple_iterator_next_1 _)))
 show Y7 _ _ (field (.ref it) 0 >>= _) _ _ s;refine Yg<|ZJ go gd (x:=.ref t) rfl ?_
 show Y7 _ _ (if (Value.ref t==Value.none)=true then _ else _) _ _ s;rw [if_neg (by exact Y6)];show Y7 _ _ (field (.ref it) 1 >>= _) _ _ s;refine Yg<|ZJ go gd (x:=.int i 0) rfl ?_
 show Y7 _ _ (seqItems? (.ref t) >>= _) _ _ s;refine Yg<|JL gol gdl ?_
 simp only [ZQ,hx];refine Yg<|wpAny_rule<|Yg<|wpAny_setField go gd (by simp) ?_
 show Y7 _ _ (newExc (.type "StopIteration") [] >>= _) _ _ _;refine Yg ?_;simp only [newExc,newTuple];refine Yg<|J7 ?_<|by size_fits
 refine Yg (m:=firstArgMember _ _)<|wpAny_of_eq (a:=Value.none) (by first | rfl | (simp only [firstArgMember];rfl)) ?_
 refine J7 ?_<|by size_fits
 simp only [raiseNew];refine Yg<|wpAny_handled ?_
 first | rw [show A.in1.handled=FN from hh] | rw [hh]
 refine Yg<|Yx<|wpAny_throw ?_
 exact q _ _ (((Heap.SameBut.update ..).extBut.push _).push _) ⟨_,YC _ rfl,rfl⟩
theorem Sk.next {it a:Addr}{i:Nat}{its:Array Ye}{x:Ye}{Q:Ye->Yj->Prop}(hi:k.it s.heap it a i)(hs:k.sq s.heap a its)(hx:its[i]?=Dn x)
  (q:∀ h',k.it h' it a (i+1)->Jf it s.heap h'->Q x { s with heap:=h' }):Y7 (Zk P w) A (Zd (.ref it)) Q E s:=by
 cases k with
 | l=>exact wpAny_nextOf_list_item hi hs hx q
 | t=>exact zbt hi hs hx q
theorem Sk.stop {it a:Addr}{i:Nat}{its:Array Ye}{Q:Ye->Yj->Prop}(hh:A.handled=FN)(hi:k.it s.heap it a i)(hs:k.sq s.heap a its)(hx:its[i]?=FN)
  (q:∀ h' e,Heap.ExtBut it s.heap h'->(∃ o,h'.get? e=Dn o/\o.cls=.type "StopIteration")->E (.ref e) { s with heap:=h' }):Y7 (Zk P w) A (Zd (.ref it)) Q E s:=by
 cases k with
 | l=>exact wpAny_nextOf_list_end hh hi hs hx q
 | t=>exact tL hh hi hs hx q
theorem Sk.iter {a:Addr}{its:Array Ye}{Q:Ye->Yj->Prop}(hs:k.sq s.heap a its)
  (q:Q (.ref s.heap.objs.size) { s with heap:=s.heap.push { cls:=.type k.nm,data:=.fields #[.ref a,.int 0 0] } }):Y7 (Zk P w) A (pyIter (.ref a)) Q E s:=by
 cases k with
 | l=>exact Kc hs q
 | t=>exact wpAny_pyIter_tuple hs q
structure Zap (z TI TO i1 i2:Addr):Prop where
 a1:TI≠z
 a2:TO≠z
 a3:i1≠z
 a4:i2≠z
 a5:TI≠TO
 a6:TI≠i1
 a7:TI≠i2
 a8:TO≠i1
 a9:TO≠i2
 b1:i1≠i2
structure Off (a z TO i1 i2:Addr):Prop where
 z:a≠z
 o:a≠TO
 i:a≠i1
 j:a≠i2
theorem zbz {z TI TO i1 i2 l1 l2:Addr}{n1 n2:Nat}{xs ys:Array Ye}{x y a b:Ye}{Q:Option Ye->Yj->Prop}(D:Zap z TI TO i1 i2)(o1:Off l1 z TO i1 i2)(o2:Off l2 z TO i1 i2)
  (gz:IsZip s.heap z TI TO .none) (gI:Du s.heap TI (.ref i1) (.ref i2)) (gO:Du s.heap TO a b) (g1:k1.it s.heap i1 l1 n1) (g2:k2.it s.heap i2 l2 n2) (gx:k1.sq s.heap l1 xs) (gy:k2.sq s.heap l2 ys)
  (hx:xs[n1]?=Dn x) (hy:ys[n2]?=Dn y)
  (q:∀ h',IsZip h' z TI TO (rawInt s.heap.objs.size)->Du h' TO x y->k1.it h' i1 l1 (n1+1)->k2.it h' i2 l2 (n2+1)->Du h' s.heap.objs.size x y->h'.objs.size=s.heap.objs.size+1 ->
   (∀ c o,c≠z->c≠TO->c≠i1->c≠i2->s.heap.get? c=Dn o->h'.get? c=Dn o)->Q (Dn (.ref s.heap.objs.size)) { s with heap:=h' }) :
  Y7 (Zk P w) A (pyNext (.ref z)) Q E s:=by
 have gT:s.TypeIs (.ref z) "zip":=⟨_,gz,rfl⟩
 unfold pyNext;refine Yg<|wpAny_attempt<|ZV (name:=JM "__next__") gT Kv<|Jo Kv gT PySem.F.entry_zip_next ?_<|PySem.F.args_zip_next_1 _
 show Y7 _ _ (field (.ref z) 2 >>= _) _ _ _;refine Yg<|ZJ gz rfl (x:=.bool false) rfl ?_
 show Y7 _ _ (field (.ref z) 3 >>= _) _ _ _;refine Yg<|ZJ gz rfl (x:=.ref TI) rfl ?_
 refine Yg<|JL gI rfl ?_
 show Y7 _ _ (Z8 (.ref z) >>= _) _ _ _;refine Yg ?_;unfold Z8;refine Yg<|ZJ gz rfl (x:=.none) rfl<|Yx ?_
 simp only [if_true];refine Yg<|wpAny_rule ?_
 refine Yg<|ZJ gz rfl (x:=.ref TO) rfl ?_
 refine Yg<|K8 gz (by simp) fun h₁ z₁ s₁=>?_
 replace z₁ : IsZip h₁ z TI TO .ellipsis:=z₁;refine Yg ?_;simp only [List.zipIdx_cons,List.zipIdx_nil,List.forIn_cons,List.forIn_nil]
 -- the first one
 refine Yg<|Yg<|wpAny_onRaise ?_
 show Y7 _ _ (Zd (.ref i1) >>= _) _ _ _;refine Yg<|Sk.next (k:=k1) (s:={ s with heap:=h₁ }) (Sk.it_at g1 fun o e=>s₁.extBut _ o D.a3 e) (Sk.sq_at gx fun o e=>s₁.extBut _ o o1.z e) hx fun h₂ g1₂ s₂=>Yx ?_
 have gO₂ : Du h₂ TO a b:=s₂.extBut _ _ D.a8 (s₁.extBut _ _ D.a2 gO);refine Yg<|JL gO₂ rfl ?_
 refine Yg<|wpAny_updateSeq_pair gO₂ fun h₃ gO₃ s₃=>?_
 replace gO₃ : Du h₃ TO x b:=gO₃;refine Yg<|wpAny_letGo<|Yx ?_
 -- the second one
 refine Yg<|Yg<|wpAny_onRaise ?_
 show Y7 _ _ (Zd (.ref i2) >>= _) _ _ _;refine Yg (Sk.next (k:=k2) (s:={ s with heap:=h₃ }) (Sk.it_at g2 fun o e=>s₃.extBut _ o D.a9.symm (s₂.extBut _ o D.b1.symm (s₁.extBut _ o D.a4 e)))
  (Sk.sq_at gy fun o e=>s₃.extBut _ o o2.o (s₂.extBut _ o o2.i (s₁.extBut _ o o2.z e))) hy fun h₄ g2₄ s₄=>Yx ?_)
 have gO₄ : Du h₄ TO x b:=s₄.extBut _ _ D.a9 gO₃;refine Yg<|JL gO₄ rfl ?_
 refine Yg<|wpAny_updateSeq_pair gO₄ fun h₅ gO₅ s₅=>?_
 replace gO₅ : Du h₅ TO x y:=gO₅;refine Yg<|wpAny_letGo<|Yx<|Yx ?_
 -- the pair is handed out
 refine Yg<|JL gO₅ rfl ?_
 refine Yg<|wpAny_newTuple ?_
 have size:h₅.objs.size=s.heap.objs.size:=by rw [s₅.1,s₄.1,s₃.1,s₂.1,s₁.1]
 have z₅ : IsZip h₅ z TI TO .ellipsis:=s₅.extBut _ _ D.a2.symm (s₄.extBut _ _ D.a4.symm (s₃.extBut _ _ D.a2.symm (s₂.extBut _ _ D.a3.symm z₁)));have all₅ : ∀ c o,c≠z->c≠TO->c≠i1->c≠i2->s.heap.get? c=Dn o->h₅.get? c=Dn o:=fun c o c1 c2 c3 c4 e=>s₅.extBut _ _ c2 (s₄.extBut _ _ c4 (s₃.extBut _ _ c2 (s₂.extBut _ _ c3 (s₁.extBut _ _ c1 e))))
 have g1₅ : k1.it h₅ i1 l1 (n1+1):=Sk.it_at g1₂ fun o e=>s₅.extBut _ o D.a8.symm (s₄.extBut _ o D.b1 (s₃.extBut _ o D.a8.symm e))
 have g2₅ : k2.it h₅ i2 l2 (n2+1):=Sk.it_at g2₄ fun o e=>s₅.extBut _ o D.a9.symm e
 have zlt:z<h₅.objs.size:=Yt z₅;show Y7 _ _ (Builtin.SmallTypes.ownedTupleHandOut (.ref z) (.ref h₅.objs.size) >>= _) _ _ _;refine Yg ?_;unfold Builtin.SmallTypes.ownedTupleHandOut;have z₆ : IsZip (h₅.push { cls:=.type "tuple",data:=.seq #[x,y] }) z TI TO .ellipsis:=Yh _ z₅;refine Yg<|K8 z₆ (by simp) fun h₇ z₇ s₇=>?_
 replace z₇ : IsZip h₇ z TI TO (rawInt h₅.objs.size):=z₇;refine K8 z₇ (by simp) fun h₈ z₈ s₈=>?_;replace z₈ : IsZip h₈ z TI TO (rawInt h₅.objs.size):=z₈;have up:∀ c o,c≠z->h₅.get? c=Dn o->h₈.get? c=Dn o:=fun c o c1 e=>s₈.extBut _ _ c1 (s₇.extBut _ _ c1 (Yh _ e))
 have T₈ : Du h₈ h₅.objs.size x y:=s₈.extBut _ _ (ZS zlt) (s₇.extBut _ _ (ZS zlt) (YC _ rfl));have size8:h₈.objs.size=h₅.objs.size+1:=by rw [s₈.1,s₇.1,Fw]
 rw [size] at z₈ T₈ size8;refine Yx ⟨_,rfl,Yx ?_⟩;show Q (Dn (.ref h₅.objs.size)) _;rw [size];exact q h₈ z₈ (up _ _ D.a2 gO₅) (Sk.it_at g1₅ fun o e=>up _ o D.a3 e) (Sk.it_at g2₅ fun o e=>up _ o D.a4 e) T₈ size8 fun c o c1 c2 c3 c4 e=>up c o c1<|all₅ c o c1 c2 c3 c4 e
theorem zaT {z TI TO i1 i2 l1 l2:Addr}{n1 n2:Nat}{xs ys:Array Ye}{a b:Ye}{Q:Option Ye->Yj->Prop}(hh:A.handled=FN)(D:Zap z TI TO i1 i2)(o1:Off l1 z TO i1 i2)(o2:Off l2 z TO i1 i2)
  (gz:IsZip s.heap z TI TO .none) (gI:Du s.heap TI (.ref i1) (.ref i2)) (gO:Du s.heap TO a b) (g1:k1.it s.heap i1 l1 n1) (g2:k2.it s.heap i2 l2 n2) (gx:k1.sq s.heap l1 xs) (gy:k2.sq s.heap l2 ys)
  (hend:xs[n1]?=FN\/ys[n2]?=FN)
  (q:∀ h',(∀ c o,c≠z->c≠TO->c≠i1->c≠i2->s.heap.get? c=Dn o->h'.get? c=Dn o)->Q FN { s with heap:=h' }):Y7 (Zk P w) A (pyNext (.ref z)) Q E s:=by
 have gT:s.TypeIs (.ref z) "zip":=⟨_,gz,rfl⟩
 have fin:∀ (h':Heap) (e:Addr),(∀ c o,c≠z->c≠TO->c≠i1->c≠i2->s.heap.get? c=Dn o->h'.get? c=Dn o)->(∃ o,h'.get? e=Dn o/\o.cls=.type "StopIteration") ->
   Y7 (Zk P w) A (do if <-isInstance (.ref e) (.type "StopIteration") then pure FN else throw (.ref e)) Q E { s with heap:=h' }:=fun h' e all ⟨o,ho,hc⟩=>
  Yg (wpAny_isInstance (T := "StopIteration") (b:=true) ⟨o,ho,hc⟩ isSubtype_stop (Yx (q _ all)))
 unfold pyNext;refine Yg<|wpAny_attempt<|ZV (name:=JM "__next__") gT Kv<|Jo Kv gT PySem.F.entry_zip_next ?_<|PySem.F.args_zip_next_1 _
 show Y7 _ _ (field (.ref z) 2 >>= _) _ _ _;refine Yg<|ZJ gz rfl (x:=.bool false) rfl ?_
 show Y7 _ _ (field (.ref z) 3 >>= _) _ _ _;refine Yg<|ZJ gz rfl (x:=.ref TI) rfl ?_
 refine Yg<|JL gI rfl ?_
 show Y7 _ _ (Z8 (.ref z) >>= _) _ _ _;refine Yg ?_;unfold Z8;refine Yg<|ZJ gz rfl (x:=.none) rfl<|Yx ?_
 simp only [if_true];refine Yg<|wpAny_rule ?_
 refine Yg<|ZJ gz rfl (x:=.ref TO) rfl ?_
 refine Yg<|K8 gz (by simp) fun h₁ z₁ s₁=>?_
 replace z₁ : IsZip h₁ z TI TO .ellipsis:=z₁;refine Yg ?_;simp only [List.zipIdx_cons,List.zipIdx_nil,List.forIn_cons,List.forIn_nil];refine Yg<|Yg<|wpAny_onRaise ?_
 show Y7 _ _ (Zd (.ref i1) >>= _) _ _ _;have g1₁ : k1.it h₁ i1 l1 n1:=Sk.it_at g1 fun o e=>s₁.extBut _ o D.a3 e
 have gx₁ : k1.sq h₁ l1 xs:=Sk.sq_at gx fun o e=>s₁.extBut _ o o1.z e
 cases hx:xs[n1]? with
 | none=>
  refine Yg<|Sk.stop (k:=k1) (s:={ s with heap:=h₁ }) hh g1₁ gx₁ hx fun h₂ e s₂ he=>?_
  obtain ⟨oe,hoe,hce⟩:=he;have z₂ : IsZip h₂ z TI TO .ellipsis:=s₂ _ _ D.a3.symm z₁;have ez:e≠z:=fun y=>by subst y;rw [z₂] at hoe;cases hoe;simp at hce
  refine K8 z₂ (by simp) fun h₃ _ s₃=>fin h₃ e (fun c o c1 _ c3 _ y=>s₃.extBut _ _ c1<|s₂ _ _ c3<|s₁.extBut _ _ c1 y) ⟨oe,s₃.extBut _ _ ez hoe,hce⟩
 | some x=>
  have hy:ys[n2]?=FN:=by
   rcases hend with h | h
   ·rw [hx] at h;cases h
   ·exact h
  refine Yg<|Sk.next (k:=k1) (s:={ s with heap:=h₁ }) g1₁ gx₁ hx fun h₂ g1₂ s₂=>Yx ?_
  have gO₂ : Du h₂ TO a b:=s₂.extBut _ _ D.a8 (s₁.extBut _ _ D.a2 gO);refine Yg<|JL gO₂ rfl ?_
  refine Yg<|wpAny_updateSeq_pair gO₂ fun h₃ gO₃ s₃=>?_
  refine Yg<|wpAny_letGo<|Yx ?_
  refine Yg<|Yg<|wpAny_onRaise ?_
  show Y7 _ _ (Zd (.ref i2) >>= _) _ _ _;refine Yg (Sk.stop (k:=k2) (s:={ s with heap:=h₃ }) hh (Sk.it_at g2 fun o e=>s₃.extBut _ o D.a9.symm (s₂.extBut _ o D.b1.symm (s₁.extBut _ o D.a4 e)))
   (Sk.sq_at gy fun o e=>s₃.extBut _ o o2.o (s₂.extBut _ o o2.i (s₁.extBut _ o o2.z e))) hy fun h₄ e s₄ he=>?_)
  obtain ⟨oe,hoe,hce⟩:=he;have z₄ : IsZip h₄ z TI TO .ellipsis:=s₄ _ _ D.a4.symm (s₃.extBut _ _ D.a2.symm (s₂.extBut _ _ D.a3.symm z₁));have ez:e≠z:=fun y=>by subst y;rw [z₄] at hoe;cases hoe;simp at hce
  refine K8 z₄ (by simp) fun h₅ _ s₅=>fin h₅ e (fun c o c1 c2 c3 c4 y=>s₅.extBut _ _ c1<|s₄ _ _ c4<|s₃.extBut _ _ c2<|s₂.extBut _ _ c3<|s₁.extBut _ _ c1 y) ⟨oe,s₅.extBut _ _ ez hoe,hce⟩
abbrev zh1 (k1:Sk)(h:Heap)(l1:Addr):Heap:=h.push { cls:=.type k1.nm,data:=.fields #[.ref l1,.int 0 0] }
abbrev zh2 (k1 k2:Sk)(h:Heap)(l1 l2:Addr):Heap:=(zh1 k1 h l1).push { cls:=.type k2.nm,data:=.fields #[.ref l2,.int 0 0] }
abbrev zh3 (k1 k2:Sk)(h:Heap)(l1 l2:Addr):Heap:=(zh2 k1 k2 h l1 l2).push { cls:=.type "tuple",data:=.seq #[.ref h.objs.size,.ref (zh1 k1 h l1).objs.size] }
abbrev zh4 (k1 k2:Sk)(h:Heap)(l1 l2:Addr):Heap:=(zh3 k1 k2 h l1 l2).push { cls:=.type "tuple",data:=.seq #[.none,.none] }
abbrev zh5 (k1 k2:Sk)(h:Heap)(l1 l2:Addr):Heap:=(zh4 k1 k2 h l1 l2).push { cls:=.type "zip",data:=.fields #[.none,.bool false,.bool false,.ref (zh2 k1 k2 h l1 l2).objs.size,.ref (zh3 k1 k2 h l1 l2).objs.size] }
theorem Mp (l1 l2:Addr)(xs ys:Array Ye):Meets (Zj.«zip.__new__» ⟨[.type "zip",.ref l1,.ref l2],[]⟩) (fun _ R s=>k1.sq s.heap l1 xs/\k2.sq s.heap l2 ys /\
   R (.ok (.ret (.ref (zh4 k1 k2 s.heap l1 l2).objs.size))) { s with heap:=zh5 k1 k2 s.heap l1 l2 }):=
 .of_wp fun prog w A R s h=>by
  obtain ⟨hp,g,d,tk,os⟩:=s;obtain ⟨gl1,gl2,h⟩:=h;have hsub:=sub_zip;have L1:k1.sq (Shared.heap ⟨hp,g,d,tk,os⟩) l1 xs:=gl1;have L2':k2.sq (Shared.heap ⟨hp.push { cls:=.type k1.nm,data:=.fields #[.ref l1,.int 0 0] },g,d,tk,os⟩) l2 ys:=Sk.sq_at gl2 fun o e=>Yh _ e
  wp_walk using Sk.iter L1,Sk.iter L2'
  exact ⟨_,rfl,h⟩
theorem zaV {l1 l2:Addr}{xs ys:Array Ye}{Q:Ye->Yj->Prop}(gl1:k1.sq s.heap l1 xs)(gl2:k2.sq s.heap l2 ys)
  (q:∀ h',IsZip h' (s.heap.objs.size+4) (s.heap.objs.size+2) (s.heap.objs.size+3) .none->Du h' (s.heap.objs.size+2) (.ref s.heap.objs.size) (.ref (s.heap.objs.size+1)) ->
   Du h' (s.heap.objs.size+3) .none .none->k1.it h' s.heap.objs.size l1 0->k2.it h' (s.heap.objs.size+1) l2 0->h'.objs.size=s.heap.objs.size+5 ->
   (∀ c o,s.heap.get? c=Dn o->h'.get? c=Dn o)->Q (.ref (s.heap.objs.size+4)) { s with heap:=h' }):Y7 (Zk P w) A (call (.type "zip") [.ref l1,.ref l2]) Q E s:=by
 refine callType_new PySem.F.called_zip (by decide) (PySem.F.typeCall_zip_2 _ _) (PySem.F.newCall_zip_2 _ _) (fun obj=>PySem.F.args_object_init_3 obj _ _) PySem.F.entry_zip_new (Mp (k1:=k1) (k2:=k2) l1 l2 xs ys) ⟨gl1,gl2,?_⟩;have e1:(zh1 k1 s.heap l1).objs.size=s.heap.objs.size+1:=Fw ..;have e2:(zh2 k1 k2 s.heap l1 l2).objs.size=s.heap.objs.size+2:=by rw [Fw,e1]
 have e3:(zh3 k1 k2 s.heap l1 l2).objs.size=s.heap.objs.size+3:=by rw [Fw,e2]
 have e4:(zh4 k1 k2 s.heap l1 l2).objs.size=s.heap.objs.size+4:=by rw [Fw,e3]
 have e5:(zh5 k1 k2 s.heap l1 l2).objs.size=s.heap.objs.size+5:=by rw [Fw,e4]
 have f5:(zh5 k1 k2 s.heap l1 l2).get? (zh4 k1 k2 s.heap l1 l2).objs.size=Dn _:=YC _ rfl;have f4:(zh5 k1 k2 s.heap l1 l2).get? (zh3 k1 k2 s.heap l1 l2).objs.size=Dn _:=Yh _ (YC _ rfl);have f3:(zh5 k1 k2 s.heap l1 l2).get? (zh2 k1 k2 s.heap l1 l2).objs.size=Dn _:=Yh _ (Yh _ (YC _ rfl));have f2:(zh5 k1 k2 s.heap l1 l2).get? (zh1 k1 s.heap l1).objs.size=Dn _:=Yh _ (Yh _ (Yh _ (YC _ rfl)));have f1:(zh5 k1 k2 s.heap l1 l2).get? s.heap.objs.size=Dn _:=Yh _ (Yh _ (Yh _ (Yh _ (YC _ rfl))));show _/\_;rw [e2,e3,e4] at f5;rw [e1,e2] at f3;rw [e3] at f4;rw [e1] at f2;rw [e4];refine ⟨⟨_,f5,rfl⟩,q _ f5 f3 f4 ?_ ?_ e5 fun c o x=>Yh _<|Yh _<|Yh _<|Yh _<|Yh _ x⟩
 ·cases k1 with
  | l=>exact ⟨_,f1,rfl,rfl⟩
  | t=>exact ⟨_,f1,rfl,rfl⟩
 ·cases k2 with
  | l=>exact ⟨_,f2,rfl,rfl⟩
  | t=>exact ⟨_,f2,rfl,rfl⟩
end
section
variable {X:Cx}{pins:List (Addr×Obj)}{Z : St}{H:Hp}{s:Yj}{h':Heap}
theorem Go.turnedL {t':Nat}{ch:List Addr}(I:Go X pins Z H s)(k:∀ b o,b∉ch->s.heap.get? b=Dn o->h'.get? b=Dn o)(hf:∀ b∈ch,wW X pins H b):Go X pins Z H { s with heap:=h',toks:=t' }:=by
 have nit:∀ b u,H b=Dn u->b∉ch:=fun b u e z=>by rw [(hf b z).1] at e;cases e
 refine I.step (g':=s.gens) (d':=s.drawn) (ch:=ch) (fun b hb=>?_) (fun b o _ _ hc e _=>k b o hc e) (fun b o _ _ hc e _=>⟨o.slots,k b o hc e⟩) (fun _ _ _ _ n=>n)
  (fun b o hc e=>⟨o,k b o hc e⟩) (fun _ _ e=>e) (fun _ _ _ e=>e) (fun b ps e=>⟨#[],by rw [e];simp⟩) (fun m hm=>?_) (fun b u e=>?_) I.bare
 ·obtain ⟨_,f1,_,f3,f4,f5⟩:=hf b hb;exact ⟨f3,f1,f4,f5⟩
 ·obtain ⟨o,es,ep,ho,r⟩:=hm;exact ⟨o,es,ep,k _ o (fun z=>(hf _ z).2.1 rfl) ho,r⟩
 ·refine (I.hok b u e).stay (fun c v hc q=>k c v ?_ q) (fun _ q=>q) fun _ _ q=>q;rcases hc with z | z
  ·rw [z];exact nit b u e
  ·exact nit c _ z
end
def Sk.v (k:Sk)(K:Yc)(H:Hp)(a:Addr)(xs:List V):Prop:=match k with
 | .l=>XS K H a xs
 | .t=>Ac K H a xs
theorem Go.sk {X:Cx}{pins:List (Addr×Obj)}{Z : St}{H:Hp}{s:Yj}{k:Sk}{a:Addr}{xs:List V}(I:Go X pins Z H s)(h:k.v X.K H a xs):∃ its:List Ye,VL xs its/\k.sq s.heap a its.toArray:=by
 cases k with
 | l=>obtain ⟨its,r,p,_⟩:=I.list h;exact ⟨its,r,p.isList⟩
 | t=>obtain ⟨its,r,p,_⟩:=I.tuple h;exact ⟨its,r,p⟩
theorem Go.sk_inj {X:Cx}{pins:List (Addr×Obj)}{Z : St}{H:Hp}{s:Yj}{k:Sk}{a:Addr}{xs ys:List V}(I:Go X pins Z H s)(h:k.v X.K H a xs)(g:k.v X.K H a ys):xs=ys:=by
 cases k with
 | l=>exact I.list_inj h g
 | t=>exact I.tuple_inj h g
def Itz (K:Yc)(k1 k2:Sk)(l1 l2:Addr):It:=
  ⟨fun i H=>∃ xs ys x y,k1.v K H l1 xs/\k2.v K H l2 ys/\xs[i]?=Dn x/\ys[i]?=Dn y,
   fun i H v H'=>∃ p x y,H p=FN/\v=.ref p/\H'=X5 H p (.tup [x,y])/\(∀ xs,k1.v K H l1 xs->xs[i]?=Dn x)/\∀ ys,k2.v K H l2 ys->ys[i]?=Dn y,
   fun i H=>∃ xs ys,k1.v K H l1 xs/\k2.v K H l2 ys/\(xs.length<=i\/ys.length<=i),true⟩
def Ur (k1 k2:Sk)(z TI TO i1 i2 l1 l2:Addr)(n:Nat)(h:Heap):Prop:=IsZip h z TI TO .none/\Du h TI (.ref i1) (.ref i2)/\(∃ a b,Du h TO a b)/\k1.it h i1 l1 n/\k2.it h i2 l2 n
theorem zbl {P:YF}{w:Zb}{K:Yc}{elts:List Expr}{kt:Nat}{pos:Pos}{k1 k2:Sk}{z TI TO i1 i2 l1 l2:Addr}(D:Zap z TI TO i1 i2)(o1:Off l1 z TO i1 i2)(o2:Off l2 z TO i1 i2) :
  Turn P w K (.Tuple elts kt pos) (Itz K k1 k2 l1 l2) [z,TI,TO,i1,i2] z (Ur k1 k2 z TI TO i1 i2 l1 l2) where
 mem:=by simp
 obj:=fun i h st b hb=>by
  obtain ⟨gz,gI,⟨a,b',gO⟩,g1,g2⟩:=st;simp only [Yq,Y5,or_false] at hb;rcases hb with rfl | rfl | rfl | rfl | rfl
  ·exact ⟨_,gz,fun v y=>by cases y⟩
  ·exact ⟨_,gI,fun v y=>by cases y⟩
  ·exact ⟨_,gO,fun v y=>by cases y⟩
  ·obtain ⟨o,e,_,d⟩:=Sk.it_obj g1;exact ⟨o,e,fun v y=>by rw [d] at y;cases y⟩
  ·obtain ⟨o,e,_,d⟩:=Sk.it_obj g2;exact ⟨o,e,fun v y=>by rw [d] at y;cases y⟩
 keep:=fun i h h' st k=>by
  obtain ⟨gz,gI,⟨a,b,gO⟩,g1,g2⟩:=st;exact ⟨k z (by simp) _ gz,k TI (by simp) _ gI,⟨a,b,k TO (by simp) _ gO⟩,Sk.it_at g1 fun o e=>k i1 (by simp) o e,Sk.it_at g2 fun o e=>k i2 (by simp) o e⟩
 item:=by
  intro X hP hw hK hc i pins s Z H E I hf st hg;subst hP hw hK;obtain ⟨gz,gI,⟨a,b,gO⟩,g1,g2⟩:=st;obtain ⟨xs,ys,x,y,hx,hy,ex,ey⟩:=hg;obtain ⟨its,r1,p1⟩:=I.sk hx;obtain ⟨jts,r2,p2⟩:=I.sk hy;obtain ⟨u,hu,ru⟩:=r1.get ex;obtain ⟨v,hv,rv⟩:=r2.get ey;refine zbz D o1 o2 gz gI gO g1 g2 p1 p2 (x:=u) (y:=v) (by simpa using hu) (by simpa using hv) fun h1 z1 O1 g1' g2' T1 size1 all1=>⟨_,rfl,?_⟩;have pz:s.heap.objs.size≠z:=ZS (Yt gz);have lt:∀ b∈[z,TI,TO,i1,i2],s.heap.objs.size≠b:=fun b hb=>by
   simp only [Yq,Y5,or_false] at hb;rcases hb with rfl | rfl | rfl | rfl | rfl
   ·exact pz
   ·exact ZS<|Yt gI
   ·exact ZS<|Yt gO
   ·obtain ⟨o,e,_⟩:=Sk.it_obj g1;exact ZS (Yt e)
   ·obtain ⟨o,e,_⟩:=Sk.it_obj g2;exact ZS (Yt e)
  have all:∀ c o,c∉[z,TI,TO,i1,i2]->s.heap.get? c=Dn o->h1.get? c=Dn o:=fun c o hc e=>
   all1 c o (fun q=>hc (by simp [q])) (fun q=>hc (by simp [q])) (fun q=>hc (by simp [q])) (fun q=>hc (by simp [q])) e
  refine wpAny_letOwnedTupleGo_zip (s:={ s with heap:=h1 }) z1 fun h2 z2 sb=>?_;have fr:H s.heap.objs.size=FN:=I.hok.fresh (Ym _);have I1:Go X pins Z (X5 H s.heap.objs.size (.tup [x,y])) { s with heap:=s.heap.push { cls:=.type "tuple",data:=.seq #[u,v] } }:=
   I.laid (t':=s.toks) (fun b o e=>Yh _ e) (Ym _) ⟨(by show 2<=YQ;decide),[u,v],.cons ru (.cons rv .nil),⟨_,YC _ rfl,rfl,⟨_,rfl⟩,rfl⟩⟩
  have hf1:∀ b∈[z,TI,TO,i1,i2],wW X pins (X5 H s.heap.objs.size (.tup [x,y])) b:=fun b hb=>⟨by rw [aR (Bk (lt b hb))];exact (hf b hb).1,(hf b hb).2⟩
  have I2:Go X pins Z (X5 H s.heap.objs.size (.tup [x,y])) { s with heap:=h2 }:=by
   refine Go.turnedL (s:={ s with heap:=s.heap.push { cls:=.type "tuple",data:=.seq #[u,v] } }) (h':=h2) (t':=s.toks) (ch:=[z,TI,TO,i1,i2]) I1 (fun b o hb e=>?_) hf1;have bz:b≠z:=fun q=>hb (by simp [q])
   rcases Heap.get?_push_cases e with ⟨rfl,rfl⟩ | e'
   ·exact sb.extBut _ _ bz T1
   ·exact sb.extBut _ _ bz<|all b o hb e'
  refine ⟨.ref s.heap.objs.size,_,I2,rfl,⟨s.heap.objs.size,x,y,fr,rfl,rfl,fun xs' q=>by rw [I.sk_inj q hx];exact ex,fun ys' q=>by rw [I.sk_inj q hy];exact ey⟩,?_,fun b hb=>(hf1 b hb).1⟩;exact ⟨z2,sb.extBut _ _ D.a1<|all1 _ _ D.a1 D.a5 D.a6 D.a7 gI,⟨u,v,sb.extBut _ _ D.a2 O1⟩,Sk.it_at g1' fun o e=>sb.extBut _ o D.a3 e,Sk.it_at g2' fun o e=>sb.extBut _ o D.a4 e⟩
 done:=by
  intro X hP hw hK hc i pins s Z H E I hf st hg;subst hP hw hK;obtain ⟨gz,gI,⟨a,b,gO⟩,g1,g2⟩:=st;obtain ⟨xs,ys,hx,hy,hend⟩:=hg;obtain ⟨its,r1,p1⟩:=I.sk hx;obtain ⟨jts,r2,p2⟩:=I.sk hy;have l1:=r1.length;have l2:=r2.length;refine zaT (I.ok.hd<|hc rfl) D o1 o2 gz gI gO g1 g2 p1 p2 (hend.imp (fun q=>by simp;lia) fun q=>by simp;lia) fun h1 all1=>⟨rfl,I.turnedL (t':=s.toks) (ch:=[z,TI,TO,i1,i2]) (fun c o hc e=>?_) hf⟩;exact all1 c o (fun q=>hc<|by simp [q]) (fun q=>hc<|by simp [q]) (fun q=>hc<|by simp [q]) (fun q=>hc<|by simp [q]) e
 self:=fun _ _ _ _ _ st h=>wpAny_pyIter_zip st.1 h
section
variable {X:Cx}{K:Yc}
def sqk (K:Yc)(H:Hp)(x:V)(k:Sk)(a:Addr):Prop:=x=.ref a/\∃ xs,k.v K H a xs
def W8 (K:Yc)(ta:TA):TI:=fun Z H R=>ta Z H fun vs H1=>∃ x y k1 k2 a b,vs=[x,y]/\sqk K H1 x k1 a/\sqk K H1 y k2 b/\R (Itz K k1 k2 a b) H1
theorem Sk.sq_lt {k:Sk}{h:Heap}{a:Addr}{its:Array Ye}(x:k.sq h a its):a<h.objs.size:=by
 cases k with
 | l=>obtain ⟨o,e,_⟩:=x;exact Yt e
 | t=>obtain ⟨o,e,_⟩:=x;exact Yt e
theorem jO {a b:Nat}(h:a≠b):(show Addr from a)≠(show Addr from b):=h
theorem Oi (n:Nat):Zap (n+4) (n+2) (n+3) n (n+1) where
 a1:=jO (show n+2≠n+4 by lia)
 a2:=jO (show n+3≠n+4 by lia)
 a3:=jO (show n≠n+4 by lia)
 a4:=jO (show n+1≠n+4 by lia)
 a5:=jO (show n+2≠n+3 by lia)
 a6:=jO (show n+2≠n by lia)
 a7:=jO (show n+2≠n+1 by lia)
 a8:=jO (show n+3≠n by lia)
 a9:=jO (show n+3≠n+1 by lia)
 b1:=jO (show n≠n+1 by lia)
theorem Ht {a n:Nat}(h:a<n):Off a (n+4) (n+3) n (n+1) where
 z:=jO (show a≠n+4 by lia)
 o:=jO (show a≠n+3 by lia)
 i:=jO (show a≠n by lia)
 j:=jO (show a≠n+1 by lia)
theorem Tc {n c:Nat}(h:c∈([n+4,n+2,n+3,n,n+1]:List Nat)):n<=c:=by
 simp only [Yq,Y5,or_false] at h;lia
theorem GR {e1 e2:Expr}{ta:TA}{p pos tpos:Pos}{elts:List Expr}{kt:Nat}(hg:Gl X "zip")(hm:X.mg "zip" = FN)(ha:PA X [e1,e2] ta)
  (hs:YG [e1,e2] X.env=(false,eval e1 X.env)::YG [e2] X.env:=by rfl) (hpl:(Am pos (YG [e2] X.env)).any (·.1)=false:=by rfl) :
  PI X (.Tuple elts kt tpos) (.Call (.Name "zip" p) [e1,e2] [] pos) (W8 X.K ta):=by
 intro pins s Z H R I h;refine K6<|qF I hg hm boot_zip ?_ (by decide)<|by decide
 refine LK (X6 (ha pos pins s Z H _ I h) fun us s1 ⟨vs,H1,I1,r1,q1⟩=>?_) hs hpl;obtain ⟨x,y,k1,k2,a,b,ev,⟨ex,xs,hx⟩,⟨ey,ys,hy⟩,q⟩:=q1;subst ev ex ey;obtain ⟨u1,u2,eu,ru1,ru2⟩:=vals2 r1;subst eu;cases ru1;cases ru2;obtain ⟨its,r1,p1⟩:=I1.sk hx;obtain ⟨jts,r2,p2⟩:=I1.sk hy;have la:=Sk.sq_lt p1;have lb:=Sk.sq_lt p2;refine zaV p1 p2 fun h' gz gI gO g1 g2 size all=>?_;refine wpAny_pyIter_zip gz ?_;have I2:Go X pins Z H1 { s1 with heap:=h' }:=I1.kept (t':=s1.toks) all;generalize hn:s1.heap.objs.size=n at gz gI gO g1 g2 size la lb |-
 refine ⟨n+4,[n+4,n+2,n+3,n,n+1],_,_,H1,rfl,I2,zbl (Oi n) (Ht la)<|Ht lb,⟨gz,gI,⟨_,_,gO⟩,g1,g2⟩,fun c hc=>?_,q⟩;have hc':n<=c:=Tc hc;exact I1.fpOk (by rw [hn];exact hc')<|I1.hok.fresh (by rw [hn];exact hc')
def jU:List W->List W->List W
 | a::as,b::bs=>.tup [a,b]::jU as bs
 | _,_=>[]
theorem kJ:∀ {as bs:List W} {i:Nat} {w:W},(jU as bs)[i]?=Dn w->∃ a b,as[i]?=Dn a/\bs[i]?=Dn b/\w=.tup [a,b]
 | [],_,_,_,e=>by simp [jU] at e
 | _::_,[],_,_,e=>by simp [jU] at e
 | a::as,b::bs,0,w,e=>by
  have e:Dn (W.tup [a,b])=Dn w:=e;exact ⟨a,b,rfl,rfl,(Yp e).symm⟩
 | a::as,b::bs,i+1,w,e=>by
  obtain ⟨x,y,h1,h2,h3⟩:=kJ (as:=as) (bs:=bs) (i:=i) (w:=w) (by simpa [jU] using e);exact ⟨x,y,by simpa using h1,by simpa using h2,h3⟩
theorem lG:∀ {as bs:List W},(jU as bs).length=min as.length bs.length
 | [],bs=>by simp [jU]
 | _::_,[]=>by simp [jU]
 | a::as,b::bs=>by rw [jU,YB,lG,YB,YB];lia
def mY:W->Option (List W)
 | .tup ws=>Dn ws
 | .lst ws=>Dn ws
 | .kls ws=>Dn ws
 | _=>FN
theorem rB {H:Hp}{U : Mu}{w:W}{v:V}{ws:List W}(r:FX K H U w v)(e:mY w=Dn ws):∃ k a,v=.ref a/\∀ {H2:Hp} {U2:Mu},XQ K H U H2 U2->∃ xs,Sk.v k K H2 a xs/\aP K H2 U2 ws xs:=by
 cases w with
 | tup us=>
  cases (show Dn us=Dn ws from e)
  have r0:=r;rw [FX] at r;obtain ⟨p,xs,ev,hs,rs⟩:=r;subst ev;refine ⟨.t,p,rfl,fun {H2 U2} x=>?_⟩;have r2:=x.r _ _ r0;rw [FX] at r2;obtain ⟨q,ys,ev,hs,rs⟩:=r2;cases ev;exact ⟨ys,hs,rs⟩
 | lst us=>
  cases (show Dn us=Dn ws from e)
  have r0:=r;rw [FX] at r;obtain ⟨p,xs,ev,hs,rs⟩:=r;subst ev;refine ⟨.l,p,rfl,fun {H2 U2} x=>?_⟩;have r2:=x.r _ _ r0;rw [FX] at r2;obtain ⟨q,ys,ev,hs,rs⟩:=r2;cases ev;exact ⟨ys,hs.sq,rs⟩
 | kls us=>
  cases (show Dn us=Dn ws from e)
  have r0:=r;rw [FX] at r;obtain ⟨p,xs,ev,hs,rs⟩:=r;subst ev;refine ⟨.l,p,rfl,fun {H2 U2} x=>?_⟩;have r2:=x.r _ _ r0;rw [FX] at r2;obtain ⟨q,ys,ev,hs,rs⟩:=r2;cases ev;exact ⟨ys,hs.sq,rs⟩
 | _=>cases e
def Ig (h:Gh)(x y:W):Option Src:=match mY x,mY y with
 | some as,Dn bs=>Dn ⟨jU as bs,FN⟩
 | none,Dn bs=>(match x with
  | .loc n=>(match h.c n with
   | some (.lst as)=>Dn ⟨jU as bs,Dn (n,as)⟩
   | _=>FN)
  | _=>FN)
 | _,_=>FN
theorem Aa {H:Hp}{U : Mu}{h:Gh}{w:W}{v:V}{ws:List W}{o:Option (Nat×List W)}(R:Wo K U H h)(r:FX K H U w v)(e:(mY w=Dn ws/\o=FN)\/∃ n,w=.loc n/\h.c n=Dn (.lst ws)/\o=Dn (n,ws)) :
  ∃ k a,v=.ref a/\∀ {H2:Hp} {U2:Mu} {h2:Gh},XQ K H U H2 U2->Wo K U2 H2 h2->Src.chk ⟨ws,o⟩ h2->∃ xs,Sk.v k K H2 a xs/\aP K H2 U2 ws xs:=by
 rcases e with ⟨e,rfl⟩ | ⟨n,rfl,ec,rfl⟩
 ·obtain ⟨k,a,ev,f⟩:=rB r e;exact ⟨k,a,ev,fun x _ _=>f x⟩
 ·have r0:=r;rw [FX] at r;obtain ⟨p,ev,hm⟩:=r;subst ev;refine ⟨.l,p,rfl,fun {H2 U2 h2} x R2 ck=>?_⟩;have r2:=x.r _ _ r0;rw [FX] at r2;obtain ⟨q,eq,hm2⟩:=r2;cases eq;obtain ⟨p',xs,hm',hx,rs⟩:=R2.lstAt (show h2.c n=Dn (.lst ws) from ck);have ep:p'=p:=by rw [hm2] at hm';exact (Yp hm').symm
  subst ep;exact ⟨xs,.of hx,rs⟩
theorem abu {h:Gh}{x y:W}{s:Src}(e:Ig h x y=Dn s):∃ as bs o,s=⟨jU as bs,o⟩/\((mY x=Dn as/\o=FN)\/∃ n,x=.loc n/\h.c n=Dn (.lst as)/\o=Dn (n,as))/\mY y=Dn bs:=by
 unfold Ig at e;split at e
 ·rename_i as bs ea eb;exact ⟨as,bs,FN,(Yp e).symm,.inl ⟨ea,rfl⟩,eb⟩
 ·rename_i bs ea eb;split at e
  ·split at e
   ·rename_i n _ as ec;exact ⟨as,bs,_,(Yp e).symm,.inr ⟨n,rfl,ec,rfl⟩,eb⟩
   ·cases e
  ·cases e
 ·cases e
def Vr (ma:MA):MI:=fun Z h R=>ma Z h fun ws h1=>match ws with
 | [x,y]=>(match Ig h1 x y with
  | some s=>R s h1
  | none=>False)
 | _=>False
theorem Qc {e1 e2:Expr}{mr:MA}{p pos tpos:Pos}{elts:List Expr}{kt:Nat}(hg:Gl X "zip")(hm:X.mg "zip" = FN)(ha:Bo X [e1,e2] mr)
  (hs:YG [e1,e2] X.env=(false,eval e1 X.env)::YG [e2] X.env:=by rfl) (hpl:(Am pos (YG [e2] X.env)).any (·.1)=false:=by rfl) :
  Fj X (.Tuple elts kt tpos) (.Call (.Name "zip" p) [e1,e2] [] pos) (Vr mr):=PI.of (GR hg hm ha hs hpl) fun Z H Q ⟨U,h,Zw,Rw,R,S,m,k⟩=>by
 refine ⟨U,h,Zw,_,R,S,m,fun vs H1 ⟨U1,ws,h1,e1,R1,r1,m1⟩=>?_⟩;split at m1
 ·split at m1
  ·rename_i x y _ s es;obtain ⟨as,bs,o,rfl,ea,eb⟩:=abu es;obtain ⟨v,u,ev,rv,ru⟩:=zK r1;obtain ⟨ka,a,e3,fa⟩:=Aa R1 rv ea;obtain ⟨kb,b,e4,fb⟩:=rB ru eb;have ck1:Src.chk ⟨as,o⟩ h1:=by
    rcases ea with ⟨_,rfl⟩ | ⟨n,_,ec,rfl⟩
    ·exact trivial
    ·exact ec
   obtain ⟨xs,hxs,_⟩:=fa .refl R1 ck1;obtain ⟨ys,hys,_⟩:=fb .refl;refine ⟨v,u,ka,kb,a,b,ev,⟨e3,xs,hxs⟩,⟨e4,ys,hys⟩,k _ _ ⟨U1,⟨jU as bs,o⟩,h1,e1,R1,?_,m1⟩⟩;intro H2 U2 h2 i e2 R2 ck;obtain ⟨xs2,hxs2,rxs⟩:=fa e2 R2 ck;obtain ⟨ys2,hys2,rys⟩:=fb e2;refine ⟨fun w ew=>?_,fun hl=>⟨xs2,ys2,hxs2,hys2,?_⟩⟩
   ·obtain ⟨p1,p2,ep1,ep2,rfl⟩:=kJ ew;obtain ⟨q1,eq1,rq1⟩:=rxs.get ep1;obtain ⟨q2,eq2,rq2⟩:=rys.get ep2;refine ⟨⟨xs2,ys2,q1,q2,hxs2,hys2,eq1,eq2⟩,fun x' H3 ⟨pa,x1,x2,hp,ex',eH3,f1,f2⟩=>?_⟩;have g1:=f1 xs2 hxs2;have g2:=f2 ys2 hys2;rw [eq1] at g1;rw [eq2] at g2;cases g1;cases g2;subst ex' eH3;exact ⟨U2,(Ex.laid hp).ext,R2.laid hp,.tupNew hp<|.cons rq1<|.one rq2⟩
   ·have l1:=rxs.len;have l2:=rys.len;have:min as.length bs.length<=i:=by rw [<-lG];exact hl
    lia
  ·exact m1.elim
 ·exact m1.elim
def JN:List W->Option (List Int)
 | []=>Dn []
 | .int i::ws=>(JN ws).map (i::·)
 | _=>FN
def V5:MC:=fun ws h Q=>match ws with
 | [w]=>(match cC h w with
  | some us=>(match JN us with
   | some ns=>Q (.int ns.sum) h
   | none=>False)
  | none=>False)
 | _=>False
end
section
variable {P:YF}{w:Zb}{A:YW}{E:Ye->Yj->Prop}{s:Yj}
end
section
variable {X:Cx}{K:Yc}
end
section
variable {X:Cx}
def Uq (i j k:Nat)(ta:MA):MS:=fun D Z h=>ta Z h fun ws h1=>match ws with
 | [a,b,c]=>D.nx (((Z.set i (Dn a)).set j (Dn b)).set k (Dn c)) h1
 | _=>False
end
section
variable {X:Cx}{K:Yc}
end
theorem fu {K:Yc}{H:Hp}{U : Mu}:aP K H U [] []:=by rw [aP]
theorem bV {K:Yc}{H:Hp}{U : Mu}{w:W}{v:V}{ws:List W}{vs:List V}(h:FX K H U w v)(t:aP K H U ws vs):aP K H U (w::ws) (v::vs):=by rw [aP];exact ⟨v,vs,rfl,h,t⟩
theorem Vh {K:Yc}{H:Hp}{U : Mu}{i:Int}:FX K H U (.int i) (.int i):=by rw [FX]
theorem gj {K:Yc}{H:Hp}{U : Mu}{i:Str}:FX K H U (.str i) (.str i):=by rw [FX]
theorem bL {K:Yc}{a:Addr}{sl:Array (Option Ye)}{its:Array Ye}{n:Nat}{xs:List V}{ws:List W}(h:K.lookup a=Dn ⟨.type "tuple",FN,.seq its n,sl⟩)(hz:its.size<=YQ)(hv:VL xs its.toList)(hr:∀ H U,aP K H U ws xs):∀ H U,FX K H U (.tup ws) (.ref a):=by
 intro H U;rw [FX];exact ⟨a,xs,rfl,.inr ⟨_,its,n,h,rfl,rfl,hz,hv,rfl⟩,hr H U⟩
theorem gk {i:Str}{t}:RelV (.str i) (.str i t):=⟨t,rfl⟩
theorem pN {a:Addr}:RelV (.ref a) (.ref a):=rfl
section
variable {prog:YF}{w:Zb}{A:YW}{E:Ye->Yj->Prop}{s:Yj}
theorem tV {it t:Addr}{items:Array Ye}(hne:t≠it):∀ (n i:Nat) (s:Yj) (Q:List Ye->Yj->Prop),s.heap.IsListIter it t i->s.heap.IsList t items->i+n<=items.size ->
  (∀ h',h'.IsListIter it t (i+n)->Jf it s.heap h'->Q ((items.toList.drop i).take n) { s with heap:=h' })->Y7 (Zk prog w) A (draw (.ref it) n) Q E s
 | 0,i,s,Q,hit,_,_,hQ=>by
  show Y7 _ _ (pure []) Q E s;exact Yx<|by simpa using hQ s.heap hit (Heap.SameBut.refl ..)
 | n+1,i,s,Q,hit,ht,hle,hQ=>by
  have hlt:i<items.size:=by lia
  show Y7 _ _ (pyNext (.ref it) >>= _) Q E s;refine Yg<|wpAny_pyNext_list_item hit ht (x:=items[i]) (by simp [hlt]) fun h1 hit1 hs1=>?_
  refine Yg<|FZ<|tV hne n (i+1) _ _ hit1 (ht.at fun o e=>hs1.extBut _ o hne e) (by lia) fun h2 hit2 hs2=>Yx ?_
  have hd:items.toList.drop i=items[i]::items.toList.drop (i+1):=by simp [Z5,hlt]
  have:=hQ h2 (by rw [show i+(n+1)=i+1+n by lia];exact hit2) (hs1.trans hs2)
  rw [hd,List.take_succ_cons] at this;exact this
theorem mX {t:Addr}{items:Array Ye}{Q:List Ye->Yj->Prop}(hh:A.handled=FN)(ht:s.heap.IsList t items)
  (hQ:∀ h',Heap.ExtBut s.heap.objs.size s.heap h'->Q items.toList { s with heap:=h' }):Y7 (Zk prog w) A (unpackItems (.ref t) items.size FN) Q E s:=by
 have hlt:t≠s.heap.objs.size:=by obtain ⟨o,ho,_⟩:=ht;exact Yv (Yt ho)
 unfold unpackItems;refine Yg ?_
 ·unfold notIterableAtAll;refine Yg<|wpAny_specialOf ht.typeIs slot_list_iter.lookup ?_
  refine Yx ?_;simp only [KN,if_false];refine Yg<|FZ<|Kc ht ?_
  refine Yg<|FZ<|tV hlt items.size 0 _ _ ⟨_,YC _ rfl,rfl,rfl⟩ (ht.at fun o e=>Yh _ e) (by lia) fun h1 hit1 hs1=>?_
  have hall:List.take items.size (List.drop 0 items.toList)=items.toList:=by
   rw [Jt];exact Kq (by simp)
  rw [hall];rw [if_neg (by simp)];have ht1:h1.IsList t items:=ht.at fun o e=>hs1.extBut _ o hlt (Yh _ e)
  refine Yg<|FZ<|wpAny_pyNext_list_end hh hit1 ht1 (by simp) fun h2 he2=>?_
  simp only [Option.isSome_none,KN,if_false];refine Yx<|hQ h2 fun b o hb e=>he2 b o hb<|hs1.extBut b o hb<|Yh _ e
theorem lZ {env:Env}{elts:List Expr}{x1}{pos:Pos}{t:Addr}{items:Array Ye}{Q:Unit->Yj->Prop}(hh:A.handled=FN)(ht:s.heap.IsList t items)
  (hn:(ZF elts env).length=items.size) (hstar:(ZF elts env).findIdx? (·.1)=FN)
  (h:∀ h',Heap.ExtBut s.heap.objs.size s.heap h'->Y7 (Zk prog w) A (assignInOrder ((ZF elts env).map (·.2)) items.toList) Q E { s with heap:=h' }) :
  Y7 (Zk prog w) A (assign (.Tuple elts x1 pos) env (.ref t)) Q E s:=by
 rw [assign_Tuple];refine Yg<|wpAny_standAt ?_
 unfold unpack;rw [hn,hstar];exact Yg<|FZ<|mX hh ht h
end
section
variable {X:Cx}{pos:Pos}
def Uy (K:Yc)(n:Nat)(t:Fe):TG:=fun v Z H Q=>∃ a xs,v=.ref a/\(Ac K H a xs\/XS K H a xs)/\xs.length=n/\t xs Z H Q
theorem zbC {es:List Expr}{k:Nat}{t:Fe}{n:Nat}(hc:X.calm=true)(h:Fy X es t)
  (hn:(ZF es X.env).length=n:=by rfl) (hst:(ZF es X.env).findIdx? (·.1)=FN:=by rfl):PG X (.Tuple es k pos) (Uy X.K n t):=by
 intro pins s Z H v u Q I r hw;obtain ⟨a,xs,e1,hq,hl,hw⟩:=hw;subst e1;cases r;rcases hq with hq | hq
 ·obtain ⟨its,rv,ht,hz⟩:=I.tuple hq;refine assign_Tuple_tuple (I.ok.hd hc) ht (by simp [hn,<-hl,rv.length]) hst fun h' hx=>?_;have I1:Go X pins Z H { s with heap:=h' }:=I.kept (t':=s.toks) fun b o e=>hx b o (Yv (Yt e)) e
  exact h pins _ Z H xs _ Q I1 (by simpa using rv) hw
 ·obtain ⟨its,rv,ht,hz⟩:=I.list hq;refine lZ (I.ok.hd hc) ht.isList (by simp [hn,<-hl,rv.length]) hst fun h' hx=>?_;have I1:Go X pins Z H { s with heap:=h' }:=I.kept (t':=s.toks) fun b o e=>hx b o (Yv (Yt e)) e
  exact h pins _ Z H xs _ Q I1 (by simpa using rv) hw
def uW (n:Nat)(g:Ei):MG:=fun w Z h N=>match w with
 | .tup ws=>AP (DK ws.length n) (g ws Z h N) False
 | .lst ws=>AP (DK ws.length n) (g ws Z h N) False
 | .loc j=>(match h.c j with
  | some (.lst ws)=>AP (DK ws.length n) (g ws Z h N) False
  | _=>False)
 | _=>False
theorem wA {es:List Expr}{k:Nat}{g:Ei}{n:Nat}(hc:X.calm=true)(h:RT X es g)(hn:(ZF es X.env).length=n:=by rfl)(hst:(ZF es X.env).findIdx? (·.1)=FN:=by rfl):DG X (.Tuple es k pos) (uW n g):=
 (zbC (n:=n) hc h hn hst).of fun v Z H N ⟨U,h,Zw,w,Nw,R,S,r,m,k⟩=>by
  cases w with
  | tup ws=>
   rw [FX] at r;obtain ⟨p,xs,e1,hs,hr⟩:=r;have m:AP (DK ws.length n) (g ws Zw h Nw) False:=m;cases en:DK ws.length n with
   | true=>rw [en] at m;exact ⟨p,xs,e1,.inl hs,by rw [<-hr.len];exact Ko en,U,h,Zw,ws,Nw,R,S,hr,m,k⟩
   | false=>rw [en] at m;exact (show False from m).elim
  | lst ws=>
   rw [FX] at r;obtain ⟨p,xs,e1,hs,hr⟩:=r;have m:AP (DK ws.length n) (g ws Zw h Nw) False:=m;cases en:DK ws.length n with
   | true=>rw [en] at m;exact ⟨p,xs,e1,.inr hs.sq,by rw [<-hr.len];exact Ko en,U,h,Zw,ws,Nw,R,S,hr,m,k⟩
   | false=>rw [en] at m;exact (show False from m).elim
  | loc j=>
   have m:(match h.c j with
    | some (.lst ws)=>AP (DK ws.length n) (g ws Zw h Nw) False
    | _=>False):=m
   split at m
   ·rename_i ws ec;obtain ⟨p,xs,e1,hs,hr⟩:=cB R r (show cC h (.loc j)=Dn ws by simp only [cC,ec]);cases en:DK ws.length n with
    | true=>rw [en] at m;exact ⟨p,xs,e1,.inr hs,by rw [<-hr.len];exact Ko en,U,h,Zw,ws,Nw,R,S,hr,m,k⟩
    | false=>rw [en] at m;exact (show False from m).elim
   ·exact m.elim
  | _=>exact m.elim
end
section
variable {K:Yc}{H:Hp}{U : Mu}{h:Gh}{p:Addr}{ws:List W}{xs:List V}
theorem Ex0.own (R:Wo K U H h)(hp:U.hid p):Ex0 K H U H ((U.unhide p).put h.nx p) where
 t:=fun _ _ z=>z
 l:=fun q ys z=>by
  refine ⟨z.1,fun m e=>?_,fun y=>z.2.2 y.2⟩;by_cases hm:m=h.nx
  ·rw [hm,Mu.put_same] at e;have e':p=q:=Yp e;subst e';exact z.2.2 hp
  ·rw [Mu.put_ne hm] at e;exact z.2.1 m e
 k:=fun _ _ z=>z
 m:=fun m q e=>by
  have hm:m≠h.nx:=fun y=>by rw [y,R.dead (Ym _)] at e;cases e
  rw [Mu.put_ne hm];exact e
 x:=fun _ _ _ e=>e
 y:=fun _ _ e=>e
theorem Di.own (R:Wo K U H h)(hp:U.hid p):Di p K H U H ((U.unhide p).put h.nx p):=⟨fun _ _ z=>FX.ex (Ex0.own R hp) z,fun q u ne z e=>⟨⟨ne,z⟩,e⟩⟩
theorem Wo.own (R:Wo K U H h)(hp:U.hid p)(e:H p=Dn (.lst xs))(r:aP K H U ws xs):Wo K ((U.unhide p).put h.nx p) H (h.new (.lst ws)) where
 inj:=fun m n q em en=>by
  have key:∀ n,n≠h.nx->((U.unhide p).put h.nx p).f n=Dn q->p=q->False:=fun n hn en e=>by
   rw [Mu.put_ne hn] at en;subst e;exact (R.hd p hp).2 n en
  by_cases hm:m=h.nx
  ·by_cases hn:n=h.nx
   ·rw [hm,hn]
   ·rw [hm,Mu.put_same] at em;exact (key n hn en<|Yp em).elim
  ·by_cases hn:n=h.nx
   ·rw [hn,Mu.put_same] at en;exact (key m hm em<|Yp en).elim
   ·rw [Mu.put_ne hm] at em;rw [Mu.put_ne hn] at en;exact R.inj m n q em en
 dom:=fun n q en=>by
  by_cases hn:n=h.nx
  ·rw [hn];exact JK _
  ·rw [Mu.put_ne hn] at en;exact Nat.lt_succ_of_lt<|R.dom n q en
 trk:=fun n q en=>by
  by_cases hn:n=h.nx
  ·rw [hn,Mu.put_same] at en;cases en;rw [e];trivial
  ·rw [Mu.put_ne hn] at en;exact R.trk n q en
 cel:=fun n c en=>by
  by_cases hn:n=h.nx
  ·subst hn;have ec:(h.new (.lst ws)).c h.nx=Dn (.lst ws):=by show (if h.nx=h.nx then Dn _ else _)=_;rw [if_pos rfl]
   rw [ec] at en;cases en;exact ⟨p,Mu.put_same,xs,e,aP.ex (Ex0.own R hp) r⟩
  ·have ec:(h.new (.lst ws)).c n=h.c n:=by show (if n=h.nx then Dn _ else _)=_;rw [if_neg hn]
   rw [ec] at en;obtain ⟨q,e1,x⟩:=R.cel n c en;refine ⟨q,by rw [Mu.put_ne hn];exact e1,?_⟩;have ex:=Ex0.own R hp;cases c with
   | lst ws=>obtain ⟨xs,a,b⟩:=x;exact ⟨xs,a,aP.ex ex b⟩
   | obj C fs=>obtain ⟨dx,fvs,a,b⟩:=x;exact ⟨dx,fvs,a,Paired.mapP b fun _ _ z=>⟨z.1,FX.ex ex z.2⟩⟩
   | dct kvs=>obtain ⟨kvv,a,b⟩:=x;exact ⟨kvv,a,Paired.mapP b fun _ _ z=>⟨z.1,FX.ex ex z.2⟩⟩
   | dtt kvs=>obtain ⟨xs,vs,a,b,c,d,f⟩:=x;exact ⟨xs,vs,a,b,c,aP.ex ex d,aP.ex ex f⟩
 hd:=fun q z=>by
  refine ⟨(R.hd q z.2).1,fun n en=>?_⟩;by_cases hn:n=h.nx
  ·rw [hn,Mu.put_same] at en;exact z.1 (Yp en).symm
  ·rw [Mu.put_ne hn] at en;exact (R.hd q z.2).2 n en
end
def Sh (Q:WK):WK:=fun w h=>match w with
 | .lst ws=>Q (.loc h.nx) (h.new (.lst ws))
 | _=>False
def R0 (own:W->Option (List W))(ix:List Nat)(mi:MI)(tt:MT)(te:ME):ME:=fun Z h Q=>Aj own ix mi tt te Z h (Sh Q)
section
variable {X:Cx}{tg iter elt:Expr}{ifs:List Expr}{pos:Pos}{scope:Scope}{xs:List Str}{mi:MI}{tt:MT}{te:ME}
theorem NK {K:Yc}{Z : St}{H:Hp}{Q:VK}{n:Nat}{own:V->Hp->List V->Prop}{ow:W->Option (List W)}{ix:List Nat}{mi:MI}{tt:MT}{te:ME}(oo:vf K n own ow)(q:tD K (R0 ow ix mi tt te) Z H Q):tLC n own ix (tDI K mi) (tDT K tt) (tD K te) Z H Q:=by
 obtain ⟨U,h,Zw,Qw0,R,S,m,k⟩:=q;generalize hQw:Sh Qw0=Qw at *;have m:Aj ow ix mi tt te Zw h Qw:=by rw [<-hQw];exact m
 refine ⟨U,h,Zw,_,R,S,m,fun J H1 ⟨U1,src,h1,e1,R1,ok,hz0⟩=>?_⟩;obtain ⟨hz,m1⟩:=hz0.ok;intro D hD;have nD:=R1.nohid hD;have hD1:XQ K H1 U1 (X5 H1 D (.lst [])) (U1.hide D):=XQ.hide hD;refine ⟨fun i n ys H'=>n=src.ws.length - i/\i<=src.ws.length/\ys.length<=i/\H' D=Dn (.lst ys)/\∃ U' acc h',XQ K H1 U1 H' U'/\Wo K U' H' h'/\U'.hid D/\aP K H' U' acc ys/\oA src ow ix tt te Zw Qw (src.ws.drop i) acc h',
  ⟨src.ws.length,by simp,J8 _,Ym _,bR,U1.hide D,[],h1,hD1,R1.hide hD,.inl rfl,.nil,by rw [Jt];exact m1⟩,?_⟩
 rintro i n' ys H2 ⟨hn,hle,hys,hH2,U2,acc,h2,e2,R2,hid2,ra,m2⟩ _;by_cases hlt:i<src.ws.length
 ·rw [Z5 hlt] at m2;obtain ⟨ck,m2⟩:=Src.go_ok m2;obtain ⟨hgo,hy⟩:=(ok e2 R2 ck).1 src.ws[i] (Yk hlt);refine .inr ⟨hgo,by lia,fun x H3 y=>?_⟩;obtain ⟨U3,e3,R3,rx⟩:=hy x H3 y;have e13:=e2.trans e3;cases eo:ow src.ws[i] with
  | none=>rw [eo] at m2;exact m2.elim
  | some us=>
   rw [eo] at m2;obtain ⟨vs,hov,hvl,rvs⟩:=oo rx eo;have S3:=(S.ext (e1.trans e13)).blk (ix:=ix) rvs;refine ⟨vs,hov,hvl,U3,h2,_,_,R3,S3,m2,fun b H4 ⟨U4,h4,e4,R4,m4⟩=>?_⟩;have e24:=e3.trans e4;obtain ⟨hid4,hH4⟩:=e24.o D _ hid2 hH2;cases b with
   | false=>
    dsimp only;rw [if_neg Y6];exact ⟨hH4,src.ws.length - (i+1),by lia,rfl,hlt,by lia,hH4,U4,acc,h4,e2.trans e24,R4,hid4,e24.s ra,m4⟩
   | true=>
    dsimp only;rw [if_pos rfl];refine ⟨U4,h4,_,_,R4,S3.ext e4,m4,fun v H5 ⟨U5,w5,h5,e5,R5,r5,m5⟩=>?_⟩;have e25:=e24.trans e5;obtain ⟨hid5,hH5⟩:=e25.o D _ hid2 hH2;have g:=Di.grow (ys:=ys++[v]) R5 hid5;have rs:aP K (X5 H5 D (.lst (ys++[v]))) U5 (acc++[w5]) (ys++[v]):=aP.ex (Ex0.grow R5 hid5) (aP.append (e25.s ra) (aP.one r5));exact ⟨hH5,src.ws.length - (i+1),by lia,rfl,hlt,by rw [Yw];simp;lia,bR,U5,acc++[w5],h5,(e2.trans e25).x nD g,R5.grow hid5,hid5,rs,m5⟩
 ·have ei:i=src.ws.length:=by lia
  subst ei;rw [List.drop_length] at m2;obtain ⟨ck,m2⟩:=Src.go_ok m2;have m2:Qw0 (.loc h2.nx) (h2.new (.lst acc)):=by rw [<-hQw] at m2;exact m2
  exact .inl ⟨(ok e2 R2 ck).2 (Ym _),k _ _ ⟨(U2.unhide D).put h2.nx D,.loc h2.nx,h2.new<|.lst acc,e1.trans<|e2.x nD<|Di.own R2 hid2,R2.own hid2 hH2 ra,by rw [FX];exact ⟨D,rfl,Mu.put_same⟩,m2⟩⟩
theorem Rh {own:V->Hp->List V->Prop}{ow:W->Option (List W)}(ix:List Nat){i:Nat}{y:Str}{py spos:Pos}(hN:X.N.Nodup)(hi':X.N[i]?=Dn y)(hy:Loc X.env.scope y)(hc:X.calm=true)(B:jB X scope xs ix)(oo:vf X.K xs.length own ow)
  (hg:∀ C s H fp,PG (blk X scope (iG X xs ix) C s H fp) tg (Ho xs.length own)) (hi:Fj X tg iter mi)
  (ht:∀ C s H fp,P0 (blk X scope (iG X xs ix) C s H fp) ifs tt) (he:∀ C s H fp,DE (blk X scope (iG X xs ix) C s H fp) elt te)
  (hsw:swapsWith (.ListComp elt [⟨tg,iter,ifs,0⟩] scope pos) (Dn (.Name y py)) spos.line X.env=pure true:=by rfl)
  (hf:X.fn y=true\/X.env.scope.names.lookup y=Dn .local:=by first | exact .inl rfl | exact .inr rfl | assumption)
  (hs:∀ v,Jp iter X.env v=pure v:=by intro _;rfl):DS X (.Assign [.Name y py] (.ListComp elt [⟨tg,iter,ifs,0⟩] scope pos) spos) (cY (R0 ow ix mi tt te) (JI i)):=
 (Ni ix hN hi' hy hc B hg hi ht he hsw hf hs).of fun _ _ _ q=>Ar (fun _ _ _ z=>NK oo z) q
end
def X8:Expr->Bool
 | .Starred _ _=>true
 | _=>false
theorem aj {e:Expr}{es:List Expr}{env:Env}(h:X8 e=false):YG (e::es) env=(false,eval e env)::YG es env:=by
 cases e <;> first | rfl | cases h
theorem eG {e:Expr}{env:Env}(h:X8 e=false):YG [e] env=[(false,eval e env)]:=(aj h).trans rfl
def noStar:List Expr->Bool
 | []=>true
 | e::r=>!X8 e&&noStar r
theorem aB {pos:Pos}{env:Env}:∀ {es:List Expr},noStar es=true->(Am pos (YG es env)).any (·.1)=false
 | [],_=>rfl
 | e::r,h=>by
  rw [noStar,YM,Bool.not_eq_true'] at h;rw [aj h.1];show (false||(Am pos (YG r env)).any (·.1))=false;rw [aB h.2];rfl
theorem iT {cpos:Pos}{e:Expr}{env:Env}(h:X8 e=false):((Am cpos (YG [e] env)).all (fun x=>!x.1)&&(backToKw cpos (JF [] env)).all (fun x=>x.1.isSome)
   && decide (([e]:List Expr).length+([]:List Dq).length+(if ([]:List Dq).isEmpty then 0 else 1)<30))=true:=by
 rw [eG h];rfl
section
variable {prog:YF}{w:Zb}{A:YW}{E:Ye->Yj->Prop}{s:Yj}
open HT in
theorem jP {t sl:Addr}{items:Array Ye}{vl vu:Ye}{lo hi:Option Int}{Q:Ye->Yj->Prop}(ht:IsTup s.heap t items)(hs:s.heap.IsSliceOf sl vl vu .none)(pl:IsPart vl lo)(pu:IsPart vu hi)
  (h0:sIx items.size 0 lo=0) (h1:sIx items.size items.size hi=items.size) (h:Q (.ref t) s):Y7 (Zk prog w) A (getItem (.ref t) (.ref sl)) Q E s:=by
 obtain ⟨os,hos,hcs,hds⟩:=id hs;have hTs:s.TypeIs (.ref sl) "slice":=⟨os,hos,hcs⟩
 unfold getItem;try with_reducible refine FZ ?_
 first | refine Yg (Yx ?_) | skip
 refine Yg<|wpAny_sequenceKey ht.typeIs (by decide) ?_
 refine Yg (ZV (name:=JM "__getitem__") ht.typeIs Zy
  (Jo Zy ht.typeIs entry_tuple_getitem ?_ (args_tuple_getitem _ _)))
 show Y7 _ _ (Builtin.Tuple.tupleItemsOf (.ref t) >>= _) _ _ s;refine Yg<|tupleItemsOf_ ht ?_
 refine Yg<|wpAny_typeOf hTs ?_
 rw [if_pos (by decide)];refine Yg<|g8 hs pl pu ?_
 have hyes:((((sIx items.size 0 lo:Nat):Int)==0&&(1:Int)==1&&(sIx items.size items.size hi - sIx items.size 0 lo)==items.size)=true):=by
  rw [h0,h1];simp
 show Y7 _ _ (if (((sIx items.size 0 lo:Nat):Int)==0&&(1:Int)==1&&(sIx items.size items.size hi - sIx items.size 0 lo)==items.size)=true then _ else _) _ _ s;rw [if_pos hyes];unfold Builtin.Tuple.tupleIsExact;refine Yg<|Yg<|wpAny_typeOf ht.typeIs<|Yx ?_
 rw [if_pos (by decide)];refine Yg<|wpAny_rule ?_
 first
  | exact Yx ⟨_,rfl,Yx h⟩
  | exact Yg (Yx (Yx ⟨_,rfl,Yx h⟩))
end
section
variable {X:Cx}
def W5 (K:Yc):V->Option Int->Option Int->Hp->VK->Prop:=fun x lo hi H Q=>∃ a xs,x=.ref a/\Ac K H a xs /\
 HT.sIx xs.length 0 lo=0/\HT.sIx xs.length xs.length hi=xs.length/\Q x H
theorem zbp:Ez X (W5 X.K):=by
 intro pins s Z H x v vl vu lo hi sl Q I rx hs pl pu h;obtain ⟨a,xs,rfl,hx,h0,h1,q⟩:=h;cases rx;obtain ⟨its,r,ht,hz⟩:=I.tuple hx;have hlen:its.toArray.size=xs.length:=by rw [Yr];exact r.length.symm
 refine ⟨"tuple",_,Zy.lookup,ht.typeIs,?_⟩;refine jP ht hs pl pu (by rw [hlen];exact h0) (by rw [hlen];exact h1) ?_;exact ⟨.ref a,H,I,rfl,q⟩
def sZ (x:W)(lo hi:Option Int)(h:Gh)(Q:WK):Prop:=match x with
 | .tup ws=>Q (.tup (qd ws lo hi)) h
 | x=>(match cC h x with
  | some ws=>Q (.lst (qd ws lo hi)) h
  | none=>False)
theorem nJ {e:Expr}{lo hi:Option Expr}{ma:ME}{ml mh:MO}{p2 pos:Pos}(he:DE X e ma)(hl:DO X lo ml)(hu:DO X hi mh):DE X (.Subscript e (.Slice lo hi FN p2) pos) (DW sZ ma ml mh):=
 (xU (Ez.or (Ez.or abA Nj) zbp) he hl hu).of fun Z H Q ⟨U,h,Zw,Qw,R,S,m,k⟩=>by
  refine ⟨U,h,Zw,_,R,S,m,fun x H1 ⟨U1,wx,h1,e1,R1,r1,m1⟩=>?_⟩;refine ⟨U1,h1,Zw,_,R1,S.ext e1,m1,fun lo H2 ⟨U2,h2,e2,R2,m2⟩=>?_⟩;refine ⟨U2,h2,Zw,_,R2,(S.ext e1).ext e2,m2,fun hi H3 ⟨U3,h3,e3,R3,m3⟩=>?_⟩;have e13:=(e1.trans e2).trans e3;have r3:=e3.r _ _ (e2.r _ _ r1);have oth:∀ wy,FX X.K H3 U3 wy x->(match cC h3 wy with
    | some ws=>Qw (.lst (qd ws lo hi)) h3
    | none=>False)->∃ p xs,x=.ref p/\XS X.K H3 p xs/\∀ l,H3 l=FN->Q (.ref l) (X5 H3 l (.lst (Dm xs lo hi))):=by
   intro wy ry my;split at my
   ·rename_i ws ev;obtain ⟨p,xs,ex,hs,rs⟩:=cB R3 ry ev;exact ⟨p,xs,ex,hs,fun l hl=>k _ _ ⟨U3,_,h3,e13.trans (Ex.laid hl).ext,R3.laid hl,.lstNew R3 hl<|rs.cutv lo hi,my⟩⟩
   ·exact my.elim
  cases wx with
  | tup ws=>
   have m3:Qw (.tup (qd ws lo hi)) h3:=m3;have r30:=r3;rw [FX] at r3;obtain ⟨p,xs,ex,hx,rs⟩:=r3;have hl:=rs.len;by_cases hw:HT.sIx xs.length 0 lo=0/\HT.sIx xs.length xs.length hi=xs.length
   ·have ec:qd ws lo hi=ws:=by
     unfold qd;rw [hl,hw.1,hw.2,Jt,Nat.sub_zero,<-hl,Za]
    rw [ec] at m3;exact .inr ⟨p,xs,ex,hx,hw.1,hw.2,k _ _ ⟨U3,.tup ws,h3,e13,R3,r30,m3⟩⟩
   ·exact .inl<|.inr ⟨p,xs,ex,hx,hw,fun q hq=>k _ _ ⟨U3,.tup<|qd ws lo hi,h3,e13.trans (Ex.laid hq).ext,R3.laid hq,.tupNew hq<|rs.cutv lo hi,m3⟩⟩
  | _=>exact .inl (.inl (oth _ r3 m3))
def Wa:MC:=fun ws h Q=>match ws with
 | [.int i]=>Q (.int i) h
 | [.bl b]=>Q (.int (if b then 1 else 0)) h
 | _=>False
def zas:M2:=fun x y h Q=>match x,y with
 | .int i,.int j=>sV i j/\Q (.int (i*j)) h
 | .tup ws,.int k=>(0<=k/\k<=1000/\ws.length*k.toNat<=1000)/\Q (.tup (ZD k.toNat ws).flatten) h
 | _,_=>False
def CT (K:Yc):V->List V->Hp->VK->Prop:=fun x vs H Q=>∃ (l:Addr) (ns:List Int) (k:Int) (j:Nat),x=.ref l/\vs=[.int k]/\XS K H l (ns.map V.int)/\ns[j]?=Dn k/\(∀ m,m<j->ns[m]?≠Dn k)/\Q (.int j) H
theorem aag:Dv X "list.index" (CT X.K):=by
 intro pins s Z H x vs v us Q I rx rv h;obtain ⟨l,ns,k,j,rfl,rfl,hx,hj,hno,q⟩:=h;cases rx;obtain ⟨u,rfl,ru⟩:=rv.one;obtain ⟨t,rfl⟩:=ru;obtain ⟨its,r,pl,hz⟩:=I.list hx;obtain ⟨⟨cl,dd,da,sl⟩,n,e,c1,c2,c3⟩:=pl;simp only at c1 c2 c3;subst c1 c2 c3;have hl:=r.length;rw [Yd] at hl;have at':∀ {m:Nat} (hm:m<its.toArray.size),∃ a t',ns[m]?=Dn a/\its.toArray[m]=.int a t':=fun {m} hm=>by
  have hm':m<ns.length:=by rw [Yr] at hm;lia
  obtain ⟨u,hu,ru⟩:=r.get (show (ns.map V.int)[m]?=Dn (.int ns[m]) by rw [Yo,Yk hm'];rfl);obtain ⟨t',rfl⟩:=ru;refine ⟨ns[m],t',Yk hm',?_⟩;have:=(Yn.mp hu).2
  simpa using this
 have hjl:j<its.toArray.size:=by
  have:=(Yn.mp hj).1
  rw [Yr];lia
 have h63:(YQ:Nat)<2^63 - 1:=by decide
 have hz':ns.length<=YQ:=by rw [Yd] at hz;exact hz
 let ev:Ye->Bool:=fun y=>match y with
  | .int a _=>a==k
  | _=>false
 refine JX F.slot_list_index ⟨_,e,rfl⟩ F.entry_list_index (F.args_list_index_2 _ _) (SeqAt.list_indexAt l its.toArray n FN sl (.int k t) ev j hjl ?_ ?_ ?_) ⟨e,?_,?_⟩
 ·rw [Yr] at hjl;have:(2:Int)^63 - 1=((2^63 - 1:Nat):Int):=by decide
  rw [this];lia
 ·obtain ⟨a,t',ea,e2⟩:=at' hjl;rw [e2];rw [hj] at ea;cases ea;show (k==k)=true;exact beq_self_eq_true k
 ·intro m hm hmj;obtain ⟨a,t',ea,e2⟩:=at' hm;rw [e2];show (a==k)=false;refine beq_eq_false_iff_ne.mpr fun x=>hno m hmj ?_;rw [ea,x]
 ·intro y hy;obtain ⟨m,hm,e2⟩:=Array.mem_iff_getElem.mp hy;obtain ⟨a,t',ea,e3⟩:=at' hm;rw [<-e2,e3];exact SeqAt.EqAt.int_int a t' k t
 ·exact ⟨.int j,H,I.tok _,⟨_,rfl⟩,q⟩
def Af:MM:=fun x ws h Q=>match ws with
 | [.int k]=>(match cC h x with
  | some us=>∃ (ns:List Int) (j:Nat),us=ns.map W.int/\ns[j]?=Dn k/\(∀ m,m<j->ns[m]?≠Dn k)/\Q (.int j) h
  | none=>False)
 | _=>False
theorem qy {K:Yc}{H:Hp}{U : Mu}:∀ {ns:List Int} {xs:List V},aP K H U (ns.map W.int) xs->xs=ns.map V.int
 | [],xs,r=>by rw [List.map_nil,aP] at r;exact r
 | n::ns,xs,r=>by
  rw [ZM,aP] at r;obtain ⟨v,vs,e,rv,r⟩:=r;rw [FX] at rv;rw [e,rv,qy r];rfl
theorem Ma {K:Yc}:Gb K (CT K) Af:=by
 intro H U h x vs wx ws Qw Q R rx rs m k;unfold Af at m;split at m
 ·rename_i i;obtain ⟨v,ev,rv⟩:=jY rs;rw [FX] at rv;subst ev rv;split at m
  ·rename_i us ev;obtain ⟨ns,j,eu,hj,hno,m⟩:=m;obtain ⟨p,xs,ex,hs,rr⟩:=cB R rx ev;rw [eu] at rr;have exs:=qy rr;subst exs;exact ⟨p,ns,i,j,ex,rfl,hs,hj,hno,k _ _<|.int R m⟩
  ·exact m.elim
 ·exact m.elim
def qb (h:Gh)(w:W)(P:Prop):Prop:=match cC h w with
 | some _=>P
 | none=>False
theorem uo {K:Yc}{H:Hp}{U : Mu}{h:Gh}{w:W}{v:V}{P:Prop}(R:Wo K U H h)(r:FX K H U w v)(e:qb h w P):tyV K "list" v H/\P:=by
 unfold qb at e;split at e
 ·rename_i us ev;obtain ⟨p,xs,ex,hs,_⟩:=cB R r ev;subst ex;exact ⟨.inl ⟨rfl,xs,hs⟩,e⟩
 ·exact e.elim
def Vx (r:MM)(mo:ME)(ma:MA):ME:=fun Z h Q=>mo Z h fun x h1=>qb h1 x (ma Z h1 fun xs h2=>r x xs h2 Q)
end
def XO (h:Heap)(P:Addr->Prop)(e C:Addr)(od:Option Addr):Prop:=P e/\∃ (oe:Obj) (vs:Array Ye),h.get? e=Dn oe/\oe.cls=.ref C/\oe.dict=od/\oe.data=.fields vs/\vs.size<=1000/\vs[2]?=Dn .none /\
 (vs[1]?=Dn .none\/∃ (T:Addr) (oT:Obj) (ts:Array Ye),vs[1]?=Dn (.ref T)/\T≠e/\P T/\h.get? T=Dn oT/\oT.data=.fields ts/\3<ts.size)
def XN (h:Heap)(P:Addr->Prop)(e C:Addr)(od:Option Addr):Prop:=P e/\∃ (oe:Obj) (vs:Array Ye),h.get? e=Dn oe/\oe.cls=.ref C/\oe.dict=od/\oe.data=.fields vs/\vs.size<=1000/\vs[2]?=Dn .none /\
 ∃ (T:Addr) (oT:Obj) (ts:Array Ye),vs[1]?=Dn (.ref T)/\T≠e/\P T/\h.get? T=Dn oT/\oT.data=.fields ts/\3<ts.size
structure Stp (P:Addr->Prop) (fs:List Addr) (h h':Heap):Prop where
 keep:∀ b o,¬ P b->b∉fs->h.get? b=Dn o->h'.get? b=Dn o
 slot:∀ b o,¬ P b->h.get? b=Dn o->∃ sl,h'.get? b=Dn { o with slots:=sl }
 there:∀ b o,h.get? b=Dn o->∃ o',h'.get? b=Dn o'
section
variable {M:Model}{A:YW}{E:Ye->Yj->Prop}{s:Yj}{P:Addr->Prop}{e C:Addr}{od:Option Addr}
end
section
variable {X:Cx}{pins:List (Addr×Obj)}{Z : St}{H H':Hp}{s s':Yj}{b e C:Addr}{od:Option Addr}
structure New (X:Cx) (pins:List (Addr×Obj)) (H:Hp) (b:Addr):Prop where
 h:H b=FN
 s:b∈X.ex\/X.s₀.heap.get? b=FN
 l:b≠X.env.locals
 c:∀ x c,X.env.cells.lookup x=Dn c->c≠b
 p:∀ p∈X.pn++pins,p.1≠b
 f:b∉X.fs
structure zac (X:Cx) (pins:List (Addr×Obj)) (Z : St) (H:Hp) (s:Yj) (e C:Addr) (od:Option Addr):Prop where
 inv:Go X pins Z H s
 xo:XO s.heap (New X pins H) e C od
structure zab (X:Cx) (pins:List (Addr×Obj)) (Z : St) (H:Hp) (s:Yj) (e C:Addr) (od:Option Addr):Prop where
 inv:Go X pins Z H s
 xn:XN s.heap (New X pins H) e C od
end
section
variable {X:Cx}{pins:List (Addr×Obj)}{Z : St}{H:Hp}{s:Yj}{C:Addr}{x:Str}{np cpos pos:Pos}{e:Expr}{es:List Expr}{t:TA}
end
section
variable {X:Cx}{Γ : St->Prop}{e c:Expr}{es:List Expr}{mr:MA}{pos:Pos}{st:Stmt}{rest:List Stmt}
end
section
variable {X:Cx}{pins pins':List (Addr×Obj)}{Z : St}{H:Hp}{s:Yj}{xe:Ye->Yj->Prop}{a C:Addr}{o:Obj}{u:HO}
end
section
variable {prog:YF}{w:Zb}{A:YW}{E:Ye->Yj->Prop}{s:Yj}{K:Yc}{x D:Addr}{ox:Obj}
end
def FT (n d:Str):Bool:=n==d||d == "EaselError"
section
variable {K:Yc}{C D:Addr}{n d:Str}
def Xl (K:Yc)(v:V)(f:Str->Bool):Prop:=∀ (u:Ye),RelV v u->∀ (C:Addr) (n:Str),Vj K C n=true->PySem.W.kitOne K (.ref C) u=Dn (f n)
end
def bU.lost (D:bU):bU:={ D with nx:=fun Z h=>D.nx (Z.map fun _=>FN) h,bk:=fun Z h=>D.bk (Z.map fun _=>FN) h,ct:=fun Z h=>D.ct (Z.map fun _=>FN) h }
def R7 (x:Xw):W:=match x.fs with
 | []=>.exc x.cls
 | f::fs=>.exa x.cls ((f::fs).map (·.2))
def XH (i:Nat)(d:Str)(mb:X4->MS)(mh:MS):MS:=fun D Z h=>mb (fun x h'=>AP (FT x.cls d) (mh D.lost (Z.set i (Dn (R7 x))) h') False) D Z h
section
variable {X:Cx}{body:List Stmt}{b₀ : Stmt}{suite:List Stmt}{y d:Str}{np hpos pos:Pos}{i:Nat}{D:Addr}{mb:X4->MS}{mh:MS}
end
section
variable {X:Cx}{a:Expr}{ma:ME}{pos p:Pos}
def XF (f:Str->Bool)(m:ME):ME:=fun Z h Q=>m Z h fun w h1=>match w with
 | .exc n=>Q (.bl (f n)) h1
 | .exa n _=>Q (.bl (f n)) h1
 | _=>False
inductive PCs (X:Cx):List Expr->List V->(Str->Bool)->Prop
 | nil:PCs X [] [] (fun _=>false)
 | cons {e:Expr} {es:List Expr} {v:V} {vs:List V} {f g:Str->Bool}:PE X e (tC v)->Xl X.K v f->PCs X es vs g->YG (e::es) X.env=(false,eval e X.env)::YG es X.env->PCs X (e::es) (v::vs) (fun n=>f n||g n)
end
section
variable {X:Cx}{tg elt:Expr}{ifs:List Expr}{scope:Scope}{xs:List Str}{tt:MT}{te:ME}{pos p ppos:Pos}
end
section
variable {prog:YF}{w:Zb}{A:YW}{E:Ye->Yj->Prop}{s:Yj}
end
section
variable {X:Cx}
end
section
variable {X:Cx}{K:Yc}{o e:Expr}{mo:ME}{ma:MA}{apos cpos:Pos}
def qm:MM:=fun x ws h Q=>match x,ws with
 | .loc n,[]=>(match h.c n with
  | some (.lst _)=>Q .non (h.set n (.lst []))
  | _=>False)
 | _,_=>False
theorem Mq:Gb K G9 qm:=by
 intro H U h x vs wx ws Qw Q R rx rs m k;unfold qm at m;split at m
 ·split at m
  ·rename_i n _ us ec;obtain ⟨p,xs,ex,hm,hx,r1⟩:=Mi R rx ec;rw [aP] at rs;exact ⟨p,xs,ex,rs,hx,k _ _<|.wrote R hm (by rw [aP]) (by rw [FX]) m⟩
  ·exact m.elim
 ·exact m.elim
theorem aaR (ho:DE X o mo)(hbase:JB o "clear" X.env (eval o X.env)=eval o X.env:=by rfl)(hline:(apos.endLine==cpos.line)=true:=by rfl) :
  DE X (.Call (.Attribute o "clear" apos) [] [] cpos) (Fi qm mo):=Tw PySem.F.slot_list_clear PySem.F.type_list_clear aaw Mq ho hbase hline
variable {H:Hp}{pins:List (Addr×Obj)}{s:Yj}{Z : St}
mutual
theorem Ci (I:Go X pins Z H s):∀ {w u:W} {v:V},Dt X.K H w v->Dt X.K H u v->w=u
 | .non,u,v,h,g=>by rw [Dt] at h;subst h;cases u <;> rw [Dt] at g <;> first | rfl | exact g.elim | (obtain ⟨_,_,g,_⟩:=g;cases g;done) | (cases g;done)
 | .bl b,u,v,h,g=>by rw [Dt] at h;subst h;cases u <;> rw [Dt] at g <;> first | (injection g with g;rw [g];done) | exact g.elim | (obtain ⟨_,_,g,_⟩:=g;cases g;done) | (cases g;done)
 | .int b,u,v,h,g=>by rw [Dt] at h;subst h;cases u <;> rw [Dt] at g <;> first | (injection g with g;rw [g];done) | exact g.elim | (obtain ⟨_,_,g,_⟩:=g;cases g;done) | (cases g;done)
 | .str b,u,v,h,g=>by rw [Dt] at h;subst h;cases u <;> rw [Dt] at g <;> first | (injection g with g;rw [g];done) | exact g.elim | (obtain ⟨_,_,g,_⟩:=g;cases g;done) | (cases g;done)
 | .tup ws,u,v,h,g=>by
  rw [Dt] at h;obtain ⟨p,xs,e,hs,ds⟩:=h;subst e;cases u with
  | tup us=>
   rw [Dt] at g;obtain ⟨p',xs',e',hs',ds'⟩:=g;cases e'
   have:=I.tuple_inj hs hs'
   subst this;rw [rW I ds ds']
  | lst us=>
   rw [Dt] at g;obtain ⟨p',xs',e',hs',ds'⟩:=g;cases e'
   obtain ⟨_,_,t,_⟩:=I.tuple hs;obtain ⟨_,_,l,_⟩:=I.list hs';exact absurd rfl<|Kz l.isList<|show s.heap.IsTuple _ _ from t
  | ty _=>rw [Dt] at g;exact g.elim
  | loc _=>rw [Dt] at g;exact g.elim
  | kls _=>rw [Dt] at g;exact g.elim
  | exc _=>rw [Dt] at g;exact g.elim
  | exa _ _=>rw [Dt] at g;exact g.elim
  | _=>rw [Dt] at g;cases g
 | .lst ws,u,v,h,g=>by
  rw [Dt] at h;obtain ⟨p,xs,e,hs,ds⟩:=h;subst e;cases u with
  | lst us=>
   rw [Dt] at g;obtain ⟨p',xs',e',hs',ds'⟩:=g;cases e'
   have:=I.list_inj hs hs'
   subst this;rw [rW I ds ds']
  | tup us=>
   rw [Dt] at g;obtain ⟨p',xs',e',hs',ds'⟩:=g;cases e'
   obtain ⟨_,_,t,_⟩:=I.tuple hs';obtain ⟨_,_,l,_⟩:=I.list hs;exact absurd rfl<|Kz l.isList<|show s.heap.IsTuple _ _ from t
  | ty _=>rw [Dt] at g;exact g.elim
  | loc _=>rw [Dt] at g;exact g.elim
  | kls _=>rw [Dt] at g;exact g.elim
  | exc _=>rw [Dt] at g;exact g.elim
  | exa _ _=>rw [Dt] at g;exact g.elim
  | _=>rw [Dt] at g;cases g
 | .ty _,_,_,h,_=>by rw [Dt] at h;exact h.elim
 | .kls _,_,_,h,_=>by rw [Dt] at h;exact h.elim
 | .loc _,_,_,h,_=>by rw [Dt] at h;exact h.elim
 | .exc _,_,_,h,_=>by rw [Dt] at h;exact h.elim
 | .exa _ _,_,_,h,_=>by rw [Dt] at h;exact h.elim
theorem rW (I:Go X pins Z H s):∀ {ws us:List W} {vs:List V},Yb X.K H ws vs->Yb X.K H us vs->ws=us
 | [],us,vs,h,g=>by
  have e:vs=[]:=by rw [Yb] at h;exact h
  subst e;cases us with
  | nil=>rfl
  | cons u us=>rw [Yb] at g;obtain ⟨_,_,e,_⟩:=g;cases e
 | w::ws,us,vs,h,g=>by
  rw [Yb] at h;obtain ⟨v,vs',e,d,ds⟩:=h;subst e;cases us with
  | nil=>
   have e:v::vs'=[]:=by rw [Yb] at g;exact g
   cases e
  | cons u us=>
   rw [Yb] at g;obtain ⟨v2,vs2,e2,d2,ds2⟩:=g;cases e2;rw [Ci I d d2,rW I ds ds2]
end
theorem wK:∀ {us:List W} {xs:List V} {its:List Ye},Yb X.K H us xs->VL xs its->∀ a u,(a,u)∈its.zip us->∃ v,RelV v a/\Dt X.K H u v/\u∈us
 | [],_,its,_,_,a,u,m=>by rw [List.zip_nil_right] at m;exact absurd m (by simp)
 | w::us,xs,its,d,r,a,u,m=>by
  rw [Yb] at d;obtain ⟨v,vs,e,d1,ds⟩:=d;subst e;cases r with
  | cons r1 rs=>
   rw [List.zip_cons_cons] at m;rcases Yq.mp m with m | m
   ·cases m;exact ⟨v,r1,d1,Yz⟩
   ·obtain ⟨v',q1,q2,q3⟩:=wK ds rs a u m;exact ⟨v',q1,q2,YH _ q3⟩
theorem qe {α β : Type}:∀ {xs:List α} {ys:List β},xs.length=ys.length->∀ a∈xs,∃ b,(a,b)∈xs.zip ys
 | [],_,_,a,m=>absurd m (by simp)
 | _::_,[],h,_,_=>by cases h
 | x::xs,y::ys,h,a,m=>by
  rw [List.zip_cons_cons];rcases Yq.mp m with rfl | m
  ·exact ⟨y,Yz⟩
  ·obtain ⟨b,q⟩:=qe (Nat.succ.inj h) a m;exact ⟨b,YH _ q⟩
def zah:MM:=fun x ws h Q=>match ws with
 | [w]=>(match cC h x with
  | some us=>AP (WR 20 w&&us.all (WR 20)) (Q (.int (us.countP fun u=>Wj u w)) h) False
  | none=>False)
 | _=>False
end
section
variable {X:Cx}{elt iter tg:Expr}{ifs:List Expr}{scope:Scope}{pos:Pos}{xs:List Str}{mi:MI}{tt:MT}{te:ME}
end
section
variable {X:Cx}{Γ : St->Prop}{e:Expr}{es:List Expr}{pos:Pos}
variable {mr:X4->MA}
end
section
variable {X:Cx}{K:Yc}{H:Hp}{pins:List (Addr×Obj)}{s:Yj}{Z : St}
theorem zU {α β : Type}{p:α->Bool}{q:β->Bool}:∀ {xs:List α} {ys:List β},xs.length=ys.length->(∀ a b,(a,b)∈xs.zip ys->p a=q b)->xs.any p=ys.any q
 | [],[],_,_=>rfl
 | [],_::_,h,_=>by cases h
 | _::_,[],h,_=>by cases h
 | a::xs,b::ys,h,e=>by
  rw [Fv,Fv,zU (Nat.succ.inj h) fun a' b' m=>e a' b' (by rw [List.zip_cons_cons];exact YH _ m),e a b (by rw [List.zip_cons_cons];exact Yz)]
theorem Mh (I:Go X pins Z H s){us:List W}{xs:List V}{its:List Ye}{w:W}{y:V}{b:Ye}(hd:Yb X.K H us xs)(r:VL xs its)(hw:Dt X.K H w y)(rb:RelV y b)(pl1:us.all (WR 20)=true)(pl2:WR 20 w=true){A:YW}(hu:A.units+20<Bj) :
  ∃ ev:Ye->Bool,(∀ a,a∈its->Zc A s a b (ev a))/\its.any ev=us.any (fun u=>Wj u w):=by
 have hl:its.length=us.length:=by rw [<-r.length,hd.len]
 let ev:Ye->Bool:=fun a=>@decide (∃ u,(a,u)∈its.zip us/\Wj u w=true) (Classical.propDecidable _)
 have hev:∀ a u,(a,u)∈its.zip us->ev a=Wj u w:=by
  intro a u m;cases c:Wj u w with
  | true=>exact (@decide_eq_true_iff _ (Classical.propDecidable _)).mpr ⟨u,m,c⟩
  | false=>
   refine (@decide_eq_false_iff_not _ (Classical.propDecidable _)).mpr fun ⟨u2,m2,c2⟩=>?_;obtain ⟨v1,r1,d1,_⟩:=wK hd r a u m;obtain ⟨v2,r2,d2,_⟩:=wK hd r a u2 m2;have ev:v1=v2:=r1.inj r2;subst ev;rw [Ci I d1 d2,c2] at c;cases c
 refine ⟨ev,fun a ha=>?_,zU hl hev⟩;obtain ⟨u,m⟩:=qe hl a ha;obtain ⟨v,r1,d1,mu⟩:=wK hd r a u m;rw [hev a u m];exact Ro I 20 hu d1 hw (Zf.mp pl1 u mu) pl2 r1 rb
def XR (K:Yc)(neg:Bool):R2:=fun x y H Q=>∃ p xs us w,y=.ref p/\XS K H p xs/\Yb K H us xs/\Dt K H w x/\us.all (WR 20)=true/\WR 20 w=true/\Q (.bl (if neg then !(us.any fun u=>Wj u w) else us.any fun u=>Wj u w)) H
theorem O9 (hu:X.A.units+30<Bj):Ay X (Zv .In) (XR X.K false):=by
 intro pins s Z H x y v u Q I rx ry h;obtain ⟨p,xs,us,w,rfl,hq,hd,hw,p1,p2,q⟩:=h;cases ry;obtain ⟨its,r,pl,hz⟩:=I.list hq;obtain ⟨ev,he,ea⟩:=Mh I hd r hw rx p1 p2 (A:=X.A.in1) (by show X.A.units+1+20<Bj;lia);refine SeqAt.in_listAt ev pl.isList (fun w hw=>he w<|by simpa using hw) ⟨.bl _,H,I,rfl,?_⟩;rw [show its.toArray.any ev=its.any ev by simp,ea];exact q
def RL:M2:=fun x y h Q=>match cC h y with
 | some us=>AP (WR 20 x&&us.all (WR 20)) (Q (.bl (us.any fun u=>Wj u x)) h) False
 | none=>False
theorem SJ (hu:X.A.units+30<Bj):Bl X (Zv .In) RL:=⟨_,O9 hu,by
 intro H U h x y wx wy Qw Q R rx ry m k;unfold RL at m;split at m
 ·rename_i us eu;obtain ⟨p,xs,ex,hs,rr⟩:=cB R ry eu;cases c:(WR 20 wx&&us.all (WR 20)) with
  | true=>
   rw [c] at m;rw [YM] at c;exact ⟨p,xs,us,wx,ex,hs,uO (Gk 20) rr c.2,Gk 20 rx c.1,c.2,c.1,k _ _<|.bl R m⟩
  | false=>rw [c] at m;exact (show False from m).elim
 ·exact m.elim⟩
end
section
variable {X:Cx}{K:Yc}{H:Hp}{U : Mu}{h:Gh}
def fC (h:Gh):List W->Option (List W)
 | []=>Dn []
 | w::ws=>match lq h w,fC h ws with
  | some d,Dn ds=>Dn (d::ds)
  | _,_=>FN
def pR (h:Gh)(w:W):Option W:=match w with
 | .tup ws=>(match fC h ws with
  | some ds=>Dn (.tup ds)
  | none=>FN)
 | w=>lq h w
theorem rA {n:Nat}(R:Wo K U H h):∀ {ws ds:List W} {vs:List V},aP K H U ws vs->fC h ws=Dn ds->ds.all (WR n)=true->Yb K H ds vs
 | [],ds,vs,r,e,_=>by
  rw [fC] at e;cases e;rw [aP] at r;subst r;rw [Yb]
 | w::ws,ds,vs,r,e,p=>by
  rw [fC] at e;cases e1:lq h w with
  | none=>rw [e1] at e;cases e
  | some d=>
   cases e2:fC h ws with
   | none=>rw [e1,e2] at e;cases e
   | some ds'=>
    rw [e1,e2] at e;cases e;rw [IW,YM] at p;rw [aP] at r;obtain ⟨v,vs',ev,r1,r2⟩:=r;subst ev;rw [Yb];exact ⟨v,vs',rfl,lU R r1 e1 p.1,rA R r2 e2 p.2⟩
theorem lu {w d:W}{v:V}{n:Nat}(R:Wo K U H h)(r:FX K H U w v)(e:pR h w=Dn d)(p:WR n d=true):Dt K H d v:=by
 cases w with
 | tup ws=>
  unfold pR at e;dsimp only at e;cases e1:fC h ws with
  | none=>rw [e1] at e;cases e
  | some ds=>
   rw [e1] at e;cases e;rw [FX] at r;obtain ⟨q,xs,ev,hs,rs⟩:=r;obtain ⟨m,rfl,p⟩:=abD p;rw [Dt];exact ⟨q,xs,ev,hs,rA R rs e1 p⟩
 | _=>exact lU R r e p
def M7:M2:=fun x y h Q=>match pR h x,pR h y with
 | some a,Dn b=>AP (WR 30 a&&WR 30 b) (Q (.bl (Wj a b)) h) False
 | _,_=>False
def QB:M2:=fun x y h Q=>match pR h x,pR h y with
 | some a,Dn b=>AP (WR 30 a&&WR 30 b) (Q (.bl (!Wj a b)) h) False
 | _,_=>False
theorem UJ (hu:X.A.units+30<Bj):Bl X (Zv .Eq) M7:=⟨_,Ij hu,by
 intro H U h x y wx wy Qw Q R rx ry m k;unfold M7 at m;split at m
 ·rename_i a b ea eb;cases hp:(WR 30 a&&WR 30 b) with
  | true=>
   rw [hp] at m;rw [YM] at hp;exact ⟨a,b,lu R rx ea hp.1,lu R ry eb hp.2,hp.1,hp.2,k _ _<|.bl R m⟩
  | false=>rw [hp] at m;exact (show False from m).elim
 ·exact m.elim⟩
theorem UL (hu:X.A.units+30<Bj):Bl X (Zv .NotEq) QB:=⟨_,BL hu,by
 intro H U h x y wx wy Qw Q R rx ry m k;unfold QB at m;split at m
 ·rename_i a b ea eb;cases hp:(WR 30 a&&WR 30 b) with
  | true=>
   rw [hp] at m;rw [YM] at hp;exact ⟨a,b,lu R rx ea hp.1,lu R ry eb hp.2,hp.1,hp.2,k _ _<|.bl R m⟩
  | false=>rw [hp] at m;exact (show False from m).elim
 ·exact m.elim⟩
def Vv:W->Option Bool
 | .str _=>Dn true
 | .int _=>Dn false
 | .bl _=>Dn false
 | .non=>Dn false
 | .tup _=>Dn false
 | _=>FN
def KR (K:Yc)(H:Hp):V->Bool->Prop
 | .str _,b=>b=true
 | .int _,b=>b=false
 | .bl _,b=>b=false
 | .non,b=>b=false
 | .ref p,b=>(∃ xs,Ac K H p xs)/\b=false
 | _,_=>False
theorem zaO:jh X (.builtin "isinstance") (fun xs H Q=>∃ x b,xs=[x,.ty "str"]/\KR X.K H x b/\Q (.bl b) H):=by
 intro pins s Z H xs us Q I r h;obtain ⟨x,b,rfl,hi,q⟩:=h;obtain ⟨u,w',rfl,rx,ru⟩:=vals2 r;cases ru;have k0:EP X pins Z Q (.bool b) s:=⟨.bl b,H,I,rfl,q⟩
 have k1:EP X pins Z Q (.bool b) { s with toks:=s.toks+1 }:=⟨.bl b,H,I.tok _,rfl,q⟩
 cases x with
 | str i=>obtain ⟨t,rfl⟩:=rx;cases hi;exact IsiPair.str_str k0
 | int i=>obtain ⟨t,rfl⟩:=rx;cases hi;exact IsiPair.int_str k1
 | bl i=>cases rx;cases hi;exact IsiPair.bool_str k1
 | non=>cases rx;cases hi;exact IsiPair.NoneType_str k1
 | ref p=>
  cases rx;obtain ⟨⟨xs,hS⟩,e⟩:=hi;cases e;obtain ⟨its,_,⟨o,e,c,_⟩,_⟩:=I.tuple hS;exact IsiPair.tuple_str e c k1
 | _=>exact (show False from hi).elim
theorem aaQ {w:W}{v:V}{b:Bool}(r:FX K H U w v)(e:Vv w=Dn b):KR K H v b:=by
 cases w <;> rw [FX] at r <;> first | (subst r;cases e;rfl) | (cases e;done) | skip
 obtain ⟨p,xs,ev,hs,_⟩:=r;subst ev;cases e;exact ⟨⟨xs,hs⟩,rfl⟩
end
section
variable {X:Cx}{K:Yc}{o e e':Expr}{mo:ME}{ma:MA}{apos cpos:Pos}
theorem QZ {cpos:Pos}{e e':Expr}{env:Env}(h:X8 e=false)(h':X8 e'=false):((Am cpos (YG [e,e'] env)).all (fun x=>!x.1)&&(backToKw cpos (JF [] env)).all (fun x=>x.1.isSome)
   && decide (([e,e']:List Expr).length+([]:List Dq).length+(if ([]:List Dq).isEmpty then 0 else 1)<30))=true:=by
 rw [aj h,aj h'];rfl
end
def Gf (m:Nat):List Nat:=(ZX 8).filter fun j=>m.testBit j
def rk (m j:Nat):Nat:=((ZX j).filter fun i=>m.testBit i).length
def pq (h:Int):Nat->Nat×Nat
 | 0=>(Jk h % 8,Jk h)
 | n+1=>SetTable.leap 7 (pq h n).1 (pq h n).2
def pb (h:Int)(n:Nat):SetTable.Probe:=⟨(pq h n).1,0,(pq h n).1,(pq h n).2,FN⟩
theorem Bw (h:Int):∀ n,(pq h n).2=Jk h / 32^n
 | 0=>by simp [pq]
 | n+1=>by
  show (pq h n).2 / 32=_;rw [Bw h n,Nat.div_div_eq_div_mul,Nat.pow_succ]
theorem aaM (h:Int)(n:Nat)(hn:13<=n):(pq h n).2=0:=by
 rw [Bw];apply Nat.div_eq_of_lt;have h1:Jk h<2^64:=by
  unfold Jk;have a:=K9 h (show (0:Int)<2^64 by decide);have b:=Jv h (show (2^64:Int)≠0 by decide);lia
 have h2:32^13<=32^n:=Nat.pow_le_pow_right (by decide) hn;have h3:(2:Nat)^64<32^13:=by decide
 lia
def lcg:Nat->Nat->Nat
 | i,0=>i
 | i,k+1=>(lcg i k*5+1) % 8
theorem G7 (h:Int):∀ k,(pq h (13+k)).1=lcg (pq h 13).1 k
 | 0=>rfl
 | k+1=>by
  show ((pq h (13+k)).1*5+1+(pq h (13+k)).2 / 32) % (7+1)=_;rw [aaM h _ (by lia),G7 h k];rfl
theorem least {P:Nat->Bool}:∀ (B:Nat),(∃ n,n<B/\P n=true)->∃ N,N<B/\P N=true/\∀ n,n<N->P n=false
 | 0,⟨n,h,_⟩=>absurd h (Jl _)
 | B+1,⟨n,h,e⟩=>by
  by_cases q:∃ n,n<B/\P n=true
  ·obtain ⟨N,a,b,c⟩:=least B q;exact ⟨N,by lia,b,c⟩
  ·refine ⟨n,h,e,fun i hi=>?_⟩;cases r:P i with
   | false=>rfl
   | true=>exact absurd ⟨i,by lia,r⟩ q
section
variable {prog:YF}{w:Zb}{A:YW}{E:Ye->Yj->Prop}{s:Yj}{m:Nat}{ka:Nat->List Int}{ad:Nat->Addr}{t:LI}{a b:Addr}{k:List Int}
abbrev TK (prog:YF)(w:Zb)(h:Heap)(k:List Int)(a:Addr):Prop:=IsTupleKey (intKind prog w) h k a
def hT (prog:YF)(w:Zb)(k:List Int):Int:=tupleKeyHash (intKind prog w) k
def elL (prog:YF)(w:Zb)(m:Nat)(ka:Nat->List Int)(ad:Nat->Addr):List (Int×Ye):=(Gf m).map fun j=>(hT prog w (ka j),Value.ref (ad j))
structure Ww (prog:YF) (w:Zb) (h:Heap) (m:Nat) (ka:Nat->List Int) (ad:Nat->Addr) (t:LI):Prop where
 mask:t.mask=7
 place:t.place=(Gf m).toArray
 dum:t.dummies = #[]
 m8:m<256
 few:(Gf m).length<=4
 key:∀ j,j∈Gf m->TK prog w h (ka j) (ad j)
 way:∀ j,j∈Gf m->∃ n,(pq (hT prog w (ka j)) n).1=j/\∀ i,i<n->m.testBit (pq (hT prog w (ka j)) i).1=true
def WY (es:Array (Int×Ye))(ep:Nat)(t:LI):Obj:={ cls:=.type "set",dict:=FN,data:=.set es ep t }
def Oh (prog:YF)(w:Zb)(h:Heap)(a:Addr)(m:Nat)(ka:Nat->List Int)(ad:Nat->Addr):Prop:=∃ ep t,h.get? a=Dn (WY (elL prog w m ka ad).toArray ep t)/\Ww prog w h m ka ad t
end
section
variable {prog:YF}{w:Zb}{A:YW}{E:Ye->Yj->Prop}{R:Result->Yj->Prop}
structure zai (prog:YF) (w:Zb) (z:Nat) (h:Heap) (S:Addr) (seen:List (List Int)) (m:Nat) (ka:Nat->List Int) (ad:Nat->Addr):Prop where
 set:Oh prog w h S m ka ad
 low:∀ j,j∈Gf m->ad j<z
 mem:∀ k,k∈seen↔∃ j,j∈Gf m/\ka j=k
 len:(Gf m).length=seen.length
end
section
variable {prog:YF}{w:Zb}{A:YW}{E:Ye->Yj->Prop}{s:Yj}
end
section
variable {X:Cx}{K:Yc}
def sG:M2:=fun x y h Q=>match Df h x,Df h y with
 | some a,Dn b=>jD (a.length+b.length) (Q (.loc h.nx) (h.new (.lst (a++b))))
 | _,_=>False
theorem jE:Bl X (Cq .Add) sG:=⟨_,Hu,by
 intro H U h x y wx wy Qw Q R rx ry m k;unfold sG at m;split at m
 ·rename_i a b ea eb;obtain ⟨p,xs,ex,hx,r1⟩:=rT R rx ea;obtain ⟨q,ys,ey,hy,r2⟩:=rT R ry eb;have sz:=m.ok.1;exact ⟨p,q,xs,ys,ex,ey,hx,hy,by rw [<-r1.len,<-r2.len];exact sz,fun l hl=>k _ _ ⟨U.put h.nx l,.loc h.nx,h.new<|.lst<|a++b,(Ex.newCell R hl).ext,Hl R hl<|r1.append r2,by rw [FX];exact ⟨l,rfl,Mu.put_same⟩,m.ok.2⟩⟩
 ·exact m.elim⟩
end
section
variable {κ : Type} [DecidableEq κ]
def Dd (kvs:List (κ×V))(k:κ):Option V:=(kvs.find? fun kv=>decide (kv.1=k)).map (·.2)
def CR (kvs:List (κ×V))(k:κ)(v:V):List (κ×V):=
 if (kvs.any fun kv=>decide (kv.1=k))=true then kvs.map (fun kv=>if kv.1=k then (kv.1,v) else kv) else kvs++[(k,v)]
theorem xr {p:κ×V}{r:List (κ×V)}{k:κ}(e:p.1=k):Dd (p::r) k=Dn p.2:=by simp [Dd,J3,e]
theorem wX {p:κ×V}{r:List (κ×V)}{k:κ}(e:¬ p.1=k):Dd (p::r) k=Dd r k:=by simp [Dd,J3,e]
theorem vp (kvs:List (κ×V))(k:κ)(v:V):(CR kvs k v).length<=kvs.length+1:=by
 unfold CR;split
 ·rw [Yd];lia
 ·rw [Yw,YB,List.length_nil];lia
theorem Hq.getD {o:Option V}{u:Option Ye}{d:V}{d':Ye}(r:Hq o u)(rd:RelV d d'):RelV (o.getD d) (u.getD d'):=by
 cases o with
 | none=>cases u with
  | none=>exact rd
  | some _=>exact (show False from r).elim
 | some _=>cases u with
  | none=>exact (show False from r).elim
  | some _=>exact r
theorem KV.val {kvs:List (κ×V)}{vs:List (κ×Ye)}(r:KV kvs vs)(k:κ):Hq (Dd kvs k) (valueAt vs k):=by
 unfold KV at r;induction r with
 | nil=>exact True.intro
 | @cons p q ps qs h t ih=>
  obtain ⟨h1,h2⟩:=h;by_cases e:p.1=k
  ·have e':q.1=k:=h1.symm.trans e;have b:valueAt (q::qs) k=Dn q.2:=by simp [valueAt,J3,e']
   rw [xr e,b];exact h2
  ·have e':¬ q.1=k:=fun z=>e (h1.trans z)
   have b:valueAt (q::qs) k=valueAt qs k:=by simp [valueAt,J3,e']
   rw [wX e,b];exact ih
theorem KV.any {kvs:List (κ×V)}{vs:List (κ×Ye)}(r:KV kvs vs)(k:κ):(kvs.any fun kv=>decide (kv.1=k))=vs.any fun kv=>decide (kv.1=k):=by
 unfold KV at r;induction r with
 | nil=>rfl
 | cons h t ih=>rw [Fv,Fv,ih,h.1]
theorem KV.repl {kvs:List (κ×V)}{vs:List (κ×Ye)}(r:KV kvs vs)(k:κ){y:V}{u:Ye}(ry:RelV y u) :
  KV (kvs.map fun kv=>if kv.1=k then (kv.1,y) else kv) (vs.map fun kv=>if kv.1=k then (kv.1,u) else kv):=by
 unfold KV at r |-
 induction r with
 | nil=>exact .nil
 | @cons p q ps qs h t ih=>
  rw [ZM,ZM];refine .cons ?_ ih;obtain ⟨h1,h2⟩:=h;by_cases e:p.1=k
  ·rw [if_pos e,if_pos (h1.symm.trans e)];exact ⟨h1,ry⟩
  ·rw [if_neg e,if_neg (fun z=>e (h1.trans z))];exact ⟨h1,h2⟩
theorem KV.put {kvs:List (κ×V)}{vs:List (κ×Ye)}(r:KV kvs vs)(k:κ){y:V}{u:Ye}(ry:RelV y u):KV (CR kvs k y) (stored vs k u):=by
 unfold CR stored;rw [r.any k];by_cases e:(vs.any fun kv=>decide (kv.1=k))=true
 ·rw [if_pos e,if_pos e];exact r.repl k ry
 ·rw [if_neg e,if_neg e];exact Paired.snoc r ⟨rfl,ry⟩
end
theorem Gi {P:YF}{w:Zb}{k:Key}{u:Ye}(r:RelV (kV k) u):(cJ P w).is k u=true:=by
 cases k with
 | inl i=>obtain ⟨t,e⟩:=(show ∃ t,u=Value.int i t from r);subst e;exact wj P w i t
 | inr x=>obtain ⟨t,e⟩:=(show ∃ t,u=Value.str x t from r);subst e;exact vO P w x t
section
variable {P:YF}{w:Zb}{H:Hp}{h:Heap}{a:Addr}
theorem Sx {u:HO}(ok:BJ P w H h)(e:Rd H a u):gD P w H h a u:=e.ok ok
theorem S6 {kvs:List (Key×V)}(ok:BJ P w H h)(e:Rd H a (.dK kvs)):kvs.length<=YQ/\(a==Em)=false/\∃ vs,KV kvs vs/\h.DictOf (cJ P w) a vs:=
 show gD P w H h a (.dK kvs) from Sx ok e
theorem Ja {kvs:List (Key×V)}(ok:BJ P w H h)(e:H a=Dn (.dK kvs)):kvs.length<=YQ/\(a==Em)=false/\∃ vs,KV kvs vs/\h.DictOf (cJ P w) a vs:=S6 ok (.inl e)
end
section
variable {X:Cx}{pins:List (Addr×Obj)}{Z : St}{H:Hp}{s:Yj}{a:Addr}{y v:V}{u r:Ye}{o:Option V}{A:YW}{E:Ye->Yj->Prop}
theorem Go.big (I:Go X pins Z H s):Em<s.heap.objs.size:=by
 have h:Ys<s.heap.objs.size:=(I.mod.glob.keeps I.bk).lt;exact Nat.lt_trans (by decide) h
theorem Mj {h':Heap}{t':Nat}{ob:HO}(I:Go X pins Z H s)(mu:Mut (H a))(hs:Jf a s.heap h')(he:∃ q,h'.get? a=Dn q)(new:gD X.prog X.w (X5 H a ob) h' a ob) :
  Go X pins Z (X5 H a ob) { s with heap:=h',toks:=t' }:=
 I.write (x:=a) (e:=a) mu (.inl rfl) (fun b q hb z=>(hs.2 b hb).trans z) he new
theorem Ol {P:YF}{w:Zb}{H':Hp}{h':Heap}{kvs:List (Key×V)}{vs:List (Key×Ye)}(z:kvs.length<=YQ)(hd:(a==Em)=false)(rel:KV kvs vs)(dd:h'.DictOf (cJ P w) a vs) :
  gD P w H' h' a (.dK kvs):=⟨z,hd,vs,rel,dd⟩
end
section
variable {X:Cx}{pins:List (Addr×Obj)}{Z : St}{H:Hp}{s:Yj}{a:Addr}{kvs:List (Key×V)}{k:Key}{u:Ye}{A:YW}{E:Ye->Yj->Prop}
end
def V3 (i:Expr):Prop:=∀ ov iv,subscripted i false ov iv=operate [ov,iv] (getItem ov iv)
theorem abn {prog:YF}{w:Zb}{A:YW}{E:Ye->Yj->Prop}{s:Yj}{env:Env}{value slice:Expr}{pos:Pos}{T id:String}{Q:Ye->Yj->Prop}
  (hl:typeLookup (.type T) "__getitem__" = pure (Dn (.builtin id))) (hs:V3 slice)
  (h:Y7 (Zk prog w) A (eval value env) (fun o s₁=>Y7 (Zk prog w) A (eval slice env) (fun i s₂=>s₂.TypeIs o T/\Y7 (Zk prog w) A (getItem o i) Q E s₂) E s₁) E s) :
  Y7 (Zk prog w) A (eval (.Subscript value slice pos) env) Q E s:=by
 refine Subscript_<|ZW h (fun o s₁ h₁=>ZW h₁ (fun i s₂ h₂=>?_) fun _ _ x=>x) fun _ _ x=>x
 obtain ⟨hT,h₂⟩:=h₂;unfold subscriptTail;refine Yg ?_;rw [getitemInPython_of_ne hT.not_modules];refine Yg<|wpAny_specialOf hT hl ?_
 have fin:Y7 (Zk prog w) A (subscripted slice false o i) (fun r s₃=>Y7 (Zk prog w) A (letTemporaryGo value o r >>= fun _=>pure r) Q E s₃) E s₂:=by
  rw [hs o i];exact wpAny_operating<|ZW h₂ (fun r s₃ h₃=>Yg<|wpAny_letTemporaryGo<|Yx h₃) fun _ _ x=>x
 first
  | exact Yx (Yg fin)
  | exact Yg (Yx (Yg fin))
  | exact Yg fin
section
variable {X:Cx}{o i e value:Expr}{pos pos' tpos:Pos}{td ty tv:TE}
end
theorem zaS {P:YF}{w:Zb}{H:Hp}(h:Heap)(hb:Em<h.objs.size):gD P w H (h.push { cls:=.type "dict",data:=.dict #[] }) h.objs.size (.dK []):=
 ⟨J8 _,beq_eq_false_iff_ne.mpr (Bk (Yv hb)),[],.nil,Heap.DictOf.new h⟩
section
variable {X:Cx}{pos:Pos}
end
def u6:List (TE×TE)->St->Hp->(List (V×V)->Hp->Prop)->Prop
 | [],_,H,Q=>Q [] H
 | (tk,tv)::r,Z,H,Q=>tk Z H fun x H1=>tv Z H1 fun y H2=>u6 r Z H2 fun ps H3=>Q ((x,y)::ps) H3
abbrev VV:List (V×V)->List (Ye×Ye)->Prop:=JD fun p q=>RelV p.1 q.1/\RelV p.2 q.2
def PPs (X:Cx)(pos:Pos)(keys:List (Option Expr))(values:List Expr)(trs:List (TE×TE)):Prop:=
 ∀ (pins:List (Addr×Obj)) (s:Yj) (Z : St) (H:Hp) (Q:List (V×V)->Hp->Prop),Go X pins Z H s->u6 trs Z H Q ->
  Y7 (Zk X.prog X.w) X.A (evalPairs (pairTrees keys values X.env pos)) (fun vs s'=>∃ ps H',Go X pins Z H' s'/\VV ps vs/\Q ps H') X.xe s
theorem Mr {X:Cx}{pos:Pos}:PPs X pos [] [] []:=fun pins s Z H Q I h=>pairTrees_nil_walk ⟨[],H,I,.nil,h⟩
theorem zbw {X:Cx}{pos:Pos}{k v:Expr}{ks:List (Option Expr)}{vs:List Expr}{tk tv:TE}{trs:List (TE×TE)}(hk:PE X k tk)(hv:PE X v tv)(hr:PPs X pos ks vs trs) :
  PPs X pos (Dn k::ks) (v::vs) ((tk,tv)::trs):=fun pins s Z H Q I h=>
 pairTrees_cons_walk (X6 (hk pins s Z H _ I h) fun u s1 ⟨x,H1,I1,rx,q1⟩=>X6 (hv pins s1 Z H1 _ I1 q1) fun w2 s2 ⟨y,H2,I2,ry,q2⟩=>
  X6 (hr pins s2 Z H2 _ I2 q2) fun ws s3 ⟨ps,H3,I3,rel,q3⟩=>⟨(x,y)::ps,H3,I3,.cons ⟨rx,ry⟩ rel,q3⟩)
def pI (kvs more:List (Key×V)):List (Key×V):=more.foldl (fun acc kv=>CR acc kv.1 kv.2) kvs
theorem KV.merge:∀ {more:List (Key×V)} {rs:List (Key×Ye)} {kvs:List (Key×V)} {vs:List (Key×Ye)},KV more rs->KV kvs vs->KV (pI kvs more) (merged vs rs):=by
 intro more rs kvs vs r;unfold KV at r;induction r generalizing kvs vs with
 | nil=>intro q;exact q
 | @cons p q ps qs h t ih=>
  intro r0;have e:KV (CR kvs p.1 p.2) (stored vs q.1 q.2):=by
   have:=r0.put p.1 h.2
   rw [<-h.1];exact this
  exact ih e
theorem kO:∀ (more kvs:List (Key×V)),(pI kvs more).length<=kvs.length+more.length
 | [],kvs=>by show kvs.length<=kvs.length+0;lia
 | p::r,kvs=>by
  have h1:=kO r (CR kvs p.1 p.2);have h2:=vp kvs p.1 p.2;show (pI (CR kvs p.1 p.2) r).length<=_;rw [YB];lia
theorem qj {P:YF}{w:Zb}:∀ {kvs:List (Key×V)} {ws:List (Ye×Ye)},VV (kvs.map fun kv=>(kV kv.1,kv.2)) ws->∃ rs,Carries (cJ P w) ws rs/\KV kvs rs
 | [],_,r=>by rw [List.map_nil] at r;cases r;exact ⟨[],True.intro,.nil⟩
 | p::kvs,_,r=>by
  rw [ZM] at r;cases r with
  | @cons a b as bs h t=>
   obtain ⟨rs,c,q⟩:=qj (P:=P) (w:=w) t;obtain ⟨b1,b2⟩:=b;exact ⟨(p.1,b2)::rs,⟨Gi h.1,rfl,c⟩,.cons ⟨rfl,h.2⟩ q⟩
def T3 (trs:List (TE×TE)):TE:=fun Z H Q=>∀ p,H p=FN->u6 trs Z (X5 H p (.dK [])) fun ps H2=>H2 p=Dn (.dK [])/\∃ kvs:List (Key×V),ps=kvs.map (fun kv=>(kV kv.1,kv.2))/\kvs.length<=15/\Q (.ref p) (X5 H2 p (.dK (pI [] kvs)))
theorem abg {X:Cx}{pos:Pos}{keys:List (Option Expr)}{values:List Expr}{trs:List (TE×TE)}(h:PPs X pos keys values trs)(hall:keys.all (·.isSome)=true)(hl:keys.length=values.length)(h0:keys≠[])
  (h15:keys.length<=15):PE X (.Dict keys values pos) (T3 trs):=by
 intro pins s Z H Q I q;have hn:=I.hok.fresh (Ym s.heap.objs.size);have I1:=I.laid (a:=s.heap.objs.size) (o:=.dK []) (h':=s.heap.push { cls:=.type "dict",data:=.dict #[] }) (t':=s.toks) (fun _ _ q=>Yh _ q) (Ym _) (zaS s.heap I.big);refine wpAny_Dict_walk (knd:=cJ X.prog X.w) hall hl h0 h15<|X6 (h pins _ Z _ _ I1<|q _ hn) fun ws s2 ⟨ps,H2,I2,rel,e,kvs,ep,lk,q2⟩=>?_
 subst ep;obtain ⟨rs,c,rk⟩:=qj (P:=X.prog) (w:=X.w) rel;obtain ⟨z,hd,vs0,r0,dd⟩:=Ja I2.hok e;cases r0;refine ⟨rs,c,dd,fun h' dd' hs=>⟨.ref s.heap.objs.size,_,?_,rfl,q2⟩⟩;have hz:(pI [] kvs).length<=YQ:=by
  have h1:=kO kvs [];rw [List.length_nil] at h1;rw [sizeLine_eq];lia
 have he:∃ q,h'.get? s.heap.objs.size=Dn q:=let ⟨q,_,_,hq,_⟩:=dd';⟨q,hq⟩
 exact Mj I2 (by rw [e];exact True.intro) hs he<|Ol hz hd (rk.merge .nil) dd'
def Ou:W->Option Key
 | .int i=>Dn (.inl i)
 | .str x=>Dn (.inr x)
 | _=>FN
def nY (kvs:List (Key×W))(k:Key):Option W:=(kvs.find? fun kv=>decide (kv.1=k)).map (·.2)
def T4 (kvs:List (Key×W))(k:Key)(w:W):List (Key×W):=
 if (kvs.any fun kv=>decide (kv.1=k))=true then kvs.map (fun kv=>if kv.1=k then (kv.1,w) else kv) else kvs++[(k,w)]
section
variable {K:Yc}{H:Hp}{U : Mu}{kvs:List (Key×W)}{kvv:List (Key×V)}{k:Key}{w:W}{v:V}
theorem wY (r:FX K H U w v)(e:Ou w=Dn k):v=kV k:=by
 cases w with
 | int i=>rw [FX] at r;cases e;exact r
 | str x=>rw [FX] at r;cases e;exact r
 | _=>cases e
theorem m6.val (r:m6 K H U kvs kvv)(e:nY kvs k=Dn w):∃ v,Dd kvv k=Dn v/\FX K H U w v:=by
 unfold m6 at r;induction r with
 | nil=>cases e
 | @cons p q ps qs h t ih=>
  by_cases z:p.1=k
  ·have e1:nY (p::ps) k=Dn p.2:=by simp [nY,J3,z]
   rw [e1] at e;cases e;exact ⟨q.2,xr<|h.1.symm.trans z,h.2⟩
  ·have e1:nY (p::ps) k=nY ps k:=by simp [nY,J3,z]
   rw [e1] at e;obtain ⟨v,a,b⟩:=ih e;exact ⟨v,by rw [wX<|fun y=>z<|h.1.trans y];exact a,b⟩
theorem m6.any (r:m6 K H U kvs kvv)(k:Key):(kvs.any fun kv=>decide (kv.1=k))=(kvv.any fun kv=>decide (kv.1=k)):=by
 unfold m6 at r;induction r with
 | nil=>rfl
 | @cons p q ps qs h t ih=>rw [Fv,Fv,ih,h.1]
theorem m6.repl (r:m6 K H U kvs kvv)(rv:FX K H U w v)(k:Key):m6 K H U (kvs.map fun kv=>if kv.1=k then (kv.1,w) else kv) (kvv.map fun kv=>if kv.1=k then (kv.1,v) else kv):=by
 unfold m6 at r |-
 induction r with
 | nil=>exact .nil
 | @cons p q ps qs h t ih=>
  rw [ZM,ZM];refine .cons ?_ ih;by_cases z:p.1=k
  ·rw [if_pos z,if_pos (h.1.symm.trans z)];exact ⟨h.1,rv⟩
  ·rw [if_neg z,if_neg (fun y=>z (h.1.trans y))];exact h
theorem m6.put (r:m6 K H U kvs kvv)(rv:FX K H U w v)(k:Key):m6 K H U (T4 kvs k w) (CR kvv k v):=by
 unfold T4 CR;rw [<-r.any k];by_cases e:(kvs.any fun kv=>decide (kv.1=k))=true
 ·rw [if_pos e,if_pos e];exact r.repl rv k
 ·rw [if_neg e,if_neg e];exact Paired.snoc r ⟨rfl,rv⟩
theorem Wo.dctAt {h:Gh}{n:Nat}(R:Wo K U H h)(e:h.c n=Dn (.dct kvs)):∃ p kvv,U.f n=Dn p/\H p=Dn (.dK kvv)/\m6 K H U kvs kvv:=by
 obtain ⟨p,e1,xs,e2,r⟩:=R.cel n _ e;exact ⟨p,xs,e1,e2,r⟩
end
section
variable {X:Cx}{a b:Expr}{ma mb:ME}{pos:Pos}
def zao:M2:=fun x y h Q=>match x,Ou y with
 | .loc n,Dn k=>(match h.c n with
  | some (.dct kvs)=>(match nY kvs k with
   | some w=>Q w h
   | none=>False)
  | _=>False)
 | _,_=>False
def mDs:List (Key×ME)->MA
 | [],_,h,Q=>Q [] h
 | p::r,Z,h,Q=>p.2 Z h fun w h1=>mDs r Z h1 fun ws h2=>Q (w::ws) h2
def mkD:List (Key×ME)->List W->List (Key×W)->List (Key×W)
 | p::r,w::ws,acc=>mkD r ws (T4 acc p.1 w)
 | _,_,acc=>acc
def Qf (r:List (Key×ME)):ME:=fun Z h Q=>mDs r Z (h.new (.dct [])) fun ws h2=>match h2.c h.nx with
 | some (.dct [])=>Q (.loc h.nx) (h2.set h.nx (.dct (mkD r ws [])))
 | _=>False
inductive Ds (X:Cx):List (Option Expr)->List Expr->List (Key×ME)->Prop
 | nil:Ds X [] [] []
 | cons {x:Str} {j pos} {v:Expr} {m:ME} {ks:List (Option Expr)} {vs:List Expr} {r:List (Key×ME)} (h:DE X v m) (t:Ds X ks vs r):Ds X (Dn (.Constant (.str x) j pos)::ks) (v::vs) ((.inr x,m)::r)
def trD (K:Yc)(r:List (Key×ME)):List (TE×TE):=r.map fun p=>(tC (kV p.1),tD K p.2)
theorem Ds.pps {ks:List (Option Expr)}{vs:List Expr}{r:List (Key×ME)}(h:Ds X ks vs r):PPs X pos ks vs (trD X.K r):=by
 induction h with
 | nil=>exact Mr
 | cons h t ih=>exact zbw Gx h ih
theorem Ds.all {ks:List (Option Expr)}{vs:List Expr}{r:List (Key×ME)}(h:Ds X ks vs r):ks.all (·.isSome)=true/\ks.length=vs.length/\ks.length=r.length:=by
 induction h with
 | nil=>exact ⟨rfl,rfl,rfl⟩
 | cons h t ih=>exact ⟨by rw [IW,ih.1];rfl,by rw [YB,YB,ih.2.1],by rw [YB,YB,ih.2.2]⟩
theorem wF {K:Yc}:∀ {r:List (Key×ME)} {Z : St} {H:Hp} {U : Mu} {h:Gh} {Zw:Sw} {Qw:List W->Gh->Prop} {Q:List (V×V)->Hp->Prop},Wo K U H h->Slots K H U Zw Z->mDs r Zw h Qw ->
  (∀ (vs:List V) (ws:List W) (H':Hp) (U':Mu) (h':Gh),XQ K H U H' U'->Wo K U' H' h'->aP K H' U' ws vs->vs.length=r.length->Qw ws h'->Q ((r.zip vs).map fun p=>(kV p.1.1,p.2)) H')->u6 (trD K r) Z H Q
 | [],Z,H,U,h,Zw,Qw,Q,R,S,m,k=>k [] [] H U h .refl R aP.nil rfl m
 | p::r,Z,H,U,h,Zw,Qw,Q,R,S,m,k=>by
  show tC (kV p.1) Z H fun x H1=>tD K p.2 Z H1 fun y H2=>u6 (trD K r) Z H2 fun ps H3=>Q ((x,y)::ps) H3
  refine ⟨U,h,Zw,_,R,S,m,fun v H1 ⟨U1,w,h1,e1,R1,r1,m1⟩=>?_⟩;refine wF R1 (S.ext e1) m1 fun vs ws H2 U2 h2 e2 R2 rs hl q=>?_;exact k (v::vs) (w::ws) H2 U2 h2 (e1.trans e2) R2 (aP.cons (e2.r _ _ r1) rs) (by rw [YB,YB,hl]) q
theorem Hj {K:Yc}{H:Hp}{U : Mu}:∀ {r:List (Key×ME)} {ws:List W} {vs:List V} {acc:List (Key×W)} {accv:List (Key×V)},aP K H U ws vs->vs.length=r.length->m6 K H U acc accv ->
  m6 K H U (mkD r ws acc) (pI accv ((r.zip vs).map fun p=>(p.1.1,p.2)))
 | [],ws,vs,acc,accv,rs,hl,ra=>by
  have e:vs=[]:=List.length_eq_zero_iff.mp hl;subst e;cases ws with
  | nil=>exact ra
  | cons w ws=>exact ra
 | p::r,ws,vs,acc,accv,rs,hl,ra=>by
  cases ws with
  | nil=>rw [aP] at rs;subst rs;cases hl
  | cons w ws=>
   rw [aP] at rs;obtain ⟨v,vs',e,rv,rs'⟩:=rs;subst e;exact Hj (r:=r) rs' (by simpa using hl)<|ra.put rv p.1
theorem Hg {ks:List (Option Expr)}{vs:List Expr}{r:List (Key×ME)}(h:Ds X ks vs r)(h0:ks≠[])(h15:ks.length<=15):DE X (.Dict ks vs pos) (Qf r):=
 (abg h.pps h.all.1 h.all.2.1 h0 h15).of fun Z H Q ⟨U,g,Zw,Qw,R,S,m,q⟩ p hp=>by
  have R1:Wo X.K (U.put g.nx p) (X5 H p (.dK [])) (g.new (.dct [])):=R.newCell hp trivial ⟨[],bR,.nil⟩;have e1:=(Ex.newCell (o:=.dK []) R hp).ext;refine wF R1 (S.ext e1) m fun vs' ws H2 U2 h2 e2 R2 rs hl z=>?_;split at z
  ·rename_i ec;obtain ⟨p',kvv,hp',hx,rf⟩:=R2.dctAt ec;have r0:FX X.K (X5 H p (.dK [])) (U.put g.nx p) (.loc g.nx) (.ref p):=by rw [FX];exact ⟨p,rfl,Mu.put_same⟩
   have r2:=e2.r _ _ r0;rw [FX] at r2;obtain ⟨p'',ep,hp''⟩:=r2;cases ep;have ep:p'=p:=by rw [hp''] at hp';exact (Yp hp').symm
   subst ep;unfold m6 at rf;cases rf;refine ⟨hx,(r.zip vs').map (fun p=>(p.1.1,p.2)),by rw [ZC];rfl,?_,?_⟩
   ·rw [Yd,List.length_zip,hl,<-h.all.2.2,Nat.min_self];exact h15
   ·have ew:=(Ex.write (o:=.dK (pI [] ((r.zip vs').map (fun p=>(p.1.1,p.2))))) R2 hp'').ext;refine q _ _ ⟨U2,.loc g.nx,_,(e1.trans e2).trans ew,R2.write (c:=.dct (mkD r ws [])) hp'' trivial ⟨_,bR,?_⟩,by rw [FX];exact ⟨p',rfl,hp''⟩,z⟩;exact Hj (ew.s rs) hl .nil
  ·exact z.elim
end
inductive j6 (w:Zb) (K:Yc):List DictEntry->List (Key×W)->Prop
 | nil:j6 w K [] []
 | cons {x:Str} {t} {v:V} {u:Ye} {d:W} {es:List DictEntry} {tbl:List (Key×W)} (r:RelV v u) (q:∀ H U,FX K H U d v) (h:j6 w K es tbl):j6 w K (⟨Y9 w.params x,.str x t,u⟩::es) ((.inr x,d)::tbl)
def Gy (w:Zb)(K:Yc)(a:Addr)(tbl:List (Key×W)):Prop:=(a==Em)=false/\(tbl.map (·.1)).Nodup/\tbl.length<=YQ/\∃ es n,K.lookup a=Dn ⟨.type "dict",FN,.dict es n,#[]⟩/\j6 w K es.toList tbl
theorem j6.pairs {P:YF}{w:Zb}{K:Yc}{es:List DictEntry}{tbl:List (Key×W)}(h:j6 w K es tbl) :
  (∀ e∈es,∃ k,(cJ P w).is k e.key=true/\e.hash=(cJ P w).hash k)/\∃ vs kvv,Pairs (cJ P w) es vs/\KV kvv vs/\(∀ H U,m6 K H U tbl kvv)/\vs.map (·.1)=tbl.map (·.1):=by
 induction h with
 | nil=>exact ⟨fun e z=>(nomatch z),[],[],.nil,.nil,fun _ _=>.nil,rfl⟩
 | @cons x t v u d es tbl r q h ih=>
  obtain ⟨h1,vs,kvv,h2,h3,h4,h5⟩:=ih;have hk:(cJ P w).is (.inr x) (.str x t)=true:=Gi (k:=.inr x) ⟨t,rfl⟩;refine ⟨fun e z=>?_,(.inr x,u)::vs,(.inr x,v)::kvv,.cons hk rfl h2,.cons ⟨rfl,r⟩ h3,fun H U=>.cons ⟨rfl,q H U⟩<|h4 H U,by rw [ZM,ZM,h5]⟩;rcases Yq.mp z with z | z
  ·subst z;exact ⟨.inr x,hk,rfl⟩
  ·exact h1 e z
theorem Gy.dict {X:Cx}{pins:List (Addr×Obj)}{Z : St}{H:Hp}{s:Yj}{a:Addr}{tbl:List (Key×W)}(T:Gy X.w X.K a tbl)(I:Go X pins Z H s) :
  ∃ vs kvv,s.heap.DictOf (cJ X.prog X.w) a vs/\KV kvv vs/\∀ H U,m6 X.K H U tbl kvv:=by
 obtain ⟨_,nd,_,es,n,hl,he⟩:=T;obtain ⟨h1,vs,kvv,h2,h3,h4,h5⟩:=he.pairs (P:=X.prog);exact ⟨vs,kvv,⟨_,es,n,I.kIn _ _ hl,⟨rfl,rfl,rfl⟩,rfl,fun e z=>h1 e<|Array.mem_toList_iff.mpr z,h2,by rw [h5];exact nd⟩,h3,h4⟩
section
variable {X:Cx}{b:Expr}{mb:ME}{pos p:Pos}{x:Str}{a:Addr}{tbl:List (Key×W)}
def J6 (tbl:List (Key×W))(mb:ME):ME:=fun Z h Q=>mb Z h fun y h1=>match Ou y with
 | some k=>(match nY tbl k with
  | some w=>Q w h1
  | none=>False)
 | none=>False
theorem EY (T:Gy X.w X.K a tbl)(hg:Gl X x)(hm:X.mg x=Dn (.ref a))(hb:DE X b mb)(hs:V3 b)(hd:(x==("__debug__" : Str))=false:=by decide):DE X (.Subscript (.Name x p) b pos) (J6 tbl mb):=by
 intro pins s Z H Q I ⟨U,g,Zw,Qw,R,S,m,q⟩;refine abn PySem.F.slot_dict_getitem.lookup hs<|X6 ((jd (v:=.ref a) hg hm rfl hd:PE X (.Name x p) (tC<|.ref a)) pins s Z H (fun v H'=>v=.ref a/\H'=H) I ⟨rfl,rfl⟩) fun u s1 ⟨v1,H1,I1,rx,ev,eH⟩=>?_
 subst ev eH;obtain rfl:u=Value.ref a:=rx;refine X6 (hb pins s1 Z H1 _ I1 ⟨U,g,Zw,_,R,S,m,fun y H2 z=>z⟩) fun iv s2 ⟨y,H2,I2,ry,U2,wy,h2,e2,R2,r2,z⟩=>?_;obtain ⟨vs,kvv,dd,rel,rf⟩:=T.dict I2;split at z
 ·rename_i k ek;split at z
  ·rename_i w ew;cases wY r2 ek
   obtain ⟨v,ev,rv⟩:=(rf H2 U2).val ew;obtain ⟨w',hw,rw'⟩:=Hq.some_of (v:=v) (o:=valueAt vs k) (by rw [<-ev];exact rel.val k);exact ⟨dd.typeIs,wpAny_getItem_of (Gi ry) dd.mapOf hw ⟨v,H2,I2.tok _,rw',q _ _ ⟨U2,w,h2,e2,R2,rv,z⟩⟩⟩
  ·exact z.elim
 ·exact z.elim
end
def FQ:Key->W
 | .inl i=>.int i
 | .inr x=>.str x
theorem Ms {K:Yc}{H:Hp}{U : Mu}{k:Key}:FX K H U (FQ k) (kV k):=by
 cases k with
 | inl i=>show FX K H U (.int i) (.int i);rw [FX]
 | inr x=>show FX K H U (.str x) (.str x);rw [FX]
theorem xR {K:Yc}{H:Hp}{U : Mu}:∀ ks:List Key,aP K H U (ks.map FQ) (ks.map kV)
 | []=>aP.nil
 | _::r=>aP.cons Ms (xR r)
theorem Nm {k:Key}{v:Ye}(h:uf k v=true):RelV (kV k) v:=by
 cases k with
 | inl i=>obtain ⟨t,e⟩:=Value.isInt_shape (k:=i) (v:=v) h;subst e;exact ⟨t,rfl⟩
 | inr x=>obtain ⟨t,e⟩:=Value.isStrOf_shape (x:=x) (v:=v) h;subst e;exact ⟨t,rfl⟩
theorem ug:∀ {vs:List (Key×Ye)} {us:List Ye},us.length=vs.length->(∀ (j:Nat) (u:Ye),us[j]?=Dn u->∃ k x,vs[j]?=Dn (k,x)/\uf k u=true)->VL (vs.map fun p=>kV p.1) us
 | [],[],_,_=>.nil
 | p::vs,u::us,hl,h=>by
  obtain ⟨k,x,e,hk⟩:=h 0 u rfl;have e':p=(k,x):=by simpa using e
  subst e';exact .cons (Nm hk)<|ug (by simpa using hl) fun j u hu=>by simpa using h (j+1) u (by simpa using hu)
 | [],_::_,hl,_=>by simp at hl
 | _::_,[],hl,_=>by simp at hl
section
variable {X:Cx}{pos p p':Pos}{x:Str}{a:Addr}{tbl:List (Key×W)}
theorem yZ (T:Gy X.w X.K a tbl)(hc:X.calm=true):jh X (.type "list") (fun xs H Q=>xs=[.ref a]/\∀ l,H l=FN->Q (.ref l) (X5 H l (.lst (tbl.map fun p=>kV p.1)))):=by
 intro pins s Z H xs us Q I r ⟨ex,q⟩;subst ex;obtain ⟨u,rfl,rx⟩:=vals1 r;cases rx;obtain ⟨lo,nd,hz,es,n,hl,he⟩:=T;obtain ⟨h1,vs,kvv,h2,h3,h4,h5⟩:=he.pairs (P:=X.prog);have hd:s.heap.DictAt (cJ X.prog X.w) a vs n:=⟨_,es,I.kIn _ _ hl,⟨rfl,rfl,rfl⟩,rfl,fun e z=>h1 e (Array.mem_toList_iff.mpr z),h2,by rw [h5];exact nd⟩
 have hlen:vs.length=tbl.length:=by have:=congrArg Jx h5;simpa using this
 have hk:(vs.map fun p=>kV p.1)=tbl.map fun p=>kV p.1:=by
  have:=congrArg (List.map kV) h5
  rw [ZC,ZC] at this;exact this
 refine PySem.W.kdl_call (PySem.W.kdl_dict lo) (I.ok.hd hc) hd (by rw [hlen];exact hz) fun h' tk acc' c' kp e it=>?_;have hv:VL (tbl.map fun p=>kV p.1) acc'.toList:=by
  rw [<-hk];exact ug (by rw [Kl];exact it.1) fun j u hu=>it.2 j u (by rw [<-Array.getElem?_toList];exact hu)
 exact ⟨.ref s.heap.objs.size,_,I.laid (t':=tk) kp (Ym _)<|show gD X.prog X.w _ h' _ (.lst<|tbl.map fun p=>kV p.1) from ⟨by rw [Yd];exact hz,acc'.toList,c',hv,e⟩,rfl,q _<|I.hok.fresh<|Ym _⟩
theorem Bb (T:Gy X.w X.K a tbl)(hc:X.calm=true)(hl:Gl X "list")(hz:X.mg "list" = FN)(hg:Gl X x)(hm:X.mg x=Dn (.ref a))(hd:(x==("__debug__" : Str))=false:=by decide)
  (he:YG [.Name x p'] X.env=(false,eval (.Name x p') X.env)::YG [] X.env:=by rfl):DE X (.Call (.Name "list" p) [.Name x p'] [] pos) (mC (.lst (tbl.map fun q:Key×W=>FQ q.1))):=
 (tX (yZ T hc) hl hz boot_list (BZ (jd (v:=.ref a) hg hm rfl hd) HY he) (by decide) (by decide) he rfl).of fun Z H Q ⟨U,h,Zw,Qw,R,S,m,k⟩=>by
  refine And.intro rfl<|fun l hl=>k _ _ ⟨U,.lst (tbl.map fun q:Key×W=>FQ q.1),h,(Ex.laid hl).ext,R.laid hl,?_,m⟩
  have e1:(tbl.map fun q:Key×W=>FQ q.1)=(tbl.map (·.1)).map FQ:=by rw [ZC];rfl
  have e2:(tbl.map fun p=>kV p.1)=(tbl.map (·.1)).map kV:=by rw [ZC];rfl
  rw [e1,e2];exact .lstNew R hl<|xR _
end
section
variable {X:Cx}
def Az (K:Yc):V->List V->Hp->VK->Prop:=fun x vs H Q=>∃ (l:Addr) (ns:List Str) (k:Str) (j:Nat),x=.ref l/\vs=[.str k]/\XS K H l (ns.map V.str)/\ns[j]?=Dn k/\(∀ m,m<j->ns[m]?≠Dn k)/\Q (.int j) H
theorem zaH:Dv X "list.index" (Az X.K):=by
 intro pins s Z H x vs v us Q I rx rv h;obtain ⟨l,ns,k,j,rfl,rfl,hx,hj,hno,q⟩:=h;cases rx;obtain ⟨u,rfl,ru⟩:=rv.one;obtain ⟨t,rfl⟩:=ru;obtain ⟨its,r,pl,hz⟩:=I.list hx;obtain ⟨⟨cl,dd,da,sl⟩,n,e,c1,c2,c3⟩:=pl;simp only at c1 c2 c3;subst c1 c2 c3;have hl:=r.length;rw [Yd] at hl;have at':∀ {m:Nat} (hm:m<its.toArray.size),∃ a t',ns[m]?=Dn a/\its.toArray[m]=.str a t':=fun {m} hm=>by
  have hm':m<ns.length:=by rw [Yr] at hm;lia
  obtain ⟨u,hu,ru⟩:=r.get (show (ns.map V.str)[m]?=Dn (.str ns[m]) by rw [Yo,Yk hm'];rfl);obtain ⟨t',rfl⟩:=ru;refine ⟨ns[m],t',Yk hm',?_⟩;have:=(Yn.mp hu).2
  simpa using this
 have hjl:j<its.toArray.size:=by
  have:=(Yn.mp hj).1
  rw [Yr];lia
 have h63:(YQ:Nat)<2^63 - 1:=by decide
 have hz':ns.length<=YQ:=by rw [Yd] at hz;exact hz
 let ev:Ye->Bool:=fun y=>match y with
  | .str a _=>a==k
  | _=>false
 refine JX F.slot_list_index ⟨_,e,rfl⟩ F.entry_list_index (F.args_list_index_2 _ _) (SeqAt.list_indexAt l its.toArray n FN sl (.str k t) ev j hjl ?_ ?_ ?_) ⟨e,?_,?_⟩
 ·rw [Yr] at hjl;have:(2:Int)^63 - 1=((2^63 - 1:Nat):Int):=by decide
  rw [this];lia
 ·obtain ⟨a,t',ea,e2⟩:=at' hjl;rw [e2];rw [hj] at ea;cases ea;show (k==k)=true;exact beq_self_eq_true k
 ·intro m hm hmj;obtain ⟨a,t',ea,e2⟩:=at' hm;rw [e2];show (a==k)=false;refine beq_eq_false_iff_ne.mpr fun x=>hno m hmj ?_;rw [ea,x]
 ·intro y hy;obtain ⟨m,hm,e2⟩:=Array.mem_iff_getElem.mp hy;obtain ⟨a,t',ea,e3⟩:=at' hm;rw [<-e2,e3];exact SeqAt.EqAt.str_str a t' k t
 ·exact ⟨.int j,H,I.tok _,⟨_,rfl⟩,q⟩
def oE:MM:=fun x ws h Q=>match ws with
 | [.str k]=>(match cC h x with
  | some us=>∃ (ns:List Str) (j:Nat),us=ns.map W.str/\ns[j]?=Dn k/\(∀ m,m<j->ns[m]?≠Dn k)/\Q (.int j) h
  | none=>False)
 | ws=>Af x ws h Q
theorem qw {K:Yc}{H:Hp}{U : Mu}:∀ {ns:List Str} {xs:List V},aP K H U (ns.map W.str) xs->xs=ns.map V.str
 | [],xs,r=>by rw [List.map_nil,aP] at r;exact r
 | n::ns,xs,r=>by
  rw [ZM,aP] at r;obtain ⟨v,vs,e,rv,r⟩:=r;rw [FX] at rv;rw [e,rv,qw r];rfl
theorem zbk {K:Yc}:Gb K (fun x vs H Q=>CT K x vs H Q\/Az K x vs H Q) oE:=by
 intro H U h x vs wx ws Qw Q R rx rs m k;unfold oE at m;split at m
 ·rename_i i;obtain ⟨v,ev,rv⟩:=jY rs;rw [FX] at rv;subst ev rv;split at m
  ·rename_i us ev;obtain ⟨ns,j,eu,hj,hno,m⟩:=m;obtain ⟨p,xs,ex,hs,rr⟩:=cB R rx ev;rw [eu] at rr;have exs:=qw rr;subst exs;exact .inr ⟨p,ns,i,j,ex,rfl,hs,hj,hno,k _ _<|.int R m⟩
  ·exact m.elim
 ·exact .inl<|Ma R rx rs m k
theorem zbf {o e:Expr}{mo:ME}{ma:MA}{apos cpos:Pos}(ho:DE X o mo)(ha:Bo X [e] ma)
  (hbase:JB o "index" X.env (eval o X.env)=eval o X.env:=by rfl)
  (hfew:((Am cpos (YG [e] X.env)).all (fun x=>!x.1)&&(backToKw cpos (JF [] X.env)).all (fun x=>x.1.isSome)
   && decide (([e]:List Expr).length+([]:List Dq).length+(if ([]:List Dq).isEmpty then 0 else 1)<30))=true:=by rfl)
  (hline:(apos.endLine==cpos.line)=true:=by rfl) (hst:YG [e] X.env=(false,eval e X.env)::YG [] X.env:=by rfl) (hplain:(Am cpos (YG [] X.env)).any (·.1)=false:=by rfl) :
  DE X (.Call (.Attribute o "index" apos) [e] [] cpos) (Vx oE mo ma):=(Qx PySem.F.plainAttrs_list PySem.F.slot_list_index PySem.F.type_list_index (Dv.or aag zaH) ho ha hbase hfew hline hst hplain).of fun Z H Q ⟨U,h,Zw,Qw,R,S,m,k⟩=>by
 refine ⟨U,h,Zw,_,R,S,m,fun v H1 ⟨U1,w,h1,e1,R1,r1,il⟩=>⟨(uo R1 r1 il).1,?_⟩⟩;have m1:=(uo R1 r1 il).2;exact ⟨U1,h1,Zw,_,R1,S.ext e1,m1,fun vs H2 ⟨U2,ws,h2,e2,R2,r2,m2⟩=>zbk R2 (e2.r _ _ r1) r2 m2 fun v H' z=>k _ _<|(z.trans e2).trans e1⟩
theorem zax:jh X (.builtin "isinstance") (fun xs H Q=>∃ x b,xs=[x,.ty "str"]/\(KR X.K H x b\/(∃ p ys,x=.ref p/\XS X.K H p ys/\b=false))/\Q (.bl b) H):=by
 intro pins s Z H xs us Q I r h;obtain ⟨x,b,rfl,hi,q⟩:=h;rcases hi with hi | ⟨p,ys,rfl,hS,rfl⟩
 ·exact zaO pins s Z H _ us Q I r ⟨x,b,rfl,hi,q⟩
 ·obtain ⟨u,w',rfl,rx,ru⟩:=vals2 r;cases ru;cases rx;have k1:EP X pins Z Q (.bool false) { s with toks:=s.toks+1 }:=⟨.bl false,H,I.tok _,rfl,q⟩
  obtain ⟨its,_,pl,_⟩:=I.list hS;obtain ⟨o,e,c,_⟩:=pl.isList;exact IsiPair.list_str e c k1
def R8 (h:Gh)(w:W):Option Bool:=match Vv w with
 | some b=>Dn b
 | none=>(match cC h w with
  | some _=>Dn false
  | none=>FN)
def zm:MC:=fun ws h Q=>match ws with
 | [w,.ty T]=>T = "str"/\(match R8 h w with
  | some b=>Q (.bl b) h
  | none=>False)
 | _=>False
theorem zX:pB X (.builtin "isinstance") zm:=⟨_,zax,by
 intro H U h vs ws Qw Q R r m k;unfold zm at m;split at m
 ·rename_i w T;obtain ⟨eT,m⟩:=m;subst eT;split at m
  ·rename_i b eb;obtain ⟨v,x,e,rv,rx⟩:=zK r;rw [FX] at rx;subst e rx;refine ⟨v,b,rfl,?_,k _ _<|.bl R m⟩;unfold R8 at eb;split at eb
   ·rename_i b' eb';cases eb;exact .inl<|aaQ rv eb'
   ·split at eb
    ·rename_i us ev;cases eb;obtain ⟨p,ys,ex,hs,rs⟩:=cB R rv ev;exact .inr ⟨p,ys,ex,hs,rfl⟩
    ·cases eb
  ·exact m.elim
 ·exact m.elim⟩
end
section
variable {X:Cx}{K:Yc}{H:Hp}{U : Mu}{h:Gh}
def rH (h:Gh)(w:W):Option W:=match w with
 | .lst ws=>(match fC h ws with
  | some ds=>Dn (.lst ds)
  | none=>FN)
 | w=>pR h w
theorem wU {w d:W}{v:V}{n:Nat}(R:Wo K U H h)(r:FX K H U w v)(e:rH h w=Dn d)(p:WR n d=true):Dt K H d v:=by
 cases w with
 | lst ws=>
  unfold rH at e;dsimp only at e;cases e1:fC h ws with
  | none=>rw [e1] at e;cases e
  | some ds=>
   rw [e1] at e;cases e;rw [FX] at r;obtain ⟨q,xs,ev,hs,rs⟩:=r;obtain ⟨m,rfl,p⟩:=zG p;rw [Dt];exact ⟨q,xs,ev,hs.sq,rA R rs e1 p⟩
 | _=>exact lu R r (by unfold rH at e;exact e) p
def zan:M2:=fun x y h Q=>match rH h x,rH h y with
 | some a,Dn b=>AP (WR 30 a&&WR 30 b) (Q (.bl (Wj a b)) h) False
 | _,_=>False
def Pq:M2:=fun x y h Q=>match rH h x,rH h y with
 | some a,Dn b=>AP (WR 30 a&&WR 30 b) (Q (.bl (!Wj a b)) h) False
 | _,_=>False
theorem TQ (hu:X.A.units+30<Bj):Bl X (Zv .NotEq) Pq:=⟨_,BL hu,by
 intro H U h x y wx wy Qw Q R rx ry m k;unfold Pq at m;split at m
 ·rename_i a b ea eb;cases hp:(WR 30 a&&WR 30 b) with
  | true=>
   rw [hp] at m;rw [YM] at hp;exact ⟨a,b,wU R rx ea hp.1,wU R ry eb hp.2,hp.1,hp.2,k _ _<|.bl R m⟩
  | false=>rw [hp] at m;exact (show False from m).elim
 ·exact m.elim⟩
end
section
variable {X:Cx}{a b c:Expr}{ma mb mc:ME}{pos:Pos}
end
section
variable {K:Yc}{H:Hp}{U : Mu}{fs:List (Str×W)}{fvs:List (Str×V)}{f:Str}{w:W}{v:V}
end
section
variable {X:Cx}{e o value:Expr}{es:List Expr}{ma mo mv:ME}{mr:MA}{f:Str}{C:Addr}{pos pos' apos:Pos}
end
section
variable {prog:YF}{w:Zb}{A:YW}{E:Ye->Yj->Prop}{s:Yj}
end
section
variable {X:Cx}
end
section
variable {X:Cx}{e:Expr}{me:ME}{x:Str}{a:Addr}{tbl:List (Key×W)}{p pos:Pos}
end
section
variable {X:Cx}{Γ : St->Prop}{C:Addr}{o e:Expr}{es:List Expr}{mo:ME}{mr:MA}{pos apos:Pos}
end
section
variable {X:Cx}{pins:List (Addr×Obj)}{Z : St}{H:Hp}{s:Yj}{K:Yc}{U : Mu}
end
section
variable {X:Cx}{a b o i:Expr}{ma mb:ME}{td ty:TE}{pos:Pos}
end
section
variable {prog:YF}{w:Zb}{A:YW}{E:Ye->Yj->Prop}{s:Yj}
end
section
variable {X:Cx}
end
def ps (h:Int):Nat->Nat×Nat
 | 0=>(Jk h % 32,Jk h)
 | n+1=>SetTable.leap 31 (ps h n).1 (ps h n).2
def liv (o:Array (Option Nat)):List (Nat×Nat):=(ZX 32).filterMap fun j=>(o.getD j FN).map (j,·)
structure Lay (o:Array (Option Nat)) (k:Nat):Prop where
 sz:o.size=32
 len:(liv o).length=k
 low:∀ p,p∈liv o->p.2<k
section
variable {prog:YF}{w:Zb}{A:YW}{E:Ye->Yj->Prop}{s:Yj}{a:Addr}
end
section
variable {prog:YF}{w:Zb}{A:YW}{E:Ye->Yj->Prop}{s:Yj}{m:Nat}{ka:Nat->List Int}{ad:Nat->Addr}{t:LI}{a b:Addr}{k:List Int}
end
section
variable {prog:YF}{w:Zb}{A:YW}{E:Ye->Yj->Prop}{R:Result->Yj->Prop}
end
section
variable {prog:YF}{w:Zb}{A:YW}{E:Ye->Yj->Prop}{s:Yj}
end
section
variable {X:Cx}{K:Yc}
end
section
variable {X:Cx}{K:Yc}{o e:Expr}{mo:ME}{apos cpos:Pos}
end
section
variable {prog:YF}{w:Zb}{A:YW}{s:Yj}{K:Yc}{x C:Addr}{R:Result->Yj->Prop}
end
section
variable {prog:YF}{w:Zb}{A:YW}{E:Ye->Yj->Prop}{s:Yj}{K:Yc}{x dx C f:Addr}{mA:Str->Option Ye}{name:Str}{v:Ye}
end
section
variable {prog:YF}{w:Zb}{A:YW}{E:Ye->Yj->Prop}{s:Yj}{K:Yc}{x D:Addr}{ox:Obj}
end
section
variable {prog:YF}{w:Zb}{A:YW}{E:Ye->Yj->Prop}{h:Heap}{g:Array GenState}{d:Drawn}{t:Nat}{os:OsState}
variable {nm q:Str}{C N:Addr}{bs bm bmB:List Ye}{hdct:Bool}{sn:List Str}{sub:List Ye}{ab:Bool}{col:Option Bool}{dd:Option Addr}{k0 k1 k2 k3 k5:Option Ye}{B newId initId:String}{K:Yc}{f:Addr}
end
section
variable {prog:YF}{w:Zb}{M:Model}{A:YW}{E:Ye->Yj->Prop}{s:Yj}{env:Env}{K:Yc}{f:Addr}
variable {nm q:Str}{C N:Addr}{bs bm bmB:List Ye}{hdct:Bool}{sn:List Str}{sub:List Ye}{ab:Bool}{col:Option Bool}{dd:Option Addr}{k0 k1 k2 k3 k5:Option Ye}{B newId initId:String}
end
section
variable {X:Cx}{o value:Expr}{f:Str}{C:Addr}{pos pos':Pos}{ta tv:TE}
end
section
variable {X:Cx}{pins:List (Addr×Obj)}{Z : St}{H:Hp}{s:Yj}{e:Addr}
end
section
variable {X:Cx}{pins:List (Addr×Obj)}{Z : St}{H:Hp}{s:Yj}{C fi:Addr}{x f:Str}{np cpos pos:Pos}{e:Expr}{t:TA}{k:Nat}{fd:Y8}{ps:List Str}
end
section
variable {X:Cx}{Γ : St->Prop}{e:Expr}{pos:Pos}{ma:ME}
end
section
variable {X:Cx}{e:Expr}{f:Str}{pos:Pos}{ma:ME}
end
section
variable {X:Cx}
end
section
variable {X:Cx}{Γ : St->Prop}{tg:Expr}
end
def Ite (K:Yc)(l:Addr):It:=
  ⟨fun i H=>∃ xs x,XS K H l xs/\xs[i]?=Dn x,
   fun i H v H'=>∃ p x,H p=FN/\v=.ref p/\H'=X5 H p (.tup [.int (i:Int),x])/\∀ xs,XS K H l xs->xs[i]?=Dn x,
   fun i H=>∃ xs,XS K H l xs/\xs.length<=i,true⟩
def WQ (e it l:Addr)(n:Nat)(h:Heap):Prop:=(∃ old,IsEnum h e it (n:Int) old)/\h.IsListIter it l n
theorem zaD {P:YF}{w:Zb}{K:Yc}{elts:List Expr}{kt:Nat}{pos:Pos}{e it l:Addr}(ne:e≠it):Turn P w K (.Tuple elts kt pos) (Ite K l) [e,it] e (WQ e it l) where
 mem:=by simp
 obj:=fun i h st b hb=>by
  obtain ⟨⟨old,ge⟩,o,gi,_,d⟩:=st;simp only [Yq,Y5,or_false] at hb;rcases hb with rfl | rfl
  ·exact ⟨_,ge,fun v y=>by cases y⟩
  ·exact ⟨o,gi,fun v y=>by rw [d] at y;cases y⟩
 keep:=fun i h h' st k=>⟨⟨_,k e (by simp) _ st.1.choose_spec⟩,st.2.at fun o q=>k it (by simp) o q⟩
 item:=by
  intro X hP hw hK hc i pins s Z H E I hf st hg;subst hP hw hK;obtain ⟨⟨old,ge⟩,gi⟩:=st;obtain ⟨xs,x,hx,ex⟩:=hg;obtain ⟨its,r,pl,hz⟩:=I.list hx;obtain ⟨u,hu,ru⟩:=r.get ex;refine wpAny_pyNext_enum_item ge gi pl.isList (x:=u) (by simpa using hu) ne fun h1 go gi1 T1 size1 all1=>⟨_,rfl,?_⟩;have pe:s.heap.objs.size≠e:=ZS (Yt ge);have pi:s.heap.objs.size≠it:=by obtain ⟨o,q,_⟩:=gi;exact ZS (Yt q)
  refine wpAny_letOwnedTupleGo_enum (s:={ s with heap:=h1,toks:=s.toks+1 }) go fun h2 ge2 sb=>?_;have fr:H s.heap.objs.size=FN:=I.hok.fresh (Ym _);have I1:Go X pins Z (X5 H s.heap.objs.size (.tup [.int (i:Int),x])) { s with heap:=s.heap.push { cls:=.type "tuple",data:=.seq #[.int (i:Int) s.toks,u] },toks:=s.toks+1 }:=
   I.laid (t':=s.toks+1) (fun b o q=>Yh _ q) (Ym _) ⟨(by show 2<=YQ;decide),[.int (i:Int) s.toks,u],.cons ⟨_,rfl⟩ (.cons ru .nil),⟨_,YC _ rfl,rfl,⟨_,rfl⟩,rfl⟩⟩
  have lt:∀ b∈[e,it],s.heap.objs.size≠b:=fun b hb=>by
   simp only [Yq,Y5,or_false] at hb;rcases hb with rfl | rfl
   ·exact pe
   ·exact pi
  have hf1:∀ b∈[e,it],wW X pins (X5 H s.heap.objs.size (.tup [.int (i:Int),x])) b:=fun b hb=>⟨by rw [aR (Bk (lt b hb))];exact (hf b hb).1,(hf b hb).2⟩
  have I2:Go X pins Z (X5 H s.heap.objs.size (.tup [.int (i:Int),x])) { s with heap:=h2,toks:=s.toks+1 }:=by
   refine Go.turnedL (s:={ s with heap:=s.heap.push { cls:=.type "tuple",data:=.seq #[.int (i:Int) s.toks,u] },toks:=s.toks+1 }) (h':=h2) (t':=s.toks+1) (ch:=[e,it]) I1 (fun b o hb q=>?_) hf1;have be:b≠e:=fun q=>hb (by simp [q])
   rcases Heap.get?_push_cases q with ⟨rfl,rfl⟩ | q'
   ·exact sb.extBut _ _ be T1
   ·exact sb.extBut _ _ be<|all1 b o be (fun q=>hb<|by simp [q]) q'
  refine ⟨.ref s.heap.objs.size,_,I2,rfl,⟨s.heap.objs.size,x,fr,rfl,rfl,fun xs' q=>by rw [I.list_inj q hx];exact ex⟩,?_,fun b hb=>(hf1 b hb).1⟩;exact ⟨⟨_,by rw [Int.natCast_add];exact ge2⟩,gi1.at fun o q=>sb.extBut _ o (Bk ne) q⟩
 done:=by
  intro X hP hw hK hc i pins s Z H E I hf st hg;subst hP hw hK;obtain ⟨⟨old,ge⟩,gi⟩:=st;obtain ⟨xs,hx,hl⟩:=hg;obtain ⟨its,r,pl,hz⟩:=I.list hx;have hn:=r.length;refine wpAny_pyNext_enum_end (I.ok.hd<|hc rfl) ge gi pl.isList (by simp;lia) fun h1 eb=>⟨rfl,I.turnedL (t':=s.toks) (ch:=[e,it]) (fun b o hb q=>eb b o (fun z=>hb<|by simp [z]) q) hf⟩
 self:=fun _ _ _ _ _ st h=>wpAny_pyIter_enum st.1.choose_spec h
section
variable {X:Cx}{K:Yc}
def Vk (K:Yc)(ta:TA):TI:=fun Z H R=>ta Z H fun vs H1=>∃ a xs,vs=[.ref a]/\XS K H1 a xs/\R (Ite K a) H1
theorem aae {e1:Expr}{ta:TA}{p pos tpos:Pos}{elts:List Expr}{kt:Nat}(hg:Gl X "enumerate")(hm:X.mg "enumerate" = FN)(ha:PA X [e1] ta)
  (hs:YG [e1] X.env=(false,eval e1 X.env)::YG [] X.env:=by rfl) (hpl:(Am pos (YG [] X.env)).any (·.1)=false:=by rfl) :
  PI X (.Tuple elts kt tpos) (.Call (.Name "enumerate" p) [e1] [] pos) (Vk X.K ta):=by
 intro pins s Z H R I h;refine K6<|qF I hg hm boot_enumerate ?_ (by decide)<|by decide
 refine LK (X6 (ha pos pins s Z H _ I h) fun us s1 ⟨vs,H1,I1,r1,q1⟩=>?_) hs hpl;obtain ⟨a,xs,ev,hx,q⟩:=q1;subst ev;obtain ⟨u1,eu,ru1⟩:=vals1 r1;subst eu;cases ru1;obtain ⟨its,r,pl,hz⟩:=I1.list hx;refine call_enumerate_list pl.isList fun h' ge gi size all=>?_;refine wpAny_pyIter_enum (s:={ s1 with heap:=h' }) ge ?_;have I2:Go X pins Z H1 { s1 with heap:=h' }:=I1.kept (t':=s1.toks) all;generalize hn:s1.heap.objs.size=n at ge gi size |-
 refine ⟨n+1,[n+1,n],_,_,H1,rfl,I2,zaD<|jO<|show n+1≠n by lia,⟨⟨_,ge⟩,gi⟩,fun c hc=>?_,q⟩;have hc':n<=c:=by
  have h:c∈([n+1,n]:List Nat):=hc;simp only [Yq,Y5,or_false] at h;rcases h with h | h
  ·exact h ▸ Ew n
  ·exact h ▸ Ym n
 exact I1.fpOk (by rw [hn];exact hc')<|I1.hok.fresh (by rw [hn];exact hc')
def enW:Nat->List W->List W
 | _,[]=>[]
 | i,a::as=>.tup [.int (i:Int),a]::enW (i+1) as
theorem vP:∀ {as:List W} {j i:Nat} {w:W},(enW j as)[i]?=Dn w->∃ a,as[i]?=Dn a/\w=.tup [.int ((j+i:Nat):Int),a]
 | [],_,_,_,e=>by simp [enW] at e
 | a::as,j,0,w,e=>by
  have e:Dn (W.tup [.int (j:Int),a])=Dn w:=e;exact ⟨a,rfl,(Yp e).symm⟩
 | a::as,j,i+1,w,e=>by
  obtain ⟨x,h1,h2⟩:=vP (as:=as) (j:=j+1) (i:=i) (w:=w) (by simpa [enW] using e);exact ⟨x,by simpa using h1,by rw [h2,show j+1+i=j+(i+1) by lia]⟩
theorem rD:∀ {as:List W} {j:Nat},(enW j as).length=as.length
 | [],_=>rfl
 | a::as,j=>by rw [enW,YB,rD,YB]
def enS (h:Gh)(x:W):Option Src:=match x with
 | .lst as=>Dn ⟨enW 0 as,FN⟩
 | .kls as=>Dn ⟨enW 0 as,FN⟩
 | .loc n=>(match h.c n with
  | some (.lst as)=>Dn ⟨enW 0 as,Dn (n,as)⟩
  | _=>FN)
 | _=>FN
theorem Nx {H:Hp}{U : Mu}{h:Gh}{w:W}{v:V}{s:Src}(R:Wo K U H h)(r:FX K H U w v)(e:enS h w=Dn s) :
  ∃ a ws o,v=.ref a/\s=⟨enW 0 ws,o⟩/\Src.chk ⟨ws,o⟩ h/\∀ {H2:Hp} {U2:Mu} {h2:Gh},XQ K H U H2 U2->Wo K U2 H2 h2->Src.chk ⟨ws,o⟩ h2->∃ xs,XS K H2 a xs/\aP K H2 U2 ws xs:=by
 cases w with
 | lst us=>
  cases (show Dn (⟨enW 0 us,FN⟩:Src)=Dn s from e)
  have r0:=r;rw [FX] at r;obtain ⟨p,xs,ev,hs,rs⟩:=r;subst ev;refine ⟨p,us,FN,rfl,rfl,trivial,fun {H2 U2 h2} x _ _=>?_⟩;have r2:=x.r _ _ r0;rw [FX] at r2;obtain ⟨q,ys,ev,hs,rs⟩:=r2;cases ev;exact ⟨ys,hs.sq,rs⟩
 | kls us=>
  cases (show Dn (⟨enW 0 us,FN⟩:Src)=Dn s from e)
  have r0:=r;rw [FX] at r;obtain ⟨p,xs,ev,hs,rs⟩:=r;subst ev;refine ⟨p,us,FN,rfl,rfl,trivial,fun {H2 U2 h2} x _ _=>?_⟩;have r2:=x.r _ _ r0;rw [FX] at r2;obtain ⟨q,ys,ev,hs,rs⟩:=r2;cases ev;exact ⟨ys,hs.sq,rs⟩
 | loc n=>
  have e:(match h.c n with
   | some (.lst as)=>Dn (⟨enW 0 as,Dn (n,as)⟩:Src)
   | _=>FN)=Dn s:=e
  split at e
  ·rename_i as ec;cases e;have r0:=r;rw [FX] at r;obtain ⟨p,ev,hm⟩:=r;subst ev;refine ⟨p,as,Dn (n,as),rfl,rfl,ec,fun {H2 U2 h2} x R2 ck=>?_⟩;have r2:=x.r _ _ r0;rw [FX] at r2;obtain ⟨q,eq,hm2⟩:=r2;cases eq;obtain ⟨p',xs,hm',hx,rs⟩:=R2.lstAt (show h2.c n=Dn (.lst as) from ck);have ep:p'=p:=by rw [hm2] at hm';exact (Yp hm').symm
   subst ep;exact ⟨xs,.of hx,rs⟩
  ·cases e
 | _=>cases e
def JW (ma:MA):MI:=fun Z h R=>ma Z h fun ws h1=>match ws with
 | [x]=>(match enS h1 x with
  | some s=>R s h1
  | none=>False)
 | _=>False
theorem aaD {e1:Expr}{mr:MA}{p pos tpos:Pos}{elts:List Expr}{kt:Nat}(hg:Gl X "enumerate")(hm:X.mg "enumerate" = FN)(ha:Bo X [e1] mr)
  (hs:YG [e1] X.env=(false,eval e1 X.env)::YG [] X.env:=by rfl) (hpl:(Am pos (YG [] X.env)).any (·.1)=false:=by rfl) :
  Fj X (.Tuple elts kt tpos) (.Call (.Name "enumerate" p) [e1] [] pos) (JW mr):=PI.of (aae hg hm ha hs hpl) fun Z H Q ⟨U,h,Zw,Rw,R,S,m,k⟩=>by
 refine ⟨U,h,Zw,_,R,S,m,fun vs H1 ⟨U1,ws,h1,e1,R1,r1,m1⟩=>?_⟩;split at m1
 ·split at m1
  ·rename_i x _ s es;obtain ⟨v,ev,rv⟩:=jY r1;obtain ⟨a,as,o,ea,es',ck1,fa⟩:=Nx R1 rv es;subst es' ea;obtain ⟨xs,hxs,_⟩:=fa .refl R1 ck1;refine ⟨a,xs,ev,hxs,k _ _ ⟨U1,⟨enW 0 as,o⟩,h1,e1,R1,?_,m1⟩⟩;intro H2 U2 h2 i e2 R2 ck;obtain ⟨xs2,hxs2,rxs⟩:=fa e2 R2 ck;refine ⟨fun w ew=>?_,fun hl=>⟨xs2,hxs2,?_⟩⟩
   ·obtain ⟨p1,ep1,rfl⟩:=vP ew;obtain ⟨q1,eq1,rq1⟩:=rxs.get ep1;refine ⟨⟨xs2,q1,hxs2,eq1⟩,fun x' H3 ⟨pa,x1,hp,ex',eH3,f1⟩=>?_⟩;have g1:=f1 xs2 hxs2;rw [eq1] at g1;cases g1;subst ex' eH3;rw [Jy];exact ⟨U2,(Ex.laid hp).ext,R2.laid hp,.tupNew hp<|.cons (by rw [FX])<|.one rq1⟩
   ·have l1:=rxs.len;have:as.length<=i:=by rw [<-rD (as:=as) (j:=0)];exact hl
    lia
  ·exact m1.elim
 ·exact m1.elim
end
section
variable {X:Cx}{mr:MA}{pos p:Pos}{e:Expr}{es:List Expr}{k:Nat}{fs:List (Addr×VR)}
inductive VFs (X:Cx) (k:Nat):List (Addr×VR)->Prop
 | nil:VFs X k []
 | cons {f:Addr} {fd:Y8} {ps:List Str} {ms:VR} {fs:List (Addr×VR)} (F:eO X.prog X.w X.K X.mg X.base kI k f fd ps (lift X.K ms)) (hk:Fx X.K (.ref f)=true) (hb:Binds X.K fd ps []) (r:VFs X k fs):VFs X k ((f,ms)::fs)
end
def Cmp (P:YF)(w:Zb)(A:YW)(s:Yj)(kd:HI)(rk:Ye->Nat)(good:Ye->Prop):Prop:=
 ∀ (E:Ye->Yj->Prop) (Q:Bool->Yj->Prop) (x y:Ye),good x->good y->Q (decide (rk x<rk y)) s->Y7 (Zk P w) A (keyLt' kd x y) Q E s
section
variable {P:YF}{w:Zb}{A:YW}{E:Ye->Yj->Prop}{s:Yj}{kd:HI}{rk:Ye->Nat}{good:Ye->Prop}
def Rk (rk:Ye->Nat)(a:Array CQ)(i:Nat):Nat:=match a[i]? with
 | some p=>rk p.1
 | none=>0
def Ah (rk:Ye->Nat)(a:Array CQ)(i j:Nat):Prop:=∀ p q,i<=p->p<q->q<j->Rk rk a p<Rk rk a q
structure Keys (rk:Ye->Nat) (good:Ye->Prop) (a:Array CQ):Prop where
 good:∀ p∈a.toList,good p.1
 nd:(a.toList.map fun p=>rk p.1).Nodup
structure SOk (kd:HI) (rk:Ye->Nat) (good:Ye->Prop) (st:Ed):Prop where
 kind:Dk st=kd
 failed:failedOf st=FN
 keys:Keys rk good (arrOf st)
theorem w_lt (C:Cmp P w A s kd rk good){x y:CQ}{st:Ed}{Q:Option Bool->Ed->Prop}(hk:Dk st=kd)(hx:good x.1)(hy:good y.1)(q:Q (Dn (decide (rk x.1<rk y.1))) st):wpS (Zk P w) A E s (lt' x y) Q st:=by
 rw [lt'_eq];refine wpS_bind<|wpS_get ?_
 rw [hk];exact wpS_bind<|wpS_lift<|wpAny_attempt<|C _ _ _ _ hx hy ⟨rfl,wpS_pure q⟩
structure Within (a b:Array CQ) (lo hi:Nat):Prop where
 perm:b.Perm a
 out:∀ k,k<lo\/hi<=k->b[k]?=a[k]?
end
section
variable {P:YF}{w:Zb}{A:YW}{E:Ye->Yj->Prop}{s:Yj}{d it:Addr}{es:Array DictEntry}{ep i:Nat}
end
section
variable {P:YF}{w:Zb}{A:YW}{E:Ye->Yj->Prop}{s:Yj}{kd:HI}{rk:Ye->Nat}{good:Ye->Prop}
structure zau (B:Nat->Bool) (n:Nat) (st:Ed) (x:Nat) (c:Option (Option Nat)×Nat×Nat) (st':Ed):Prop where
 s:st'=st
 e:c.1=FN
 a:c.2.1<=c.2.2
 b:c.2.2<=n
 d:c.2.2 - c.2.1<=n - x
 lo:∀ i,i<c.2.1->B i=true
 hi:∀ i,c.2.2<=i->i<n->B i=false
structure zat (B:Nat->Bool) (v:Bool) (mx:Nat) (st:Ed) (x:Nat) (c:Option (Option Nat)×Nat×Nat) (st':Ed):Prop where
 s:st'=st
 e:c.1=FN
 a:c.2.1<c.2.2
 b:x<c.2.2
 d:c.2.1<mx
 h:B c.2.1=v
end
section
variable {rk:Ye->Nat}
def SL (rk:Ye->Nat)(l:List CQ):Prop:=l.Pairwise fun x y=>rk x.1<rk y.1
def Be (rk:Ye->Nat)(xs ys:List CQ):Prop:=∀ x∈xs,∀ y∈ys,rk x.1<rk y.1
def ML (rk:Ye->Nat)(A B out al bl:List CQ):Prop:=∃ a1 b1,A=a1++al/\B=b1++bl/\out.Perm (a1++b1)/\SL rk out/\Be rk out al/\Be rk out bl
def Mrg (rk:Ye->Nat)(A B r:List CQ):Prop:=r.Perm (A++B)/\SL rk r
end
section
variable {P:YF}{w:Zb}{A:YW}{E:Ye->Yj->Prop}{s:Yj}{kd:HI}{rk:Ye->Nat}{good:Ye->Prop}
def Jb (st st':Ed):Prop:=arrOf st'=arrOf st/\Dk st'=Dk st/\failedOf st'=failedOf st/\pendingOf st'=pendingOf st
structure Two (rk:Ye->Nat) (good:Ye->Prop) (a b:Array CQ):Prop where
 sa:SL rk a.toList
 sb:SL rk b.toList
 ga:∀ p∈a.toList,good p.1
 gb:∀ p∈b.toList,good p.1
 ne:∀ x∈a.toList,∀ y∈b.toList,rk x.1≠rk y.1
structure abd (rk:Ye->Nat) (a b out:Array CQ) (ia ib:Nat):Prop where
 ml:ML rk a.toList b.toList out.toList (a.toList.drop ia) (b.toList.drop ib)
 ia:ia+1<a.size
 ib:ib<b.size
structure zad (rk:Ye->Nat) (a b:Array CQ) (st:Ed) (n:Nat) {β : Type} (c:Option (Array CQ)×Array CQ×Nat×Nat×β) (st':Ed):Prop where
 sm:Jb st st'
 e:c.1=FN
 li:abd rk a b c.2.1 c.2.2.1 c.2.2.2.1
 le:n<=c.2.2.1+c.2.2.2.1
structure zaa (rk:Ye->Nat) (a b:Array CQ) (st:Ed) {β : Type} (c:Option (Array CQ)×β) (st':Ed):Prop where
 sm:Jb st st'
 r:∃ l,c.1=Dn l/\Mrg rk a.toList b.toList l.toList
end
section
variable {rk:Ye->Nat}
def MH (rk:Ye->Nat)(A B o ah bh:List CQ):Prop:=∃ a2 b2,A=ah++a2/\B=bh++b2/\o.Perm (a2++b2)/\SL rk o/\Be rk ah o/\Be rk bh o
end
section
variable {P:YF}{w:Zb}{A:YW}{E:Ye->Yj->Prop}{s:Yj}{kd:HI}{rk:Ye->Nat}{good:Ye->Prop}
structure abp (rk:Ye->Nat) (a b out:Array CQ) (na nb:Nat):Prop where
 mh:MH rk a.toList b.toList out.toList.reverse (a.toList.take na) (b.toList.take nb)
 pa:0<na
 pb:1<nb
 la:na<=a.size
 lb:nb<=b.size
structure GoH (rk:Ye->Nat) (a b:Array CQ) (st:Ed) (n:Nat) {β : Type} (c:Option (Array CQ)×Nat×Nat×Array CQ×β) (st':Ed):Prop where
 sm:Jb st st'
 e:c.1=FN
 li:abp rk a b c.2.2.2.1 c.2.1 c.2.2.1
 le:c.2.1+c.2.2.1+n<=a.size+b.size
structure Runs (rk:Ye->Nat) (a:Array CQ) (sa k sb n' e:Nat):Prop where
 h1:sa+k<=sb
 h2:sb+n'<=e
 h3:e<=a.size
 r1:Ah rk a sa sb
 r2:Ah rk a sb e
 lo:∀ p,sa<=p->p<sa+k->Rk rk a p<Rk rk a sb
 hi:∀ p,sb+n'<=p->p<e->Rk rk a (sb - 1)<Rk rk a p
def Cont (rk:Ye->Nat)(a:Array CQ):List (Nat×Nat×Nat)->Nat->Nat->Prop
 | [],i,j=>i=j
 | (s,n,_)::r,i,j=>s=i/\0<n/\Ah rk a i (i+n)/\Cont rk a r (i+n) j
theorem Hf {α : Type}{l:List α}{i:Nat}(h:i+1<l.length):l=l.take i++l[i]::l[i+1]::l.drop (i+2):=by
 rw [<-Z5 h,<-Z5 (by lia),List.take_append_drop]
structure zae (kd:HI) (rk:Ye->Nat) (good:Ye->Prop) (a0:Array CQ) (lo:Nat) (st:Ed):Prop where
 ok:SOk kd rk good st
 perm:(arrOf st).Perm a0
 cont:Cont rk (arrOf st) (pendingOf st).toList 0 lo
end
section
variable {P:YF}{w:Zb}{A:YW}{E:Ye->Yj->Prop}{s:Yj}
def rankOf (ks:List (List Int))(k:List Int):Nat:=ks.countP fun l=>decide (l<k)
structure KyT (T:Heap->Ye->List Int->Prop):Prop where
 fn:∀ {h:Heap} {v:Ye} {k l:List Int},T h v k->T h v l->k=l
 of:∀ {h h':Heap} {v:Ye} {k:List Int},T h v k->(∀ b o,o.cls=.type "tuple"->h.get? b=Dn o->h'.get? b=Dn o)->T h' v k
abbrev PdT (T:Heap->Ye->List Int->Prop)(h:Heap):List (List Int)->List Ye->Prop:=JD fun k v=>T h v k
section
variable {T:Heap->Ye->List Int->Prop}(F:KyT T)
include F
open Classical in
noncomputable def keyV (_:KyT T)(h:Heap)(v:Ye):List Int:=if e:∃ k,T h v k then e.choose else []
noncomputable def rkV (F:KyT T)(h:Heap)(ks:List (List Int))(v:Ye):Nat:=rankOf ks (keyV F h v)
end
abbrev hp6 (h:Heap)(a:Addr)(vs:List Ye):Heap:=((h.update a (Obj.mapSeq fun _=>#[])).push (seqObj "tuple" vs.toArray 0)).push (seqObj "list" #[] 0)
structure SkT (P:YF) (w:Zb) (A:YW) {T:Heap->Ye->List Int->Prop} (F:KyT T) (kd:HI) (ks:List (List Int)) (vs:List Ye):Prop where
 kind:∀ {E:Ye->Yj->Prop} {s:Yj} {Q:HI->Yj->Prop},2<=vs.length->PdT T s.heap ks vs->Q kd s->Y7 (Zk P w) A (keyKind' vs.toArray) Q E s
 cmp:∀ {s:Yj},PdT T s.heap ks vs->Cmp P w A s kd (rkV F s.heap ks) (·∈vs)
end
section
variable {X:Cx}{K:Yc}
end
section
variable {X:Cx}{o e1 e2:Expr}{mo:ME}{ma:MA}{apos cpos:Pos}
end
section
variable {X:Cx}{K:Yc}
variable {o e:Expr}{mo:ME}{ma:MA}{apos cpos:Pos}
end
section
variable {prog:YF}{w:Zb}{A:YW}{R:Result->Yj->Prop}{E:Ye->Yj->Prop}{L I:Addr}{ns:List Int}{its:List Ye}
def Gr (ns:List Int)(j:Nat)(b:Int):Prop:=b∈ns/\∀ k,k<j->ns.getD k 0<=b
end
section
variable {X:Cx}
end
section
open AutoSeq1 (wpAny_loadPart')
end
section
variable {prog:YF}{w:Zb}{A:YW}{E:Ye->Yj->Prop}{s:Yj}
end
section
variable {X:Cx}{K:Yc}
end
section
variable {prog:YF}{w:Zb}{A:YW}{R:Result->Yj->Prop}{L I:Addr}{its:List Ye}
end
section
variable {X:Cx}{K:Yc}
def GQ (h:Gh)(x y:W):Option Src:=match mY x,y with
 | some as,.loc n=>(match h.c n with
  | some (.lst bs)=>Dn ⟨jU as bs,Dn (n,bs)⟩
  | _=>FN)
 | _,_=>FN
theorem abM {h:Gh}{x y:W}{s:Src}(e:GQ h x y=Dn s):∃ as bs n,s=⟨jU as bs,Dn (n,bs)⟩/\mY x=Dn as/\y=.loc n/\h.c n=Dn (.lst bs):=by
 unfold GQ at e;split at e
 ·rename_i as n ea;split at e
  ·rename_i bs ec;exact ⟨as,bs,n,(Yp e).symm,ea,rfl,ec⟩
  ·cases e
 ·cases e
def IV (ma:MA):MI:=fun Z h R=>ma Z h fun ws h1=>match ws with
 | [x,y]=>(match GQ h1 x y with
  | some s=>R s h1
  | none=>False)
 | _=>False
theorem aaC {e1 e2:Expr}{mr:MA}{p pos tpos:Pos}{elts:List Expr}{kt:Nat}(hg:Gl X "zip")(hm:X.mg "zip" = FN)(ha:Bo X [e1,e2] mr)
  (hs:YG [e1,e2] X.env=(false,eval e1 X.env)::YG [e2] X.env:=by rfl) (hpl:(Am pos (YG [e2] X.env)).any (·.1)=false:=by rfl) :
  Fj X (.Tuple elts kt tpos) (.Call (.Name "zip" p) [e1,e2] [] pos) (IV mr):=PI.of (GR hg hm ha hs hpl) fun Z H Q ⟨U,h,Zw,Rw,R,S,m,k⟩=>by
 refine ⟨U,h,Zw,_,R,S,m,fun vs H1 ⟨U1,ws,h1,e1,R1,r1,m1⟩=>?_⟩;split at m1
 ·split at m1
  ·rename_i x y _ s es;obtain ⟨as,bs,n,rfl,ea,ey,ec⟩:=abM es;obtain ⟨v,u,ev,rv,ru⟩:=zK r1;obtain ⟨ka,a,e3,fa⟩:=rB rv ea;obtain ⟨kb,b,e4,fb⟩:=Aa (ws:=bs) (o:=Dn (n,bs)) R1 ru (.inr ⟨n,ey,ec,rfl⟩);obtain ⟨xs,hxs,_⟩:=fa .refl;obtain ⟨ys,hys,_⟩:=fb .refl R1 (show h1.c n=Dn (.lst bs) from ec);refine ⟨v,u,ka,kb,a,b,ev,⟨e3,xs,hxs⟩,⟨e4,ys,hys⟩,k _ _ ⟨U1,⟨jU as bs,Dn (n,bs)⟩,h1,e1,R1,?_,m1⟩⟩;intro H2 U2 h2 i e2 R2 ck;obtain ⟨xs2,hxs2,rxs⟩:=fa e2;obtain ⟨ys2,hys2,rys⟩:=fb e2 R2 ck;refine ⟨fun w ew=>?_,fun hl=>⟨xs2,ys2,hxs2,hys2,?_⟩⟩
   ·obtain ⟨p1,p2,ep1,ep2,rfl⟩:=kJ ew;obtain ⟨q1,eq1,rq1⟩:=rxs.get ep1;obtain ⟨q2,eq2,rq2⟩:=rys.get ep2;refine ⟨⟨xs2,ys2,q1,q2,hxs2,hys2,eq1,eq2⟩,fun x' H3 ⟨pa,x1,x2,hp,ex',eH3,f1,f2⟩=>?_⟩;have g1:=f1 xs2 hxs2;have g2:=f2 ys2 hys2;rw [eq1] at g1;rw [eq2] at g2;cases g1;cases g2;subst ex' eH3;exact ⟨U2,(Ex.laid hp).ext,R2.laid hp,.tupNew hp<|.cons rq1<|.one rq2⟩
   ·have l1:=rxs.len;have l2:=rys.len;have:min as.length bs.length<=i:=by rw [<-lG];exact hl
    lia
  ·exact m1.elim
 ·exact m1.elim
end
section
variable {X:Cx}
end
section
variable {prog:YF}{w:Zb}{A:YW}{E:Ye->Yj->Prop}{s:Yj}
end
section
variable {X:Cx}{K:Yc}
end
section
variable {prog:YF}{w:Zb}{A:YW}{E:Ye->Yj->Prop}{s:Yj}{r l:Addr}{items:Array Ye}
end
section
variable {X:Cx}
end
section
variable {P:YF}{w:Zb}{A:YW}{E:Ye->Yj->Prop}{s:Yj}
end
section
variable {X:Cx}{K:Yc}
def Xm {β : Type}(kvs:List (Key×β))(ks:List Int):Prop:=kvs.map (·.1)=ks.map Sum.inl
def zal:MC:=fun ws h Q=>match ws with
 | [.loc n]=>(match h.c n with
  | some (.dct kvs)=>∃ ks:List Int,Xm kvs ks/\∀ js:List Int,js.Perm ks->js.Pairwise (· < ·)->Q (.lst (js.map .int)) h
  | _=>False)
 | _=>False
end
section
variable {X:Cx}{o e1 e2:Expr}{mo:ME}{ma:MA}{apos cpos:Pos}
def J2:MM:=fun x ws h Q=>match x,ws with
 | .loc n,[y,z]=>(match h.c n,Ou y with
  | some (.dct kvs),Dn k=>Q ((nY kvs k).getD z) h
  | _,_=>False)
 | _,_=>False
def QW (h:Gh)(x:W)(P:Prop):Prop:=match x with
 | .loc n=>(match h.c n with
  | some (.dct _)=>P
  | _=>False)
 | _=>False
def Wh (r:MM)(mo:ME)(ma:MA):ME:=fun Z h Q=>mo Z h fun x h1=>QW h1 x (ma Z h1 fun xs h2=>r x xs h2 Q)
theorem xP {K:Yc}{H:Hp}{U : Mu}{k:Key}:∀ {kvs:List (Key×W)} {kvv:List (Key×V)},m6 K H U kvs kvv->(∀ w,nY kvs k=Dn w->∃ v,Dd kvv k=Dn v/\FX K H U w v)/\(nY kvs k=FN->Dd kvv k=FN)
 | [],_,.nil=>⟨fun w e=>by simp [nY] at e,fun _=>rfl⟩
 | x::kvs,y::_,.cons r t=>by
  obtain ⟨i1,i2⟩:=xP (k:=k) t;unfold nY Dd at *;rw [J3,J3];by_cases c:x.1=k
  ·have c2:y.1=k:=r.1.symm.trans c;rw [decide_eq_true c];simp only [c2,decide_true];exact ⟨fun w e=>by cases e;exact ⟨_,rfl,r.2⟩,fun e=>by cases e⟩
  ·have c2:¬ y.1=k:=fun e=>c (r.1.trans e)
   rw [decide_eq_false c];simp only [c2,decide_false];exact ⟨i1,i2⟩
theorem Hi (hu:X.A.units+30<Bj)(ho:DE X o mo)(ha:Bo X [e1,e2] ma)
  (hbase:JB o "get" X.env (eval o X.env)=eval o X.env:=by rfl)
  (hfew:((Am cpos (YG [e1,e2] X.env)).all (fun x=>!x.1)&&(backToKw cpos (JF [] X.env)).all (fun x=>x.1.isSome)
   && decide (([e1,e2]:List Expr).length+([]:List Dq).length+(if ([]:List Dq).isEmpty then 0 else 1)<30))=true:=by rfl)
  (hline:(apos.endLine==cpos.line)=true:=by rfl) (hst:YG [e1,e2] X.env=(false,eval e1 X.env)::YG [e2] X.env:=by rfl) (hplain:(Am cpos (YG [e2] X.env)).any (·.1)=false:=by rfl) :
  DE X (.Call (.Attribute o "get" apos) [e1,e2] [] cpos) (Wh J2 mo ma):=by
 intro pins s Z H Q I ⟨U,h,Zw,Qw,R,S,m,k⟩;refine wpAny_Call_method_late hbase hfew hline rfl<|X6 (ho pins s Z H _ I ⟨U,h,Zw,_,R,S,m,fun _ _ z=>z⟩) fun u s1 ⟨x,H1,I1,rx,U1,wx,h1,e1',R1,r1,il⟩=>?_
 unfold QW at il;split at il
 ·rename_i n;split at il
  ·rename_i kv0 ec0;have r0:=r1;rw [FX] at r1;obtain ⟨a,rfl,ha'⟩:=r1;obtain rfl:u=Value.ref a:=rx;obtain ⟨p,kvv,hp,hx,_⟩:=R1.dctAt ec0;have ep:p=a:=by rw [ha'] at hp;exact (Yp hp).symm
   subst ep;obtain ⟨z,y,vs0,VD,dd0⟩:=Ja I1.hok hx;obtain ⟨ob,es,epo,g1,g2,_⟩:=id dd0;refine ⟨"dict", "dict.get",PySem.F.plainAttrs_dict,PySem.F.slot_dict_get,PySem.F.type_dict_get,⟨ob,g1,g2.1⟩,fun b e=>by cases e;exact ⟨ob,g1,g2.2.1⟩,?_⟩;have hA:=ha cpos pins s1 Z H1 _ I1 ⟨U1,h1,Zw,_,R1,S.ext e1',il,fun _ _ z=>z⟩;rw [hst] at hA |-
   refine Ky (by show (false||(Am cpos<|YG [e2] X.env).any (·.1))=false;rw [hplain] <;> rfl)<|Calls.evalArgs_plain ?_
   refine X6 hA fun us s2 ⟨ys,H2,I2,r2,U2,ws,h2,e2',R2,rs,m2⟩=>?_;unfold J2 at m2;split at m2
   ·rename_i n' y' z' e3;cases e3;split at m2
    ·rename_i kvs kk ec ek;obtain ⟨v1,v2,rfl,ry,rz⟩:=zK rs;have ev1:=wY ry ek;subst ev1;obtain ⟨u1,u2,rfl,ru1,ru2⟩:=vals2 r2;obtain ⟨p2,kvv2,hp2,hx2,rf2⟩:=R2.dctAt ec;have r0':=e2'.r _ _ r0;rw [FX] at r0';obtain ⟨a2,ea,ha2⟩:=r0';cases ea;have ep2:p2=p:=by rw [ha2] at hp2;exact (Yp hp2).symm
     subst ep2;obtain ⟨z2,hd2,vs2,rel2,dd⟩:=Ja I2.hok hx2;obtain ⟨t1,t2⟩:=xP (k:=kk) rf2;refine call_meetsIn PySem.F.slot_dict_get dd.typeIs PySem.F.entry_dict_get (PySem.F.args_dict_get_3 _ _ _) (meets_dict_get_default (cJ X.prog X.w) p2 (Gi ru1) hd2 u2) ⟨_,dd.mapOf,?_⟩;have hv:=(rel2.val kk).getD ru2;cases ev:nY kvs kk with
     | some wv=>
      rw [ev] at m2;obtain ⟨v,a1,a3⟩:=t1 wv ev;rw [a1] at hv;exact ⟨v,H2,I2.tok _,hv,k _ _ ⟨U2,wv,h2,e1'.trans e2',R2,a3,m2⟩⟩
     | none=>
      rw [ev] at m2;rw [t2 ev] at hv;exact ⟨v2,H2,I2.tok _,hv,k _ _ ⟨U2,z',h2,e1'.trans e2',R2,rz,m2⟩⟩
    ·exact m2.elim
   ·exact m2.elim
  ·exact il.elim
 ·exact il.elim
end
section
variable {prog:YF}{w:Zb}{A:YW}{R:Result->Yj->Prop}{E:Ye->Yj->Prop}{L I:Addr}{ns:List Int}{its:List Ye}
end
section
variable {X:Cx}
end
section
variable {X:Cx}{a b o i:Expr}{ma mb:ME}{td ty:TE}{pos:Pos}
end
section
variable {P:YF}{w:Zb}{A:YW}{E:Ye->Yj->Prop}{s:Yj}
end
section
variable {X:Cx}
end
def zbr (P:YF)(w:Zb)(K:Yc)(mg:Str->Option Ye)(base:Heap)(k:Nat)(x:Str)(ms:VR):Prop:=∃ f fd ps,eO P w K mg base kI k f fd ps (lift K ms)/\mg x=Dn (.ref f)/\Fx K (.ref f)=true/\Binds K fd ps []
def At (K:Yc)(mg:Str->Option Ye)(x:Str)(st:Stmt)(ps:List Str):Prop:=∃ f fd,Ai K x x st f fd/\mg x=Dn (.ref f)/\Binds K fd ps []
section
variable {X:Cx}{e e2 e3 e4:Expr}{es:List Expr}{mr:MA}{ma mb mc md:ME}{pos:Pos}{k:Nat}{zl:List Str}{x:Str}{p:Pos}
theorem aC (h1:DE X e ma)(h2:Bo X es mr)(s:X8 e=false:=by with_unfolding_all rfl):Bo X (e::es) (au ma mr):=ak h1 h2 (aj s)
theorem a1 (h1:DE X e ma)(s:X8 e=false:=by with_unfolding_all rfl):Bo X [e] (au ma aO):=aC h1 aq s
theorem a2 (h1:DE X e ma)(h2:DE X e2 mb)(s1:X8 e=false:=by with_unfolding_all rfl)(s2:X8 e2=false:=by with_unfolding_all rfl):Bo X [e,e2] (au ma (au mb aO)):=aC h1 (a1 h2 s2) s1
theorem a3 (h1:DE X e ma)(h2:DE X e2 mb)(h3:DE X e3 mc)(s1:X8 e=false:=by with_unfolding_all rfl)(s2:X8 e2=false:=by with_unfolding_all rfl)(s3:X8 e3=false:=by with_unfolding_all rfl):Bo X [e,e2,e3] (au ma (au mb (au mc aO))):=aC h1 (a2 h2 h3 s2 s3) s1
theorem dct {T:String}{mc:MC}(hc:pB X (.type T) mc)(hv:J9 x=Dn (.type T))(ha:Bo X (e::es) mr)(z:∀ n∈zl,X.mg n=FN:=by with_unfolding_all assumption)(hz:x∈zl:=by decide)(hg:Gl X x:=by with_unfolding_all rfl)(hn:x ≠ "__name__":=by decide)(hdb:(x==("__debug__" : Str))=false:=by decide)
  (h1:X8 e=false:=by with_unfolding_all rfl) (h2:noStar es=true:=by with_unfolding_all rfl):DE X (.Call (.Name x p) (e::es) [] pos) (X7 mc mr):=nu hc hg (z _ hz) hv ha hn hdb (aj h1) (aB h2)
theorem qq (hr:mz k X.A:=by with_unfolding_all assumption):X.A.units+30<Bj:=jC hr
theorem hh (hc:X.calm=true:=by with_unfolding_all assumption):X.calm=true:=hc
end
section
variable {X:Cx}{e:Expr}{ma:ME}
end
section
variable {X:Cx}{o e1:Expr}{mo:ME}{ma:MA}{apos cpos:Pos}
end
section
variable {X:Cx}
end
section
variable {prog:YF}{w:Zb}{A:YW}{E:Ye->Yj->Prop}{s:Yj}
end
section
variable {X:Cx}{K:Yc}
end
section
variable {X:Cx}{Γ : St->Prop}{c:Expr}{t:MT}
end
theorem DQ.str {K:Yc}{H:Hp}{U : Mu}{h:Gh}{x:Str}{Q:WK}(R:Wo K U H h)(q:Q (.str x) h):DQ K H U Q (.str x) H:=⟨U,.str x,h,.refl,R,by rw [FX],q⟩
section
variable {X:Cx}
theorem Lr:Ay X (Cq .Add) (fun x y H Q=>∃ a b,x=.str a/\y=.str b/\a.length+b.length<=YQ/\Q (.str (a++b)) H):=by
 intro pins s Z H x y v u Q I rx ry ⟨a,b,ex,ey,hz,q⟩;subst ex ey;obtain ⟨t,rfl⟩:=rx;obtain ⟨t',rfl⟩:=ry;exact add_str (fun t' tk=>⟨.str<|a++b,H,I.tok _,⟨_,rfl⟩,q⟩) hz
def jc:M2:=fun x y h Q=>match x,y with
 | .str a,.str b=>a.length+b.length<=YQ/\Q (.str (a++b)) h
 | x,y=>fj x y h Q
theorem gG:Bl X (Cq .Add) jc:=by
 obtain ⟨r,hr,sr⟩:=fL (X:=X);refine ⟨_,Lr.or hr,?_⟩;intro H U h x y wx wy Qw Q R rx ry m k;unfold jc at m;split at m
 ·rw [FX] at rx ry;exact .inl ⟨_,_,rx,ry,m.1,k _ _<|.str R m.2⟩
 ·exact .inr<|sr R rx ry m k
theorem RB:Ay X (Zv .In) (fun x y H Q=>∃ a b,x=.str a/\y=.str b/\Q (.bl (JQ b a)) H):=by
 intro pins s Z H x y v u Q I rx ry ⟨a,b,ex,ey,q⟩;subst ex ey;obtain ⟨t,rfl⟩:=rx;obtain ⟨t',rfl⟩:=ry;exact SB.contains ⟨.bl _,H,I,rfl,q⟩
def Sd:M2:=fun x y h Q=>match x,y with
 | .str a,.str b=>Q (.bl (JQ b a)) h
 | _,_=>False
theorem Tg:Bl X (Zv .In) Sd:=by
 refine ⟨_,RB,?_⟩;intro H U h x y wx wy Qw Q R rx ry m k;unfold Sd at m;split at m
 ·rw [FX] at rx ry;exact ⟨_,_,rx,ry,k _ _<|.bl R m⟩
 ·exact m.elim
theorem yC:jh X (.builtin "len") (fun xs H Q=>∃ x:Str,xs=[.str x]/\x.length<=YQ/\Q (.int (x.length:Int)) H):=by
 intro pins s Z H xs us Q I r ⟨x,e,hz,q⟩;subst e;obtain ⟨u,rfl,t,rfl⟩:=vals1 r;have hn:=oF;exact len_str (by lia) ⟨.int _,H,I.tok _,⟨_,rfl⟩,q⟩
def Cr:MC:=fun ws h Q=>match ws with
 | [.str x]=>x.length<=YQ/\Q (.int (x.length:Int)) h
 | ws=>X3 ws h Q
theorem Im:pB X (.builtin "len") Cr:=by
 obtain ⟨r,hr,sr⟩:=cg (X:=X);refine ⟨_,yC.or hr,?_⟩;intro H U h vs ws Qw Q R r' m k;unfold Cr at m;split at m
 ·obtain ⟨v,e,rv⟩:=jY r';rw [FX] at rv;subst e rv;exact .inl ⟨_,rfl,m.1,k _ _<|.int R m.2⟩
 ·exact .inr<|sr R r' m k
def isStr (w:W)(P:Prop):Prop:=match w with
 | .str _=>P
 | _=>False
def G4 (r:MM)(mo:ME)(ma:MA):ME:=fun Z h Q=>mo Z h fun x h1=>isStr x (ma Z h1 fun xs h2=>r x xs h2 Q)
variable {o e:Expr}{es:List Expr}{mo:ME}{ma:MA}{name:Str}{apos cpos:Pos}{id:String}{r:V->List V->Hp->VK->Prop}{mr:MM}
theorem CW (slot:Slot "str" name id)(hty:typeOf (.builtin id)=pure (.type "method_descriptor"))(hm:Dv X id r)(hs:Gb X.K r mr)(ho:DE X o mo)(ha:Bo X (e::es) ma)
  (hbase:JB o name X.env (eval o X.env)=eval o X.env:=by rfl)
  (hfew:((Am cpos (YG (e::es) X.env)).all (fun x=>!x.1)&&(backToKw cpos (JF [] X.env)).all (fun x=>x.1.isSome)
   && decide ((e::es).length+([]:List Dq).length+(if ([]:List Dq).isEmpty then 0 else 1)<30))=true:=by rfl)
  (hline:(apos.endLine==cpos.line)=true:=by rfl) (hst:YG (e::es) X.env=(false,eval e X.env)::YG es X.env:=by rfl) (hplain:(Am cpos (YG es X.env)).any (·.1)=false:=by rfl) :
  DE X (.Call (.Attribute o name apos) (e::es) [] cpos) (G4 mr mo ma):=by
 intro pins s Z H Q I ⟨U,h,Zw,Qw,R,S,m,k⟩;refine wpAny_Call_method_late hbase hfew hline rfl<|X6 (ho pins s Z H _ I ⟨U,h,Zw,_,R,S,m,fun _ _ z=>z⟩) fun u s1 ⟨x,H1,I1,rx,U1,wx,h1,e1',R1,r1,il⟩=>?_
 unfold isStr at il;split at il
 ·rename_i y;have r0:=r1;rw [FX] at r1;subst r1;obtain ⟨t,rfl⟩:=rx;refine ⟨"str",id,PySem.F.plainAttrs_str,slot,hty,Jc _ _ _,fun b e=>(by cases e),?_⟩;have hA:=ha cpos pins s1 Z H1 _ I1 ⟨U1,h1,Zw,_,R1,S.ext e1',il,fun _ _ z=>z⟩;rw [hst] at hA |-
  refine Ky (by show (false||(Am cpos<|YG es X.env).any (·.1))=false;rw [hplain] <;> rfl)<|Calls.evalArgs_plain ?_
  refine X6 hA fun us s2 ⟨ys,H2,I2,r2,U2,ws,h2,e2',R2,rs,m2⟩=>?_;exact hm pins s2 Z H2 (.str y) ys _ us Q I2 ⟨t,rfl⟩ r2<|hs R2 (e2'.r _ _ r0) rs m2 fun v H' z=>k _ _<|(z.trans e2').trans e1'
 ·exact il.elim
end
section
variable {X:Cx}{e:Expr}{es:List Expr}{mr:MA}{pos p:Pos}{k j:Nat}{x y:Str}{ms:VR}{f:Addr}{fs:List (Addr×VR)}
end
theorem dc0 {X:Cx}{pos p:Pos}{k j:Nat}{x:Str}{ms:VR}(F:zbr X.prog X.w X.K X.mg X.base j x ms)(hr:mz k X.A:=by with_unfolding_all assumption)(hk:j<=k:=by decide)(hg:Gl X x:=by with_unfolding_all rfl)(hdb:(x==("__debug__" : Str))=false:=by decide):DE X (.Call (.Name x p) [] [] pos) (bM ms EF aO):=by
 obtain ⟨f,fd,ps,a,b,c,d⟩:=F;exact aaE (a.mono hk) hr hg b c d hdb
theorem tY:∀ (xs:List Str) (t:Nat),VL (xs.map V.str) (strsFrom t xs)
 | [],_=>.nil
 | _::xs,t=>.cons ⟨_,rfl⟩ (tY xs (t+1))
section
variable {X:Cx}
theorem xX:Dv X "str.split" (fun x xs H Q=>∃ a b,x=.str a/\xs=[.str b]/\(b.length==0)=false/\a.length<=YQ/\(ZK a b).length<=YQ/\∀ p,H p=FN->Q (.ref p) (X5 H p (.lst ((ZK a b).map .str)))):=by
 intro pins s Z H x xs v us Q I rx r ⟨a,b,ex,ey,hb,ha,hz,q⟩;subst ex ey;obtain ⟨t,rfl⟩:=rx;obtain ⟨u,rfl,t',rfl⟩:=vals1 r;unfold ZK at hz q;by_cases c1:(decide (a.length<b.length)||decide (Ku a<Ku b))=true
 ·rw [if_pos c1] at hz q;refine JX F.slot_str_split (Jc _ _ _) F.entry_str_split (F.args_str_split_2 _ _) (meets_str_split_cannot_occur a b t t' c1) ?_;exact ⟨.ref s.heap.objs.size,_,I.laid (t':=s.toks) (o:=.lst [.str a]) (fun b ob q=>Yh _ q) (Ym _) ⟨hz,_,0,.cons ⟨t,rfl⟩ .nil,YC _ rfl⟩,rfl,q _<|I.hok.fresh<|Ym _⟩
 ·have c1':(decide (a.length<b.length)||decide (Ku a<Ku b))=false:=Bool.eq_false_iff.mpr c1;rw [if_neg c1] at hz q;by_cases c2:(Builtin.Str.occurrences a b 0 a.length (a.length+1)).isEmpty=true
  ·rw [if_pos c2] at hz q;refine JX F.slot_str_split (Jc _ _ _) F.entry_str_split (F.args_str_split_2 _ _) (meets_str_split_not_found a b t t' c1' hb c2) ?_;exact ⟨.ref s.heap.objs.size,_,I.laid (t':=s.toks) (o:=.lst [.str a]) (fun b ob q=>Yh _ q) (Ym _) ⟨hz,_,0,.cons ⟨t,rfl⟩ .nil,YC _ rfl⟩,rfl,q _<|I.hok.fresh<|Ym _⟩
  ·rw [if_neg c2] at hz q;refine JX F.slot_str_split (Jc _ _ _) F.entry_str_split (F.args_str_split_2 _ _) (meets_str_split_sep a b t t' c1' hb (Bool.eq_false_iff.mpr c2) ha hz) ?_;exact ⟨.ref s.heap.objs.size,_,I.laid (o:=.lst ((Builtin.Str.partsBetween a (Builtin.Str.occurrences a b 0 a.length<|a.length+1) b.length).map .str)) (fun b ob q=>Yh _ q) (Ym _) ⟨by rw [Yd];exact hz,_,0,tY _ _,YC _ rfl⟩,rfl,q _<|I.hok.fresh<|Ym _⟩
end
theorem uH {K:Yc}{H:Hp}{U : Mu}:∀ xs:List Str,aP K H U (xs.map W.str) (xs.map V.str)
 | []=>by rw [List.map_nil,aP];rfl
 | x::xs=>by
  rw [ZM,aP];exact ⟨_,_,rfl,by rw [FX],uH xs⟩
def ud:MM:=fun x ws h Q=>match x,ws with
 | .str a,[.str b]=>(b.length==0)=false/\a.length<=YQ/\(ZK a b).length<=YQ/\Q (.lst ((ZK a b).map .str)) h
 | _,_=>False
theorem s_split {K:Yc}:Gb K (fun x xs H Q=>∃ a b,x=.str a/\xs=[.str b]/\(b.length==0)=false/\a.length<=YQ/\(ZK a b).length<=YQ/\∀ p,H p=FN->Q (.ref p) (X5 H p (.lst ((ZK a b).map .str)))) ud:=by
 intro H U h x vs wx ws Qw Q R rx rs m k;unfold ud at m;split at m
 ·obtain ⟨v,e,rv⟩:=jY rs;rw [FX] at rx rv;subst e rv rx;exact ⟨_,_,rfl,rfl,m.1,m.2.1,m.2.2.1,fun p hp=>k _ _ ⟨U,_,h,(Ex.laid hp).ext,R.laid hp,.lstNew R hp<|uH _,m.2.2.2⟩⟩
 ·exact m.elim
section
variable {X:Cx}
def zar:MC:=fun ws h Q=>match ws with
 | [.int i]=>i.natAbs.log2<1920/\Q (.str (toString i)) h
 | _=>False
def zaj:MC:=fun ws h Q=>match ws with
 | [.str x]=>x.length<=640/\(match intText? x with
  | some n=>Q (.int n) h
  | none=>False)
 | ws=>Wa ws h Q
theorem wN:∀ {ys:List Str} {us:List Ye},VL (ys.map V.str) us->StrsAre us ys
 | [],[],_=>.nil
 | y::ys,u::us,.cons e r=>by
  obtain ⟨t,rfl⟩:=e;exact .cons y t<|wN r
theorem vG:Dv X "str.join" (fun x xs H Q=>∃ (a:Str) (p:Addr) (ys:List Str),x=.str a/\xs=[.ref p]/\XS X.K H p (ys.map V.str)/\(ys.map fun x=>x.length).sum+ys.length*a.length<=16777216/\Q (.str (Ze a ys)) H):=by
 intro pins s Z H x xs v us Q I rx r ⟨a,p,ys,ex,ey,hl,hz,q⟩;subst ex ey;obtain ⟨t,rfl⟩:=rx;obtain ⟨u,rfl,ru⟩:=vals1 r;cases ru;obtain ⟨its,r',pl,_⟩:=I.list hl;exact join_list pl.isList (by rw [List.toList_toArray];exact wN r') hz fun t' k=>⟨.str _,H,I.tok _,⟨_,rfl⟩,q⟩
def vh:List W->Option (List Str)
 | []=>Dn []
 | .str x::ws=>(vh ws).map (x::·)
 | _=>FN
theorem yd {K:Yc}{H:Hp}{U : Mu}:∀ {ws:List W} {xs:List V} {ys:List Str},aP K H U ws xs->vh ws=Dn ys->xs=ys.map V.str
 | [],xs,ys,r,e=>by
  rw [aP] at r;cases e;exact r
 | w::ws,xs,ys,r,e=>by
  rw [aP] at r;obtain ⟨v,vs,rfl,r1,r2⟩:=r;cases w with
  | str x=>
   rw [vh] at e;obtain ⟨zs,ez,rfl⟩:=Yy.mp e;rw [FX] at r1;rw [r1,yd r2 ez];rfl
  | _=>cases e
def vC:MM:=fun x ws h Q=>match x,ws with
 | .str a,[w]=>(match cC h w with
  | some us=>(match vh us with
   | some ys=>(ys.map fun x=>x.length).sum+ys.length*a.length<=16777216/\Q (.str (Ze a ys)) h
   | none=>False)
  | none=>False)
 | _,_=>False
theorem Bv {K:Yc}:Gb K (fun x xs H Q=>∃ (a:Str) (p:Addr) (ys:List Str),x=.str a/\xs=[.ref p]/\XS K H p (ys.map V.str)/\(ys.map fun x=>x.length).sum+ys.length*a.length<=16777216/\Q (.str (Ze a ys)) H) vC:=by
 intro H U h x vs wx ws Qw Q R rx rs m k;unfold vC at m;split at m
 ·obtain ⟨v,e,rv⟩:=jY rs;subst e;split at m
  ·rename_i us ev;split at m
   ·rename_i ys ey;obtain ⟨p,xs,ex,hs,rr⟩:=cB R rv ev;rw [FX] at rx;rw [yd rr ey] at hs;exact ⟨_,p,ys,rx,by rw [ex],hs,m.1,k _ _<|.str R m.2⟩
   ·exact m.elim
  ·exact m.elim
 ·exact m.elim
theorem part_of {v:Ye}{o:Option Int}(h:IsPart v o):∃ l:Option (Int×Tok),partValue l=v/\l.map (fun x=>x.1)=o:=by
 cases h with
 | none=>exact ⟨FN,rfl,rfl⟩
 | int i t=>exact ⟨Dn (i,t),rfl,rfl⟩
theorem Qy:Ez X (fun x lo hi H Q=>∃ a,x=.str a/\(Jg a lo hi).length<=YQ/\Q (.str (Jg a lo hi)) H):=by
 intro pins s Z H x v vl vu lo hi sl Q I rx hs pl pu ⟨a,ex,hz,q⟩;subst ex;obtain ⟨t,rfl⟩:=rx;obtain ⟨l,rfl,rfl⟩:=part_of pl;obtain ⟨u,rfl,rfl⟩:=part_of pu;refine ⟨"str",_,PySem.F.slot_str_getitem.lookup,Jc _ _ _,?_⟩;refine wpAny_getItem_str_slice (l:=l) (u:=u) (st:=FN) hs (by decide) ?_;unfold sliceMade;unfold Jg at q hz;split at q
 ·rename_i c;rw [if_pos (show ((Option.getD ((FN:Option (Int×Tok)).map fun x=>x.1) 1==1)&&(slicePicked a l u FN).length==a.length)=true from c)];exact ⟨.str a,H,I,⟨_,rfl⟩,q⟩
 ·rename_i c;rw [if_neg (show ¬ ((Option.getD ((FN:Option (Int×Tok)).map fun x=>x.1) 1==1)&&(slicePicked a l u FN).length==a.length)=true from c)];rw [if_neg c] at hz;exact ⟨hz,.str _,H,I.tok _,⟨_,rfl⟩,q⟩
def M6 (x:W)(lo hi:Option Int)(h:Gh)(Q:WK):Prop:=match x with
 | .str a=>(Jg a lo hi).length<=YQ/\Q (.str (Jg a lo hi)) h
 | _=>False
theorem Rj {e:Expr}{lo hi:Option Expr}{ma:ME}{ml mh:MO}{p2 pos:Pos}(he:DE X e ma)(hl:DO X lo ml)(hu:DO X hi mh):DE X (.Subscript e (.Slice lo hi FN p2) pos) (DW M6 ma ml mh):=
 (xU Qy he hl hu).of fun Z H Q ⟨U,h,Zw,Qw,R,S,m,k⟩=>by
  refine ⟨U,h,Zw,_,R,S,m,fun x H1 ⟨U1,wx,h1,e1,R1,r1,m1⟩=>?_⟩;refine ⟨U1,h1,Zw,_,R1,S.ext e1,m1,fun lo H2 ⟨U2,h2,e2,R2,m2⟩=>?_⟩;refine ⟨U2,h2,Zw,_,R2,(S.ext e1).ext e2,m2,fun hi H3 ⟨U3,h3,e3,R3,m3⟩=>?_⟩;have e13:=(e1.trans e2).trans e3;have r3:=e3.r _ _ (e2.r _ _ r1);unfold M6 at m3;split at m3
  ·rw [FX] at r3;exact ⟨_,r3,m3.1,k _ _ ⟨U3,_,h3,e13,R3,by rw [FX],m3.2⟩⟩
  ·exact m3.elim
end
def Its (x:Str):It:=⟨fun i _=>i<x.cps.size,fun i H v H'=>H'=H/\∃ c,x.cps[i]?=Dn c/\v=.str ⟨#[c]⟩,fun i _=>x.cps.size<=i,true⟩
theorem zaM {P:YF}{w:Zb}{K:Yc}{tg:Expr}(x:Str)(t:Tok)(it:Addr):Turn P w K tg (Its x) [it] it (fun i h=>h.IsStrIter it "str_ascii_iterator" x t i) where
 mem:=by simp
 obj:=fun i h st b hb=>by
  have e:b=it:=by simpa using hb
  subst e;obtain ⟨o,e,c,d⟩:=st;exact ⟨o,e,fun v z=>by rw [d] at z;cases z⟩
 keep:=fun i h h' st k=>let ⟨o,ho,r⟩:=st;⟨o,k it (by simp) o ho,r⟩
 item:=by
  intro X hP hw hK hc i pins s Z H E I hf st hg;subst hP hw hK;have hg:i<x.cps.size:=hg;obtain ⟨f0,f1,f2,f3,f4,f5⟩:=hf it (by simp);refine wpAny_pyNext_ascii_item st (c:=x.cps[i]) (by simp [hg]) fun h' st' sb=>?_;have I1:Go X pins Z H { s with heap:=h',toks:=s.toks+1 }:=I.turned (t':=s.toks+1) (fun b o hb e=>(sb.2 b hb).trans e) f0 f1 f3 f4 f5;obtain ⟨o,e,c,d⟩:=id st';exact ⟨_,rfl,Bt (s:={ s with heap:=h',toks:=s.toks+1 }) e c d (by decide) ⟨.str ⟨#[x.cps[i]]⟩,H,I1,⟨_,rfl⟩,⟨rfl,_,by simp [hg],rfl⟩,st',fun b hb=>(hf b hb).1⟩⟩
 done:=by
  intro X hP hw hK hc i pins s Z H E I hf st hg;subst hP hw hK;have hg:x.cps.size<=i:=hg;obtain ⟨f0,f1,f2,f3,f4,f5⟩:=hf it (by simp);exact wpAny_pyNext_ascii_end (I.ok.hd<|hc rfl) st (by simp [hg]) fun h' eb=>⟨rfl,I.turned (t':=s.toks) (fun b o hb e=>eb b o hb e) f0 f1 f3 f4 f5⟩
 self:=fun _ _ _ _ _ st h=>wpAny_pyIter_striter_ascii st h
theorem zaJ {P:YF}{w:Zb}{K:Yc}{tg:Expr}(x:Str)(t:Tok)(it:Addr):Turn P w K tg (Its x) [it] it (fun i h=>h.IsStrIter it "str_iterator" x t i) where
 mem:=by simp
 obj:=fun i h st b hb=>by
  have e:b=it:=by simpa using hb
  subst e;obtain ⟨o,e,c,d⟩:=st;exact ⟨o,e,fun v z=>by rw [d] at z;cases z⟩
 keep:=fun i h h' st k=>let ⟨o,ho,r⟩:=st;⟨o,k it (by simp) o ho,r⟩
 item:=by
  intro X hP hw hK hc i pins s Z H E I hf st hg;subst hP hw hK;have hg:i<x.cps.size:=hg;obtain ⟨f0,f1,f2,f3,f4,f5⟩:=hf it (by simp);refine wpAny_pyNext_wide_item st (c:=x.cps[i]) (by simp [hg]) fun h' st' sb=>?_;have I1:Go X pins Z H { s with heap:=h',toks:=s.toks+1 }:=I.turned (t':=s.toks+1) (fun b o hb e=>(sb.2 b hb).trans e) f0 f1 f3 f4 f5;obtain ⟨o,e,c,d⟩:=id st';exact ⟨_,rfl,Bt (s:={ s with heap:=h',toks:=s.toks+1 }) e c d (by decide) ⟨.str ⟨#[x.cps[i]]⟩,H,I1,⟨_,rfl⟩,⟨rfl,_,by simp [hg],rfl⟩,st',fun b hb=>(hf b hb).1⟩⟩
 done:=by
  intro X hP hw hK hc i pins s Z H E I hf st hg;subst hP hw hK;have hg:x.cps.size<=i:=hg;obtain ⟨f0,f1,f2,f3,f4,f5⟩:=hf it (by simp);exact wpAny_pyNext_wide_end (I.ok.hd<|hc rfl) st (by simp [hg]) fun h' eb=>⟨rfl,I.turned (t':=s.toks) (fun b o hb e=>eb b o hb e) f0 f1 f3 f4 f5⟩
 self:=fun _ _ _ _ _ st h=>wpAny_pyIter_striter_wide st h
section
variable {X:Cx}{tg:Expr}{ma:ME}
def WW (tl:TE):TI:=fun Z H R=>tl Z H fun v H1=>∃ x,v=.str x/\R (Its x) H1
theorem QG {l:Expr}{tl:TE}(hl:PE X l tl):PI X tg l (WW tl):=by
 intro pins s Z H R I h;refine X6 (hl pins s Z H _ I h) fun v s1 ⟨y,H1,I1,r1,q1⟩=>?_;obtain ⟨x,e,q⟩:=q1;subst e;obtain ⟨t,rfl⟩:=r1;have fp:∀ b∈[s1.heap.objs.size],wW X pins H1 b:=fun b hb=>by
  have e:b=s1.heap.objs.size:=by simpa using hb
  subst e;exact I1.fpOk (Ym _)<|I1.hok.fresh<|Ym _
 cases ha:x.cps.all (· < 128)
 ·refine wpAny_pyIter_wide ha ?_;exact ⟨s1.heap.objs.size,[s1.heap.objs.size],_,_,H1,rfl,I1.kept (t':=s1.toks) fun b o e=>Yh _ e,zaJ x t _,⟨_,YC _ rfl,rfl,rfl⟩,fp,q⟩
 ·refine wpAny_pyIter_ascii ha ?_;exact ⟨s1.heap.objs.size,[s1.heap.objs.size],_,_,H1,rfl,I1.kept (t':=s1.toks) fun b o e=>Yh _ e,zaM x t _,⟨_,YC _ rfl,rfl,rfl⟩,fp,q⟩
def signs (x:Str):List W:=x.cps.toList.map fun c=>.str ⟨#[c]⟩
def Ss (m:ME):MI:=fun Z h R=>m Z h fun w h1=>match w with
 | .str x=>R ⟨signs x,FN⟩ h1
 | _=>False
theorem aav {K:Yc}{H:Hp}{U : Mu}(x:Str):LR K (Its x) ⟨signs x,FN⟩ H U:=by
 intro H2 U2 h2 i e R2 _;have hl:(signs x).length=x.cps.size:=by simp [signs]
 refine ⟨fun w ew=>⟨?_,fun v H3 ⟨e3,c,ec,ev⟩=>?_⟩,fun q=>?_⟩
 ·have:i<(signs x).length:=(Yn.mp ew).1
  show i<x.cps.size;rw [<-hl];exact this
 ·subst e3 ev;refine ⟨U2,.refl,R2,?_⟩;have:Dn (W.str ⟨#[c]⟩)=Dn w:=by
   rw [<-ew];show _=(List.map _ _)[i]?;rw [Yo,Array.getElem?_toList,ec];rfl
  cases this;rw [FX]
 ·show x.cps.size<=i;rw [<-hl];exact q
theorem Ry {l:Expr}(hl:DE X l ma):Fj X tg l (Ss ma):=PI.of (QG hl) fun Z H Q ⟨U,h,Zw,Rw,R,S,m,k⟩=>by
 refine ⟨U,h,Zw,_,R,S,m,fun v H1 ⟨U1,w,h1,e1,R1,r1,m1⟩=>?_⟩;cases w with
 | str x=>
  rw [FX] at r1;exact ⟨x,r1,k _ _ ⟨U1,⟨signs x,FN⟩,h1,e1,R1,aav x,m1⟩⟩
 | _=>exact m1.elim
end
section
variable {prog:YF}{w:Zb}{A:YW}{E:Ye->Yj->Prop}{s:Yj}
end
section
variable {X:Cx}
end
section
variable {X:Cx}{K:Yc}
def Gv:M2:=fun x y h Q=>match x,y with
 | .str a,.int i=>a.length<=YQ/\(match CK a.cps.toList i with
  | some c=>Q (.str ⟨#[c]⟩) h
  | none=>False)
 | _,_=>False
theorem aaI:U7 K (rIx K) Gv:=by
 intro H U h x y wx wy Qw Q R rx ry m k;unfold Gv at m;split at m
 ·rename_i a i;obtain ⟨hz,m⟩:=m;split at m
  ·rename_i c ec;rw [FX] at rx;rw [FX] at ry;exact .inr<|.inr ⟨a,i,c,rx,ry,hz,ec,k _ _<|.str R m⟩
  ·exact m.elim
 ·exact m.elim
theorem Eh {a b:Expr}{ma mb:ME}{pos:Pos}(ha:DE X a ma)(hb:DE X b mb)(hs:vL b):DE X (.Subscript a b pos) (Mk Gv ma mb):=(Og HB ha hb hs).of fun Z H Q h=>two h fun R r1 r2 m k=>aaI R r1 r2 m k
theorem aaH:Ay X (Zv .NotIn) (fun x y H Q=>∃ a b,x=.str a/\y=.str b/\Q (.bl (!Txt.contains b a)) H):=by
 intro pins s Z H x y v u Q I rx ry ⟨a,b,ex,ey,q⟩;subst ex ey;obtain ⟨t,rfl⟩:=rx;obtain ⟨t',rfl⟩:=ry;exact SB.notContains ⟨.bl _,H,I,rfl,q⟩
def En:M2:=fun x y h Q=>match x,y with
 | .str a,.str b=>Q (.bl (!Txt.contains b a)) h
 | _,_=>False
theorem Om:Bl X (Zv .NotIn) En:=by
 refine ⟨_,aaH,?_⟩;intro H U h x y wx wy Qw Q R rx ry m k;unfold En at m;split at m
 ·rw [FX] at rx ry;exact ⟨_,_,rx,ry,k _ _<|.bl R m⟩
 ·exact m.elim
end
end L2
namespace My
open PySem L2 PyProof.Rows
def cU:List (Key×W):=[(.inr "same",(.tup [(.tup [(.str "spot"),(.str "spot")]),(.tup [(.str "line"),(.str "line")]),(.tup [(.str "curve"),(.str "curve")])])),(.inr "on",(.tup [(.tup [(.str "spot"),(.str "line")]),(.tup [(.str "spot"),(.str "curve")])])),(.inr "row",(.tup [(.tup [(.str "spot"),(.str "spot"),(.str "spot")])])),(.inr "bunch",(.tup [(.tup [(.str "line"),(.str "line"),(.str "line")])])),(.inr "touch",(.tup [(.tup [(.str "line"),(.str "curve")])])),(.inr "parted",(.tup [(.tup [(.str "curve")])]))]
def fW:List (Key×W):=[(.inr "free",(.tup [])),(.inr "join",(.tup [(.str "spot"),(.str "spot")])),(.inr "meet",(.tup [(.str "line"),(.str "line")])),(.inr "curve",(.tup [(.str "spot"),(.str "spot"),(.str "spot"),(.str "spot"),(.str "spot")])),(.inr "about",(.tup [(.str "curve"),(.str "spot")])),(.inr "pole",(.tup [(.str "curve"),(.str "line")])),(.inr "other",(.tup [(.str "curve"),(.str "spot"),(.str "spot")]))]
def jG:List (Key×W):=[(.inr "free",(.str "spot")),(.inr "join",(.str "line")),(.inr "meet",(.str "spot")),(.inr "curve",(.str "curve")),(.inr "about",(.str "line")),(.inr "pole",(.str "spot")),(.inr "other",(.str "spot"))]
def top (i:Nat):Stmt:=PySem.Challenge.pw_easelroom_k91_drawings_written_and_read.main.body.getD i (.Pass ⟨0,0,0,0⟩)
abbrev jy:Stmt:=top 4
theorem o7:bJ ["thing"] ["thing"] (aQ jy):=⟨rfl,rfl,rfl,by decide +kernel,rfl,by decide +kernel,by decide +kernel⟩
abbrev cM:Stmt:=top 10
theorem eV:bJ ["thing", "words"] ["thing", "words"] (aQ cM):=⟨rfl,rfl,rfl,by decide +kernel,rfl,by decide +kernel,by decide +kernel⟩
abbrev dM:Stmt:=top 11
theorem iY:bJ ["sorts", "numbers", "due", "number", "sort"] ["sorts", "numbers", "due"] (aQ dM):=⟨rfl,rfl,rfl,by decide +kernel,rfl,by decide +kernel,by decide +kernel⟩
abbrev gH:Stmt:=top 15
theorem mD:bJ ["rows"] ["rows"] (aQ gH):=⟨rfl,rfl,rfl,by decide +kernel,rfl,by decide +kernel,by decide +kernel⟩
abbrev fG:Stmt:=top 12
theorem kZ:bJ ["thing", "sorts", "row"] ["thing"] (aQ fG):=⟨rfl,rfl,rfl,by decide +kernel,rfl,by decide +kernel,by decide +kernel⟩
abbrev jX:Stmt:=top 13
theorem pZ:bJ ["rows", "k"] ["rows", "k"] (aQ jX):=⟨rfl,rfl,rfl,by decide +kernel,rfl,by decide +kernel,by decide +kernel⟩
abbrev jm:Stmt:=top 14
theorem oH:bJ ["rows"] ["rows"] (aQ jm):=⟨rfl,rfl,rfl,by decide +kernel,rfl,by decide +kernel,by decide +kernel⟩
abbrev jr:Stmt:=top 18
theorem oN:bJ ["rows", "thing", "sorts"] ["rows", "thing"] (aQ jr):=⟨rfl,rfl,rfl,by decide +kernel,rfl,by decide +kernel,by decide +kernel⟩
abbrev j5:Stmt:=top 23
theorem qg:bJ ["text"] ["text"] (aQ j5):=⟨rfl,rfl,rfl,by decide +kernel,rfl,by decide +kernel,by decide +kernel⟩
abbrev fK:Stmt:=top 24
theorem lB:bJ ["row", "names"] ["row", "names"] (aQ fK):=⟨rfl,rfl,rfl,by decide +kernel,rfl,by decide +kernel,by decide +kernel⟩
abbrev dO:Stmt:=top 25
theorem jf:bJ ["rows", "names", "claim", "lines"] ["rows", "names", "claim"] (aQ dO):=⟨rfl,rfl,rfl,by decide +kernel,rfl,by decide +kernel,by decide +kernel⟩
abbrev dJ:Stmt:=top 26
theorem iZ:bJ ["words", "names"] ["words", "names"] (aQ dJ):=⟨rfl,rfl,rfl,by decide +kernel,rfl,by decide +kernel,by decide +kernel⟩
abbrev gR:Stmt:=top 27
theorem mL:bJ ["lines", "rows", "names", "words"] ["lines"] (aQ gR):=⟨rfl,rfl,rfl,by decide +kernel,rfl,by decide +kernel,by decide +kernel⟩
abbrev dN:Stmt:=top 28
theorem iQ:bJ ["text", "lines", "told", "last", "claim"] ["text"] (aQ dN):=⟨rfl,rfl,rfl,by decide +kernel,rfl,by decide +kernel,by decide +kernel⟩
abbrev gK:Stmt:=top 30
theorem mJ:bJ ["_law_script", "_law_k"] ["_law_script", "_law_k"] (aQ gK):=⟨rfl,rfl,rfl,by decide +kernel,rfl,by decide +kernel,by decide +kernel⟩
abbrev sO:Stmt:=top 31
theorem wL:bJ ["_law_cell"] ["_law_cell"] (aQ sO):=⟨rfl,rfl,rfl,by decide +kernel,rfl,by decide +kernel,by decide +kernel⟩
abbrev m7:Stmt:=top 32
theorem uG:bJ ["_law_bag_here", "_law_many", "_law_found"] ["_law_bag_here", "_law_many"] (aQ m7):=⟨rfl,rfl,rfl,by decide +kernel,rfl,by decide +kernel,by decide +kernel⟩
abbrev j9:Stmt:=top 33
theorem qK:bJ ["_law_found"] ["_law_found"] (aQ j9):=⟨rfl,rfl,rfl,by decide +kernel,rfl,by decide +kernel,by decide +kernel⟩
abbrev lC:Stmt:=top 34
theorem qD:bJ ["_law_bag_here", "_law_many", "_law_letters", "_law_size", "_law_at", "_law_base", "_law_k", "_law_first"] ["_law_bag_here", "_law_many"] (aQ lC):=⟨rfl,rfl,rfl,by decide +kernel,rfl,by decide +kernel,by decide +kernel⟩
abbrev sU:Stmt:=top 35
theorem yj:bJ ["_law_bag_here", "_law_sorts", "_law_free", "_law_spots", "_law_lines", "_law_curves", "_law_some", "_law_a", "_law_b", "_law_last", "_law_l", "_law_m"] ["_law_bag_here", "_law_sorts", "_law_free"] (aQ sU):=⟨rfl,rfl,rfl,by decide +kernel,rfl,by decide +kernel,by decide +kernel⟩
abbrev m9:Stmt:=top 36
theorem uh:bJ ["_law_word"] ["_law_word"] (aQ m9):=⟨rfl,rfl,rfl,by decide +kernel,rfl,by decide +kernel,by decide +kernel⟩
abbrev ni:Stmt:=top 37
theorem tW:bJ ["_law_script", "_law_first", "_law_most", "_law_rows_here", "_law_sorts", "_law_cell", "_law_row_here"] ["_law_script", "_law_first", "_law_most"] (aQ ni):=⟨rfl,rfl,rfl,by decide +kernel,rfl,by decide +kernel,by decide +kernel⟩
abbrev j4:Stmt:=top 38
theorem qJ:bJ ["_law_bag_here", "_law_sorts", "_law_spots", "_law_lines", "_law_curves", "_law_a", "_law_some", "_law_l", "_law_q"] ["_law_bag_here", "_law_sorts"] (aQ j4):=⟨rfl,rfl,rfl,by decide +kernel,rfl,by decide +kernel,by decide +kernel⟩
abbrev kY:Stmt:=top 39
theorem p7:bJ ["_law_row_here", "_law_names_here", "_law_text", "_law_number"] ["_law_row_here", "_law_names_here"] (aQ kY):=⟨rfl,rfl,rfl,by decide +kernel,rfl,by decide +kernel,by decide +kernel⟩
abbrev nF:Stmt:=top 40
theorem uE:bJ ["_law_text", "_law_rows_here", "_law_names_here", "_law_claim_here", "_law_found", "_law_row_here"] ["_law_text", "_law_rows_here", "_law_names_here", "_law_claim_here"] (aQ nF):=⟨rfl,rfl,rfl,by decide +kernel,rfl,by decide +kernel,by decide +kernel⟩
abbrev Dj:Stmt:=top 41
theorem G5:bJ ["_law_script", "_law_bag_here", "_law_rows_here", "_law_sorts", "_law_names_here", "_law_claim_here", "_law_text", "_law_name", "_law_row_here", "_law_handed", "_law_found"] ["_law_script"] (aQ Dj):=⟨rfl,rfl,rfl,by decide +kernel,rfl,by decide +kernel,by decide +kernel⟩
def lM:VR:=Ae 1 1 false fun E=>
  (gA (uN (X7 vX (au (aG 0) (au (mC (.ty "int")) aO))) (Gp (X7 vX (au (aG 0) (au (mC (.ty "bool")) aO))))))
def jw:VR:=lM
def dh:VR:=Ae 2 2 false fun E=>
  (gA (uN (X7 vX (au (aG 0) (au (mC (.ty "tuple")) aO))) (uN (Mk kGt (X7 X3 (au (aG 0) aO)) (mC (.int 0))) (uN (X7 zm (au (Mk W9 (aG 0) (mC (.int 0))) (au (mC (.ty "str")) aO))) (Mk kIn (Mk W9 (aG 0) (mC (.int 0))) (aG 1))))))
def bQ:VR:=dh
def iu (c_is_whole:VR)(E:X4):MS:=
  (gA (mC (.bl true)))
def iB (c_is_whole:VR)(E:X4):MS:=
  (bY (zq (Vr (au (aG 1) (au (aG 2) aO))) (uW 2 (uI (JI 3) (uI (JI 4) Qk))) (lK (Ca (q9 (sS (bM c_is_whole E (au (aG 3) aO)))) (Ca (bZ (Mk kLt (aG 3) (mC (.int 0)))) (Ca (bZ (Mk kGe (aG 3) (X7 X3 (au (aG 0) aO)))) (bZ (Mk Cp (Mk W9 (aG 0) (aG 3)) (aG 4)))))) (gA (mC (.bl false))) dF))
  (iu c_is_whole E))
def fP (c_is_whole:VR):VR:=Ae 3 5 false fun E=>
  (bY (lK (bZ (Mk Cp (X7 X3 (au (aG 1) aO)) (X7 X3 (au (aG 2) aO)))) (gA (mC (.bl false))) dF)
  (iB c_is_whole E))
def cI:VR:=fP jw
def jT:VR:=Ae 1 1 false fun E=>
  (gA (Aj BP [0] (gw (au (X7 X3 (au (aG 0) aO)) aO)) (bZ (Mk Dp (Mk W9 (Mk W9 (aG 1) (aG 0)) (mC (.int 0))) (mC (.str "free")))) (aG 0)))
def gQ:VR:=jT
def jH (c_begins_with_word c_are_of_sorts c_free_rows:VR)(E:X4):MS:=
  (gA (Mk kLe (X7 X3 (au (bM c_free_rows E (au (aG 0) aO)) aO)) (mC (.int 7))))
def jF (c_begins_with_word c_are_of_sorts c_free_rows:VR)(E:X4):MS:=
  (bY (cY (lE aO) (JI 1))
  (bY (zq (DX (aG 0)) (JI 2) (bY (lK (Ca (q9 (sS (bM c_begins_with_word E (au (aG 2) (au (mC (.lst (fW.map fun q=>FQ q.1))) aO))))) (q9 (sS (bM c_are_of_sorts E (au (aG 1) (au (DW sZ (aG 2) (iI (mC (.int 1))) cR) (au (J6 fW (Mk W9 (aG 2) (mC (.int 0)))) aO))))))) (gA (mC (.bl false))) dF)
  (mW (zy cT (aG 1) (au (J6 jG (Mk W9 (aG 2) (mC (.int 0)))) aO)))))
  (jH c_begins_with_word c_are_of_sorts c_free_rows E)))
def iW (c_begins_with_word c_are_of_sorts c_free_rows:VR):VR:=Ae 1 3 true fun E=>
  (bY (lK (Ca (q9 (sS (X7 vX (au (aG 0) (au (mC (.ty "list")) aO))))) (Ca (bZ (Mk kLt (X7 X3 (au (aG 0) aO)) (mC (.int 1)))) (bZ (Mk kGt (X7 X3 (au (aG 0) aO)) (mC (.int 24)))))) (gA (mC (.bl false))) dF)
  (jF c_begins_with_word c_are_of_sorts c_free_rows E))
def fM:VR:=iW bQ cI gQ
def oW:VR:=Ae 2 2 false fun E=>
  (gA (J6 jG (Mk W9 (Mk W9 (aG 0) (aG 1)) (mC (.int 0)))))
def lF:VR:=oW
def lV (c_sort_of:VR):VR:=Ae 1 1 false fun E=>
  (gA (Aj BP [0] (gw (au (X7 X3 (au (aG 0) aO)) aO)) tu (bM c_sort_of E (au (aG 1) (au (aG 0) aO)))))
def jx:VR:=lV lF
def mR (c_begins_with_word c_are_of_sorts c_sorts_of:VR)(E:X4):MS:=
  (bY (cY (bM c_sorts_of E (au (aG 0) aO)) (JI 2))
  (gA (X7 Rx (au (Aj BP [1,2] (DX (J6 cU (Mk W9 (aG 1) (mC (.int 0))))) tu (bM c_are_of_sorts E (au (aG 2) (au (DW sZ (aG 1) (iI (mC (.int 1))) cR) (au (aG 0) aO))))) aO))))
def lX (c_begins_with_word c_are_of_sorts c_sorts_of:VR):VR:=Ae 2 3 false fun E=>
  (bY (lK (q9 (sS (bM c_begins_with_word E (au (aG 1) (au (mC (.lst (cU.map fun q=>FQ q.1))) aO))))) (gA (mC (.bl false))) dF)
  (mR c_begins_with_word c_are_of_sorts c_sorts_of E))
def jz:VR:=lX bQ cI jx
def oX (E:X4):MS:=
  (gA (X7 La (au (Aj BP [] (Ss (aG 0)) tu (Mk Sd (aG 0) (Mk jc (mC (.str "abcdefghijklmnopqrstuvwxyz")) (mC (.str "0123456789"))))) aO)))
def o9:VR:=Ae 1 1 false fun E=>
  (bY (lK (Ca (bZ (Mk kLt (X7 Cr (au (aG 0) aO)) (mC (.int 1)))) (Ca (bZ (Mk kGt (X7 Cr (au (aG 0) aO)) (mC (.int 8)))) (bZ (Mk En (Mk Gv (aG 0) (mC (.int 0))) (mC (.str "abcdefghijklmnopqrstuvwxyz")))))) (gA (mC (.bl false))) dF)
  (oX E))
def lA:VR:=o9
def je:VR:=Ae 2 2 false fun E=>
  (gA (Mk fj (pL (au (Mk W9 (aG 0) (mC (.int 0))) aO)) (Aj BP [1] (DX (DW sZ (aG 0) (iI (mC (.int 1))) cR)) tu (Mk W9 (aG 1) (aG 0)))))
def dY:VR:=je
def fQ (c_with_names:VR):VR:=Ae 3 4 true fun E=>
  (bY (cY (R0 (owT 2) [1] (JW (au (aG 0) aO)) tu (G4 vC (mC (.str " ")) (au (Mk fj (pL (au (Mk W9 (aG 2) (aG 0)) aO)) (bM c_with_names E (au (aG 1) (au (aG 2) aO)))) aO))) (JI 3))
  (bY (mW (zy cT (aG 3) (au (G4 vC (mC (.str " ")) (au (Mk fj (pL (au (mC (.str "claim")) aO)) (bM c_with_names E (au (aG 2) (au (aG 1) aO)))) aO)) aO)))
  (gA (G4 vC (mC (.str "; ")) (au (aG 3) aO)))))
def dH:VR:=fQ dY
def iH (E:X4):MS:=
  (gA (Mk fj (lJ (au (Mk W9 (aG 0) (mC (.int 0))) aO)) (X7 w6 (au (Aj BP [1] (DX (DW sZ (aG 0) (iI (mC (.int 1))) cR)) tu (Vx oE (aG 1) (au (aG 0) aO))) aO))))
def fZ:VR:=Ae 2 2 false fun E=>
  (bY (lK (q9 (sS (X7 La (au (Aj BP [1] (DX (DW sZ (aG 0) (iI (mC (.int 1))) cR)) tu (Mk RL (aG 0) (aG 1))) aO)))) (o8 "NoText" E) dF)
  (iH E))
def cH:VR:=fZ
def lg (c_is_name c_with_numbers:VR)(E:X4):MS:=
  (gA (lJ (au (aG 1) (au (aG 2) aO))))
def jM (c_is_name c_with_numbers:VR):VR:=Ae 1 4 false fun E=>
  (bY (cY (lE aO) (JI 1))
  (bY (cY (lE aO) (JI 2))
  (bY (zq (DX (aG 0)) (JI 3) (bY (lK (Ca (bZ (Mk kLt (X7 X3 (au (aG 3) aO)) (mC (.int 2)))) (Ca (q9 (sS (bM c_is_name E (au (Mk W9 (aG 3) (mC (.int 0))) aO)))) (bZ (Mk kIn (Mk W9 (aG 3) (mC (.int 0))) (aG 2))))) (o8 "NoText" E) dF)
  (bY (mW (zy cT (aG 1) (au (bM c_with_numbers E (au (DW sZ (aG 3) (iI (mC (.int 1))) cR) (au (aG 2) aO))) aO)))
  (mW (zy cT (aG 2) (au (Mk W9 (aG 3) (mC (.int 0))) aO))))))
  (lg c_is_name c_with_numbers E))))
def gW:VR:=jM lA cH
def iz (c_is_drawing c_is_claim c_with_numbers c_read_rows:VR)(E:X4):MS:=
  (gA (lJ (au (Mk W9 (aG 2) (mC (.int 0))) (au (Mk W9 (aG 2) (mC (.int 1))) (au (aG 4) aO)))))
def iy (c_is_drawing c_is_claim c_with_numbers c_read_rows:VR)(E:X4):MS:=
  (bY (cY (bM c_with_numbers E (au (DW sZ (aG 3) (iI (mC (.int 1))) cR) (au (Mk W9 (aG 2) (mC (.int 1))) aO))) (JI 4))
  (bY (lK (Ca (q9 (sS (bM c_is_drawing E (au (Mk W9 (aG 2) (mC (.int 0))) aO)))) (q9 (sS (bM c_is_claim E (au (Mk W9 (aG 2) (mC (.int 0))) (au (aG 4) aO)))))) (o8 "NoText" E) dF)
  (iz c_is_drawing c_is_claim c_with_numbers c_read_rows E)))
def iw (c_is_drawing c_is_claim c_with_numbers c_read_rows:VR)(E:X4):MS:=
  (bY (cY (Aj BP [] (DX (G4 ud (aG 0) (au (mC (.str "; ")) aO))) tu (G4 ud (aG 0) (au (mC (.str " ")) aO))) (JI 1))
  (bY (cY (bM c_read_rows E (au (DW sZ (aG 1) cR (iI (Gm Io (mC (.int 1))))) aO)) (JI 2))
  (bY (cY (Mk W9 (aG 1) (Gm Io (mC (.int 1)))) (JI 3))
  (bY (lK (Ca (bZ (Mk kLt (X7 X3 (au (aG 3) aO)) (mC (.int 2)))) (bZ (Mk Cp (Mk W9 (aG 3) (mC (.int 0))) (mC (.str "claim"))))) (o8 "NoText" E) dF)
  (iy c_is_drawing c_is_claim c_with_numbers c_read_rows E)))))
def fV (c_is_drawing c_is_claim c_with_numbers c_read_rows:VR):VR:=Ae 1 5 false fun E=>
  (bY (lK (q9 (sS (X7 zm (au (aG 0) (au (mC (.ty "str")) aO))))) (o8 "NoText" E) dF)
  (iw c_is_drawing c_is_claim c_with_numbers c_read_rows E))
def dI:VR:=fV fM jz cH gW
def sW (E:X4):MS:=
  (gA (mC (.int 0)))
def nM:VR:=Ae 2 2 false fun E=>
  (bY (lK (bZ (Mk kLt (aG 1) (X7 X3 (au (aG 0) aO)))) (gA (Mk W9 (aG 0) (aG 1))) dF)
  (sW E))
def eY:VR:=nM
def tZ (E:X4):MS:=
  (gA (lE (au (aG 0) (au (mC (.int 7)) aO))))
def vN:VR:=Ae 1 1 false fun E=>
  (bY (lK (bZ (Mk kLt (aG 0) (Mk Sv (mC (.int 10)) (mC (.int 18))))) (gA (lE (au (mC (.int 0)) (au (Mk fj (Mk Bd (aG 0) (mC (.int 2147483647))) (mC (.int 7))) aO)))) dF)
  (tZ E))
def jN:VR:=vN
def yO (E:X4):MS:=
  (bY (cY (Mk Bd (Mk fj (Mk Ov (Mk W9 (aG 0) (mC (.int 1))) (mC (.int 48271))) (mC (.int 15731))) (mC (.int 2147483647))) (RX (aG 0) (mC (.int 1)) Gj))
  (gA (Mk Bd (Mk RG (Mk Bd (Mk Ov (Mk W9 (aG 0) (mC (.int 1))) (Mk fj (Mk RG (Mk W9 (aG 0) (mC (.int 1))) (mC (.int 32768))) (mC (.int 11)))) (mC (.int 2147483629))) (mC (.int 16))) (aG 1))))
def yq:VR:=Ae 2 3 false fun E=>
  (bY (lK (bZ (Mk kGt (Mk W9 (aG 0) (mC (.int 0))) (mC (.int 0)))) (bY (cY (Mk Bd (Mk W9 (aG 0) (mC (.int 0))) (aG 1)) (JI 2))
  (bY (cY (Mk RG (Mk W9 (aG 0) (mC (.int 0))) (aG 1)) (RX (aG 0) (mC (.int 0)) Gj))
  (gA (aG 2)))) dF)
  (yO E))
def bB:VR:=yq
def nZ:VR:=Ae 1 1 false fun E=>
  (gA (uN (X7 vX (au (aG 0) (au (mC (.ty "int")) aO))) (Gp (X7 vX (au (aG 0) (au (mC (.ty "bool")) aO))))))
def j8:VR:=nZ
def nU (c_l_draw:VR)(E:X4):MS:=
  (bY (cY (bM c_l_draw E (au (aG 0) (au (mC (.int 26)) aO))) (JI 7))
  (gA (Aj BP [2,4,5,7] (gw (au (aG 1) aO)) tu (Mk jc (Mk jc (DW M6 (aG 3) cR (iI (aG 2))) (Mk Gv (aG 1) (Mk Bd (Mk fj (aG 4) (aG 0)) (mC (.int 26))))) (DW M6 (aG 3) (iI (Mk fj (aG 2) (mC (.int 1)))) cR)))))
def pJ (c_l_draw:VR):VR:=Ae 2 8 false fun E=>
  (bY (cY (mC (.str "abcdefghijklmnopqrstuvwxyz")) (JI 2))
  (bY (cY (Mk fj (mC (.int 1)) (bM c_l_draw E (au (aG 0) (au (mC (.int 8)) aO)))) (JI 3))
  (bY (cY (bM c_l_draw E (au (aG 0) (au (aG 3) aO))) (JI 4))
  (bY (cY (Mk Gv (aG 2) (bM c_l_draw E (au (aG 0) (au (mC (.int 26)) aO)))) (JI 5))
  (bY (zq (gw (au (Mk KQ (aG 3) (mC (.int 1))) aO)) (JI 6) (cY (Mk jc (aG 5) (Mk Gv (Mk jc (aG 2) (mC (.str "0123456789"))) (bM c_l_draw E (au (aG 0) (au (mC (.int 36)) aO))))) (JI 5)))
  (nU c_l_draw E))))))
def jW:VR:=pJ bB
def pG (c_l_draw:VR)(E:X4):MS:=
  (gA (Mk W9 (aG 6) (bM c_l_draw E (au (aG 0) (au (X7 X3 (au (aG 6) aO)) aO)))))
def oh (c_l_draw:VR)(E:X4):MS:=
  (bY (lK (bZ (Mk Cp (aG 4) (pL aO))) (bY (cY (Mk W9 (aG 4) (bM c_l_draw E (au (aG 0) (au (X7 X3 (au (aG 4) aO)) aO)))) (JI 10))
  (bY (cY (Mk W9 (aG 4) (bM c_l_draw E (au (aG 0) (au (X7 X3 (au (aG 4) aO)) aO)))) (JI 11))
  (bY (cY (Mk sG (aG 6) (pL (au (lJ (au (mC (.str "meet")) (au (aG 10) (au (aG 11) aO)))) (au (lJ (au (mC (.str "meet")) (au (aG 11) (au (aG 10) aO)))) aO)))) (JI 6))
  (lK (bZ (Mk Cp (aG 5) (pL aO))) (mW (zy cT (aG 6) (au (lJ (au (mC (.str "pole")) (au (Mk W9 (aG 5) (bM c_l_draw E (au (aG 0) (au (X7 X3 (au (aG 5) aO)) aO)))) (au (aG 11) aO)))) aO))) dF)))) dF)
  (pG c_l_draw E))
def nT (c_l_draw:VR)(E:X4):MS:=
  (bY (lK (bZ (Mk Cp (aG 3) (pL aO))) (bY (cY (Mk W9 (aG 3) (bM c_l_draw E (au (aG 0) (au (X7 X3 (au (aG 3) aO)) aO)))) (JI 7))
  (bY (cY (Mk W9 (aG 3) (bM c_l_draw E (au (aG 0) (au (X7 X3 (au (aG 3) aO)) aO)))) (JI 8))
  (bY (cY (Aj BP [3] (gw (au (mC (.int 3)) aO)) tu (Mk W9 (aG 1) (Mk KQ (Gm Io (mC (.int 1))) (Mk Bd (aG 0) (X7 X3 (au (aG 1) aO)))))) (JI 9))
  (bY (cY (Mk sG (aG 6) (pL (au (lJ (au (mC (.str "join")) (au (aG 7) (au (aG 8) aO)))) (au (lJ (au (mC (.str "join")) (au (aG 8) (au (aG 7) aO)))) (au (lJ (au (mC (.str "curve")) (au (aG 7) (au (aG 8) (au (Mk W9 (aG 9) (mC (.int 0))) (au (Mk W9 (aG 9) (mC (.int 1))) (au (Mk W9 (aG 9) (mC (.int 2))) aO))))))) aO))))) (JI 6))
  (lK (bZ (Mk Cp (aG 5) (pL aO))) (cY (Mk sG (aG 6) (pL (au (lJ (au (mC (.str "about")) (au (Mk W9 (aG 5) (Gm Io (mC (.int 1)))) (au (aG 7) aO)))) (au (lJ (au (mC (.str "other")) (au (Mk W9 (aG 5) (mC (.int 0))) (au (aG 7) (au (aG 8) aO))))) aO)))) (JI 6)) dF))))) dF)
  (oh c_l_draw E))
def vo (c_l_draw:VR):VR:=Ae 3 12 false fun E=>
  (bY (cY (Aj BP [1] (gw (au (X7 X3 (au (aG 1) aO)) aO)) (bZ (Mk Dp (Mk W9 (aG 1) (aG 0)) (mC (.str "spot")))) (aG 0)) (JI 3))
  (bY (cY (Aj BP [1] (gw (au (X7 X3 (au (aG 1) aO)) aO)) (bZ (Mk Dp (Mk W9 (aG 1) (aG 0)) (mC (.str "line")))) (aG 0)) (JI 4))
  (bY (cY (Aj BP [1] (gw (au (X7 X3 (au (aG 1) aO)) aO)) (bZ (Mk Dp (Mk W9 (aG 1) (aG 0)) (mC (.str "curve")))) (aG 0)) (JI 5))
  (bY (cY (lE aO) (JI 6))
  (bY (lK (bZ (Mk kLt (aG 2) (mC (.int 7)))) (cY (lE (au (lJ (au (mC (.str "free")) aO)) (au (lJ (au (mC (.str "free")) aO)) aO))) (JI 6)) dF)
  (nT c_l_draw E))))))
def sY:VR:=vo bB
def wZ:VR:=Ae 1 1 false fun E=>
  (gA (Wh J2 (Qf [(.inr "join",(mC (.str "line"))),(.inr "about",(mC (.str "line"))),(.inr "curve",(mC (.str "curve")))]) (au (aG 0) (au (mC (.str "spot")) aO))))
def nG:VR:=wZ
def qG (c_l_bag c_l_row c_l_sort:VR)(E:X4):MS:=
  (gA (lJ (au (aG 3) (au (aG 4) aO))))
def qR (c_l_bag c_l_row c_l_sort:VR):VR:=Ae 3 7 false fun E=>
  (bY (cY (lE aO) (JI 3))
  (bY (cY (lE aO) (JI 4))
  (bY (zq (DX (Mk fj (DW sZ (aG 0) (iI (aG 1)) (iI (Mk fj (aG 1) (aG 2)))) (pL (au (mC (.int 3)) aO)))) (JI 5) (bY (cY (bM c_l_row E (au (bM c_l_bag E (au (aG 5) aO)) (au (aG 4) (au (X7 X3 (au (Aj BP [] (DX (aG 3)) (bZ (Mk M7 (aG 0) (lJ (au (mC (.str "free")) aO)))) (aG 0)) aO)) aO)))) (JI 6))
  (bY (mW (zy cT (aG 3) (au (aG 6) aO)))
  (mW (zy cT (aG 4) (au (bM c_l_sort E (au (Mk W9 (aG 6) (mC (.int 0))) aO)) aO))))))
  (qG c_l_bag c_l_row c_l_sort E))))
def nj:VR:=qR jN sY nG
def jJ (c_l_draw:VR)(E:X4):MS:=
  (gA (Mk W9 (aG 6) (bM c_l_draw E (au (aG 0) (au (X7 X3 (au (aG 6) aO)) aO)))))
def jQ (c_l_draw:VR)(E:X4):MS:=
  (bY (lK (bZ (Mk Cp (aG 4) (pL aO))) (bY (cY (Mk W9 (aG 4) (bM c_l_draw E (au (aG 0) (au (X7 X3 (au (aG 4) aO)) aO)))) (JI 8))
  (cY (Mk sG (aG 6) (pL (au (lJ (au (mC (.str "parted")) (au (aG 8) aO))) (au (lJ (au (mC (.str "on")) (au (Mk W9 (aG 5) (mC (.int 0))) (au (aG 8) aO)))) (au (lJ (au (mC (.str "same")) (au (aG 8) (au (Mk W9 (aG 4) (mC (.int 0))) aO)))) aO))))) (JI 6))) dF)
  (jJ c_l_draw E))
def pD (c_l_draw:VR):VR:=Ae 2 9 false fun E=>
  (bY (cY (Aj BP [1] (gw (au (X7 X3 (au (aG 1) aO)) aO)) (bZ (Mk Dp (Mk W9 (aG 1) (aG 0)) (mC (.str "spot")))) (aG 0)) (JI 2))
  (bY (cY (Aj BP [1] (gw (au (X7 X3 (au (aG 1) aO)) aO)) (bZ (Mk Dp (Mk W9 (aG 1) (aG 0)) (mC (.str "line")))) (aG 0)) (JI 3))
  (bY (cY (Aj BP [1] (gw (au (X7 X3 (au (aG 1) aO)) aO)) (bZ (Mk Dp (Mk W9 (aG 1) (aG 0)) (mC (.str "curve")))) (aG 0)) (JI 4))
  (bY (cY (Aj BP [0,2] (gw (au (mC (.int 3)) aO)) tu (Mk W9 (aG 2) (bM c_l_draw E (au (aG 1) (au (X7 X3 (au (aG 2) aO)) aO))))) (JI 5))
  (bY (cY (lE (au (lJ (au (mC (.str "same")) (au (Mk W9 (aG 5) (mC (.int 0))) (au (Mk W9 (aG 5) (mC (.int 1))) aO)))) (au (lJ (au (mC (.str "row")) (au (Mk W9 (aG 5) (mC (.int 0))) (au (Mk W9 (aG 5) (mC (.int 1))) (au (Mk W9 (aG 5) (mC (.int 2))) aO))))) aO))) (JI 6))
  (bY (lK (bZ (Mk Cp (aG 3) (pL aO))) (bY (cY (Aj BP [0,3] (gw (au (mC (.int 3)) aO)) tu (Mk W9 (aG 2) (bM c_l_draw E (au (aG 1) (au (X7 X3 (au (aG 2) aO)) aO))))) (JI 7))
  (bY (cY (Mk sG (aG 6) (pL (au (lJ (au (mC (.str "same")) (au (Mk W9 (aG 7) (mC (.int 0))) (au (Mk W9 (aG 7) (mC (.int 1))) aO)))) (au (lJ (au (mC (.str "bunch")) (au (Mk W9 (aG 7) (mC (.int 0))) (au (Mk W9 (aG 7) (mC (.int 1))) (au (Mk W9 (aG 7) (mC (.int 2))) aO))))) (au (lJ (au (mC (.str "on")) (au (Mk W9 (aG 5) (mC (.int 0))) (au (Mk W9 (aG 7) (mC (.int 0))) aO)))) aO))))) (JI 6))
  (lK (bZ (Mk Cp (aG 4) (pL aO))) (mW (zy cT (aG 6) (au (lJ (au (mC (.str "touch")) (au (Mk W9 (aG 7) (mC (.int 0))) (au (Mk W9 (aG 4) (Gm Io (mC (.int 1)))) aO)))) aO))) dF))) dF)
  (jQ c_l_draw E)))))))
def lD:VR:=pD bB
def oJ (E:X4):MS:=
  (gA (aG 2))
def pA:VR:=Ae 2 4 false fun E=>
  (bY (cY (Mk W9 (aG 0) (mC (.int 0))) (JI 2))
  (bY (zq (DX (DW sZ (aG 0) (iI (mC (.int 1))) cR)) (JI 3) (cY (Mk jc (Mk jc (aG 2) (mC (.str " "))) (Mk W9 (aG 1) (aG 3))) (JI 2)))
  (oJ E)))
def jg:VR:=pA
def qp (c_read_drawing c_l_whole:VR)(E:X4):MS:=
  (bY (mW (Fi qm (Mk W9 (aG 4) (mC (.int 0)))))
  (bY (mW (zy cT (Mk W9 (aG 4) (mC (.int 1))) (au (mC (.str "a")) aO)))
  (gA (mC (.bl true)))))
def qL (c_read_drawing c_l_whole:VR)(E:X4):MS:=
  (bY (zq (DX (Mk fj (Mk W9 (aG 4) (mC (.int 0))) (pL (au (Mk W9 (aG 4) (mC (.int 2))) aO)))) (JI 5) (lK (Ca (q9 (sS (X7 vX (au (aG 5) (au (mC (.ty "tuple")) aO))))) (q9 (sS (X7 La (au (Aj BP [] (DX (DW sZ (aG 5) (iI (mC (.int 1))) cR)) tu (bM c_l_whole E (au (aG 0) aO))) aO))))) (gA (mC (.bl false))) dF))
  (qp c_read_drawing c_l_whole E))
def pY (c_read_drawing c_l_whole:VR)(E:X4):MS:=
  (bY (lK (Ca (q9 (sS (X7 vX (au (Mk W9 (aG 4) (mC (.int 0))) (au (mC (.ty "list")) aO))))) (Ca (q9 (sS (X7 vX (au (Mk W9 (aG 4) (mC (.int 1))) (au (mC (.ty "list")) aO))))) (bZ (Mk QB (aG 4) (lJ (au (aG 1) (au (aG 2) (au (aG 3) aO)))))))) (gA (mC (.bl false))) dF)
  (qL c_read_drawing c_l_whole E))
def qX (c_read_drawing c_l_whole:VR):VR:=Ae 4 6 true fun E=>
  (bY (cY (bM c_read_drawing E (au (aG 0) aO)) (JI 4))
  (bY (lK (Ca (q9 (sS (X7 vX (au (aG 4) (au (mC (.ty "tuple")) aO))))) (Ca (bZ (Mk Cp (X7 X3 (au (aG 4) aO)) (mC (.int 3)))) (q9 (sS (X7 vX (au (Mk W9 (aG 4) (mC (.int 2))) (au (mC (.ty "tuple")) aO))))))) (gA (mC (.bl false))) dF)
  (pY c_read_drawing c_l_whole E)))
def jZ:VR:=qX dI j8
def xZ (c_show_drawing c_l_cell_at c_l_bag c_l_names c_l_rows c_l_claim c_l_words c_l_read:VR)(E:X4):MS:=
  (gA (uN (bM c_l_read E (au (aG 6) (au (aG 2) (au (aG 4) (au (aG 5) aO))))) (bM c_l_read E (au (aG 6) (au (aG 2) (au (aG 4) (au (aG 5) aO)))))))
def Ao (c_show_drawing c_l_cell_at c_l_bag c_l_names c_l_rows c_l_claim c_l_words c_l_read:VR)(E:X4):MS:=
  (bY (cY (Mk jc (Mk jc (aG 6) (mC (.str "claim "))) (bM c_l_words E (au (aG 5) (au (aG 4) aO)))) (JI 6))
  (bY (cY (pL (au (X7 yx (au (aG 2) aO)) (au (X7 yx (au (aG 4) aO)) aO))) (JI 9))
  (bY (cY (bM c_show_drawing E (au (Mk W9 (aG 9) (mC (.int 0))) (au (Mk W9 (aG 9) (mC (.int 1))) (au (aG 5) aO)))) (JI 10))
  (bY (lK (Ca (q9 (sS (X7 zm (au (aG 10) (au (mC (.ty "str")) aO))))) (Ca (bZ (Mk Cp (aG 10) (aG 6))) (bZ (Mk Pq (aG 9) (pL (au (aG 2) (au (aG 4) aO))))))) (gA (mC (.bl false))) dF)
  (xZ c_show_drawing c_l_cell_at c_l_bag c_l_names c_l_rows c_l_claim c_l_words c_l_read E)))))
def JZ (c_show_drawing c_l_cell_at c_l_bag c_l_names c_l_rows c_l_claim c_l_words c_l_read:VR):VR:=Ae 1 11 false fun E=>
  (bY (cY (bM c_l_bag E (au (bM c_l_cell_at E (au (aG 0) (au (mC (.int 0)) aO))) aO)) (JI 1))
  (bY (cY (bM c_l_rows E (au (aG 0) (au (mC (.int 2)) (au (mC (.int 23)) aO)))) (uW 2 (uI (JI 2) (uI (JI 3) Qk))))
  (bY (cY (bM c_l_names E (au (aG 1) (au (X7 X3 (au (aG 2) aO)) aO))) (JI 4))
  (bY (cY (bM c_l_claim E (au (bM c_l_bag E (au (bM c_l_cell_at E (au (aG 0) (au (mC (.int 1)) aO))) aO)) (au (aG 3) aO))) (JI 5))
  (bY (cY (mC (.str "")) (JI 6))
  (bY (zq (IV (au (aG 4) (au (aG 2) aO))) (uW 2 (uI (JI 7) (uI (JI 8) Qk))) (cY (Mk jc (Mk jc (Mk jc (Mk jc (aG 6) (aG 7)) (mC (.str " "))) (bM c_l_words E (au (aG 8) (au (aG 4) aO)))) (mC (.str "; "))) (JI 6)))
  (Ao c_show_drawing c_l_cell_at c_l_bag c_l_names c_l_rows c_l_claim c_l_words c_l_read E)))))))
def Ec:VR:=JZ dH eY jN jW nj lD jg jZ
structure Ad where
 f_is_whole:Addr
 d_is_whole:Y8
 f_begins_with_word:Addr
 d_begins_with_word:Y8
 f_are_of_sorts:Addr
 d_are_of_sorts:Y8
 f_free_rows:Addr
 d_free_rows:Y8
 f_is_drawing:Addr
 d_is_drawing:Y8
 f_sort_of:Addr
 d_sort_of:Y8
 f_sorts_of:Addr
 d_sorts_of:Y8
 f_is_claim:Addr
 d_is_claim:Y8
 f_is_name:Addr
 d_is_name:Y8
 f_with_names:Addr
 d_with_names:Y8
 f_show_drawing:Addr
 d_show_drawing:Y8
 f_with_numbers:Addr
 d_with_numbers:Y8
 f_read_rows:Addr
 d_read_rows:Y8
 f_read_drawing:Addr
 d_read_drawing:Y8
 f_l_cell_at:Addr
 d_l_cell_at:Y8
 f_l_bag:Addr
 d_l_bag:Y8
 f_l_draw:Addr
 d_l_draw:Y8
 f_l_whole:Addr
 d_l_whole:Y8
 f_l_names:Addr
 d_l_names:Y8
 f_l_row:Addr
 d_l_row:Y8
 f_l_sort:Addr
 d_l_sort:Y8
 f_l_rows:Addr
 d_l_rows:Y8
 f_l_claim:Addr
 d_l_claim:Y8
 f_l_words:Addr
 d_l_words:Y8
 f_l_read:Addr
 d_l_read:Y8
 f_law:Addr
 d_law:Y8
 a_MADE:Addr
 a_TAKEN:Addr
 a_CLAIMED:Addr
 a_MOST_ROWS:Tok
 a_MOST_FREE:Tok
 a_FIGURES:Tok
 a_SMALL_LETTERS:Tok
 a_MOST_SIGNS:Tok
structure Txt (w:Zb) (K:Yc) (mg:Str->Option Ye) (t:Ad):Prop where
 F_is_whole:Ai K "is_whole" "is_whole" jy t.f_is_whole t.d_is_whole
 jw:mg "is_whole" = Dn (.ref t.f_is_whole)
 b_is_whole:Binds K t.d_is_whole ["thing"] []
 F_begins_with_word:Ai K "begins_with_word" "begins_with_word" cM t.f_begins_with_word t.d_begins_with_word
 bQ:mg "begins_with_word" = Dn (.ref t.f_begins_with_word)
 b_begins_with_word:Binds K t.d_begins_with_word ["thing", "words"] []
 F_are_of_sorts:Ai K "are_of_sorts" "are_of_sorts" dM t.f_are_of_sorts t.d_are_of_sorts
 cI:mg "are_of_sorts" = Dn (.ref t.f_are_of_sorts)
 b_are_of_sorts:Binds K t.d_are_of_sorts ["sorts", "numbers", "due"] []
 F_free_rows:Ai K "free_rows" "free_rows" gH t.f_free_rows t.d_free_rows
 gQ:mg "free_rows" = Dn (.ref t.f_free_rows)
 b_free_rows:Binds K t.d_free_rows ["rows"] []
 F_is_drawing:Ai K "is_drawing" "is_drawing" fG t.f_is_drawing t.d_is_drawing
 fM:mg "is_drawing" = Dn (.ref t.f_is_drawing)
 b_is_drawing:Binds K t.d_is_drawing ["thing"] []
 F_sort_of:Ai K "sort_of" "sort_of" jX t.f_sort_of t.d_sort_of
 lF:mg "sort_of" = Dn (.ref t.f_sort_of)
 b_sort_of:Binds K t.d_sort_of ["rows", "k"] []
 F_sorts_of:Ai K "sorts_of" "sorts_of" jm t.f_sorts_of t.d_sorts_of
 jx:mg "sorts_of" = Dn (.ref t.f_sorts_of)
 b_sorts_of:Binds K t.d_sorts_of ["rows"] []
 F_is_claim:Ai K "is_claim" "is_claim" jr t.f_is_claim t.d_is_claim
 jz:mg "is_claim" = Dn (.ref t.f_is_claim)
 b_is_claim:Binds K t.d_is_claim ["rows", "thing"] []
 F_is_name:Ai K "is_name" "is_name" j5 t.f_is_name t.d_is_name
 lA:mg "is_name" = Dn (.ref t.f_is_name)
 b_is_name:Binds K t.d_is_name ["text"] []
 F_with_names:Ai K "with_names" "with_names" fK t.f_with_names t.d_with_names
 dY:mg "with_names" = Dn (.ref t.f_with_names)
 b_with_names:Binds K t.d_with_names ["row", "names"] []
 F_show_drawing:Ai K "show_drawing" "show_drawing" dO t.f_show_drawing t.d_show_drawing
 dH:mg "show_drawing" = Dn (.ref t.f_show_drawing)
 b_show_drawing:Binds K t.d_show_drawing ["rows", "names", "claim"] []
 F_with_numbers:Ai K "with_numbers" "with_numbers" dJ t.f_with_numbers t.d_with_numbers
 cH:mg "with_numbers" = Dn (.ref t.f_with_numbers)
 b_with_numbers:Binds K t.d_with_numbers ["words", "names"] []
 F_read_rows:Ai K "read_rows" "read_rows" gR t.f_read_rows t.d_read_rows
 gW:mg "read_rows" = Dn (.ref t.f_read_rows)
 b_read_rows:Binds K t.d_read_rows ["lines"] []
 F_read_drawing:Ai K "read_drawing" "read_drawing" dN t.f_read_drawing t.d_read_drawing
 dI:mg "read_drawing" = Dn (.ref t.f_read_drawing)
 b_read_drawing:Binds K t.d_read_drawing ["text"] []
 F_l_cell_at:Ai K "_law_cell_at" "_law_cell_at" gK t.f_l_cell_at t.d_l_cell_at
 eY:mg "_law_cell_at" = Dn (.ref t.f_l_cell_at)
 b_l_cell_at:Binds K t.d_l_cell_at ["_law_script", "_law_k"] []
 F_l_bag:Ai K "_law_bag" "_law_bag" sO t.f_l_bag t.d_l_bag
 jN:mg "_law_bag" = Dn (.ref t.f_l_bag)
 b_l_bag:Binds K t.d_l_bag ["_law_cell"] []
 F_l_draw:Ai K "_law_draw" "_law_draw" m7 t.f_l_draw t.d_l_draw
 bB:mg "_law_draw" = Dn (.ref t.f_l_draw)
 b_l_draw:Binds K t.d_l_draw ["_law_bag_here", "_law_many"] []
 F_l_whole:Ai K "_law_whole" "_law_whole" j9 t.f_l_whole t.d_l_whole
 j8:mg "_law_whole" = Dn (.ref t.f_l_whole)
 b_l_whole:Binds K t.d_l_whole ["_law_found"] []
 F_l_names:Ai K "_law_names" "_law_names" lC t.f_l_names t.d_l_names
 jW:mg "_law_names" = Dn (.ref t.f_l_names)
 b_l_names:Binds K t.d_l_names ["_law_bag_here", "_law_many"] []
 F_l_row:Ai K "_law_row" "_law_row" sU t.f_l_row t.d_l_row
 sY:mg "_law_row" = Dn (.ref t.f_l_row)
 b_l_row:Binds K t.d_l_row ["_law_bag_here", "_law_sorts", "_law_free"] []
 F_l_sort:Ai K "_law_sort" "_law_sort" m9 t.f_l_sort t.d_l_sort
 nG:mg "_law_sort" = Dn (.ref t.f_l_sort)
 b_l_sort:Binds K t.d_l_sort ["_law_word"] []
 F_l_rows:Ai K "_law_rows" "_law_rows" ni t.f_l_rows t.d_l_rows
 nj:mg "_law_rows" = Dn (.ref t.f_l_rows)
 b_l_rows:Binds K t.d_l_rows ["_law_script", "_law_first", "_law_most"] []
 F_l_claim:Ai K "_law_claim" "_law_claim" j4 t.f_l_claim t.d_l_claim
 lD:mg "_law_claim" = Dn (.ref t.f_l_claim)
 b_l_claim:Binds K t.d_l_claim ["_law_bag_here", "_law_sorts"] []
 F_l_words:Ai K "_law_words" "_law_words" kY t.f_l_words t.d_l_words
 jg:mg "_law_words" = Dn (.ref t.f_l_words)
 b_l_words:Binds K t.d_l_words ["_law_row_here", "_law_names_here"] []
 F_l_read:Ai K "_law_read" "_law_read" nF t.f_l_read t.d_l_read
 jZ:mg "_law_read" = Dn (.ref t.f_l_read)
 b_l_read:Binds K t.d_l_read ["_law_text", "_law_rows_here", "_law_names_here", "_law_claim_here"] []
 F_law:Ai K "law" "law" Dj t.f_law t.d_law
 Ec:mg "law" = Dn (.ref t.f_law)
 b_law:Binds K t.d_law ["_law_script"] []
 z_all:mg "all" = FN
 z_any:mg "any" = FN
 z_bool:mg "bool" = FN
 z_enumerate:mg "enumerate" = FN
 z_int:mg "int" = FN
 z_isinstance:mg "isinstance" = FN
 z_len:mg "len" = FN
 z_list:mg "list" = FN
 z_range:mg "range" = FN
 z_str:mg "str" = FN
 z_tuple:mg "tuple" = FN
 z_zip:mg "zip" = FN
 g_MADE:mg "MADE" = Dn (.ref t.a_MADE)
 K_MADE:Gy w K t.a_MADE jG
 g_TAKEN:mg "TAKEN" = Dn (.ref t.a_TAKEN)
 K_TAKEN:Gy w K t.a_TAKEN fW
 g_CLAIMED:mg "CLAIMED" = Dn (.ref t.a_CLAIMED)
 K_CLAIMED:Gy w K t.a_CLAIMED cU
 g_MOST_ROWS:mg "MOST_ROWS" = Dn (.int 24 t.a_MOST_ROWS)
 g_MOST_FREE:mg "MOST_FREE" = Dn (.int 7 t.a_MOST_FREE)
 g_FIGURES:mg "FIGURES" = Dn (.str "0123456789" t.a_FIGURES)
 g_SMALL_LETTERS:mg "SMALL_LETTERS" = Dn (.str "abcdefghijklmnopqrstuvwxyz" t.a_SMALL_LETTERS)
 g_MOST_SIGNS:mg "MOST_SIGNS" = Dn (.int 8 t.a_MOST_SIGNS)
section
variable {P:YF}{w:Zb}{K:Yc}{mg:Str->Option Ye}{base:Heap}{t:Ad}
theorem vK (T:Txt w K mg t):eO P w K mg base kI 10 t.f_is_whole t.d_is_whole ["thing"] (lift K jw):=by
 have nd:=o7.nd;refine mG (k:=9) T.F_is_whole o7 fun cdv A outer s H E hr=>?_;have hc:=hr.calm (by decide);refine aH ?_;exact (bK<|yH (aL nQ (by rfl) (by exact T.z_isinstance) Zx (ak (dv 0<|pv 0) (ak (dc (dD (v:=.ty "int") (by rfl) (by exact T.z_int) boot_int<|by rfl)<|fun _ _=>by rw [FX]) aq<|aj<|by rfl)<|aj<|by rfl) (by decide) (by decide) (aj<|by rfl)<|aB<|by rfl)<|Er<|Oz<|aL nQ (by rfl) (by exact T.z_isinstance) Zx (ak (dv 0<|pv 0) (ak (dc (dD (v:=.ty "bool") (by rfl) (by exact T.z_bool) boot_bool<|by rfl)<|fun _ _=>by rw [FX]) aq<|aj<|by rfl)<|aj<|by rfl) (by decide) (by decide) (aj<|by rfl)<|aB<|by rfl)
theorem eX (T:Txt w K mg t):eO P w K mg base kI 10 t.f_begins_with_word t.d_begins_with_word ["thing", "words"] (lift K bQ):=by
 have nd:=eV.nd;refine mG (k:=9) T.F_begins_with_word eV fun cdv A outer s H E hr=>?_;have hc:=hr.calm (by decide);refine aH ?_;exact (bK<|yH (aL nQ (by rfl) (by exact T.z_isinstance) Zx (ak (dv 0<|pv 0) (ak (dc (dD (v:=.ty "tuple") (by rfl) (by exact T.z_tuple) boot_tuple<|by rfl)<|fun _ _=>by rw [FX]) aq<|aj<|by rfl)<|aj<|by rfl) (by decide) (by decide) (aj<|by rfl)<|aB<|by rfl)<|yH (Bq Sq (aL cg (by rfl) (by exact T.z_len) Yu (ak (dv 0<|pv 0) aq<|aj<|by rfl) (by decide) (by decide) (aj<|by rfl)<|aB<|by rfl) aJ<|bH _)<|yH (aL zX (by rfl) (by exact T.z_isinstance) Zx (ak (bO (dv 0<|pv 0) aJ (by intro _ _;rfl)) (ak (dc (dD (v:=.ty "str") (by rfl) (by exact T.z_str) boot_str<|by rfl)<|fun _ _=>by rw [FX]) aq<|aj<|by rfl)<|aj<|by rfl) (by decide) (by decide) (aj<|by rfl)<|aB<|by rfl)<|Er<|Bq Wg (bO (dv 0<|pv 0) aJ (by intro _ _;rfl)) (dv 1<|pv 1)<|by with_unfolding_all rfl)
theorem iV (T:Txt w K mg t):eO P w K mg base kI 11 t.f_are_of_sorts t.d_are_of_sorts ["sorts", "numbers", "due"] (lift K cI):=by
 have nd:=iY.nd;refine mG (k:=10) T.F_are_of_sorts iY fun cdv A outer s H E hr=>?_;have hc:=hr.calm (by decide);refine aD ?_ ?_
 ·exact (cN (bG (rO<|jC hr) (aL cg (by rfl) (by exact T.z_len) Yu (ak (dv 1<|pv 1) aq<|aj<|by rfl) (by decide) (by decide) (aj<|by rfl)<|aB<|by rfl) (aL cg (by rfl) (by exact T.z_len) Yu (ak (dv 2<|pv 2) aq<|aj<|by rfl) (by decide) (by decide) (aj<|by rfl)<|aB<|by rfl)<|bH _) (aH<|bK zp) aZ)
 refine aD ?_ ?_
 ·exact (mU JH hc (Qc (by rfl) (by exact T.z_zip) (ak (dv 1<|pv 1) (ak (dv 2<|pv 2) aq<|aj<|by rfl)<|aj<|by rfl) (aj<|by rfl)<|aB<|by rfl) (wA hc<|jA (d9<|cV (i:=3) nd (by rfl)<|by exact Or.inl rfl)<|jA (d9<|cV (i:=4) nd (by rfl)<|by exact Or.inl rfl) vW)<|aH<|cN (gP (dR<|dW<|aV ((vK T).mono (by decide)) hr (by rfl) (by exact T.jw) (by exact T.F_is_whole.kp) (by exact T.b_is_whole) (ak (dv 3<|pv 3) aq<|aj<|by rfl) (by decide) (aj<|by rfl)<|aB<|by rfl)<|gP (bG FP (dv 3<|pv 3) aJ<|bH _)<|gP (bG Wu (dv 3<|pv 3) (aL cg (by rfl) (by exact T.z_len) Yu (ak (dv 0<|pv 0) aq<|aj<|by rfl) (by decide) (by decide) (aj<|by rfl)<|aB<|by rfl)<|bH _)<|iM<|bG (rO<|jC hr) (bO (dv 0<|pv 0) (dv 3<|pv 3) (by intro _ _;rfl)) (dv 4<|pv 4)<|bH _).pt (aH<|bK zp) aZ)
 refine aH ?_;exact (bK zp)
theorem u0 (T:Txt w K mg t):eO P w K mg base kI 10 t.f_free_rows t.d_free_rows ["rows"] (lift K gQ):=by
 have nd:=mD.nd;refine mG (k:=9) T.F_free_rows mD fun cdv A outer s H E hr=>?_;have hc:=hr.calm (by decide);refine aH ?_;exact (bK<|yt [0] hc (aY<|by rfl) fD (fB<|aY<|by rfl) (bT (by rfl) (by exact T.z_range) (ak (aL cg (by rfl) (by exact T.z_len) Yu (ak (dv 0<|pv 0) aq<|aj<|by rfl) (by decide) (by decide) (aj<|by rfl)<|aB<|by rfl) aq<|aj<|by rfl)<|eG<|by rfl) (fun _ _ _ _=>(jj<|bG (Km<|jC hr) (bO (bO (dv 1<|pv 1) (dv 0<|pv 0) (by intro _ _;rfl)) aJ (by intro _ _;rfl)) bA<|bH _))<|fun _ _ _ _=>(dv 0<|pv 0))
theorem rG (T:Txt w K mg t):eO P w K mg base kI 12 t.f_is_drawing t.d_is_drawing ["thing"] (lift K fM):=by
 have nd:=kZ.nd;refine mG (k:=11) T.F_is_drawing kZ fun cdv A outer s H E hr=>?_;have hc:=hr.calm (by decide);refine aD ?_ ?_
 ·exact (cN (gP (dR<|dW<|aL nQ (by rfl) (by exact T.z_isinstance) Zx (ak (dv 0<|pv 0) (ak (dc (dD (v:=.ty "list") (by rfl) (by exact T.z_list) boot_list<|by rfl)<|fun _ _=>by rw [FX]) aq<|aj<|by rfl)<|aj<|by rfl) (by decide) (by decide) (aj<|by rfl)<|aB<|by rfl)<|gP (bG FP (aL cg (by rfl) (by exact T.z_len) Yu (ak (dv 0<|pv 0) aq<|aj<|by rfl) (by decide) (by decide) (aj<|by rfl)<|aB<|by rfl) aJ<|bH _)<|iM<|bG Sq (aL cg (by rfl) (by exact T.z_len) Yu (ak (dv 0<|pv 0) aq<|aj<|by rfl) (by decide) (by decide) (aj<|by rfl)<|aB<|by rfl) (dc (v:=.int 24) (jd (by rfl) T.g_MOST_ROWS ⟨_,rfl⟩)<|fun _ _=>Vh)<|bH _).pt (aH<|bK zp) aZ)
 refine aD ?_ ?_
 ·exact (aU (i:=1) nd (by rfl) (by exact Or.inl rfl)<|iD aq)
 refine aD ?_ ?_
 ·exact (mU JH hc (iC (dv 0 (pv 0))) (d9 (cV (i:=2) nd (by rfl) (by exact Or.inl rfl))) (aD (cN (gP (dR (dW (aV ((eX T).mono (by decide)) hr (by rfl) (by exact T.bQ) (by exact T.F_begins_with_word.kp) (by exact T.b_begins_with_word) (ak (dv 2 (pv 2)) (ak (Bb T.K_TAKEN hc (by rfl) (by exact T.z_list) (by rfl) T.g_TAKEN) aq (aj (by rfl))) (aj (by rfl))) (by decide) (aj (by rfl)) (aB (by rfl))))) (iM (dR (dW (aV ((iV T).mono (by decide)) hr (by rfl) (by exact T.cI) (by exact T.F_are_of_sorts.kp) (by exact T.b_are_of_sorts) (ak (dv 1 (pv 1)) (ak (nJ (dv 2 (pv 2)) (dB aJ) eE) (ak (EY T.K_TAKEN (by rfl) T.g_TAKEN (bO (dv 2 (pv 2)) aJ (by intro _ _;rfl)) (by intro _ _;rfl)) aq (aj (by rfl))) (aj (by rfl))) (aj (by rfl))) (by decide) (aj (by rfl)) (aB (by rfl))))))).pt (aH (bK zp)) aZ)
  (aH (d8 (dz (dv 1 (pv 1)) (ak (EY T.K_MADE (by rfl) T.g_MADE (bO (dv 2 (pv 2)) aJ (by intro _ _;rfl)) (by intro _ _;rfl)) aq (aj (by rfl))) (by rfl) (iT (by rfl)) (by rfl) (aj (by rfl)) (by rfl))))))
 refine aH ?_;exact (bK<|Bq Xd (aL cg (by rfl) (by exact T.z_len) Yu (ak (aV ((u0 T).mono (by decide)) hr (by rfl) (by exact T.gQ) (by exact T.F_free_rows.kp) (by exact T.b_free_rows) (ak (dv 0<|pv 0) aq<|aj<|by rfl) (by decide) (aj<|by rfl)<|aB<|by rfl) aq<|aj<|by rfl) (by decide) (by decide) (aj<|by rfl)<|aB<|by rfl) (dc (v:=.int 7) (jd (by rfl) T.g_MOST_FREE ⟨_,rfl⟩)<|fun _ _=>Vh)<|bH _)
theorem yG (T:Txt w K mg t):eO P w K mg base kI 10 t.f_sort_of t.d_sort_of ["rows", "k"] (lift K lF):=by
 have nd:=pZ.nd;refine mG (k:=9) T.F_sort_of pZ fun cdv A outer s H E hr=>?_;have hc:=hr.calm (by decide);refine aH ?_;exact (bK<|EY T.K_MADE (by rfl) T.g_MADE (bO (bO (dv 0<|pv 0) (dv 1<|pv 1) (by intro _ _;rfl)) aJ (by intro _ _;rfl)) (by intro _ _;rfl))
theorem vU (T:Txt w K mg t):eO P w K mg base kI 11 t.f_sorts_of t.d_sorts_of ["rows"] (lift K jx):=by
 have nd:=oH.nd;refine mG (k:=10) T.F_sorts_of oH fun cdv A outer s H E hr=>?_;have hc:=hr.calm (by decide);refine aH ?_;exact (bK<|yt [0] hc (aY<|by rfl) fD (fB<|aY<|by rfl) (bT (by rfl) (by exact T.z_range) (ak (aL cg (by rfl) (by exact T.z_len) Yu (ak (dv 0<|pv 0) aq<|aj<|by rfl) (by decide) (by decide) (aj<|by rfl)<|aB<|by rfl) aq<|aj<|by rfl)<|eG<|by rfl) (fun _ _ _ _=>cW)<|fun _ _ _ _=>(aV ((yG T).mono (by decide)) hr (by rfl) (by exact T.lF) (by exact T.F_sort_of.kp) (by exact T.b_sort_of) (ak (dv 1<|pv 1) (ak (dv 0<|pv 0) aq<|aj<|by rfl)<|aj<|by rfl) (by decide) (aj<|by rfl)<|aB<|by rfl))
theorem vJ (T:Txt w K mg t):eO P w K mg base kI 12 t.f_is_claim t.d_is_claim ["rows", "thing"] (lift K jz):=by
 have nd:=oN.nd;refine mG (k:=11) T.F_is_claim oN fun cdv A outer s H E hr=>?_;have hc:=hr.calm (by decide);refine aD ?_ ?_
 ·exact (cN (dR<|dW<|aV ((eX T).mono (by decide)) hr (by rfl) (by exact T.bQ) (by exact T.F_begins_with_word.kp) (by exact T.b_begins_with_word) (ak (dv 1<|pv 1) (ak (Bb T.K_CLAIMED hc (by rfl) (by exact T.z_list) (by rfl) T.g_CLAIMED) aq<|aj<|by rfl)<|aj<|by rfl) (by decide) (aj<|by rfl)<|aB<|by rfl) (aH<|bK zp) aZ)
 refine aD ?_ ?_
 ·exact (aU (i:=2) nd (by rfl) (by exact Or.inr rfl)<|aV ((vU T).mono (by decide)) hr (by rfl) (by exact T.jx) (by exact T.F_sorts_of.kp) (by exact T.b_sorts_of) (ak (dv 0<|pv 0) aq<|aj<|by rfl) (by decide) (aj<|by rfl)<|aB<|by rfl)
 refine aH ?_;exact (bK<|aL (S9 hc) (by rfl) (by exact T.z_any) boot_any (ak (yt [1,2] hc (aY<|by rfl) fD (fB<|aY<|by rfl) (iC<|EY T.K_CLAIMED (by rfl) T.g_CLAIMED (bO (dv 1<|pv 1) aJ (by intro _ _;rfl)) (by intro _ _;rfl)) (fun _ _ _ _=>cW)<|fun _ _ _ _=>(aV ((iV T).mono (by decide)) hr (by rfl) (by exact T.cI) (by exact T.F_are_of_sorts.kp) (by exact T.b_are_of_sorts) (ak (dv 2<|pv 2) (ak (nJ (dv 1<|pv 1) (dB aJ) eE) (ak (dv 0<|pv 0) aq<|aj<|by rfl)<|aj<|by rfl)<|aj<|by rfl) (by decide) (aj<|by rfl)<|aB<|by rfl)) aq<|aj<|by rfl) (by decide) (by decide) (aj<|by rfl)<|aB<|by rfl)
theorem yI (T:Txt w K mg t):eO P w K mg base kI 10 t.f_is_name t.d_is_name ["text"] (lift K lA):=by
 have nd:=qg.nd;refine mG (k:=9) T.F_is_name qg fun cdv A outer s H E hr=>?_;have hc:=hr.calm (by decide);refine aD ?_ ?_
 ·exact (cN (gP (bG FP (aL Im (by rfl) (by exact T.z_len) Yu (ak (dv 0<|pv 0) aq<|aj<|by rfl) (by decide) (by decide) (aj<|by rfl)<|aB<|by rfl) aJ<|bH _)<|gP (bG Sq (aL Im (by rfl) (by exact T.z_len) Yu (ak (dv 0<|pv 0) aq<|aj<|by rfl) (by decide) (by decide) (aj<|by rfl)<|aB<|by rfl) (dc (v:=.int 8) (jd (by rfl) T.g_MOST_SIGNS ⟨_,rfl⟩)<|fun _ _=>Vh)<|bH _)<|iM<|bG Om (Eh (dv 0<|pv 0) aJ (by intro _ _;rfl)) (dc (v:=.str "abcdefghijklmnopqrstuvwxyz") (jd (by rfl) T.g_SMALL_LETTERS ⟨_,rfl⟩)<|fun _ _=>by rw [FX])<|by with_unfolding_all rfl).pt (aH<|bK zp) aZ)
 refine aH ?_;exact (bK<|aL (K7 hc) (by rfl) (by exact T.z_all) boot_all (ak (yt [] hc (aY<|by rfl) fD (fB<|aY<|by rfl) (Ry<|dv 0<|pv 0) (fun _ _ _ _=>cW)<|fun _ _ _ _=>(Bq Tg (dv 0<|pv 0) (dX gG (dc (v:=.str "abcdefghijklmnopqrstuvwxyz") (jd (by rfl) T.g_SMALL_LETTERS ⟨_,rfl⟩)<|fun _ _=>by rw [FX])<|dc (v:=.str "0123456789") (jd (by rfl) T.g_FIGURES ⟨_,rfl⟩)<|fun _ _=>by rw [FX])<|by with_unfolding_all rfl)) aq<|aj<|by rfl) (by decide) (by decide) (aj<|by rfl)<|aB<|by rfl)
theorem j7 (T:Txt w K mg t):eO P w K mg base kI 10 t.f_with_names t.d_with_names ["row", "names"] (lift K dY):=by
 have nd:=lB.nd;refine mG (k:=9) T.F_with_names lB fun cdv A outer s H E hr=>?_;have hc:=hr.calm (by decide);refine aH ?_;exact (bK<|dX fL (cX<|ak (bO (dv 0<|pv 0) aJ (by intro _ _;rfl)) aq<|aj<|by rfl)<|yt [1] hc (aY<|by rfl) fD (fB<|aY<|by rfl) (iC<|nJ (dv 0<|pv 0) (dB aJ) eE) (fun _ _ _ _=>cW)<|fun _ _ _ _=>(bO (dv 1<|pv 1) (dv 0<|pv 0) (by intro _ _;rfl)))
theorem oG (T:Txt w K mg t):eO P w K mg base kI 11 t.f_show_drawing t.d_show_drawing ["rows", "names", "claim"] (lift K dH):=by
 have nd:=jf.nd;refine mG (k:=10) T.F_show_drawing jf fun cdv A outer s H E hr=>?_;have hc:=hr.calm (by decide);refine aD ?_ ?_
 ·exact (Rh [1] (i:=3) nd (by rfl) (by exact Or.inl rfl) hc (aY<|by rfl) T5 (U8 hc<|aY<|by rfl) (aaD (by rfl) (by exact T.z_enumerate) (ak (dv 0<|pv 0) aq<|aj<|by rfl) (aj<|by rfl)<|aB<|by rfl) (fun _ _ _ _=>cW)<|fun _ _ _ _=>(CW PySem.F.slot_str_join PySem.F.type_str_join vG Bv bA (ak (dX fL (cX<|ak (bO (dv 2<|pv 2) (dv 0<|pv 0) (by intro _ _;rfl)) aq<|aj<|by rfl)<|aV ((j7 T).mono (by decide)) hr (by rfl) (by exact T.dY) (by exact T.F_with_names.kp) (by exact T.b_with_names) (ak (dv 1<|pv 1) (ak (dv 2<|pv 2) aq<|aj<|by rfl)<|aj<|by rfl) (by decide) (aj<|by rfl)<|aB<|by rfl) aq<|aj<|by rfl) (by rfl) (iT<|by rfl) (by rfl) (aj<|by rfl)<|by rfl))
 refine aD ?_ ?_
 ·exact (d8<|dz (dv 3<|pv 3) (ak (CW PySem.F.slot_str_join PySem.F.type_str_join vG Bv bA (ak (dX fL (cX<|ak bA aq<|aj<|by rfl)<|aV ((j7 T).mono (by decide)) hr (by rfl) (by exact T.dY) (by exact T.F_with_names.kp) (by exact T.b_with_names) (ak (dv 2<|pv 2) (ak (dv 1<|pv 1) aq<|aj<|by rfl)<|aj<|by rfl) (by decide) (aj<|by rfl)<|aB<|by rfl) aq<|aj<|by rfl) (by rfl) (iT<|by rfl) (by rfl) (aj<|by rfl)<|by rfl) aq<|aj<|by rfl) (by rfl) (iT<|by rfl) (by rfl) (aj<|by rfl)<|by rfl)
 refine aH ?_;exact (bK<|CW PySem.F.slot_str_join PySem.F.type_str_join vG Bv bA (ak (dv 3<|pv 3) aq<|aj<|by rfl) (by rfl) (iT<|by rfl) (by rfl) (aj<|by rfl)<|by rfl)
theorem iJ (T:Txt w K mg t):eO P w K mg base kI 10 t.f_with_numbers t.d_with_numbers ["words", "names"] (lift K cH):=by
 have nd:=iZ.nd;refine mG (k:=9) T.F_with_numbers iZ fun cdv A outer s H E hr=>?_;have hc:=hr.calm (by decide);refine aD ?_ ?_
 ·exact (cN (dR<|dW<|aL (K7 hc) (by rfl) (by exact T.z_all) boot_all (ak (yt [1] hc (aY<|by rfl) fD (fB<|aY<|by rfl) (iC<|nJ (dv 0<|pv 0) (dB aJ) eE) (fun _ _ _ _=>cW)<|fun _ _ _ _=>(Bq (SJ<|jC hr) (dv 0<|pv 0) (dv 1<|pv 1)<|by with_unfolding_all rfl)) aq<|aj<|by rfl) (by decide) (by decide) (aj<|by rfl)<|aB<|by rfl) (aH lH) aZ)
 refine aH ?_;exact (bK<|dX fL (bW<|ak (bO (dv 0<|pv 0) aJ (by intro _ _;rfl)) aq<|aj<|by rfl)<|nu abr (by rfl) (by exact T.z_tuple) boot_tuple (ak (yt [1] hc (aY<|by rfl) fD (fB<|aY<|by rfl) (iC<|nJ (dv 0<|pv 0) (dB aJ) eE) (fun _ _ _ _=>cW)<|fun _ _ _ _=>(zbf (dv 1<|pv 1) (ak (dv 0<|pv 0) aq<|aj<|by rfl) (by rfl) (iT<|by rfl) (by rfl) (aj<|by rfl)<|by rfl)) aq<|aj<|by rfl) (by decide) (by decide) (aj<|by rfl)<|aB<|by rfl)
theorem uF (T:Txt w K mg t):eO P w K mg base kI 11 t.f_read_rows t.d_read_rows ["lines"] (lift K gW):=by
 have nd:=mL.nd;refine mG (k:=10) T.F_read_rows mL fun cdv A outer s H E hr=>?_;have hc:=hr.calm (by decide);refine aD ?_ ?_
 ·exact (aU (i:=1) nd (by rfl) (by exact Or.inl rfl)<|iD aq)
 refine aD ?_ ?_
 ·exact (aU (i:=2) nd (by rfl) (by exact Or.inl rfl)<|iD aq)
 refine aD ?_ ?_
 ·exact (mU JH hc (iC (dv 0 (pv 0))) (d9 (cV (i:=3) nd (by rfl) (by exact Or.inl rfl))) (aD (cN (gP (bG FP (aL cg (by rfl) (by exact T.z_len) Yu (ak (dv 3 (pv 3)) aq (aj (by rfl))) (by decide) (by decide) (aj (by rfl)) (aB (by rfl))) aJ (bH _)) (gP (dR (dW (aV ((yI T).mono (by decide)) hr (by rfl) (by exact T.lA) (by exact T.F_is_name.kp) (by exact T.b_is_name) (ak (bO (dv 3 (pv 3)) aJ (by intro _ _;rfl)) aq (aj (by rfl))) (by decide) (aj (by rfl)) (aB (by rfl))))) (iM (bG Wg (bO (dv 3 (pv 3)) aJ (by intro _ _;rfl)) (dv 2 (pv 2)) (by with_unfolding_all rfl))))).pt (aH lH) aZ)
  (aD (d8 (dz (dv 1 (pv 1)) (ak (aV ((iJ T).mono (by decide)) hr (by rfl) (by exact T.cH) (by exact T.F_with_numbers.kp) (by exact T.b_with_numbers) (ak (nJ (dv 3 (pv 3)) (dB aJ) eE) (ak (dv 2 (pv 2)) aq (aj (by rfl))) (aj (by rfl))) (by decide) (aj (by rfl)) (aB (by rfl))) aq (aj (by rfl))) (by rfl) (iT (by rfl)) (by rfl) (aj (by rfl)) (by rfl)))
  (aH (d8 (dz (dv 2 (pv 2)) (ak (bO (dv 3 (pv 3)) aJ (by intro _ _;rfl)) aq (aj (by rfl))) (by rfl) (iT (by rfl)) (by rfl) (aj (by rfl)) (by rfl)))))))
 refine aH ?_;exact (bK<|bW<|ak (dv 1<|pv 1) (ak (dv 2<|pv 2) aq<|aj<|by rfl)<|aj<|by rfl)
theorem oO (T:Txt w K mg t):eO P w K mg base kI 13 t.f_read_drawing t.d_read_drawing ["text"] (lift K dI):=by
 have nd:=iQ.nd;refine mG (k:=12) T.F_read_drawing iQ fun cdv A outer s H E hr=>?_;have hc:=hr.calm (by decide);refine aD ?_ ?_
 ·exact (cN (dR<|dW<|aL zX (by rfl) (by exact T.z_isinstance) Zx (ak (dv 0<|pv 0) (ak (dc (dD (v:=.ty "str") (by rfl) (by exact T.z_str) boot_str<|by rfl)<|fun _ _=>by rw [FX]) aq<|aj<|by rfl)<|aj<|by rfl) (by decide) (by decide) (aj<|by rfl)<|aB<|by rfl) (aH lH) aZ)
 refine aD ?_ ?_
 ·exact (rK [] (i:=1) nd (by rfl) (by exact Or.inl rfl) hc (aY<|by rfl) fD (fB<|aY<|by rfl) (iC<|CW PySem.F.slot_str_split PySem.F.type_str_split xX s_split (dv 0<|pv 0) (ak bA aq<|aj<|by rfl) (by rfl) (iT<|by rfl) (by rfl) (aj<|by rfl)<|by rfl) (fun _ _ _ _=>cW)<|fun _ _ _ _=>(CW PySem.F.slot_str_split PySem.F.type_str_split xX s_split (dv 0<|pv 0) (ak bA aq<|aj<|by rfl) (by rfl) (iT<|by rfl) (by rfl) (aj<|by rfl)<|by rfl))
 refine aD ?_ ?_
 ·exact (aU (i:=2) nd (by rfl) (by exact Or.inl rfl)<|aV ((uF T).mono (by decide)) hr (by rfl) (by exact T.gW) (by exact T.F_read_rows.kp) (by exact T.b_read_rows) (ak (nJ (dv 1<|pv 1) eE<|dB<|tE aJ) aq<|aj<|by rfl) (by decide) (aj<|by rfl)<|aB<|by rfl)
 refine aD ?_ ?_
 ·exact (aU (i:=3) nd (by rfl) (by exact Or.inl rfl)<|bO (dv 1<|pv 1) (tE aJ) (by intro _ _;rfl))
 refine aD ?_ ?_
 ·exact (cN (gP (bG FP (aL cg (by rfl) (by exact T.z_len) Yu (ak (dv 3<|pv 3) aq<|aj<|by rfl) (by decide) (by decide) (aj<|by rfl)<|aB<|by rfl) aJ<|bH _)<|iM<|bG (rO<|jC hr) (bO (dv 3<|pv 3) aJ (by intro _ _;rfl)) bA<|bH _).pt (aH lH) aZ)
 refine aD ?_ ?_
 ·exact (aU (i:=4) nd (by rfl) (by exact Or.inl rfl)<|aV ((iJ T).mono (by decide)) hr (by rfl) (by exact T.cH) (by exact T.F_with_numbers.kp) (by exact T.b_with_numbers) (ak (nJ (dv 3<|pv 3) (dB aJ) eE) (ak (bO (dv 2<|pv 2) aJ (by intro _ _;rfl)) aq<|aj<|by rfl)<|aj<|by rfl) (by decide) (aj<|by rfl)<|aB<|by rfl)
 refine aD ?_ ?_
 ·exact (cN (gP (dR<|dW<|aV ((rG T).mono (by decide)) hr (by rfl) (by exact T.fM) (by exact T.F_is_drawing.kp) (by exact T.b_is_drawing) (ak (bO (dv 2<|pv 2) aJ (by intro _ _;rfl)) aq<|aj<|by rfl) (by decide) (aj<|by rfl)<|aB<|by rfl)<|iM<|dR<|dW<|aV ((vJ T).mono (by decide)) hr (by rfl) (by exact T.jz) (by exact T.F_is_claim.kp) (by exact T.b_is_claim) (ak (bO (dv 2<|pv 2) aJ (by intro _ _;rfl)) (ak (dv 4<|pv 4) aq<|aj<|by rfl)<|aj<|by rfl) (by decide) (aj<|by rfl)<|aB<|by rfl).pt (aH lH) aZ)
 refine aH ?_;exact (bK<|bW<|ak (bO (dv 2<|pv 2) aJ (by intro _ _;rfl)) (ak (bO (dv 2<|pv 2) aJ (by intro _ _;rfl)) (ak (dv 4<|pv 4) aq<|aj<|by rfl)<|aj<|by rfl)<|aj<|by rfl)
theorem mV (T:Txt w K mg t):eO P w K mg base kI 10 t.f_l_cell_at t.d_l_cell_at ["_law_script", "_law_k"] (lift K eY):=by
 have nd:=mJ.nd;refine mG (k:=9) T.F_l_cell_at mJ fun cdv A outer s H E hr=>?_;have hc:=hr.calm (by decide);refine aD ?_ ?_
 ·exact (cN (bG FP (dv 1<|pv 1) (aL cg (by rfl) (by exact T.z_len) Yu (ak (dv 0<|pv 0) aq<|aj<|by rfl) (by decide) (by decide) (aj<|by rfl)<|aB<|by rfl)<|bH _) (aH<|bK<|bO (dv 0<|pv 0) (dv 1<|pv 1) (by intro _ _;rfl)) aZ)
 refine aH ?_;exact (bK aJ)
theorem sH (T:Txt w K mg t):eO P w K mg base kI 10 t.f_l_bag t.d_l_bag ["_law_cell"] (lift K jN):=by
 have nd:=wL.nd;refine mG (k:=9) T.F_l_bag wL fun cdv A outer s H E hr=>?_;have hc:=hr.calm (by decide);refine aD ?_ ?_
 ·exact (cN (bG FP (dv 0<|pv 0) (dX Vl aJ aJ)<|bH _) (aH<|bK<|iD<|ak aJ (ak (dX fL (dX uD (dv 0<|pv 0) aJ) aJ) aq<|aj<|by rfl)<|aj<|by rfl) aZ)
 refine aH ?_;exact (bK<|iD<|ak (dv 0<|pv 0) (ak aJ aq<|aj<|by rfl)<|aj<|by rfl)
theorem bD (T:Txt w K mg t):eO P w K mg base kI 10 t.f_l_draw t.d_l_draw ["_law_bag_here", "_law_many"] (lift K bB):=by
 have nd:=uG.nd;refine mG (k:=9) T.F_l_draw uG fun cdv A outer s H E hr=>?_;have hc:=hr.calm (by decide);refine aD ?_ ?_
 ·exact (cN (bG Sq (bO (dv 0 (pv 0)) aJ (by intro _ _;rfl)) aJ (bH _)) (aD (aU (i:=2) nd (by rfl) (by exact Or.inl rfl) (dX uD (bO (dv 0 (pv 0)) aJ (by intro _ _;rfl)) (dv 1 (pv 1))))
  (aD (zR (dX Ks (bO (dv 0 (pv 0)) aJ (by intro _ _;rfl)) (dv 1 (pv 1))) (Ik (dv 0 (pv 0)) aJ set_list xq))
  (aH (bK (dv 2 (pv 2)))))) aZ)
 refine aD ?_ ?_
 ·exact (zR (dX uD (dX fL (dX PL (bO (dv 0<|pv 0) aJ (by intro _ _;rfl)) aJ) aJ) aJ)<|Ik (dv 0<|pv 0) aJ set_list xq)
 refine aH ?_;exact (bK<|dX uD (dX Ks (dX uD (dX PL (bO (dv 0<|pv 0) aJ (by intro _ _;rfl))<|dX fL (dX Ks (bO (dv 0<|pv 0) aJ (by intro _ _;rfl)) aJ) aJ) aJ) aJ)<|dv 1<|pv 1)
theorem zf (T:Txt w K mg t):eO P w K mg base kI 10 t.f_l_whole t.d_l_whole ["_law_found"] (lift K j8):=by
 have nd:=qK.nd;refine mG (k:=9) T.F_l_whole qK fun cdv A outer s H E hr=>?_;have hc:=hr.calm (by decide);refine aH ?_;exact (bK<|yH (aL nQ (by rfl) (by exact T.z_isinstance) Zx (ak (dv 0<|pv 0) (ak (dc (dD (v:=.ty "int") (by rfl) (by exact T.z_int) boot_int<|by rfl)<|fun _ _=>by rw [FX]) aq<|aj<|by rfl)<|aj<|by rfl) (by decide) (by decide) (aj<|by rfl)<|aB<|by rfl)<|Er<|Oz<|aL nQ (by rfl) (by exact T.z_isinstance) Zx (ak (dv 0<|pv 0) (ak (dc (dD (v:=.ty "bool") (by rfl) (by exact T.z_bool) boot_bool<|by rfl)<|fun _ _=>by rw [FX]) aq<|aj<|by rfl)<|aj<|by rfl) (by decide) (by decide) (aj<|by rfl)<|aB<|by rfl)
theorem yP (T:Txt w K mg t):eO P w K mg base kI 11 t.f_l_names t.d_l_names ["_law_bag_here", "_law_many"] (lift K jW):=by
 have nd:=qD.nd;refine mG (k:=10) T.F_l_names qD fun cdv A outer s H E hr=>?_;have hc:=hr.calm (by decide);refine aD ?_ ?_
 ·exact (aU (i:=2) nd (by rfl) (by exact Or.inr rfl) bA)
 refine aD ?_ ?_
 ·exact (aU (i:=3) nd (by rfl) (by exact Or.inl rfl)<|dX fL aJ<|aV ((bD T).mono (by decide)) hr (by rfl) (by exact T.bB) (by exact T.F_l_draw.kp) (by exact T.b_l_draw) (ak (dv 0<|pv 0) (ak aJ aq<|aj<|by rfl)<|aj<|by rfl) (by decide) (aj<|by rfl)<|aB<|by rfl)
 refine aD ?_ ?_
 ·exact (aU (i:=4) nd (by rfl) (by exact Or.inr rfl)<|aV ((bD T).mono (by decide)) hr (by rfl) (by exact T.bB) (by exact T.F_l_draw.kp) (by exact T.b_l_draw) (ak (dv 0<|pv 0) (ak (dv 3<|pv 3) aq<|aj<|by rfl)<|aj<|by rfl) (by decide) (aj<|by rfl)<|aB<|by rfl)
 refine aD ?_ ?_
 ·exact (aU (i:=5) nd (by rfl) (by exact Or.inr rfl)<|Eh (dv 2<|pv 2) (aV ((bD T).mono (by decide)) hr (by rfl) (by exact T.bB) (by exact T.F_l_draw.kp) (by exact T.b_l_draw) (ak (dv 0<|pv 0) (ak aJ aq<|aj<|by rfl)<|aj<|by rfl) (by decide) (aj<|by rfl)<|aB<|by rfl) (by intro _ _;rfl))
 refine aD ?_ ?_
 ·exact (mU JH hc (bT (by rfl) (by exact T.z_range) (ak (dX JT (dv 3<|pv 3) aJ) aq<|aj<|by rfl)<|eG<|by rfl) (d9<|cV (i:=6) nd (by rfl)<|by exact Or.inl rfl)<|aH<|aU (i:=5) nd (by rfl) (by exact Or.inr rfl)<|dX gG (dv 5<|pv 5)<|Eh (dX gG (dv 2<|pv 2) bA) (aV ((bD T).mono (by decide)) hr (by rfl) (by exact T.bB) (by exact T.F_l_draw.kp) (by exact T.b_l_draw) (ak (dv 0<|pv 0) (ak aJ aq<|aj<|by rfl)<|aj<|by rfl) (by decide) (aj<|by rfl)<|aB<|by rfl) (by intro _ _;rfl))
 refine aD ?_ ?_
 ·exact (aU (i:=7) nd (by rfl) (by exact Or.inr rfl)<|aV ((bD T).mono (by decide)) hr (by rfl) (by exact T.bB) (by exact T.F_l_draw.kp) (by exact T.b_l_draw) (ak (dv 0<|pv 0) (ak aJ aq<|aj<|by rfl)<|aj<|by rfl) (by decide) (aj<|by rfl)<|aB<|by rfl)
 refine aH ?_;exact (bK<|yt [2,4,5,7] hc (aY<|by rfl) fD (fB<|aY<|by rfl) (bT (by rfl) (by exact T.z_range) (ak (dv 1<|pv 1) aq<|aj<|by rfl)<|eG<|by rfl) (fun _ _ _ _=>cW)<|fun _ _ _ _=>(dX gG (dX gG (Rj (dv 3<|pv 3) eE<|dB<|dv 2<|pv 2)<|Eh (dv 1<|pv 1) (dX uD (dX fL (dv 4<|pv 4)<|dv 0<|pv 0) aJ) (by intro _ _;rfl))<|Rj (dv 3<|pv 3) (dB<|dX fL (dv 2<|pv 2) aJ) eE))
theorem zbn (T:Txt w K mg t):eO P w K mg base kI 11 t.f_l_row t.d_l_row ["_law_bag_here", "_law_sorts", "_law_free"] (lift K sY):=by
 have nd:=yj.nd;refine mG (k:=10) T.F_l_row yj fun cdv A outer s H E hr=>?_;have hc:=hr.calm (by decide);refine aD ?_ ?_
 ·exact (aU (i:=3) nd (by rfl) (by exact Or.inr rfl)<|yt [1] hc (aY<|by rfl) fD (fB<|aY<|by rfl) (bT (by rfl) (by exact T.z_range) (ak (aL cg (by rfl) (by exact T.z_len) Yu (ak (dv 1<|pv 1) aq<|aj<|by rfl) (by decide) (by decide) (aj<|by rfl)<|aB<|by rfl) aq<|aj<|by rfl)<|eG<|by rfl) (fun _ _ _ _=>(jj<|bG (Km<|jC hr) (bO (dv 1<|pv 1) (dv 0<|pv 0) (by intro _ _;rfl)) bA<|bH _))<|fun _ _ _ _=>(dv 0<|pv 0))
 refine aD ?_ ?_
 ·exact (rK [1] (i:=4) nd (by rfl) (by exact Or.inl rfl) hc (aY<|by rfl) fD (fB<|aY<|by rfl) (bT (by rfl) (by exact T.z_range) (ak (aL cg (by rfl) (by exact T.z_len) Yu (ak (dv 1<|pv 1) aq<|aj<|by rfl) (by decide) (by decide) (aj<|by rfl)<|aB<|by rfl) aq<|aj<|by rfl)<|eG<|by rfl) (fun _ _ _ _=>(jj<|bG (Km<|jC hr) (bO (dv 1<|pv 1) (dv 0<|pv 0) (by intro _ _;rfl)) bA<|bH _))<|fun _ _ _ _=>(dv 0<|pv 0))
 refine aD ?_ ?_
 ·exact (rK [1] (i:=5) nd (by rfl) (by exact Or.inl rfl) hc (aY<|by rfl) fD (fB<|aY<|by rfl) (bT (by rfl) (by exact T.z_range) (ak (aL cg (by rfl) (by exact T.z_len) Yu (ak (dv 1<|pv 1) aq<|aj<|by rfl) (by decide) (by decide) (aj<|by rfl)<|aB<|by rfl) aq<|aj<|by rfl)<|eG<|by rfl) (fun _ _ _ _=>(jj<|bG (Km<|jC hr) (bO (dv 1<|pv 1) (dv 0<|pv 0) (by intro _ _;rfl)) bA<|bH _))<|fun _ _ _ _=>(dv 0<|pv 0))
 refine aD ?_ ?_
 ·exact (aU (i:=6) nd (by rfl) (by exact Or.inl rfl)<|iD aq)
 refine aD ?_ ?_
 ·first
  | (with_reducible exact (cN (bG FP (dv 2 (by with_unfolding_all exact pv 2)) aJ (by with_unfolding_all exact bH _)) (aH (aU (hs:=by with_unfolding_all rfl) (hf:=by with_unfolding_all first | exact .inl rfl | exact .inr rfl) (i:=6) (by with_unfolding_all exact nd) (by with_unfolding_all rfl) (by with_unfolding_all exact Or.inl rfl) (iD (ak (bW (ak bA aq (aj (by with_unfolding_all rfl)))) (ak (bW (ak bA aq (aj (by with_unfolding_all rfl)))) aq (aj (by with_unfolding_all rfl))) (aj (by with_unfolding_all rfl)))))) aZ))
  | (exact (cN (bG FP (dv 2 (pv 2)) aJ (bH _)) (aH (aU (i:=6) nd (by rfl) (by exact Or.inl rfl) (iD (ak (bW (ak bA aq (aj (by rfl)))) (ak (bW (ak bA aq (aj (by rfl)))) aq (aj (by rfl))) (aj (by rfl)))))) aZ))
 refine aD ?_ ?_
 ·first
  | (with_reducible exact (cN (bG (rO (by with_unfolding_all exact jC hr)) (dv 3 (by with_unfolding_all exact pv 3)) (cX aq) (by with_unfolding_all exact bH _)) (aD (aU (hs:=by with_unfolding_all rfl) (hf:=by with_unfolding_all first | exact .inl rfl | exact .inr rfl) (i:=7) (by with_unfolding_all exact nd) (by with_unfolding_all rfl) (by with_unfolding_all exact Or.inl rfl) (bO (dv 3 (by with_unfolding_all exact pv 3)) (aV (k:=10) (by with_unfolding_all exact (bD T).mono (by decide)) (by with_unfolding_all exact hr) (by with_unfolding_all rfl) (by with_unfolding_all exact T.bB) (by with_unfolding_all exact T.F_l_draw.kp) (by with_unfolding_all exact T.b_l_draw) (ak (dv 0 (by with_unfolding_all exact pv 0)) (ak (aL cg (by with_unfolding_all rfl) (by with_unfolding_all exact T.z_len) Yu (ak (dv 3 (by with_unfolding_all exact pv 3)) aq (aj (by with_unfolding_all rfl))) (by decide) (by decide) (aj (by with_unfolding_all rfl)) (aB (by with_unfolding_all rfl))) aq (aj (by with_unfolding_all rfl))) (aj (by with_unfolding_all rfl))) (by decide) (aj (by with_unfolding_all rfl)) (aB (by with_unfolding_all rfl))) (by with_unfolding_all (intro _ _;rfl))))
  (aD (aU (hs:=by with_unfolding_all rfl) (hf:=by with_unfolding_all first | exact .inl rfl | exact .inr rfl) (i:=8) (by with_unfolding_all exact nd) (by with_unfolding_all rfl) (by with_unfolding_all exact Or.inl rfl) (bO (dv 3 (by with_unfolding_all exact pv 3)) (aV (k:=10) (by with_unfolding_all exact (bD T).mono (by decide)) (by with_unfolding_all exact hr) (by with_unfolding_all rfl) (by with_unfolding_all exact T.bB) (by with_unfolding_all exact T.F_l_draw.kp) (by with_unfolding_all exact T.b_l_draw) (ak (dv 0 (by with_unfolding_all exact pv 0)) (ak (aL cg (by with_unfolding_all rfl) (by with_unfolding_all exact T.z_len) Yu (ak (dv 3 (by with_unfolding_all exact pv 3)) aq (aj (by with_unfolding_all rfl))) (by decide) (by decide) (aj (by with_unfolding_all rfl)) (aB (by with_unfolding_all rfl))) aq (aj (by with_unfolding_all rfl))) (aj (by with_unfolding_all rfl))) (by decide) (aj (by with_unfolding_all rfl)) (aB (by with_unfolding_all rfl))) (by with_unfolding_all (intro _ _;rfl))))
  (aD (rK (hsw:=by with_unfolding_all rfl) (hf:=by with_unfolding_all first | exact .inl rfl | exact .inr rfl) (hs:=by with_unfolding_all (intro _;rfl)) [3] (i:=9) (by with_unfolding_all exact nd) (by with_unfolding_all rfl) (by with_unfolding_all exact Or.inl rfl) (by with_unfolding_all exact hc) (by with_unfolding_all exact aY rfl) fD (fB (by with_unfolding_all exact aY rfl)) (bT (by with_unfolding_all rfl) (by with_unfolding_all exact T.z_range) (ak aJ aq (aj (by with_unfolding_all rfl))) (eG (by with_unfolding_all rfl))) (fun _ _ _ _=>cW) (fun _ _ _ _=>(bO (dv 1 (by with_unfolding_all exact pv 1)) (dX JT (tE aJ) (dX uD (dv 0 (by with_unfolding_all exact pv 0)) (aL cg (by with_unfolding_all rfl) (by with_unfolding_all exact T.z_len) Yu (ak (dv 1 (by with_unfolding_all exact pv 1)) aq (aj (by with_unfolding_all rfl))) (by decide) (by decide) (aj (by with_unfolding_all rfl)) (aB (by with_unfolding_all rfl))))) (by with_unfolding_all (intro _ _;rfl)))))
  (aD (aU (hs:=by with_unfolding_all rfl) (hf:=by with_unfolding_all first | exact .inl rfl | exact .inr rfl) (i:=6) (by with_unfolding_all exact nd) (by with_unfolding_all rfl) (by with_unfolding_all exact Or.inl rfl) (dX jE (dv 6 (by with_unfolding_all exact pv 6)) (cX (ak (bW (ak bA (ak (dv 7 (by with_unfolding_all exact pv 7)) (ak (dv 8 (by with_unfolding_all exact pv 8)) aq (aj (by with_unfolding_all rfl))) (aj (by with_unfolding_all rfl))) (aj (by with_unfolding_all rfl)))) (ak (bW (ak bA (ak (dv 8 (by with_unfolding_all exact pv 8)) (ak (dv 7 (by with_unfolding_all exact pv 7)) aq (aj (by with_unfolding_all rfl))) (aj (by with_unfolding_all rfl))) (aj (by with_unfolding_all rfl)))) (ak (bW (ak bA (ak (dv 7 (by with_unfolding_all exact pv 7)) (ak (dv 8 (by with_unfolding_all exact pv 8)) (ak (bO (dv 9 (by with_unfolding_all exact pv 9)) aJ (by with_unfolding_all (intro _ _;rfl))) (ak (bO (dv 9 (by with_unfolding_all exact pv 9)) aJ (by with_unfolding_all (intro _ _;rfl))) (ak (bO (dv 9 (by with_unfolding_all exact pv 9)) aJ (by with_unfolding_all (intro _ _;rfl))) aq (aj (by with_unfolding_all rfl))) (aj (by with_unfolding_all rfl))) (aj (by with_unfolding_all rfl))) (aj (by with_unfolding_all rfl))) (aj (by with_unfolding_all rfl))) (aj (by with_unfolding_all rfl)))) aq (aj (by with_unfolding_all rfl))) (aj (by with_unfolding_all rfl))) (aj (by with_unfolding_all rfl))))))
  (aH (cN (bG (rO (by with_unfolding_all exact jC hr)) (dv 5 (by with_unfolding_all exact pv 5)) (cX aq) (by with_unfolding_all exact bH _)) (aH (aU (hs:=by with_unfolding_all rfl) (hf:=by with_unfolding_all first | exact .inl rfl | exact .inr rfl) (i:=6) (by with_unfolding_all exact nd) (by with_unfolding_all rfl) (by with_unfolding_all exact Or.inl rfl) (dX jE (dv 6 (by with_unfolding_all exact pv 6)) (cX (ak (bW (ak bA (ak (bO (dv 5 (by with_unfolding_all exact pv 5)) (tE aJ) (by with_unfolding_all (intro _ _;rfl))) (ak (dv 7 (by with_unfolding_all exact pv 7)) aq (aj (by with_unfolding_all rfl))) (aj (by with_unfolding_all rfl))) (aj (by with_unfolding_all rfl)))) (ak (bW (ak bA (ak (bO (dv 5 (by with_unfolding_all exact pv 5)) aJ (by with_unfolding_all (intro _ _;rfl))) (ak (dv 7 (by with_unfolding_all exact pv 7)) (ak (dv 8 (by with_unfolding_all exact pv 8)) aq (aj (by with_unfolding_all rfl))) (aj (by with_unfolding_all rfl))) (aj (by with_unfolding_all rfl))) (aj (by with_unfolding_all rfl)))) aq (aj (by with_unfolding_all rfl))) (aj (by with_unfolding_all rfl))))))) aZ)))))) aZ))
  | (exact (cN (bG (rO (jC hr)) (dv 3 (pv 3)) (cX aq) (bH _)) (aD (aU (i:=7) nd (by rfl) (by exact Or.inl rfl) (bO (dv 3 (pv 3)) (aV ((bD T).mono (by decide)) hr (by rfl) (by exact T.bB) (by exact T.F_l_draw.kp) (by exact T.b_l_draw) (ak (dv 0 (pv 0)) (ak (aL cg (by rfl) (by exact T.z_len) Yu (ak (dv 3 (pv 3)) aq (aj (by rfl))) (by decide) (by decide) (aj (by rfl)) (aB (by rfl))) aq (aj (by rfl))) (aj (by rfl))) (by decide) (aj (by rfl)) (aB (by rfl))) (by intro _ _;rfl)))
  (aD (aU (i:=8) nd (by rfl) (by exact Or.inl rfl) (bO (dv 3 (pv 3)) (aV ((bD T).mono (by decide)) hr (by rfl) (by exact T.bB) (by exact T.F_l_draw.kp) (by exact T.b_l_draw) (ak (dv 0 (pv 0)) (ak (aL cg (by rfl) (by exact T.z_len) Yu (ak (dv 3 (pv 3)) aq (aj (by rfl))) (by decide) (by decide) (aj (by rfl)) (aB (by rfl))) aq (aj (by rfl))) (aj (by rfl))) (by decide) (aj (by rfl)) (aB (by rfl))) (by intro _ _;rfl)))
  (aD (rK [3] (i:=9) nd (by rfl) (by exact Or.inl rfl) hc (aY (by rfl)) fD (fB (aY (by rfl))) (bT (by rfl) (by exact T.z_range) (ak aJ aq (aj (by rfl))) (eG (by rfl))) (fun _ _ _ _=>cW) (fun _ _ _ _=>(bO (dv 1 (pv 1)) (dX JT (tE aJ) (dX uD (dv 0 (pv 0)) (aL cg (by rfl) (by exact T.z_len) Yu (ak (dv 1 (pv 1)) aq (aj (by rfl))) (by decide) (by decide) (aj (by rfl)) (aB (by rfl))))) (by intro _ _;rfl))))
  (aD (aU (i:=6) nd (by rfl) (by exact Or.inl rfl) (dX jE (dv 6 (pv 6)) (cX (ak (bW (ak bA (ak (dv 7 (pv 7)) (ak (dv 8 (pv 8)) aq (aj (by rfl))) (aj (by rfl))) (aj (by rfl)))) (ak (bW (ak bA (ak (dv 8 (pv 8)) (ak (dv 7 (pv 7)) aq (aj (by rfl))) (aj (by rfl))) (aj (by rfl)))) (ak (bW (ak bA (ak (dv 7 (pv 7)) (ak (dv 8 (pv 8)) (ak (bO (dv 9 (pv 9)) aJ (by intro _ _;rfl)) (ak (bO (dv 9 (pv 9)) aJ (by intro _ _;rfl)) (ak (bO (dv 9 (pv 9)) aJ (by intro _ _;rfl)) aq (aj (by rfl))) (aj (by rfl))) (aj (by rfl))) (aj (by rfl))) (aj (by rfl))) (aj (by rfl)))) aq (aj (by rfl))) (aj (by rfl))) (aj (by rfl))))))
  (aH (cN (bG (rO (jC hr)) (dv 5 (pv 5)) (cX aq) (bH _)) (aH (aU (i:=6) nd (by rfl) (by exact Or.inl rfl) (dX jE (dv 6 (pv 6)) (cX (ak (bW (ak bA (ak (bO (dv 5 (pv 5)) (tE aJ) (by intro _ _;rfl)) (ak (dv 7 (pv 7)) aq (aj (by rfl))) (aj (by rfl))) (aj (by rfl)))) (ak (bW (ak bA (ak (bO (dv 5 (pv 5)) aJ (by intro _ _;rfl)) (ak (dv 7 (pv 7)) (ak (dv 8 (pv 8)) aq (aj (by rfl))) (aj (by rfl))) (aj (by rfl))) (aj (by rfl)))) aq (aj (by rfl))) (aj (by rfl))))))) aZ)))))) aZ))
 refine aD ?_ ?_
 ·first
  | (with_reducible exact (cN (bG (rO (by with_unfolding_all exact jC hr)) (dv 4 (by with_unfolding_all exact pv 4)) (cX aq) (by with_unfolding_all exact bH _)) (aD (aU (hs:=by with_unfolding_all rfl) (hf:=by with_unfolding_all first | exact .inl rfl | exact .inr rfl) (i:=10) (by with_unfolding_all exact nd) (by with_unfolding_all rfl) (by with_unfolding_all exact Or.inl rfl) (bO (dv 4 (by with_unfolding_all exact pv 4)) (aV (k:=10) (by with_unfolding_all exact (bD T).mono (by decide)) (by with_unfolding_all exact hr) (by with_unfolding_all rfl) (by with_unfolding_all exact T.bB) (by with_unfolding_all exact T.F_l_draw.kp) (by with_unfolding_all exact T.b_l_draw) (ak (dv 0 (by with_unfolding_all exact pv 0)) (ak (aL cg (by with_unfolding_all rfl) (by with_unfolding_all exact T.z_len) Yu (ak (dv 4 (by with_unfolding_all exact pv 4)) aq (aj (by with_unfolding_all rfl))) (by decide) (by decide) (aj (by with_unfolding_all rfl)) (aB (by with_unfolding_all rfl))) aq (aj (by with_unfolding_all rfl))) (aj (by with_unfolding_all rfl))) (by decide) (aj (by with_unfolding_all rfl)) (aB (by with_unfolding_all rfl))) (by with_unfolding_all (intro _ _;rfl))))
  (aD (aU (hs:=by with_unfolding_all rfl) (hf:=by with_unfolding_all first | exact .inl rfl | exact .inr rfl) (i:=11) (by with_unfolding_all exact nd) (by with_unfolding_all rfl) (by with_unfolding_all exact Or.inl rfl) (bO (dv 4 (by with_unfolding_all exact pv 4)) (aV (k:=10) (by with_unfolding_all exact (bD T).mono (by decide)) (by with_unfolding_all exact hr) (by with_unfolding_all rfl) (by with_unfolding_all exact T.bB) (by with_unfolding_all exact T.F_l_draw.kp) (by with_unfolding_all exact T.b_l_draw) (ak (dv 0 (by with_unfolding_all exact pv 0)) (ak (aL cg (by with_unfolding_all rfl) (by with_unfolding_all exact T.z_len) Yu (ak (dv 4 (by with_unfolding_all exact pv 4)) aq (aj (by with_unfolding_all rfl))) (by decide) (by decide) (aj (by with_unfolding_all rfl)) (aB (by with_unfolding_all rfl))) aq (aj (by with_unfolding_all rfl))) (aj (by with_unfolding_all rfl))) (by decide) (aj (by with_unfolding_all rfl)) (aB (by with_unfolding_all rfl))) (by with_unfolding_all (intro _ _;rfl))))
  (aD (aU (hs:=by with_unfolding_all rfl) (hf:=by with_unfolding_all first | exact .inl rfl | exact .inr rfl) (i:=6) (by with_unfolding_all exact nd) (by with_unfolding_all rfl) (by with_unfolding_all exact Or.inl rfl) (dX jE (dv 6 (by with_unfolding_all exact pv 6)) (cX (ak (bW (ak bA (ak (dv 10 (by with_unfolding_all exact pv 10)) (ak (dv 11 (by with_unfolding_all exact pv 11)) aq (aj (by with_unfolding_all rfl))) (aj (by with_unfolding_all rfl))) (aj (by with_unfolding_all rfl)))) (ak (bW (ak bA (ak (dv 11 (by with_unfolding_all exact pv 11)) (ak (dv 10 (by with_unfolding_all exact pv 10)) aq (aj (by with_unfolding_all rfl))) (aj (by with_unfolding_all rfl))) (aj (by with_unfolding_all rfl)))) aq (aj (by with_unfolding_all rfl))) (aj (by with_unfolding_all rfl))))))
  (aH (cN (bG (rO (by with_unfolding_all exact jC hr)) (dv 5 (by with_unfolding_all exact pv 5)) (cX aq) (by with_unfolding_all exact bH _)) (aH (d8 (hs:=by with_unfolding_all rfl) (dz (dv 6 (by with_unfolding_all exact pv 6)) (ak (bW (ak bA (ak (bO (dv 5 (by with_unfolding_all exact pv 5)) (aV (k:=10) (by with_unfolding_all exact (bD T).mono (by decide)) (by with_unfolding_all exact hr) (by with_unfolding_all rfl) (by with_unfolding_all exact T.bB) (by with_unfolding_all exact T.F_l_draw.kp) (by with_unfolding_all exact T.b_l_draw) (ak (dv 0 (by with_unfolding_all exact pv 0)) (ak (aL cg (by with_unfolding_all rfl) (by with_unfolding_all exact T.z_len) Yu (ak (dv 5 (by with_unfolding_all exact pv 5)) aq (aj (by with_unfolding_all rfl))) (by decide) (by decide) (aj (by with_unfolding_all rfl)) (aB (by with_unfolding_all rfl))) aq (aj (by with_unfolding_all rfl))) (aj (by with_unfolding_all rfl))) (by decide) (aj (by with_unfolding_all rfl)) (aB (by with_unfolding_all rfl))) (by with_unfolding_all (intro _ _;rfl))) (ak (dv 11 (by with_unfolding_all exact pv 11)) aq (aj (by with_unfolding_all rfl))) (aj (by with_unfolding_all rfl))) (aj (by with_unfolding_all rfl)))) aq (aj (by with_unfolding_all rfl))) (by with_unfolding_all rfl) (iT (by with_unfolding_all rfl)) (by with_unfolding_all rfl) (aj (by with_unfolding_all rfl)) (by with_unfolding_all rfl)))) aZ))))) aZ))
  | (exact (cN (bG (rO (jC hr)) (dv 4 (pv 4)) (cX aq) (bH _)) (aD (aU (i:=10) nd (by rfl) (by exact Or.inl rfl) (bO (dv 4 (pv 4)) (aV ((bD T).mono (by decide)) hr (by rfl) (by exact T.bB) (by exact T.F_l_draw.kp) (by exact T.b_l_draw) (ak (dv 0 (pv 0)) (ak (aL cg (by rfl) (by exact T.z_len) Yu (ak (dv 4 (pv 4)) aq (aj (by rfl))) (by decide) (by decide) (aj (by rfl)) (aB (by rfl))) aq (aj (by rfl))) (aj (by rfl))) (by decide) (aj (by rfl)) (aB (by rfl))) (by intro _ _;rfl)))
  (aD (aU (i:=11) nd (by rfl) (by exact Or.inl rfl) (bO (dv 4 (pv 4)) (aV ((bD T).mono (by decide)) hr (by rfl) (by exact T.bB) (by exact T.F_l_draw.kp) (by exact T.b_l_draw) (ak (dv 0 (pv 0)) (ak (aL cg (by rfl) (by exact T.z_len) Yu (ak (dv 4 (pv 4)) aq (aj (by rfl))) (by decide) (by decide) (aj (by rfl)) (aB (by rfl))) aq (aj (by rfl))) (aj (by rfl))) (by decide) (aj (by rfl)) (aB (by rfl))) (by intro _ _;rfl)))
  (aD (aU (i:=6) nd (by rfl) (by exact Or.inl rfl) (dX jE (dv 6 (pv 6)) (cX (ak (bW (ak bA (ak (dv 10 (pv 10)) (ak (dv 11 (pv 11)) aq (aj (by rfl))) (aj (by rfl))) (aj (by rfl)))) (ak (bW (ak bA (ak (dv 11 (pv 11)) (ak (dv 10 (pv 10)) aq (aj (by rfl))) (aj (by rfl))) (aj (by rfl)))) aq (aj (by rfl))) (aj (by rfl))))))
  (aH (cN (bG (rO (jC hr)) (dv 5 (pv 5)) (cX aq) (bH _)) (aH (d8 (dz (dv 6 (pv 6)) (ak (bW (ak bA (ak (bO (dv 5 (pv 5)) (aV ((bD T).mono (by decide)) hr (by rfl) (by exact T.bB) (by exact T.F_l_draw.kp) (by exact T.b_l_draw) (ak (dv 0 (pv 0)) (ak (aL cg (by rfl) (by exact T.z_len) Yu (ak (dv 5 (pv 5)) aq (aj (by rfl))) (by decide) (by decide) (aj (by rfl)) (aB (by rfl))) aq (aj (by rfl))) (aj (by rfl))) (by decide) (aj (by rfl)) (aB (by rfl))) (by intro _ _;rfl)) (ak (dv 11 (pv 11)) aq (aj (by rfl))) (aj (by rfl))) (aj (by rfl)))) aq (aj (by rfl))) (by rfl) (iT (by rfl)) (by rfl) (aj (by rfl)) (by rfl)))) aZ))))) aZ))
 refine aH ?_;exact (bK<|bO (dv 6<|pv 6) (aV ((bD T).mono (by decide)) hr (by rfl) (by exact T.bB) (by exact T.F_l_draw.kp) (by exact T.b_l_draw) (ak (dv 0<|pv 0) (ak (aL cg (by rfl) (by exact T.z_len) Yu (ak (dv 6<|pv 6) aq<|aj<|by rfl) (by decide) (by decide) (aj<|by rfl)<|aB<|by rfl) aq<|aj<|by rfl)<|aj<|by rfl) (by decide) (aj<|by rfl)<|aB<|by rfl) (by intro _ _;rfl))
theorem zP (T:Txt w K mg t):eO P w K mg base kI 10 t.f_l_sort t.d_l_sort ["_law_word"] (lift K nG):=by
 have nd:=uh.nd;refine mG (k:=9) T.F_l_sort uh fun cdv A outer s H E hr=>?_;have hc:=hr.calm (by decide);refine aH ?_;first
  | (with_reducible exact (bK (Hi (by with_unfolding_all exact jC hr) (Hg (Ds.cons bA (Ds.cons bA (Ds.cons bA Ds.nil))) (by with_unfolding_all exact ZR _ _) (by with_unfolding_all exact YD rfl)) (ak (dv 0 (by with_unfolding_all exact pv 0)) (ak bA aq (aj (by with_unfolding_all rfl))) (aj (by with_unfolding_all rfl))) (by with_unfolding_all rfl) (QZ (by with_unfolding_all rfl) (by with_unfolding_all rfl)) (by with_unfolding_all rfl) (aj (by with_unfolding_all rfl)) (aB (by with_unfolding_all rfl)))))
  | (exact (bK (Hi (jC hr) (Hg (Ds.cons bA (Ds.cons bA (Ds.cons bA Ds.nil))) (by exact ZR _ _) (by exact YD rfl)) (ak (dv 0 (pv 0)) (ak bA aq (aj (by rfl))) (aj (by rfl))) (by rfl) (QZ (by rfl) (by rfl)) (by rfl) (aj (by rfl)) (aB (by rfl)))))
theorem aao (T:Txt w K mg t):eO P w K mg base kI 12 t.f_l_rows t.d_l_rows ["_law_script", "_law_first", "_law_most"] (lift K nj):=by
 have nd:=tW.nd;refine mG (k:=11) T.F_l_rows tW fun cdv A outer s H E hr=>?_;have hc:=hr.calm (by decide);refine aD ?_ ?_
 ·exact (aU (i:=3) nd (by rfl) (by exact Or.inl rfl)<|iD aq)
 refine aD ?_ ?_
 ·exact (aU (i:=4) nd (by rfl) (by exact Or.inl rfl)<|iD aq)
 refine aD ?_ ?_
 ·exact (mU JH hc (iC (dX fL (nJ (dv 0 (pv 0)) (dB (dv 1 (pv 1))) (dB (dX fL (dv 1 (pv 1)) (dv 2 (pv 2))))) (cX (ak aJ aq (aj (by rfl)))))) (d9 (cV (i:=5) nd (by rfl) (by exact Or.inl rfl))) (aD (aU (i:=6) nd (by rfl) (by exact Or.inl rfl) (aV ((zbn T).mono (by decide)) hr (by rfl) (by exact T.sY) (by exact T.F_l_row.kp) (by exact T.b_l_row) (ak (aV ((sH T).mono (by decide)) hr (by rfl) (by exact T.jN) (by exact T.F_l_bag.kp) (by exact T.b_l_bag) (ak (dv 5 (pv 5)) aq (aj (by rfl))) (by decide) (aj (by rfl)) (aB (by rfl))) (ak (dv 4 (pv 4)) (ak (aL cg (by rfl) (by exact T.z_len) Yu (ak (yt [] hc (aY (by rfl)) fD (fB (aY (by rfl))) (iC (dv 3 (pv 3))) (fun _ _ _ _=>(jj (bG (UJ (jC hr)) (dv 0 (pv 0)) (bW (ak bA aq (aj (by rfl)))) (bH _)))) (fun _ _ _ _=>(dv 0 (pv 0)))) aq (aj (by rfl))) (by decide) (by decide) (aj (by rfl)) (aB (by rfl))) aq (aj (by rfl))) (aj (by rfl))) (aj (by rfl))) (by decide) (aj (by rfl)) (aB (by rfl))))
  (aD (d8 (dz (dv 3 (pv 3)) (ak (dv 6 (pv 6)) aq (aj (by rfl))) (by rfl) (iT (by rfl)) (by rfl) (aj (by rfl)) (by rfl)))
  (aH (d8 (dz (dv 4 (pv 4)) (ak (aV ((zP T).mono (by decide)) hr (by rfl) (by exact T.nG) (by exact T.F_l_sort.kp) (by exact T.b_l_sort) (ak (bO (dv 6 (pv 6)) aJ (by intro _ _;rfl)) aq (aj (by rfl))) (by decide) (aj (by rfl)) (aB (by rfl))) aq (aj (by rfl))) (by rfl) (iT (by rfl)) (by rfl) (aj (by rfl)) (by rfl)))))))
 refine aH ?_;exact (bK<|bW<|ak (dv 3<|pv 3) (ak (dv 4<|pv 4) aq<|aj<|by rfl)<|aj<|by rfl)
theorem yK (T:Txt w K mg t):eO P w K mg base kI 11 t.f_l_claim t.d_l_claim ["_law_bag_here", "_law_sorts"] (lift K lD):=by
 have nd:=qJ.nd;refine mG (k:=10) T.F_l_claim qJ fun cdv A outer s H E hr=>?_;have hc:=hr.calm (by decide);refine aD ?_ ?_
 ·exact (aU (i:=2) nd (by rfl) (by exact Or.inr rfl)<|yt [1] hc (aY<|by rfl) fD (fB<|aY<|by rfl) (bT (by rfl) (by exact T.z_range) (ak (aL cg (by rfl) (by exact T.z_len) Yu (ak (dv 1<|pv 1) aq<|aj<|by rfl) (by decide) (by decide) (aj<|by rfl)<|aB<|by rfl) aq<|aj<|by rfl)<|eG<|by rfl) (fun _ _ _ _=>(jj<|bG (Km<|jC hr) (bO (dv 1<|pv 1) (dv 0<|pv 0) (by intro _ _;rfl)) bA<|bH _))<|fun _ _ _ _=>(dv 0<|pv 0))
 refine aD ?_ ?_
 ·exact (aU (i:=3) nd (by rfl) (by exact Or.inr rfl)<|yt [1] hc (aY<|by rfl) fD (fB<|aY<|by rfl) (bT (by rfl) (by exact T.z_range) (ak (aL cg (by rfl) (by exact T.z_len) Yu (ak (dv 1<|pv 1) aq<|aj<|by rfl) (by decide) (by decide) (aj<|by rfl)<|aB<|by rfl) aq<|aj<|by rfl)<|eG<|by rfl) (fun _ _ _ _=>(jj<|bG (Km<|jC hr) (bO (dv 1<|pv 1) (dv 0<|pv 0) (by intro _ _;rfl)) bA<|bH _))<|fun _ _ _ _=>(dv 0<|pv 0))
 refine aD ?_ ?_
 ·exact (rK [1] (i:=4) nd (by rfl) (by exact Or.inl rfl) hc (aY<|by rfl) fD (fB<|aY<|by rfl) (bT (by rfl) (by exact T.z_range) (ak (aL cg (by rfl) (by exact T.z_len) Yu (ak (dv 1<|pv 1) aq<|aj<|by rfl) (by decide) (by decide) (aj<|by rfl)<|aB<|by rfl) aq<|aj<|by rfl)<|eG<|by rfl) (fun _ _ _ _=>(jj<|bG (Km<|jC hr) (bO (dv 1<|pv 1) (dv 0<|pv 0) (by intro _ _;rfl)) bA<|bH _))<|fun _ _ _ _=>(dv 0<|pv 0))
 refine aD ?_ ?_
 ·exact (rK [0,2] (i:=5) nd (by rfl) (by exact Or.inl rfl) hc (aY<|by rfl) fD (fB<|aY<|by rfl) (bT (by rfl) (by exact T.z_range) (ak aJ aq<|aj<|by rfl)<|eG<|by rfl) (fun _ _ _ _=>cW)<|fun _ _ _ _=>(bO (dv 2<|pv 2) (aV ((bD T).mono (by decide)) hr (by rfl) (by exact T.bB) (by exact T.F_l_draw.kp) (by exact T.b_l_draw) (ak (dv 1<|pv 1) (ak (aL cg (by rfl) (by exact T.z_len) Yu (ak (dv 2<|pv 2) aq<|aj<|by rfl) (by decide) (by decide) (aj<|by rfl)<|aB<|by rfl) aq<|aj<|by rfl)<|aj<|by rfl) (by decide) (aj<|by rfl)<|aB<|by rfl) (by intro _ _;rfl)))
 refine aD ?_ ?_
 ·first
  | (with_reducible exact (aU (hs:=by with_unfolding_all rfl) (hf:=by with_unfolding_all first | exact .inl rfl | exact .inr rfl) (i:=6) (by with_unfolding_all exact nd) (by with_unfolding_all rfl) (by with_unfolding_all exact Or.inl rfl) (iD (ak (bW (ak bA (ak (bO (dv 5 (by with_unfolding_all exact pv 5)) aJ (by with_unfolding_all (intro _ _;rfl))) (ak (bO (dv 5 (by with_unfolding_all exact pv 5)) aJ (by with_unfolding_all (intro _ _;rfl))) aq (aj (by with_unfolding_all rfl))) (aj (by with_unfolding_all rfl))) (aj (by with_unfolding_all rfl)))) (ak (bW (ak bA (ak (bO (dv 5 (by with_unfolding_all exact pv 5)) aJ (by with_unfolding_all (intro _ _;rfl))) (ak (bO (dv 5 (by with_unfolding_all exact pv 5)) aJ (by with_unfolding_all (intro _ _;rfl))) (ak (bO (dv 5 (by with_unfolding_all exact pv 5)) aJ (by with_unfolding_all (intro _ _;rfl))) aq (aj (by with_unfolding_all rfl))) (aj (by with_unfolding_all rfl))) (aj (by with_unfolding_all rfl))) (aj (by with_unfolding_all rfl)))) aq (aj (by with_unfolding_all rfl))) (aj (by with_unfolding_all rfl))))))
  | (exact (aU (i:=6) nd (by rfl) (by exact Or.inl rfl) (iD (ak (bW (ak bA (ak (bO (dv 5 (pv 5)) aJ (by intro _ _;rfl)) (ak (bO (dv 5 (pv 5)) aJ (by intro _ _;rfl)) aq (aj (by rfl))) (aj (by rfl))) (aj (by rfl)))) (ak (bW (ak bA (ak (bO (dv 5 (pv 5)) aJ (by intro _ _;rfl)) (ak (bO (dv 5 (pv 5)) aJ (by intro _ _;rfl)) (ak (bO (dv 5 (pv 5)) aJ (by intro _ _;rfl)) aq (aj (by rfl))) (aj (by rfl))) (aj (by rfl))) (aj (by rfl)))) aq (aj (by rfl))) (aj (by rfl))))))
 refine aD ?_ ?_
 ·first
  | (with_reducible exact (cN (bG (rO (by with_unfolding_all exact jC hr)) (dv 3 (by with_unfolding_all exact pv 3)) (cX aq) (by with_unfolding_all exact bH _)) (aD (rK (hsw:=by with_unfolding_all rfl) (hf:=by with_unfolding_all first | exact .inl rfl | exact .inr rfl) (hs:=by with_unfolding_all (intro _;rfl)) [0,3] (i:=7) (by with_unfolding_all exact nd) (by with_unfolding_all rfl) (by with_unfolding_all exact Or.inl rfl) (by with_unfolding_all exact hc) (by with_unfolding_all exact aY rfl) fD (fB (by with_unfolding_all exact aY rfl)) (bT (by with_unfolding_all rfl) (by with_unfolding_all exact T.z_range) (ak aJ aq (aj (by with_unfolding_all rfl))) (eG (by with_unfolding_all rfl))) (fun _ _ _ _=>cW) (fun _ _ _ _=>(bO (dv 2 (by with_unfolding_all exact pv 2)) (aV (k:=10) (by with_unfolding_all exact (bD T).mono (by decide)) (by with_unfolding_all exact hr) (by with_unfolding_all rfl) (by with_unfolding_all exact T.bB) (by with_unfolding_all exact T.F_l_draw.kp) (by with_unfolding_all exact T.b_l_draw) (ak (dv 1 (by with_unfolding_all exact pv 1)) (ak (aL cg (by with_unfolding_all rfl) (by with_unfolding_all exact T.z_len) Yu (ak (dv 2 (by with_unfolding_all exact pv 2)) aq (aj (by with_unfolding_all rfl))) (by decide) (by decide) (aj (by with_unfolding_all rfl)) (aB (by with_unfolding_all rfl))) aq (aj (by with_unfolding_all rfl))) (aj (by with_unfolding_all rfl))) (by decide) (aj (by with_unfolding_all rfl)) (aB (by with_unfolding_all rfl))) (by with_unfolding_all (intro _ _;rfl)))))
  (aD (aU (hs:=by with_unfolding_all rfl) (hf:=by with_unfolding_all first | exact .inl rfl | exact .inr rfl) (i:=6) (by with_unfolding_all exact nd) (by with_unfolding_all rfl) (by with_unfolding_all exact Or.inl rfl) (dX jE (dv 6 (by with_unfolding_all exact pv 6)) (cX (ak (bW (ak bA (ak (bO (dv 7 (by with_unfolding_all exact pv 7)) aJ (by with_unfolding_all (intro _ _;rfl))) (ak (bO (dv 7 (by with_unfolding_all exact pv 7)) aJ (by with_unfolding_all (intro _ _;rfl))) aq (aj (by with_unfolding_all rfl))) (aj (by with_unfolding_all rfl))) (aj (by with_unfolding_all rfl)))) (ak (bW (ak bA (ak (bO (dv 7 (by with_unfolding_all exact pv 7)) aJ (by with_unfolding_all (intro _ _;rfl))) (ak (bO (dv 7 (by with_unfolding_all exact pv 7)) aJ (by with_unfolding_all (intro _ _;rfl))) (ak (bO (dv 7 (by with_unfolding_all exact pv 7)) aJ (by with_unfolding_all (intro _ _;rfl))) aq (aj (by with_unfolding_all rfl))) (aj (by with_unfolding_all rfl))) (aj (by with_unfolding_all rfl))) (aj (by with_unfolding_all rfl)))) (ak (bW (ak bA (ak (bO (dv 5 (by with_unfolding_all exact pv 5)) aJ (by with_unfolding_all (intro _ _;rfl))) (ak (bO (dv 7 (by with_unfolding_all exact pv 7)) aJ (by with_unfolding_all (intro _ _;rfl))) aq (aj (by with_unfolding_all rfl))) (aj (by with_unfolding_all rfl))) (aj (by with_unfolding_all rfl)))) aq (aj (by with_unfolding_all rfl))) (aj (by with_unfolding_all rfl))) (aj (by with_unfolding_all rfl))))))
  (aH (cN (bG (rO (by with_unfolding_all exact jC hr)) (dv 4 (by with_unfolding_all exact pv 4)) (cX aq) (by with_unfolding_all exact bH _)) (aH (d8 (hs:=by with_unfolding_all rfl) (dz (dv 6 (by with_unfolding_all exact pv 6)) (ak (bW (ak bA (ak (bO (dv 7 (by with_unfolding_all exact pv 7)) aJ (by with_unfolding_all (intro _ _;rfl))) (ak (bO (dv 4 (by with_unfolding_all exact pv 4)) (tE aJ) (by with_unfolding_all (intro _ _;rfl))) aq (aj (by with_unfolding_all rfl))) (aj (by with_unfolding_all rfl))) (aj (by with_unfolding_all rfl)))) aq (aj (by with_unfolding_all rfl))) (by with_unfolding_all rfl) (iT (by with_unfolding_all rfl)) (by with_unfolding_all rfl) (aj (by with_unfolding_all rfl)) (by with_unfolding_all rfl)))) aZ)))) aZ))
  | (exact (cN (bG (rO (jC hr)) (dv 3 (pv 3)) (cX aq) (bH _)) (aD (rK [0,3] (i:=7) nd (by rfl) (by exact Or.inl rfl) hc (aY (by rfl)) fD (fB (aY (by rfl))) (bT (by rfl) (by exact T.z_range) (ak aJ aq (aj (by rfl))) (eG (by rfl))) (fun _ _ _ _=>cW) (fun _ _ _ _=>(bO (dv 2 (pv 2)) (aV ((bD T).mono (by decide)) hr (by rfl) (by exact T.bB) (by exact T.F_l_draw.kp) (by exact T.b_l_draw) (ak (dv 1 (pv 1)) (ak (aL cg (by rfl) (by exact T.z_len) Yu (ak (dv 2 (pv 2)) aq (aj (by rfl))) (by decide) (by decide) (aj (by rfl)) (aB (by rfl))) aq (aj (by rfl))) (aj (by rfl))) (by decide) (aj (by rfl)) (aB (by rfl))) (by intro _ _;rfl))))
  (aD (aU (i:=6) nd (by rfl) (by exact Or.inl rfl) (dX jE (dv 6 (pv 6)) (cX (ak (bW (ak bA (ak (bO (dv 7 (pv 7)) aJ (by intro _ _;rfl)) (ak (bO (dv 7 (pv 7)) aJ (by intro _ _;rfl)) aq (aj (by rfl))) (aj (by rfl))) (aj (by rfl)))) (ak (bW (ak bA (ak (bO (dv 7 (pv 7)) aJ (by intro _ _;rfl)) (ak (bO (dv 7 (pv 7)) aJ (by intro _ _;rfl)) (ak (bO (dv 7 (pv 7)) aJ (by intro _ _;rfl)) aq (aj (by rfl))) (aj (by rfl))) (aj (by rfl))) (aj (by rfl)))) (ak (bW (ak bA (ak (bO (dv 5 (pv 5)) aJ (by intro _ _;rfl)) (ak (bO (dv 7 (pv 7)) aJ (by intro _ _;rfl)) aq (aj (by rfl))) (aj (by rfl))) (aj (by rfl)))) aq (aj (by rfl))) (aj (by rfl))) (aj (by rfl))))))
  (aH (cN (bG (rO (jC hr)) (dv 4 (pv 4)) (cX aq) (bH _)) (aH (d8 (dz (dv 6 (pv 6)) (ak (bW (ak bA (ak (bO (dv 7 (pv 7)) aJ (by intro _ _;rfl)) (ak (bO (dv 4 (pv 4)) (tE aJ) (by intro _ _;rfl)) aq (aj (by rfl))) (aj (by rfl))) (aj (by rfl)))) aq (aj (by rfl))) (by rfl) (iT (by rfl)) (by rfl) (aj (by rfl)) (by rfl)))) aZ)))) aZ))
 refine aD ?_ ?_
 ·first
  | (with_reducible exact (cN (bG (rO (by with_unfolding_all exact jC hr)) (dv 4 (by with_unfolding_all exact pv 4)) (cX aq) (by with_unfolding_all exact bH _)) (aD (aU (hs:=by with_unfolding_all rfl) (hf:=by with_unfolding_all first | exact .inl rfl | exact .inr rfl) (i:=8) (by with_unfolding_all exact nd) (by with_unfolding_all rfl) (by with_unfolding_all exact Or.inl rfl) (bO (dv 4 (by with_unfolding_all exact pv 4)) (aV (k:=10) (by with_unfolding_all exact (bD T).mono (by decide)) (by with_unfolding_all exact hr) (by with_unfolding_all rfl) (by with_unfolding_all exact T.bB) (by with_unfolding_all exact T.F_l_draw.kp) (by with_unfolding_all exact T.b_l_draw) (ak (dv 0 (by with_unfolding_all exact pv 0)) (ak (aL cg (by with_unfolding_all rfl) (by with_unfolding_all exact T.z_len) Yu (ak (dv 4 (by with_unfolding_all exact pv 4)) aq (aj (by with_unfolding_all rfl))) (by decide) (by decide) (aj (by with_unfolding_all rfl)) (aB (by with_unfolding_all rfl))) aq (aj (by with_unfolding_all rfl))) (aj (by with_unfolding_all rfl))) (by decide) (aj (by with_unfolding_all rfl)) (aB (by with_unfolding_all rfl))) (by with_unfolding_all (intro _ _;rfl))))
  (aH (aU (hs:=by with_unfolding_all rfl) (hf:=by with_unfolding_all first | exact .inl rfl | exact .inr rfl) (i:=6) (by with_unfolding_all exact nd) (by with_unfolding_all rfl) (by with_unfolding_all exact Or.inl rfl) (dX jE (dv 6 (by with_unfolding_all exact pv 6)) (cX (ak (bW (ak bA (ak (dv 8 (by with_unfolding_all exact pv 8)) aq (aj (by with_unfolding_all rfl))) (aj (by with_unfolding_all rfl)))) (ak (bW (ak bA (ak (bO (dv 5 (by with_unfolding_all exact pv 5)) aJ (by with_unfolding_all (intro _ _;rfl))) (ak (dv 8 (by with_unfolding_all exact pv 8)) aq (aj (by with_unfolding_all rfl))) (aj (by with_unfolding_all rfl))) (aj (by with_unfolding_all rfl)))) (ak (bW (ak bA (ak (dv 8 (by with_unfolding_all exact pv 8)) (ak (bO (dv 4 (by with_unfolding_all exact pv 4)) aJ (by with_unfolding_all (intro _ _;rfl))) aq (aj (by with_unfolding_all rfl))) (aj (by with_unfolding_all rfl))) (aj (by with_unfolding_all rfl)))) aq (aj (by with_unfolding_all rfl))) (aj (by with_unfolding_all rfl))) (aj (by with_unfolding_all rfl)))))))) aZ))
  | (exact (cN (bG (rO (jC hr)) (dv 4 (pv 4)) (cX aq) (bH _)) (aD (aU (i:=8) nd (by rfl) (by exact Or.inl rfl) (bO (dv 4 (pv 4)) (aV ((bD T).mono (by decide)) hr (by rfl) (by exact T.bB) (by exact T.F_l_draw.kp) (by exact T.b_l_draw) (ak (dv 0 (pv 0)) (ak (aL cg (by rfl) (by exact T.z_len) Yu (ak (dv 4 (pv 4)) aq (aj (by rfl))) (by decide) (by decide) (aj (by rfl)) (aB (by rfl))) aq (aj (by rfl))) (aj (by rfl))) (by decide) (aj (by rfl)) (aB (by rfl))) (by intro _ _;rfl)))
  (aH (aU (i:=6) nd (by rfl) (by exact Or.inl rfl) (dX jE (dv 6 (pv 6)) (cX (ak (bW (ak bA (ak (dv 8 (pv 8)) aq (aj (by rfl))) (aj (by rfl)))) (ak (bW (ak bA (ak (bO (dv 5 (pv 5)) aJ (by intro _ _;rfl)) (ak (dv 8 (pv 8)) aq (aj (by rfl))) (aj (by rfl))) (aj (by rfl)))) (ak (bW (ak bA (ak (dv 8 (pv 8)) (ak (bO (dv 4 (pv 4)) aJ (by intro _ _;rfl)) aq (aj (by rfl))) (aj (by rfl))) (aj (by rfl)))) aq (aj (by rfl))) (aj (by rfl))) (aj (by rfl)))))))) aZ))
 refine aH ?_;exact (bK<|bO (dv 6<|pv 6) (aV ((bD T).mono (by decide)) hr (by rfl) (by exact T.bB) (by exact T.F_l_draw.kp) (by exact T.b_l_draw) (ak (dv 0<|pv 0) (ak (aL cg (by rfl) (by exact T.z_len) Yu (ak (dv 6<|pv 6) aq<|aj<|by rfl) (by decide) (by decide) (aj<|by rfl)<|aB<|by rfl) aq<|aj<|by rfl)<|aj<|by rfl) (by decide) (aj<|by rfl)<|aB<|by rfl) (by intro _ _;rfl))
theorem pX (T:Txt w K mg t):eO P w K mg base kI 10 t.f_l_words t.d_l_words ["_law_row_here", "_law_names_here"] (lift K jg):=by
 have nd:=p7.nd;refine mG (k:=9) T.F_l_words p7 fun cdv A outer s H E hr=>?_;have hc:=hr.calm (by decide);refine aD ?_ ?_
 ·exact (aU (i:=2) nd (by rfl) (by exact Or.inl rfl)<|bO (dv 0<|pv 0) aJ (by intro _ _;rfl))
 refine aD ?_ ?_
 ·exact (mU JH hc (iC<|nJ (dv 0<|pv 0) (dB aJ) eE) (d9<|cV (i:=3) nd (by rfl)<|by exact Or.inl rfl)<|aH<|aU (i:=2) nd (by rfl) (by exact Or.inl rfl)<|dX gG (dX gG (dv 2<|pv 2) bA)<|bO (dv 1<|pv 1) (dv 3<|pv 3) (by intro _ _;rfl))
 refine aH ?_;exact (bK<|dv 2<|pv 2)
theorem u5 (T:Txt w K mg t):eO P w K mg base kI 14 t.f_l_read t.d_l_read ["_law_text", "_law_rows_here", "_law_names_here", "_law_claim_here"] (lift K jZ):=by
 have nd:=uE.nd;refine mG (k:=13) T.F_l_read uE fun cdv A outer s H E hr=>?_;have hc:=hr.calm (by decide);refine aD ?_ ?_
 ·exact (aU (i:=4) nd (by rfl) (by exact Or.inl rfl)<|aV ((oO T).mono (by decide)) hr (by rfl) (by exact T.dI) (by exact T.F_read_drawing.kp) (by exact T.b_read_drawing) (ak (dv 0<|pv 0) aq<|aj<|by rfl) (by decide) (aj<|by rfl)<|aB<|by rfl)
 refine aD ?_ ?_
 ·exact (cN (gP (dR<|dW<|aL nQ (by rfl) (by exact T.z_isinstance) Zx (ak (dv 4<|pv 4) (ak (dc (dD (v:=.ty "tuple") (by rfl) (by exact T.z_tuple) boot_tuple<|by rfl)<|fun _ _=>by rw [FX]) aq<|aj<|by rfl)<|aj<|by rfl) (by decide) (by decide) (aj<|by rfl)<|aB<|by rfl)<|gP (bG (rO<|jC hr) (aL cg (by rfl) (by exact T.z_len) Yu (ak (dv 4<|pv 4) aq<|aj<|by rfl) (by decide) (by decide) (aj<|by rfl)<|aB<|by rfl) aJ<|bH _)<|iM<|dR<|dW<|aL nQ (by rfl) (by exact T.z_isinstance) Zx (ak (bO (dv 4<|pv 4) aJ (by intro _ _;rfl)) (ak (dc (dD (v:=.ty "tuple") (by rfl) (by exact T.z_tuple) boot_tuple<|by rfl)<|fun _ _=>by rw [FX]) aq<|aj<|by rfl)<|aj<|by rfl) (by decide) (by decide) (aj<|by rfl)<|aB<|by rfl).pt (aH<|bK zp) aZ)
 refine aD ?_ ?_
 ·exact (cN (gP (dR<|dW<|aL nQ (by rfl) (by exact T.z_isinstance) Zx (ak (bO (dv 4<|pv 4) aJ (by intro _ _;rfl)) (ak (dc (dD (v:=.ty "list") (by rfl) (by exact T.z_list) boot_list<|by rfl)<|fun _ _=>by rw [FX]) aq<|aj<|by rfl)<|aj<|by rfl) (by decide) (by decide) (aj<|by rfl)<|aB<|by rfl)<|gP (dR<|dW<|aL nQ (by rfl) (by exact T.z_isinstance) Zx (ak (bO (dv 4<|pv 4) aJ (by intro _ _;rfl)) (ak (dc (dD (v:=.ty "list") (by rfl) (by exact T.z_list) boot_list<|by rfl)<|fun _ _=>by rw [FX]) aq<|aj<|by rfl)<|aj<|by rfl) (by decide) (by decide) (aj<|by rfl)<|aB<|by rfl)<|iM<|bG (UL<|jC hr) (dv 4<|pv 4) (bW<|ak (dv 1<|pv 1) (ak (dv 2<|pv 2) (ak (dv 3<|pv 3) aq<|aj<|by rfl)<|aj<|by rfl)<|aj<|by rfl)<|bH _).pt (aH<|bK zp) aZ)
 refine aD ?_ ?_
 ·exact (mU JH hc (iC<|dX fL (bO (dv 4<|pv 4) aJ (by intro _ _;rfl))<|cX<|ak (bO (dv 4<|pv 4) aJ (by intro _ _;rfl)) aq<|aj<|by rfl) (d9<|cV (i:=5) nd (by rfl)<|by exact Or.inl rfl)<|aH<|cN (gP (dR<|dW<|aL nQ (by rfl) (by exact T.z_isinstance) Zx (ak (dv 5<|pv 5) (ak (dc (dD (v:=.ty "tuple") (by rfl) (by exact T.z_tuple) boot_tuple<|by rfl)<|fun _ _=>by rw [FX]) aq<|aj<|by rfl)<|aj<|by rfl) (by decide) (by decide) (aj<|by rfl)<|aB<|by rfl)<|iM<|dR<|dW<|aL (K7 hc) (by rfl) (by exact T.z_all) boot_all (ak (yt [] hc (aY<|by rfl) fD (fB<|aY<|by rfl) (iC<|nJ (dv 5<|pv 5) (dB aJ) eE) (fun _ _ _ _=>cW)<|fun _ _ _ _=>(aV ((zf T).mono (by decide)) hr (by rfl) (by exact T.j8) (by exact T.F_l_whole.kp) (by exact T.b_l_whole) (ak (dv 0<|pv 0) aq<|aj<|by rfl) (by decide) (aj<|by rfl)<|aB<|by rfl)) aq<|aj<|by rfl) (by decide) (by decide) (aj<|by rfl)<|aB<|by rfl).pt (aH<|bK zp) aZ)
 refine aD ?_ ?_
 ·exact (d8<|aaR<|bO (dv 4<|pv 4) aJ (by intro _ _;rfl))
 refine aD ?_ ?_
 ·exact (d8<|dz (bO (dv 4<|pv 4) aJ (by intro _ _;rfl)) (ak bA aq<|aj<|by rfl) (by rfl) (iT<|by rfl) (by rfl) (aj<|by rfl)<|by rfl)
 refine aH ?_;exact (bK zp)
theorem Oj (T:Txt w K mg t):eO P w K mg base kI 15 t.f_law t.d_law ["_law_script"] (lift K Ec):=by
 have nd:=G5.nd;refine mG (k:=14) T.F_law G5 fun cdv A outer s H E hr=>?_;have hc:=hr.calm (by decide);refine aD ?_ ?_
 ·exact (aU (i:=1) nd (by rfl) (by exact Or.inl rfl)<|aV ((sH T).mono (by decide)) hr (by rfl) (by exact T.jN) (by exact T.F_l_bag.kp) (by exact T.b_l_bag) (ak (aV ((mV T).mono (by decide)) hr (by rfl) (by exact T.eY) (by exact T.F_l_cell_at.kp) (by exact T.b_l_cell_at) (ak (dv 0<|pv 0) (ak aJ aq<|aj<|by rfl)<|aj<|by rfl) (by decide) (aj<|by rfl)<|aB<|by rfl) aq<|aj<|by rfl) (by decide) (aj<|by rfl)<|aB<|by rfl)
 refine aD ?_ ?_
 ·exact (zR (aV ((aao T).mono (by decide)) hr (by rfl) (by exact T.nj) (by exact T.F_l_rows.kp) (by exact T.b_l_rows) (ak (dv 0<|pv 0) (ak aJ (ak aJ aq<|aj<|by rfl)<|aj<|by rfl)<|aj<|by rfl) (by decide) (aj<|by rfl)<|aB<|by rfl)<|wA hc<|jA (d9<|cV (i:=2) nd (by rfl)<|by exact Or.inl rfl)<|jA (d9<|cV (i:=3) nd (by rfl)<|by exact Or.inl rfl) vW)
 refine aD ?_ ?_
 ·exact (aU (i:=4) nd (by rfl) (by exact Or.inl rfl)<|aV ((yP T).mono (by decide)) hr (by rfl) (by exact T.jW) (by exact T.F_l_names.kp) (by exact T.b_l_names) (ak (dv 1<|pv 1) (ak (aL cg (by rfl) (by exact T.z_len) Yu (ak (dv 2<|pv 2) aq<|aj<|by rfl) (by decide) (by decide) (aj<|by rfl)<|aB<|by rfl) aq<|aj<|by rfl)<|aj<|by rfl) (by decide) (aj<|by rfl)<|aB<|by rfl)
 refine aD ?_ ?_
 ·exact (aU (i:=5) nd (by rfl) (by exact Or.inl rfl)<|aV ((yK T).mono (by decide)) hr (by rfl) (by exact T.lD) (by exact T.F_l_claim.kp) (by exact T.b_l_claim) (ak (aV ((sH T).mono (by decide)) hr (by rfl) (by exact T.jN) (by exact T.F_l_bag.kp) (by exact T.b_l_bag) (ak (aV ((mV T).mono (by decide)) hr (by rfl) (by exact T.eY) (by exact T.F_l_cell_at.kp) (by exact T.b_l_cell_at) (ak (dv 0<|pv 0) (ak aJ aq<|aj<|by rfl)<|aj<|by rfl) (by decide) (aj<|by rfl)<|aB<|by rfl) aq<|aj<|by rfl) (by decide) (aj<|by rfl)<|aB<|by rfl) (ak (dv 3<|pv 3) aq<|aj<|by rfl)<|aj<|by rfl) (by decide) (aj<|by rfl)<|aB<|by rfl)
 refine aD ?_ ?_
 ·exact (aU (i:=6) nd (by rfl) (by exact Or.inl rfl) bA)
 refine aD ?_ ?_
 ·exact (mU JH hc (aaC (by rfl) (by exact T.z_zip) (ak (dv 4<|pv 4) (ak (dv 2<|pv 2) aq<|aj<|by rfl)<|aj<|by rfl) (aj<|by rfl)<|aB<|by rfl) (wA hc<|jA (d9<|cV (i:=7) nd (by rfl)<|by exact Or.inl rfl)<|jA (d9<|cV (i:=8) nd (by rfl)<|by exact Or.inl rfl) vW)<|aH<|aU (i:=6) nd (by rfl) (by exact Or.inl rfl)<|dX gG (dX gG (dX gG (dX gG (dv 6<|pv 6)<|dv 7<|pv 7) bA)<|aV ((pX T).mono (by decide)) hr (by rfl) (by exact T.jg) (by exact T.F_l_words.kp) (by exact T.b_l_words) (ak (dv 8<|pv 8) (ak (dv 4<|pv 4) aq<|aj<|by rfl)<|aj<|by rfl) (by decide) (aj<|by rfl)<|aB<|by rfl) bA)
 refine aD ?_ ?_
 ·exact (aU (i:=6) nd (by rfl) (by exact Or.inl rfl)<|dX gG (dX gG (dv 6<|pv 6) bA)<|aV ((pX T).mono (by decide)) hr (by rfl) (by exact T.jg) (by exact T.F_l_words.kp) (by exact T.b_l_words) (ak (dv 5<|pv 5) (ak (dv 4<|pv 4) aq<|aj<|by rfl)<|aj<|by rfl) (by decide) (aj<|by rfl)<|aB<|by rfl)
 refine aD ?_ ?_
 ·exact (aU (i:=9) nd (by rfl) (by exact Or.inl rfl)<|cX<|ak (nu HF (by rfl) (by exact T.z_list) boot_list (ak (dv 2<|pv 2) aq<|aj<|by rfl) (by decide) (by decide) (aj<|by rfl)<|aB<|by rfl) (ak (nu HF (by rfl) (by exact T.z_list) boot_list (ak (dv 4<|pv 4) aq<|aj<|by rfl) (by decide) (by decide) (aj<|by rfl)<|aB<|by rfl) aq<|aj<|by rfl)<|aj<|by rfl)
 refine aD ?_ ?_
 ·exact (aU (i:=10) nd (by rfl) (by exact Or.inl rfl)<|aV ((oG T).mono (by decide)) hr (by rfl) (by exact T.dH) (by exact T.F_show_drawing.kp) (by exact T.b_show_drawing) (ak (bO (dv 9<|pv 9) aJ (by intro _ _;rfl)) (ak (bO (dv 9<|pv 9) aJ (by intro _ _;rfl)) (ak (dv 5<|pv 5) aq<|aj<|by rfl)<|aj<|by rfl)<|aj<|by rfl) (by decide) (aj<|by rfl)<|aB<|by rfl)
 refine aD ?_ ?_
 ·exact (cN (gP (dR<|dW<|aL zX (by rfl) (by exact T.z_isinstance) Zx (ak (dv 10<|pv 10) (ak (dc (dD (v:=.ty "str") (by rfl) (by exact T.z_str) boot_str<|by rfl)<|fun _ _=>by rw [FX]) aq<|aj<|by rfl)<|aj<|by rfl) (by decide) (by decide) (aj<|by rfl)<|aB<|by rfl)<|gP (bG (rO<|jC hr) (dv 10<|pv 10) (dv 6<|pv 6)<|bH _)<|iM<|bG (TQ<|jC hr) (dv 9<|pv 9) (cX<|ak (dv 2<|pv 2) (ak (dv 4<|pv 4) aq<|aj<|by rfl)<|aj<|by rfl)<|bH _).pt (aH<|bK zp) aZ)
 refine aH ?_;exact (bK<|yH (aV ((u5 T).mono (by decide)) hr (by rfl) (by exact T.jZ) (by exact T.F_l_read.kp) (by exact T.b_l_read) (ak (dv 6<|pv 6) (ak (dv 2<|pv 2) (ak (dv 4<|pv 4) (ak (dv 5<|pv 5) aq<|aj<|by rfl)<|aj<|by rfl)<|aj<|by rfl)<|aj<|by rfl) (by decide) (aj<|by rfl)<|aB<|by rfl)<|Er<|aV ((u5 T).mono (by decide)) hr (by rfl) (by exact T.jZ) (by exact T.F_l_read.kp) (by exact T.b_l_read) (ak (dv 6<|pv 6) (ak (dv 2<|pv 2) (ak (dv 4<|pv 4) (ak (dv 5<|pv 5) aq<|aj<|by rfl)<|aj<|by rfl)<|aj<|by rfl)<|aj<|by rfl) (by decide) (aj<|by rfl)<|aB<|by rfl)
end
def fO (x:Str)(s:Stmt)(oc:Ye)(od:Option Addr)(kV dc pm:Ye)(an:Option Addr)(cd ct:Ye)(sl:Array (Option Ye)):Option Obj:=Dn ⟨oc,od,.func (JR x x (nR s) (jK s) (aQ s) .none kV dc pm an cd ct),sl⟩
def sR (f:Addr):Option (Option Ye):=Dn (Dn (.ref f))
open PySem.W (nsIn codeIn keepIn) in
theorem all_mk {l:PySem.W.OpenLaw}{w:Zb}{K:Yc}{h:Heap}{mg:Str->Option Ye}{fa:Addr}(hlaw:∀ ns:List Int,ns.length<=63->Ec [.kls (ns.map W.int)] g0 (fun w _=>w=.bl true) EF)(X:K.In h)(G:h.Ns Ys mg)(hfa:mg "law" = Dn (.ref fa))
  {f0 f1 f2 f3 f4 f5 f6 f7 f8 f9 f10 f11 f12 f13 f14 f15 f16 f17 f18 f19 f20 f21 f22 f23 f24 f25:Addr} {od0 an0 od1 an1 od2 an2 od3 an3 od4 an4 od5 an5 od6 an6 od7 an7 od8 an8 od9 an9 od10 an10 od11 an11 od12 an12 od13 an13 od14 an14 od15 an15 od16 an16 od17 an17 od18 an18 od19 an19 od20 an20 od21 an21 od22 an22 od23 an23 od24 an24 od25 an25:Option Addr} {sl0 sl1 sl2 sl3 sl4 sl5 sl6 sl7 sl8 sl9 sl10 sl11 sl12 sl13 sl14 sl15 sl16 sl17 sl18 sl19 sl20 sl21 sl22 sl23 sl24 sl25:Array (Option Ye)} {oc0 kV0 dc0 pm0 cd0 ct0 oc1 kV1 dc1 pm1 cd1 ct1 oc2 kV2 dc2 pm2 cd2 ct2 oc3 kV3 dc3 pm3 cd3 ct3 oc4 kV4 dc4 pm4 cd4 ct4 oc5 kV5 dc5 pm5 cd5 ct5 oc6 kV6 dc6 pm6 cd6 ct6 oc7 kV7 dc7 pm7 cd7 ct7 oc8 kV8 dc8 pm8 cd8 ct8 oc9 kV9 dc9 pm9 cd9 ct9 oc10 kV10 dc10 pm10 cd10 ct10 oc11 kV11 dc11 pm11 cd11 ct11 oc12 kV12 dc12 pm12 cd12 ct12 oc13 kV13 dc13 pm13 cd13 ct13 oc14 kV14 dc14 pm14 cd14 ct14 oc15 kV15 dc15 pm15 cd15 ct15 oc16 kV16 dc16 pm16 cd16 ct16 oc17 kV17 dc17 pm17 cd17 ct17 oc18 kV18 dc18 pm18 cd18 ct18 oc19 kV19 dc19 pm19 cd19 ct19 oc20 kV20 dc20 pm20 cd20 ct20 oc21 kV21 dc21 pm21 cd21 ct21 oc22 kV22 dc22 pm22 cd22 ct22 oc23 kV23 dc23 pm23 cd23 ct23 oc24 kV24 dc24 pm24 cd24 ct24 oc25 kV25 dc25 pm25 cd25 ct25:Ye}
  {jG:Addr} {nk_MADE:Nat} {t_MADE_0:_} {qk_MADE_0:_} {t_MADE_1:_} {qk_MADE_1:_} {t_MADE_2:_} {qk_MADE_2:_} {t_MADE_3:_} {qk_MADE_3:_} {t_MADE_4:_} {qk_MADE_4:_} {t_MADE_5:_} {qk_MADE_5:_} {t_MADE_6:_} {qk_MADE_6:_}
  {fW:Addr} {nk_TAKEN:Nat} {k_TAKEN_0:Addr} {slk_TAKEN_0:Array (Option Ye)} {nk_TAKEN_0:Nat} {qk_TAKEN_0:_} {k_TAKEN_1:Addr} {slk_TAKEN_1:Array (Option Ye)} {nk_TAKEN_1:Nat} {t_TAKEN_1_0:_} {t_TAKEN_1_1:_} {qk_TAKEN_1:_} {k_TAKEN_2:Addr} {slk_TAKEN_2:Array (Option Ye)} {nk_TAKEN_2:Nat} {t_TAKEN_2_0:_} {t_TAKEN_2_1:_} {qk_TAKEN_2:_} {k_TAKEN_3:Addr} {slk_TAKEN_3:Array (Option Ye)} {nk_TAKEN_3:Nat} {t_TAKEN_3_0:_} {t_TAKEN_3_1:_} {t_TAKEN_3_2:_} {t_TAKEN_3_3:_} {t_TAKEN_3_4:_} {qk_TAKEN_3:_} {k_TAKEN_4:Addr} {slk_TAKEN_4:Array (Option Ye)} {nk_TAKEN_4:Nat} {t_TAKEN_4_0:_} {t_TAKEN_4_1:_} {qk_TAKEN_4:_} {k_TAKEN_5:Addr} {slk_TAKEN_5:Array (Option Ye)} {nk_TAKEN_5:Nat} {t_TAKEN_5_0:_} {t_TAKEN_5_1:_} {qk_TAKEN_5:_} {k_TAKEN_6:Addr} {slk_TAKEN_6:Array (Option Ye)} {nk_TAKEN_6:Nat} {t_TAKEN_6_0:_} {t_TAKEN_6_1:_} {t_TAKEN_6_2:_} {qk_TAKEN_6:_}
  {cU:Addr} {nk_CLAIMED:Nat} {k_CLAIMED_0:Addr} {slk_CLAIMED_0:Array (Option Ye)} {nk_CLAIMED_0:Nat} {k_CLAIMED_0_0:Addr} {slk_CLAIMED_0_0:Array (Option Ye)} {nk_CLAIMED_0_0:Nat} {t_CLAIMED_0_0_0:_} {t_CLAIMED_0_0_1:_} {k_CLAIMED_0_1:Addr} {slk_CLAIMED_0_1:Array (Option Ye)} {nk_CLAIMED_0_1:Nat} {t_CLAIMED_0_1_0:_} {t_CLAIMED_0_1_1:_} {k_CLAIMED_0_2:Addr} {slk_CLAIMED_0_2:Array (Option Ye)} {nk_CLAIMED_0_2:Nat} {t_CLAIMED_0_2_0:_} {t_CLAIMED_0_2_1:_} {qk_CLAIMED_0:_} {k_CLAIMED_1:Addr} {slk_CLAIMED_1:Array (Option Ye)} {nk_CLAIMED_1:Nat} {k_CLAIMED_1_0:Addr} {slk_CLAIMED_1_0:Array (Option Ye)} {nk_CLAIMED_1_0:Nat} {t_CLAIMED_1_0_0:_} {t_CLAIMED_1_0_1:_} {k_CLAIMED_1_1:Addr} {slk_CLAIMED_1_1:Array (Option Ye)} {nk_CLAIMED_1_1:Nat} {t_CLAIMED_1_1_0:_} {t_CLAIMED_1_1_1:_} {qk_CLAIMED_1:_} {k_CLAIMED_2:Addr} {slk_CLAIMED_2:Array (Option Ye)} {nk_CLAIMED_2:Nat} {k_CLAIMED_2_0:Addr} {slk_CLAIMED_2_0:Array (Option Ye)} {nk_CLAIMED_2_0:Nat} {t_CLAIMED_2_0_0:_} {t_CLAIMED_2_0_1:_} {t_CLAIMED_2_0_2:_} {qk_CLAIMED_2:_} {k_CLAIMED_3:Addr} {slk_CLAIMED_3:Array (Option Ye)} {nk_CLAIMED_3:Nat} {k_CLAIMED_3_0:Addr} {slk_CLAIMED_3_0:Array (Option Ye)} {nk_CLAIMED_3_0:Nat} {t_CLAIMED_3_0_0:_} {t_CLAIMED_3_0_1:_} {t_CLAIMED_3_0_2:_} {qk_CLAIMED_3:_} {k_CLAIMED_4:Addr} {slk_CLAIMED_4:Array (Option Ye)} {nk_CLAIMED_4:Nat} {k_CLAIMED_4_0:Addr} {slk_CLAIMED_4_0:Array (Option Ye)} {nk_CLAIMED_4_0:Nat} {t_CLAIMED_4_0_0:_} {t_CLAIMED_4_0_1:_} {qk_CLAIMED_4:_} {k_CLAIMED_5:Addr} {slk_CLAIMED_5:Array (Option Ye)} {nk_CLAIMED_5:Nat} {k_CLAIMED_5_0:Addr} {slk_CLAIMED_5_0:Array (Option Ye)} {nk_CLAIMED_5_0:Nat} {t_CLAIMED_5_0_0:_} {qk_CLAIMED_5:_}
  {n_MOST_ROWS:Tok}
  {n_MOST_FREE:Tok}
  {n_FIGURES:Tok}
  {n_SMALL_LETTERS:Tok}
  {n_MOST_SIGNS:Tok}
  (a0:nsIn K Ys "is_whole" = sR f0) (l0:K.lookup f0=fO "is_whole" jy oc0 od0 kV0 dc0 pm0 an0 cd0 ct0 sl0) (c0:codeIn K cd0 "is_whole" = true) (k0:keepIn K (.ref f0)=true)
  (a1:nsIn K Ys "begins_with_word" = sR f1) (l1:K.lookup f1=fO "begins_with_word" cM oc1 od1 kV1 dc1 pm1 an1 cd1 ct1 sl1) (c1:codeIn K cd1 "begins_with_word" = true) (k1:keepIn K (.ref f1)=true)
  (a2:nsIn K Ys "are_of_sorts" = sR f2) (l2:K.lookup f2=fO "are_of_sorts" dM oc2 od2 kV2 dc2 pm2 an2 cd2 ct2 sl2) (c2:codeIn K cd2 "are_of_sorts" = true) (k2:keepIn K (.ref f2)=true)
  (a3:nsIn K Ys "free_rows" = sR f3) (l3:K.lookup f3=fO "free_rows" gH oc3 od3 kV3 dc3 pm3 an3 cd3 ct3 sl3) (c3:codeIn K cd3 "free_rows" = true) (k3:keepIn K (.ref f3)=true)
  (a4:nsIn K Ys "is_drawing" = sR f4) (l4:K.lookup f4=fO "is_drawing" fG oc4 od4 kV4 dc4 pm4 an4 cd4 ct4 sl4) (c4:codeIn K cd4 "is_drawing" = true) (k4:keepIn K (.ref f4)=true)
  (a5:nsIn K Ys "sort_of" = sR f5) (l5:K.lookup f5=fO "sort_of" jX oc5 od5 kV5 dc5 pm5 an5 cd5 ct5 sl5) (c5:codeIn K cd5 "sort_of" = true) (k5:keepIn K (.ref f5)=true)
  (a6:nsIn K Ys "sorts_of" = sR f6) (l6:K.lookup f6=fO "sorts_of" jm oc6 od6 kV6 dc6 pm6 an6 cd6 ct6 sl6) (c6:codeIn K cd6 "sorts_of" = true) (k6:keepIn K (.ref f6)=true)
  (a7:nsIn K Ys "is_claim" = sR f7) (l7:K.lookup f7=fO "is_claim" jr oc7 od7 kV7 dc7 pm7 an7 cd7 ct7 sl7) (c7:codeIn K cd7 "is_claim" = true) (k7:keepIn K (.ref f7)=true)
  (a8:nsIn K Ys "is_name" = sR f8) (l8:K.lookup f8=fO "is_name" j5 oc8 od8 kV8 dc8 pm8 an8 cd8 ct8 sl8) (c8:codeIn K cd8 "is_name" = true) (k8:keepIn K (.ref f8)=true)
  (a9:nsIn K Ys "with_names" = sR f9) (l9:K.lookup f9=fO "with_names" fK oc9 od9 kV9 dc9 pm9 an9 cd9 ct9 sl9) (c9:codeIn K cd9 "with_names" = true) (k9:keepIn K (.ref f9)=true)
  (a10:nsIn K Ys "show_drawing" = sR f10) (l10:K.lookup f10=fO "show_drawing" dO oc10 od10 kV10 dc10 pm10 an10 cd10 ct10 sl10) (c10:codeIn K cd10 "show_drawing" = true) (k10:keepIn K (.ref f10)=true)
  (a11:nsIn K Ys "with_numbers" = sR f11) (l11:K.lookup f11=fO "with_numbers" dJ oc11 od11 kV11 dc11 pm11 an11 cd11 ct11 sl11) (c11:codeIn K cd11 "with_numbers" = true) (k11:keepIn K (.ref f11)=true)
  (a12:nsIn K Ys "read_rows" = sR f12) (l12:K.lookup f12=fO "read_rows" gR oc12 od12 kV12 dc12 pm12 an12 cd12 ct12 sl12) (c12:codeIn K cd12 "read_rows" = true) (k12:keepIn K (.ref f12)=true)
  (a13:nsIn K Ys "read_drawing" = sR f13) (l13:K.lookup f13=fO "read_drawing" dN oc13 od13 kV13 dc13 pm13 an13 cd13 ct13 sl13) (c13:codeIn K cd13 "read_drawing" = true) (k13:keepIn K (.ref f13)=true)
  (a14:nsIn K Ys "_law_cell_at" = sR f14) (l14:K.lookup f14=fO "_law_cell_at" gK oc14 od14 kV14 dc14 pm14 an14 cd14 ct14 sl14) (c14:codeIn K cd14 "_law_cell_at" = true) (k14:keepIn K (.ref f14)=true)
  (a15:nsIn K Ys "_law_bag" = sR f15) (l15:K.lookup f15=fO "_law_bag" sO oc15 od15 kV15 dc15 pm15 an15 cd15 ct15 sl15) (c15:codeIn K cd15 "_law_bag" = true) (k15:keepIn K (.ref f15)=true)
  (a16:nsIn K Ys "_law_draw" = sR f16) (l16:K.lookup f16=fO "_law_draw" m7 oc16 od16 kV16 dc16 pm16 an16 cd16 ct16 sl16) (c16:codeIn K cd16 "_law_draw" = true) (k16:keepIn K (.ref f16)=true)
  (a17:nsIn K Ys "_law_whole" = sR f17) (l17:K.lookup f17=fO "_law_whole" j9 oc17 od17 kV17 dc17 pm17 an17 cd17 ct17 sl17) (c17:codeIn K cd17 "_law_whole" = true) (k17:keepIn K (.ref f17)=true)
  (a18:nsIn K Ys "_law_names" = sR f18) (l18:K.lookup f18=fO "_law_names" lC oc18 od18 kV18 dc18 pm18 an18 cd18 ct18 sl18) (c18:codeIn K cd18 "_law_names" = true) (k18:keepIn K (.ref f18)=true)
  (a19:nsIn K Ys "_law_row" = sR f19) (l19:K.lookup f19=fO "_law_row" sU oc19 od19 kV19 dc19 pm19 an19 cd19 ct19 sl19) (c19:codeIn K cd19 "_law_row" = true) (k19:keepIn K (.ref f19)=true)
  (a20:nsIn K Ys "_law_sort" = sR f20) (l20:K.lookup f20=fO "_law_sort" m9 oc20 od20 kV20 dc20 pm20 an20 cd20 ct20 sl20) (c20:codeIn K cd20 "_law_sort" = true) (k20:keepIn K (.ref f20)=true)
  (a21:nsIn K Ys "_law_rows" = sR f21) (l21:K.lookup f21=fO "_law_rows" ni oc21 od21 kV21 dc21 pm21 an21 cd21 ct21 sl21) (c21:codeIn K cd21 "_law_rows" = true) (k21:keepIn K (.ref f21)=true)
  (a22:nsIn K Ys "_law_claim" = sR f22) (l22:K.lookup f22=fO "_law_claim" j4 oc22 od22 kV22 dc22 pm22 an22 cd22 ct22 sl22) (c22:codeIn K cd22 "_law_claim" = true) (k22:keepIn K (.ref f22)=true)
  (a23:nsIn K Ys "_law_words" = sR f23) (l23:K.lookup f23=fO "_law_words" kY oc23 od23 kV23 dc23 pm23 an23 cd23 ct23 sl23) (c23:codeIn K cd23 "_law_words" = true) (k23:keepIn K (.ref f23)=true)
  (a24:nsIn K Ys "_law_read" = sR f24) (l24:K.lookup f24=fO "_law_read" nF oc24 od24 kV24 dc24 pm24 an24 cd24 ct24 sl24) (c24:codeIn K cd24 "_law_read" = true) (k24:keepIn K (.ref f24)=true)
  (a25:nsIn K Ys "law" = sR f25) (l25:K.lookup f25=fO "law" Dj oc25 od25 kV25 dc25 pm25 an25 cd25 ct25 sl25) (c25:codeIn K cd25 "law" = true) (k25:keepIn K (.ref f25)=true)
  (z_all:Zg K Ys "all" = Dn FN)
  (z_any:Zg K Ys "any" = Dn FN)
  (z_bool:Zg K Ys "bool" = Dn FN)
  (z_enumerate:Zg K Ys "enumerate" = Dn FN)
  (z_int:Zg K Ys "int" = Dn FN)
  (z_isinstance:Zg K Ys "isinstance" = Dn FN)
  (z_len:Zg K Ys "len" = Dn FN)
  (z_list:Zg K Ys "list" = Dn FN)
  (z_range:Zg K Ys "range" = Dn FN)
  (z_str:Zg K Ys "str" = Dn FN)
  (z_tuple:Zg K Ys "tuple" = Dn FN)
  (z_zip:Zg K Ys "zip" = Dn FN)
  (gk_MADE:Zg K Ys "MADE" = Dn (Dn (.ref jG))) (sk_MADE:(jG==Em)=false)
  (lk_MADE:K.lookup jG=Dn ⟨.type "dict",FN,.dict #[⟨Y9 w.params "free",.str "free" qk_MADE_0,(.str "spot" t_MADE_0)⟩,⟨Y9 w.params "join",.str "join" qk_MADE_1,(.str "line" t_MADE_1)⟩,⟨Y9 w.params "meet",.str "meet" qk_MADE_2,(.str "spot" t_MADE_2)⟩,⟨Y9 w.params "curve",.str "curve" qk_MADE_3,(.str "curve" t_MADE_3)⟩,⟨Y9 w.params "about",.str "about" qk_MADE_4,(.str "line" t_MADE_4)⟩,⟨Y9 w.params "pole",.str "pole" qk_MADE_5,(.str "spot" t_MADE_5)⟩,⟨Y9 w.params "other",.str "other" qk_MADE_6,(.str "spot" t_MADE_6)⟩] nk_MADE,#[]⟩)
  (gk_TAKEN:Zg K Ys "TAKEN" = Dn (Dn (.ref fW))) (sk_TAKEN:(fW==Em)=false)
  (lk_TAKEN:K.lookup fW=Dn ⟨.type "dict",FN,.dict #[⟨Y9 w.params "free",.str "free" qk_TAKEN_0,(.ref k_TAKEN_0)⟩,⟨Y9 w.params "join",.str "join" qk_TAKEN_1,(.ref k_TAKEN_1)⟩,⟨Y9 w.params "meet",.str "meet" qk_TAKEN_2,(.ref k_TAKEN_2)⟩,⟨Y9 w.params "curve",.str "curve" qk_TAKEN_3,(.ref k_TAKEN_3)⟩,⟨Y9 w.params "about",.str "about" qk_TAKEN_4,(.ref k_TAKEN_4)⟩,⟨Y9 w.params "pole",.str "pole" qk_TAKEN_5,(.ref k_TAKEN_5)⟩,⟨Y9 w.params "other",.str "other" qk_TAKEN_6,(.ref k_TAKEN_6)⟩] nk_TAKEN,#[]⟩)
  (lk_TAKEN_0:K.lookup k_TAKEN_0=Dn ⟨.type "tuple",FN,.seq #[] nk_TAKEN_0,slk_TAKEN_0⟩)
  (lk_TAKEN_1:K.lookup k_TAKEN_1=Dn ⟨.type "tuple",FN,.seq #[(.str "spot" t_TAKEN_1_0),(.str "spot" t_TAKEN_1_1)] nk_TAKEN_1,slk_TAKEN_1⟩)
  (lk_TAKEN_2:K.lookup k_TAKEN_2=Dn ⟨.type "tuple",FN,.seq #[(.str "line" t_TAKEN_2_0),(.str "line" t_TAKEN_2_1)] nk_TAKEN_2,slk_TAKEN_2⟩)
  (lk_TAKEN_3:K.lookup k_TAKEN_3=Dn ⟨.type "tuple",FN,.seq #[(.str "spot" t_TAKEN_3_0),(.str "spot" t_TAKEN_3_1),(.str "spot" t_TAKEN_3_2),(.str "spot" t_TAKEN_3_3),(.str "spot" t_TAKEN_3_4)] nk_TAKEN_3,slk_TAKEN_3⟩)
  (lk_TAKEN_4:K.lookup k_TAKEN_4=Dn ⟨.type "tuple",FN,.seq #[(.str "curve" t_TAKEN_4_0),(.str "spot" t_TAKEN_4_1)] nk_TAKEN_4,slk_TAKEN_4⟩)
  (lk_TAKEN_5:K.lookup k_TAKEN_5=Dn ⟨.type "tuple",FN,.seq #[(.str "curve" t_TAKEN_5_0),(.str "line" t_TAKEN_5_1)] nk_TAKEN_5,slk_TAKEN_5⟩)
  (lk_TAKEN_6:K.lookup k_TAKEN_6=Dn ⟨.type "tuple",FN,.seq #[(.str "curve" t_TAKEN_6_0),(.str "spot" t_TAKEN_6_1),(.str "spot" t_TAKEN_6_2)] nk_TAKEN_6,slk_TAKEN_6⟩)
  (gk_CLAIMED:Zg K Ys "CLAIMED" = Dn (Dn (.ref cU))) (sk_CLAIMED:(cU==Em)=false)
  (lk_CLAIMED:K.lookup cU=Dn ⟨.type "dict",FN,.dict #[⟨Y9 w.params "same",.str "same" qk_CLAIMED_0,(.ref k_CLAIMED_0)⟩,⟨Y9 w.params "on",.str "on" qk_CLAIMED_1,(.ref k_CLAIMED_1)⟩,⟨Y9 w.params "row",.str "row" qk_CLAIMED_2,(.ref k_CLAIMED_2)⟩,⟨Y9 w.params "bunch",.str "bunch" qk_CLAIMED_3,(.ref k_CLAIMED_3)⟩,⟨Y9 w.params "touch",.str "touch" qk_CLAIMED_4,(.ref k_CLAIMED_4)⟩,⟨Y9 w.params "parted",.str "parted" qk_CLAIMED_5,(.ref k_CLAIMED_5)⟩] nk_CLAIMED,#[]⟩)
  (lk_CLAIMED_0:K.lookup k_CLAIMED_0=Dn ⟨.type "tuple",FN,.seq #[(.ref k_CLAIMED_0_0),(.ref k_CLAIMED_0_1),(.ref k_CLAIMED_0_2)] nk_CLAIMED_0,slk_CLAIMED_0⟩)
  (lk_CLAIMED_0_0:K.lookup k_CLAIMED_0_0=Dn ⟨.type "tuple",FN,.seq #[(.str "spot" t_CLAIMED_0_0_0),(.str "spot" t_CLAIMED_0_0_1)] nk_CLAIMED_0_0,slk_CLAIMED_0_0⟩)
  (lk_CLAIMED_0_1:K.lookup k_CLAIMED_0_1=Dn ⟨.type "tuple",FN,.seq #[(.str "line" t_CLAIMED_0_1_0),(.str "line" t_CLAIMED_0_1_1)] nk_CLAIMED_0_1,slk_CLAIMED_0_1⟩)
  (lk_CLAIMED_0_2:K.lookup k_CLAIMED_0_2=Dn ⟨.type "tuple",FN,.seq #[(.str "curve" t_CLAIMED_0_2_0),(.str "curve" t_CLAIMED_0_2_1)] nk_CLAIMED_0_2,slk_CLAIMED_0_2⟩)
  (lk_CLAIMED_1:K.lookup k_CLAIMED_1=Dn ⟨.type "tuple",FN,.seq #[(.ref k_CLAIMED_1_0),(.ref k_CLAIMED_1_1)] nk_CLAIMED_1,slk_CLAIMED_1⟩)
  (lk_CLAIMED_1_0:K.lookup k_CLAIMED_1_0=Dn ⟨.type "tuple",FN,.seq #[(.str "spot" t_CLAIMED_1_0_0),(.str "line" t_CLAIMED_1_0_1)] nk_CLAIMED_1_0,slk_CLAIMED_1_0⟩)
  (lk_CLAIMED_1_1:K.lookup k_CLAIMED_1_1=Dn ⟨.type "tuple",FN,.seq #[(.str "spot" t_CLAIMED_1_1_0),(.str "curve" t_CLAIMED_1_1_1)] nk_CLAIMED_1_1,slk_CLAIMED_1_1⟩)
  (lk_CLAIMED_2:K.lookup k_CLAIMED_2=Dn ⟨.type "tuple",FN,.seq #[(.ref k_CLAIMED_2_0)] nk_CLAIMED_2,slk_CLAIMED_2⟩)
  (lk_CLAIMED_2_0:K.lookup k_CLAIMED_2_0=Dn ⟨.type "tuple",FN,.seq #[(.str "spot" t_CLAIMED_2_0_0),(.str "spot" t_CLAIMED_2_0_1),(.str "spot" t_CLAIMED_2_0_2)] nk_CLAIMED_2_0,slk_CLAIMED_2_0⟩)
  (lk_CLAIMED_3:K.lookup k_CLAIMED_3=Dn ⟨.type "tuple",FN,.seq #[(.ref k_CLAIMED_3_0)] nk_CLAIMED_3,slk_CLAIMED_3⟩)
  (lk_CLAIMED_3_0:K.lookup k_CLAIMED_3_0=Dn ⟨.type "tuple",FN,.seq #[(.str "line" t_CLAIMED_3_0_0),(.str "line" t_CLAIMED_3_0_1),(.str "line" t_CLAIMED_3_0_2)] nk_CLAIMED_3_0,slk_CLAIMED_3_0⟩)
  (lk_CLAIMED_4:K.lookup k_CLAIMED_4=Dn ⟨.type "tuple",FN,.seq #[(.ref k_CLAIMED_4_0)] nk_CLAIMED_4,slk_CLAIMED_4⟩)
  (lk_CLAIMED_4_0:K.lookup k_CLAIMED_4_0=Dn ⟨.type "tuple",FN,.seq #[(.str "line" t_CLAIMED_4_0_0),(.str "curve" t_CLAIMED_4_0_1)] nk_CLAIMED_4_0,slk_CLAIMED_4_0⟩)
  (lk_CLAIMED_5:K.lookup k_CLAIMED_5=Dn ⟨.type "tuple",FN,.seq #[(.ref k_CLAIMED_5_0)] nk_CLAIMED_5,slk_CLAIMED_5⟩)
  (lk_CLAIMED_5_0:K.lookup k_CLAIMED_5_0=Dn ⟨.type "tuple",FN,.seq #[(.str "curve" t_CLAIMED_5_0_0)] nk_CLAIMED_5_0,slk_CLAIMED_5_0⟩)
  (gk_MOST_ROWS:Zg K Ys "MOST_ROWS" = Dn (Dn (.int 24 n_MOST_ROWS)))
  (gk_MOST_FREE:Zg K Ys "MOST_FREE" = Dn (Dn (.int 7 n_MOST_FREE)))
  (gk_FIGURES:Zg K Ys "FIGURES" = Dn (Dn (.str "0123456789" n_FIGURES)))
  (gk_SMALL_LETTERS:Zg K Ys "SMALL_LETTERS" = Dn (Dn (.str "abcdefghijklmnopqrstuvwxyz" n_SMALL_LETTERS)))
  (gk_MOST_SIGNS:Zg K Ys "MOST_SIGNS" = Dn (Dn (.int 8 n_MOST_SIGNS)))
  : ∃ fd:Y8,(∀ (s:Yj) (v:Ye),BindsTo s fd ⟨[v],[]⟩ [("_law_script",v)])/\∀ base:Heap,K.In base->base.Ns Ys mg->eO l.prog w K mg base kI 15 fa fd ["_law_script"] (Ge K):=by
 have e:=hfa.symm.trans (YJ X G a25);cases e;have F0:=cA (st:=jy) l0 c0 k0;have b0:=F0.binds (ps:=["thing"]) fun _ _ _ _ _ _ us hl=>match us,hl with | [_],_=>rfl
 have F1:=cA (st:=cM) l1 c1 k1;have b1:=F1.binds (ps:=["thing", "words"]) fun _ _ _ _ _ _ us hl=>match us,hl with | [_,_],_=>rfl
 have F2:=cA (st:=dM) l2 c2 k2;have b2:=F2.binds (ps:=["sorts", "numbers", "due"]) fun _ _ _ _ _ _ us hl=>match us,hl with | [_,_,_],_=>rfl
 have F3:=cA (st:=gH) l3 c3 k3;have b3:=F3.binds (ps:=["rows"]) fun _ _ _ _ _ _ us hl=>match us,hl with | [_],_=>rfl
 have F4:=cA (st:=fG) l4 c4 k4;have b4:=F4.binds (ps:=["thing"]) fun _ _ _ _ _ _ us hl=>match us,hl with | [_],_=>rfl
 have F5:=cA (st:=jX) l5 c5 k5;have b5:=F5.binds (ps:=["rows", "k"]) fun _ _ _ _ _ _ us hl=>match us,hl with | [_,_],_=>rfl
 have F6:=cA (st:=jm) l6 c6 k6;have b6:=F6.binds (ps:=["rows"]) fun _ _ _ _ _ _ us hl=>match us,hl with | [_],_=>rfl
 have F7:=cA (st:=jr) l7 c7 k7;have b7:=F7.binds (ps:=["rows", "thing"]) fun _ _ _ _ _ _ us hl=>match us,hl with | [_,_],_=>rfl
 have F8:=cA (st:=j5) l8 c8 k8;have b8:=F8.binds (ps:=["text"]) fun _ _ _ _ _ _ us hl=>match us,hl with | [_],_=>rfl
 have F9:=cA (st:=fK) l9 c9 k9;have b9:=F9.binds (ps:=["row", "names"]) fun _ _ _ _ _ _ us hl=>match us,hl with | [_,_],_=>rfl
 have F10:=cA (st:=dO) l10 c10 k10;have b10:=F10.binds (ps:=["rows", "names", "claim"]) fun _ _ _ _ _ _ us hl=>match us,hl with | [_,_,_],_=>rfl
 have F11:=cA (st:=dJ) l11 c11 k11;have b11:=F11.binds (ps:=["words", "names"]) fun _ _ _ _ _ _ us hl=>match us,hl with | [_,_],_=>rfl
 have F12:=cA (st:=gR) l12 c12 k12;have b12:=F12.binds (ps:=["lines"]) fun _ _ _ _ _ _ us hl=>match us,hl with | [_],_=>rfl
 have F13:=cA (st:=dN) l13 c13 k13;have b13:=F13.binds (ps:=["text"]) fun _ _ _ _ _ _ us hl=>match us,hl with | [_],_=>rfl
 have F14:=cA (st:=gK) l14 c14 k14;have b14:=F14.binds (ps:=["_law_script", "_law_k"]) fun _ _ _ _ _ _ us hl=>match us,hl with | [_,_],_=>rfl
 have F15:=cA (st:=sO) l15 c15 k15;have b15:=F15.binds (ps:=["_law_cell"]) fun _ _ _ _ _ _ us hl=>match us,hl with | [_],_=>rfl
 have F16:=cA (st:=m7) l16 c16 k16;have b16:=F16.binds (ps:=["_law_bag_here", "_law_many"]) fun _ _ _ _ _ _ us hl=>match us,hl with | [_,_],_=>rfl
 have F17:=cA (st:=j9) l17 c17 k17;have b17:=F17.binds (ps:=["_law_found"]) fun _ _ _ _ _ _ us hl=>match us,hl with | [_],_=>rfl
 have F18:=cA (st:=lC) l18 c18 k18;have b18:=F18.binds (ps:=["_law_bag_here", "_law_many"]) fun _ _ _ _ _ _ us hl=>match us,hl with | [_,_],_=>rfl
 have F19:=cA (st:=sU) l19 c19 k19;have b19:=F19.binds (ps:=["_law_bag_here", "_law_sorts", "_law_free"]) fun _ _ _ _ _ _ us hl=>match us,hl with | [_,_,_],_=>rfl
 have F20:=cA (st:=m9) l20 c20 k20;have b20:=F20.binds (ps:=["_law_word"]) fun _ _ _ _ _ _ us hl=>match us,hl with | [_],_=>rfl
 have F21:=cA (st:=ni) l21 c21 k21;have b21:=F21.binds (ps:=["_law_script", "_law_first", "_law_most"]) fun _ _ _ _ _ _ us hl=>match us,hl with | [_,_,_],_=>rfl
 have F22:=cA (st:=j4) l22 c22 k22;have b22:=F22.binds (ps:=["_law_bag_here", "_law_sorts"]) fun _ _ _ _ _ _ us hl=>match us,hl with | [_,_],_=>rfl
 have F23:=cA (st:=kY) l23 c23 k23;have b23:=F23.binds (ps:=["_law_row_here", "_law_names_here"]) fun _ _ _ _ _ _ us hl=>match us,hl with | [_,_],_=>rfl
 have F24:=cA (st:=nF) l24 c24 k24;have b24:=F24.binds (ps:=["_law_text", "_law_rows_here", "_law_names_here", "_law_claim_here"]) fun _ _ _ _ _ _ us hl=>match us,hl with | [_,_,_,_],_=>rfl
 have F25:=cA (st:=Dj) l25 c25 k25;have b25:=F25.binds (ps:=["_law_script"]) fun _ _ _ _ _ _ us hl=>match us,hl with | [_],_=>rfl
 have T:Txt w K mg ⟨f0,_,f1,_,f2,_,f3,_,f4,_,f5,_,f6,_,f7,_,f8,_,f9,_,f10,_,f11,_,f12,_,f13,_,f14,_,f15,_,f16,_,f17,_,f18,_,f19,_,f20,_,f21,_,f22,_,f23,_,f24,_,fa,_,jG,fW,cU,n_MOST_ROWS,n_MOST_FREE,n_FIGURES,n_SMALL_LETTERS,n_MOST_SIGNS⟩:=⟨F0,YJ X G a0,b0,F1,YJ X G a1,b1,F2,YJ X G a2,b2,F3,YJ X G a3,b3,F4,YJ X G a4,b4,F5,YJ X G a5,b5,F6,YJ X G a6,b6,F7,YJ X G a7,b7,F8,YJ X G a8,b8,F9,YJ X G a9,b9,F10,YJ X G a10,b10,F11,YJ X G a11,b11,F12,YJ X G a12,b12,F13,YJ X G a13,b13,F14,YJ X G a14,b14,F15,YJ X G a15,b15,F16,YJ X G a16,b16,F17,YJ X G a17,b17,F18,YJ X G a18,b18,F19,YJ X G a19,b19,F20,YJ X G a20,b20,F21,YJ X G a21,b21,F22,YJ X G a22,b22,F23,YJ X G a23,b23,F24,YJ X G a24,b24,F25,YJ X G a25,b25,Zq X G z_all,Zq X G z_any,Zq X G z_bool,Zq X G z_enumerate,Zq X G z_int,Zq X G z_isinstance,Zq X G z_len,Zq X G z_list,Zq X G z_range,Zq X G z_str,Zq X G z_tuple,Zq X G z_zip,YJ X G gk_MADE,⟨sk_MADE,by decide +kernel,by decide,_,_,lk_MADE,(j6.cons gk (fun _ _=>gj) (j6.cons gk (fun _ _=>gj) (j6.cons gk (fun _ _=>gj) (j6.cons gk (fun _ _=>gj) (j6.cons gk (fun _ _=>gj) (j6.cons gk (fun _ _=>gj) (j6.cons gk (fun _ _=>gj) j6.nil)))))))⟩,YJ X G gk_TAKEN,⟨sk_TAKEN,by decide +kernel,by decide,_,_,lk_TAKEN,(j6.cons pN (fun _ _=>((bL lk_TAKEN_0 (by simp <;> decide) .nil fun _ _=>fu) _ _)) (j6.cons pN (fun _ _=>((bL lk_TAKEN_1 (by simp <;> decide) (.cons gk (.cons gk .nil)) fun _ _=>(bV gj (bV gj fu))) _ _)) (j6.cons pN (fun _ _=>((bL lk_TAKEN_2 (by simp <;> decide) (.cons gk (.cons gk .nil)) fun _ _=>(bV gj (bV gj fu))) _ _)) (j6.cons pN (fun _ _=>((bL lk_TAKEN_3 (by simp <;> decide) (.cons gk (.cons gk (.cons gk (.cons gk (.cons gk .nil))))) fun _ _=>(bV gj (bV gj (bV gj (bV gj (bV gj fu)))))) _ _)) (j6.cons pN (fun _ _=>((bL lk_TAKEN_4 (by simp <;> decide) (.cons gk (.cons gk .nil)) fun _ _=>(bV gj (bV gj fu))) _ _)) (j6.cons pN (fun _ _=>((bL lk_TAKEN_5 (by simp <;> decide) (.cons gk (.cons gk .nil)) fun _ _=>(bV gj (bV gj fu))) _ _)) (j6.cons pN (fun _ _=>((bL lk_TAKEN_6 (by simp <;> decide) (.cons gk (.cons gk (.cons gk .nil))) fun _ _=>(bV gj (bV gj (bV gj fu)))) _ _)) j6.nil)))))))⟩,YJ X G gk_CLAIMED,⟨sk_CLAIMED,by decide +kernel,by decide,_,_,lk_CLAIMED,(j6.cons pN (fun _ _=>((bL lk_CLAIMED_0 (by simp <;> decide) (.cons pN (.cons pN (.cons pN .nil))) fun _ _=>(bV ((bL lk_CLAIMED_0_0 (by simp <;> decide) (.cons gk (.cons gk .nil)) fun _ _=>(bV gj (bV gj fu))) _ _) (bV ((bL lk_CLAIMED_0_1 (by simp <;> decide) (.cons gk (.cons gk .nil)) fun _ _=>(bV gj (bV gj fu))) _ _) (bV ((bL lk_CLAIMED_0_2 (by simp <;> decide) (.cons gk (.cons gk .nil)) fun _ _=>(bV gj (bV gj fu))) _ _) fu)))) _ _)) (j6.cons pN (fun _ _=>((bL lk_CLAIMED_1 (by simp <;> decide) (.cons pN (.cons pN .nil)) fun _ _=>(bV ((bL lk_CLAIMED_1_0 (by simp <;> decide) (.cons gk (.cons gk .nil)) fun _ _=>(bV gj (bV gj fu))) _ _) (bV ((bL lk_CLAIMED_1_1 (by simp <;> decide) (.cons gk (.cons gk .nil)) fun _ _=>(bV gj (bV gj fu))) _ _) fu))) _ _)) (j6.cons pN (fun _ _=>((bL lk_CLAIMED_2 (by simp <;> decide) (.cons pN .nil) fun _ _=>(bV ((bL lk_CLAIMED_2_0 (by simp <;> decide) (.cons gk (.cons gk (.cons gk .nil))) fun _ _=>(bV gj (bV gj (bV gj fu)))) _ _) fu)) _ _)) (j6.cons pN (fun _ _=>((bL lk_CLAIMED_3 (by simp <;> decide) (.cons pN .nil) fun _ _=>(bV ((bL lk_CLAIMED_3_0 (by simp <;> decide) (.cons gk (.cons gk (.cons gk .nil))) fun _ _=>(bV gj (bV gj (bV gj fu)))) _ _) fu)) _ _)) (j6.cons pN (fun _ _=>((bL lk_CLAIMED_4 (by simp <;> decide) (.cons pN .nil) fun _ _=>(bV ((bL lk_CLAIMED_4_0 (by simp <;> decide) (.cons gk (.cons gk .nil)) fun _ _=>(bV gj (bV gj fu))) _ _) fu)) _ _)) (j6.cons pN (fun _ _=>((bL lk_CLAIMED_5 (by simp <;> decide) (.cons pN .nil) fun _ _=>(bV ((bL lk_CLAIMED_5_0 (by simp <;> decide) (.cons gk .nil) fun _ _=>(bV gj fu)) _ _) fu)) _ _)) j6.nil))))))⟩,YJ X G gk_MOST_ROWS,YJ X G gk_MOST_FREE,YJ X G gk_FIGURES,YJ X G gk_SMALL_LETTERS,YJ X G gk_MOST_SIGNS⟩
 exact ⟨_,fun s v=>.of_eq rfl,fun base _ _=>Lk hlaw<|Oj T⟩
theorem walk {l:PySem.W.OpenLaw}{q:YF}{loose:List Str}{XP:(Str->Option Ye)->Heap->Prop}{YP:Zb->Heap->Prop}{d:DefRec}{K:Params->Yc}(hn:l.most=Dn 63)(hdf:d.params.defaults=[])
  (hY:∀ (w:Zb) (h:Heap),YP w h->(K w.params).In h)
  (F:∀ (w:Zb) (mg:Str->Option Ye) (fa:Addr) (h:Heap),(K w.params).In h->h.Ns Ys mg->mg d.name=Dn (.ref fa) ->
   ∃ fd:Y8,(∀ (s:Yj) (u:Ye),BindsTo s fd ⟨[u],[]⟩ [("_law_script",u)])/\∀ base:Heap,(K w.params).In base->base.Ns Ys mg->eO l.prog w (K w.params) mg base kI 15 fa fd ["_law_script"] (Ge (K w.params))) :
  PySem.W.WalkO q loose XP YP l.row.toRowW d [] (fun f vs=>PySem.call f vs):=
 L2.z7 (n:=63) (k:=15) (x := "_law_script") (CX:=fun _=>kI) (sp:=fun w=>Ge (K w.params)) hn (by decide) hdf ⟨fun _=>rfl,by decide,by decide⟩ hY F (fun _ _ a ns hl hO hS=>⟨a,ns,rfl,hS,hO,hl,fun _=>rfl⟩) fun _ _ _ _ _ z=>z
local macro_rules | `(tactic| trivial) => `(tactic| with_reducible exact Sm.lit (by decide))
local macro_rules | `(tactic| trivial) => `(tactic| with_reducible exact Sm.zero)
local macro_rules | `(tactic| trivial) => `(tactic| with_reducible exact Sm.neg (by trivial))
local macro_rules | `(tactic| trivial) => `(tactic| with_reducible exact Sm.sub (by trivial) (by trivial))
local macro_rules | `(tactic| trivial) => `(tactic| with_reducible exact Sm.add (by trivial) (by trivial))
local macro_rules | `(tactic| trivial) => `(tactic| with_reducible exact Sm.mul (by trivial) (by trivial))
local macro_rules | `(tactic| trivial) => `(tactic| with_reducible assumption)
theorem yD (h:Gh)(n:Nat)(c:Cell):(h.set n c).c n=Dn c:=by show (if n=n then Dn c else h.c n)=Dn c;rw [if_pos rfl]
theorem uc {h:Gh}{n m:Nat}{c:Cell}(e:m≠n):(h.set n c).c m=h.c m:=by show (if m=n then Dn c else h.c m)=_;rw [if_neg e]
theorem zE (h:Gh)(c:Cell):(h.new c).c h.nx=Dn c:=by show (if h.nx=h.nx then Dn c else h.c h.nx)=Dn c;rw [if_pos rfl]
theorem qC {h:Gh}{m:Nat}{c:Cell}(e:m≠h.nx):(h.new c).c m=h.c m:=by show (if m=h.nx then Dn c else h.c m)=_;rw [if_neg e]
theorem cO {h:Gh}{n:Nat}{ws:List W}(e:h.c n=Dn (.lst ws)):view h (.loc n)=Dn ws:=by simp only [view,cC,e]
def Cy (n:Nat)(h h':Gh):Prop:=h'.nx=h.nx/\∀ m,m≠n->h'.c m=h.c m
theorem Cy.refl (n:Nat)(h:Gh):Cy n h h:=⟨rfl,fun _ _=>rfl⟩
theorem Cy.trans {n:Nat}{a b c:Gh}(x:Cy n a b)(y:Cy n b c):Cy n a c:=⟨y.1.trans x.1,fun m e=>(y.2 m e).trans (x.2 m e)⟩
theorem Cy.set {n:Nat}{h:Gh}{c:Cell}:Cy n h (h.set n c):=⟨rfl,fun _ e=>uc e⟩
theorem fH {a b:Int}(h:0<b):a.fmod b=a % b:=Int.fmod_eq_emod_of_nonneg a (Int.le_of_lt h)
theorem xT {a b:Int}(h:0<b):a.fdiv b=a / b:=Int.fdiv_eq_ediv_of_nonneg a (Int.le_of_lt h)
theorem Ra {A B:Prop}{c:Bool}(e:c=true)(h:A):AP c A B:=by subst e;exact h
theorem lQ {ws ws0:List W}{g:MG}{b:MS}{D:bU}(I:Nat->Sw->Gh->Prop)
  (step:∀ (i:Nat) (w:W) (Z : Sw) (h:Gh) (N:Sw->Gh->Prop),(∀ Z' h',I (i+1) Z' h'->N Z' h')->ws[i]?=Dn w->I i Z h->g w Z h fun Z1 h1=>b { D with nx:=N,ct:=N,bk:=D.nx } Z1 h1)
  (fin:∀ Z h,I ws.length Z h->D.nx Z h):∀ {Z : Sw} {h:Gh},I 0 Z h->ji ⟨ws0,FN⟩ g b D ws Z h:=by
 induction ws generalizing I with
 | nil=>intro Z h h0;exact fin Z h h0
 | cons w ws ih=>
  intro Z h h0;refine step 0 w Z h _ (fun Z' h' q=>?_) rfl h0;exact ih (fun i=>I<|i+1) (fun i w Z h N hN e hi=>step (i+1) w Z h N hN (by simpa using e) hi) (fun Z h q=>fin Z h q) q
theorem fJ {ws ws0:List W}{own:W->Option (List W)}{ix:List Nat}{tt:MT}{te:ME}{Z : Sw}{Q:WK}(I:Nat->List W->Gh->Prop)
  (step:∀ (i:Nat) (w:W) (acc:List W) (h:Gh) (N:List W->Gh->Prop),(∀ acc' h',I (i+1) acc' h'->N acc' h')->ws[i]?=Dn w->I i acc h ->
   ∃ vs,own w=Dn vs/\tt (vs.map Dn++pP ix Z) h fun c h1=>AP c (te (vs.map Dn++pP ix Z) h1 fun v h2=>N (acc++[v]) h2) (N acc h1))
  (fin:∀ acc h,I ws.length acc h->Q (.lst acc) h):∀ {acc:List W} {h:Gh},I 0 acc h->oA ⟨ws0,FN⟩ own ix tt te Z Q ws acc h:=by
 induction ws generalizing I with
 | nil=>intro acc h h0;exact fin acc h h0
 | cons w ws ih=>
  intro acc h h0;obtain ⟨vs,ev,q⟩:=step 0 w acc h _ (fun acc' h' q=>ih (fun i=>I (i+1)) (fun i w acc h N hN e hi=>step (i+1) w acc h N hN (by simpa using e) hi) (fun acc h q=>fin acc h q) q) rfl h0;show (match own w with
   | some vs=>_
   | none=>False)
  rw [ev];exact q
theorem zbB {lo:Int}{n i:Nat}{w:W}(e:(wu lo n)[i]?=Dn w):i<n/\w=.int (lo+(i:Int)):=by
 have hi:i<n:=by
  have:=(Yn.mp e).1
  simpa [wu] using this
 unfold wu at e;rw [Yo,List.getElem?_range hi] at e;exact ⟨hi,(Yp e).symm⟩
theorem zaU {lo:Int}{n:Nat}:(wu lo n).length=n:=by simp [wu]
theorem aaZ {ma:MA}{j:Int}{g:MG}{b:MS}{D:bU}{Z : Sw}{h:Gh}(hm:∀ R,ma Z h R=R [.int j] h)(h1:-(2^62)<=j)(h2:j<2^62)(I:Nat->Sw->Gh->Prop)
  (step:∀ (i:Nat) (Z : Sw) (h:Gh) (N:Sw->Gh->Prop),(∀ Z' h',I (i+1) Z' h'->N Z' h')->i<j.toNat->I i Z h->g (.int (i:Int)) Z h fun Z1 h1=>b { D with nx:=N,ct:=N,bk:=D.nx } Z1 h1)
  (fin:∀ Z h,I j.toNat Z h->D.nx Z h) (h0:I 0 Z h):zq (gw ma) g b D Z h:=by
 unfold zq gw;rw [hm];refine zx.mk h1 h2 ?_;refine lQ I (fun i w Z h N hN e hi=>?_) (fun Z h q=>fin Z h (by rw [zaU] at q;exact q)) h0;obtain ⟨hlt,rfl⟩:=zbB e;rw [Int.zero_add];exact step i Z h N hN hlt hi
theorem aaF {ns:List Int}{k:Int}(h0:0<=k)(h1:k<((ns.map W.int).length:Int)):CK (ns.map W.int) k=Dn (.int (ns.getD k.toNat 0)):=by
 have hk:k.toNat<ns.length:=by rw [Yd] at h1;lia
 have e:(ns.map W.int)[k.toNat]?=Dn (.int (ns.getD k.toNat 0)):=by
  rw [Yo,Yk hk,Zi,Yk hk];rfl
 have:=bF e
 rwa [show ((k.toNat:Nat):Int)=k by lia] at this
def gF (f n:Int):Int:=((Int.gcd n f:Nat):Int)
def gL (ns:List Int):Int:=ns.foldl gF 0
def Oa:List Int->Int
 | []=>0
 | n::ns=>if n=0 then Oa ns else n
def TJ (ns:List Int):Int:=Oa ns.reverse
def PlL (ns:List Int):Prop:=gL ns=1/\0<TJ ns
theorem lW (a b:Int):Wj (.int a) (.int b)=(a==b):=by rw [Wj]
abbrev Tr:=Int×Int×Int
def tl (t:Tr):List Int:=[t.1,t.2.1,t.2.2]
def tw (t:Tr):W:=.tup [.int t.1,.int t.2.1,.int t.2.2]
def sc (k:Int)(t:Tr):Tr:=(t.1*k,t.2.1*k,t.2.2*k)
def crs (p q:Tr):Tr:=(p.2.1*q.2.2 - p.2.2*q.2.1,p.2.2*q.1 - p.1*q.2.2,p.1*q.2.1 - p.2.1*q.1)
def Gn (p q:Tr):Int:=p.1*q.1+p.2.1*q.2.1+p.2.2*q.2.2
theorem Rp (p q:Tr):Wj (tw p) (tw q)=decide (p=q):=by
 obtain ⟨a,b,c⟩:=p;obtain ⟨x,y,z⟩:=q;unfold tw;rw [Wj,mK,mK,mK,mK,lW,lW,lW];by_cases ha:a=x <;> by_cases hb:b=y <;> by_cases hc:c=z <;> simp [ha,hb,hc]
theorem Mf {s:Src}{ws:List W}{own:W->Option (List W)}{ix:List Nat}{tt:MT}{te:ME}{Z : Sw}{Q:WK}(I:Nat->List W->Gh->Prop)
  (go:∀ i acc h,I i acc h->∀ P:Prop,P->s.go h P)
  (step:∀ (i:Nat) (w:W) (acc:List W) (h:Gh) (N:List W->Gh->Prop),(∀ acc' h',I (i+1) acc' h'->N acc' h')->ws[i]?=Dn w->I i acc h ->
   ∃ vs,own w=Dn vs/\tt (vs.map Dn++pP ix Z) h fun c h1=>AP c (te (vs.map Dn++pP ix Z) h1 fun v h2=>N (acc++[v]) h2) (N acc h1))
  (fin:∀ acc h,I ws.length acc h->Q (.lst acc) h):∀ {acc:List W} {h:Gh},I 0 acc h->oA s own ix tt te Z Q ws acc h:=by
 induction ws generalizing I with
 | nil=>intro acc h h0;exact go 0 acc h h0 _ (fin acc h h0)
 | cons w ws ih=>
  intro acc h h0;obtain ⟨vs,ev,q⟩:=step 0 w acc h _ (fun acc' h' q=>ih (fun i=>I (i+1)) (fun i=>go (i+1)) (fun i w acc h N hN e hi=>step (i+1) w acc h N hN (by simpa using e) hi) (fun acc h q=>fin acc h q) q) rfl h0;refine go 0 acc h h0 _ ?_;show (match own w with
   | some vs=>_
   | none=>False)
  rw [ev];exact q
theorem xH {s:Src}{ws:List W}{g:MG}{b:MS}{D:bU}(I:Nat->Sw->Gh->Prop)(go:∀ i Z h,I i Z h->∀ P:Prop,P->s.go h P)
  (step:∀ (i:Nat) (w:W) (Z : Sw) (h:Gh) (N:Sw->Gh->Prop),(∀ Z' h',I (i+1) Z' h'->N Z' h')->ws[i]?=Dn w->I i Z h->g w Z h fun Z1 h1=>b { D with nx:=N,ct:=N,bk:=D.nx } Z1 h1)
  (fin:∀ Z h,I ws.length Z h->D.nx Z h):∀ {Z : Sw} {h:Gh},I 0 Z h->ji s g b D ws Z h:=by
 induction ws generalizing I with
 | nil=>intro Z h h0;exact go 0 Z h h0 _ (fin Z h h0)
 | cons w ws ih=>
  intro Z h h0;refine go 0 Z h h0 _ ?_;refine step 0 w Z h _ (fun Z' h' q=>?_) rfl h0;exact ih (fun i=>I<|i+1) (fun i=>go<|i+1) (fun i w Z h N hN e hi=>step (i+1) w Z h N hN (by simpa using e) hi) (fun Z h q=>fin Z h q) q
theorem GK {h:Gh}{n:Nat}{us:List W}{w:W}{Q:WK}(e:h.c n=Dn (.lst us))(hz:us.length<YQ)(k:Q .non (h.set n (.lst (us++[w])))):cT (.loc n) [w] h Q:=by
 show (match h.c n with
  | some (Cell.lst us)=>_
  | _=>False)
 rw [e];exact ⟨hz,k⟩
abbrev Mt:=Tr×Tr×Tr
def vm (M:Mt)(v:Tr):Tr:=(Gn M.1 v,Gn M.2.1 v,Gn M.2.2 v)
def tr (M:Mt):Mt:=((M.1.1,M.2.1.1,M.2.2.1),(M.1.2.1,M.2.1.2.1,M.2.2.2.1),(M.1.2.2,M.2.1.2.2,M.2.2.2.2))
def mm (M N:Mt):Mt:=(vm (tr N) M.1,vm (tr N) M.2.1,vm (tr N) M.2.2)
def ml (M:Mt):List Int:=tl M.1++(tl M.2.1++tl M.2.2)
def zag:W->Bool
 | .int _=>true
 | _=>false
instance (ns:List Int):Decidable (PlL ns):=inferInstanceAs (Decidable (_/\_))
def tK (Q:Bool->Gh->Prop):WK:=fun w h=>match w with
 | .bl c=>Q c h
 | _=>False
def uK (Q:Bool->Gh->Prop):WK:=fun w h=>match RQ h w with
 | some b=>Q b h
 | none=>False
def aK (b:ME)(Z : Sw)(Q:WK):WK:=fun x h=>match x with
 | .bl true=>b Z h Q
 | .bl false=>Q (.bl false) h
 | _=>False
def oK (b:ME)(Z : Sw)(Q:WK):WK:=fun x h=>match x with
 | .bl false=>b Z h Q
 | .bl true=>Q (.bl true) h
 | _=>False
def nK (Q:WK):WK:=fun x h=>match x with
 | .bl c=>Q (.bl (!c)) h
 | _=>False
def iK (R:Src->Gh->Prop):WK:=fun w h=>match Qs h w with
 | some s=>R s h
 | none=>False
def xK (f:Str->Bool)(Q:WK):WK:=fun w h=>match w with
 | .exc n=>Q (.bl (f n)) h
 | .exa n _=>Q (.bl (f n)) h
 | _=>False
def pK (Q:Option Int->Gh->Prop):WK:=fun w h=>match w with
 | .int i=>Q (Dn i) h
 | _=>False
def Vz (g:MG)(b:MS)(D:bU)(Z : Sw):Src->Gh->Prop:=fun s h=>ji s g b D s.ws Z h
def lcK (own:W->Option (List W))(ix:List Nat)(tt:MT)(te:ME)(Z : Sw)(Q:WK):Src->Gh->Prop:=fun s h=>jD s.ws.length (oA s own ix tt te Z Q s.ws [] h)
def rgK (R:Src->Gh->Prop):List W->Gh->Prop:=fun ws h=>match ws with
 | [.int j]=>zx j (R ⟨wu 0 j.toNat,FN⟩ h)
 | _=>False
def zpK (R:Src->Gh->Prop):List W->Gh->Prop:=fun ws h=>match ws with
 | [x,y]=>(match Ig h x y with
  | some s=>R s h
  | none=>False)
 | _=>False
theorem aM {m u:MS}{D:bU}{Z : Sw}{h:Gh}(x:m { D with nx:=u D } Z h):bY m u D Z h:=x
theorem cu {N b c:Sw->Gh->Prop}{r:WK}{Z : Sw}{h:Gh}(x:N Z h):bU.nx ⟨N,r,b,c⟩ Z h:=x
theorem Wx {N b c:Sw->Gh->Prop}{r:WK}{Z : Sw}{h:Gh}(x:b Z h):bU.bk ⟨N,r,b,c⟩ Z h:=x
theorem Xc {N b c:Sw->Gh->Prop}{r:WK}{Z : Sw}{h:Gh}(x:c Z h):bU.ct ⟨N,r,b,c⟩ Z h:=x
theorem Xj {N b c:Sw->Gh->Prop}{r:WK}{w:W}{h:Gh}(x:r w h):bU.rt ⟨N,r,b,c⟩ w h:=x
theorem aaY {D:bU}{w:W}{h:Gh}(x:D.rt w h):bU.rt (bU.lost D) w h:=x
theorem aah {D:bU}{Z : Sw}{h:Gh}(x:D.nx (Z.map fun _=>FN) h):bU.nx (bU.lost D) Z h:=x
theorem cD {D:bU}{Z : Sw}{h:Gh}(x:D.nx Z h):dF D Z h:=x
theorem aX {m:ME}{g:MG}{D:bU}{Z : Sw}{h:Gh}(x:m Z h fun w h1=>g w Z h1 D.nx):cY m g D Z h:=x
theorem fU {m:ME}{D:bU}{Z : Sw}{h:Gh}(x:m Z h fun _ h1=>D.nx Z h1):mW m D Z h:=x
theorem dZ {m:ME}{D:bU}{Z : Sw}{h:Gh}(x:m Z h D.rt):gA m D Z h:=x
theorem eN {c:Str}{E:X4}{D:bU}{Z : Sw}{h:Gh}(x:E ⟨c,[]⟩ h):o8 c E D Z h:=x
theorem dG {t:MT}{a b:MS}{D:bU}{Z : Sw}{h:Gh}(x:t Z h fun c h1=>br c (a D Z h1) (b D Z h1)):lK t a b D Z h:=x
theorem TF {t:MT}{a b:ME}{Q:WK}{Z : Sw}{h:Gh}(x:t Z h fun c h1=>br c (a Z h1 Q) (b Z h1 Q)):mIf t a b Z h Q:=x
theorem Nz {i:Nat}{d:Str}{mb:X4->MS}{mh:MS}{D:bU}{Z : Sw}{h:Gh}(x:mb (fun x h'=>AP (FT x.cls d) (mh D.lost (Z.set i (Dn (R7 x))) h') False) D Z h):XH i d mb mh D Z h:=x
theorem vY {n:Nat}{g:Ei}{w:W}{ws:List W}{Z : Sw}{h:Gh}{N:Sw->Gh->Prop}(e:w=.tup ws)(b:DK ws.length n=true)(x:g ws Z h N):uW n g w Z h N:=by
 subst e;unfold uW;dsimp only;rw [b];exact x
theorem aaO {n:Nat}{g:Ei}{w:W}{ws:List W}{Z : Sw}{h:Gh}{N:Sw->Gh->Prop}(e:w=.lst ws)(b:DK ws.length n=true)(x:g ws Z h N):uW n g w Z h N:=by
 subst e;unfold uW;dsimp only;rw [b];exact x
theorem Pz {n:Nat}{g:Ei}{w:W}{ws:List W}{Z : Sw}{h:Gh}{N:Sw->Gh->Prop}(e:w=.tup ws)(b:DK ws.length n=true)(x:g ws Z h N):Wf n g w Z h N:=by
 subst e;unfold Wf;dsimp only;rw [b];exact x
theorem oR {g:MG}{r:Ei}{w:W}{ws:List W}{Z : Sw}{h:Gh}{N:Sw->Gh->Prop}(x:g w Z h fun Z1 h1=>r ws Z1 h1 N):uI g r (w::ws) Z h N:=x
theorem Cj {Z : Sw}{h:Gh}{N:Sw->Gh->Prop}(x:N Z h):Qk [] Z h N:=x
theorem aA {i:Nat}{w:W}{Z : Sw}{h:Gh}{Q:WK}(e:Z[i]?=Dn (Dn w))(x:Q w h):aG i Z h Q:=by
 unfold aG;rw [e];exact x
theorem bN {w:W}{Z : Sw}{h:Gh}{Q:WK}(x:Q w h):mC w Z h Q:=x
theorem aN {r:M2}{ma mb:ME}{Z : Sw}{h:Gh}{Q:WK}(x:ma Z h fun a h1=>mb Z h1 fun b h2=>r a b h2 Q):Mk r ma mb Z h Q:=x
theorem yw {r:W->Gh->WK->Prop}{ma:ME}{Z : Sw}{h:Gh}{Q:WK}(x:ma Z h fun a h1=>r a h1 Q):Gm r ma Z h Q:=x
theorem qx {i:Int}{h:Gh}{Q:WK}(x:Q (.int (-i)) h):Io (.int i) h Q:=x
theorem ao {a:ME}{r:MA}{Z : Sw}{h:Gh}{Q:List W->Gh->Prop}(x:a Z h fun w h1=>r Z h1 fun ws h2=>Q (w::ws) h2):au a r Z h Q:=x
theorem aF {Z : Sw}{h:Gh}{Q:List W->Gh->Prop}(x:Q [] h):aO Z h Q:=x
theorem bI {n:Nat}{P:Prop}(e:Nat.ble n 1000=true)(x:P):jD n P:=by
 unfold jD;rw [e];exact x
theorem cP {t:MA}{Z : Sw}{h:Gh}{Q:WK}(x:t Z h fun ws h1=>jD ws.length (Q (.tup ws) h1)):lJ t Z h Q:=x
theorem cZ {t:MA}{Z : Sw}{h:Gh}{Q:WK}(x:t Z h fun ws h1=>jD ws.length (Q (.lst ws) h1)):pL t Z h Q:=x
theorem bw {c:VR}{E:X4}{ma:MA}{Z : Sw}{h:Gh}{Q:WK}(x:ma Z h fun ws h1=>c ws h1 Q E):bM c E ma Z h Q:=x
theorem d7 {r:MC}{ma:MA}{Z : Sw}{h:Gh}{Q:WK}(x:ma Z h fun ws h1=>r ws h1 Q):X7 r ma Z h Q:=x
theorem cj {m:ME}{Z : Sw}{h:Gh}{Q:Bool->Gh->Prop}(x:m Z h (tK Q)):bZ m Z h Q:=x
theorem qI {c:Bool}{h:Gh}{Q:Bool->Gh->Prop}(x:Q c h):tK Q (.bl c) h:=x
theorem gC {m:ME}{Z : Sw}{h:Gh}{Q:Bool->Gh->Prop}(x:m Z h (uK Q)):sS m Z h Q:=x
theorem yF {w:W}{b:Bool}{h:Gh}{Q:Bool->Gh->Prop}(e:RQ h w=Dn b)(x:Q b h):uK Q w h:=by
 unfold uK;rw [e];exact x
theorem gq {t:MT}{Z : Sw}{h:Gh}{Q:Bool->Gh->Prop}(x:t Z h fun c h1=>Q (!c) h1):q9 t Z h Q:=x
theorem Qv {t u:MT}{Z : Sw}{h:Gh}{Q:Bool->Gh->Prop}(x:t Z h fun c h1=>br c (u Z h1 Q) (Q false h1)):Xg t u Z h Q:=x
theorem mZ {t u:MT}{Z : Sw}{h:Gh}{Q:Bool->Gh->Prop}(x:t Z h fun c h1=>br c (Q true h1) (u Z h1 Q)):Ca t u Z h Q:=x
theorem gZ {Z : Sw}{h:Gh}{Q:Bool->Gh->Prop}(x:Q true h):tu Z h Q:=x
theorem vg {a b:ME}{Z : Sw}{h:Gh}{Q:WK}(x:a Z h (aK b Z Q)):uN a b Z h Q:=x
theorem QK {a b:ME}{Z : Sw}{h:Gh}{Q:WK}(x:a Z h (oK b Z Q)):W2 a b Z h Q:=x
theorem zB {a:ME}{Z : Sw}{h:Gh}{Q:WK}(x:a Z h (nK Q)):Gp a Z h Q:=x
theorem Tq {b:ME}{Z : Sw}{h:Gh}{Q:WK}{c:Bool}(x:br c (b Z h Q) (Q (.bl false) h)):aK b Z Q (.bl c) h:=by
 cases c with
 | true=>exact x.1 rfl
 | false=>exact x.2 rfl
theorem Xp {b:ME}{Z : Sw}{h:Gh}{Q:WK}{c:Bool}(x:br c (Q (.bl true) h) (b Z h Q)):oK b Z Q (.bl c) h:=by
 cases c with
 | true=>exact x.1 rfl
 | false=>exact x.2 rfl
theorem V0 {h:Gh}{Q:WK}{c:Bool}(x:Q (.bl (!c)) h):nK Q (.bl c) h:=x
theorem Nf {f:Str->Bool}{m:ME}{Z : Sw}{h:Gh}{Q:WK}(x:m Z h (xK f Q)):XF f m Z h Q:=x
theorem W4 {f:Str->Bool}{n:Str}{h:Gh}{Q:WK}(x:Q (.bl (f n)) h):xK f Q (.exc n) h:=x
theorem ur {a b:Prop}(x:a):br true a b:=Td rfl x
theorem DY {a b:Prop}(x:b):br false a b:=Ir rfl x
theorem gB {a b:Prop}(x:b):br (!true) a b:=DY x
theorem uY {a b:Prop}(x:a):br (!false) a b:=ur x
theorem eZ {a b:Prop}(x:a):AP true a b:=x
theorem xG {a b:Prop}(x:b):AP false a b:=x
theorem Hv {i j:Int}{h:Gh}{Q:WK}(x:Q (.int (i - j)) h):KQ (.int i) (.int j) h Q:=x
theorem pC {i j:Int}{h:Gh}{Q:WK}(x:Q (.int (i+j)) h):fj (.int i) (.int j) h Q:=x
theorem Qi {i j:Int}{h:Gh}{Q:WK}(c:sV i j)(x:Q (.int (i*j)) h):Ov (.int i) (.int j) h Q:=⟨c,x⟩
theorem zH {i j:Int}{h:Gh}{Q:WK}(c:j≠0)(x:Q (.int (i.fmod j)) h):Bd (.int i) (.int j) h Q:=⟨c,x⟩
theorem Eo {i j:Int}{h:Gh}{Q:WK}(x:Q (.bl (decide (i<j))) h):kLt (.int i) (.int j) h Q:=x
theorem Ti {i j:Int}{h:Gh}{Q:WK}(x:Q (.bl (decide (i>j))) h):kGt (.int i) (.int j) h Q:=x
theorem S5 {i j:Int}{h:Gh}{Q:WK}(x:Q (.bl (decide (i=j))) h):Dp (.int i) (.int j) h Q:=by
 have e:Wj (.int i) (.int j)=decide (i=j):=lW i j;show Q (.bl (Wj (.int i) (.int j))) h;rw [e];exact x
theorem Rf {i j:Int}{h:Gh}{Q:WK}(x:Q (.bl (decide (i≠j))) h):Cp (.int i) (.int j) h Q:=by
 have e:(!Wj (.int i) (.int j))=decide (i≠j):=by rw [lW];by_cases z:i=j <;> simp [z]
 show Q (.bl (!Wj (.int i) (.int j))) h;rw [e];exact x
theorem Sy {i j:Bool}{h:Gh}{Q:WK}(x:Q (.bl (decide (i=j))) h):Dp (.bl i) (.bl j) h Q:=by
 have e:Wj (.bl i) (.bl j)=decide (i=j):=by rw [Wj];cases i <;> cases j <;> rfl
 show Q (.bl (Wj (.bl i) (.bl j))) h;rw [e];exact x
theorem S7 {i j:Bool}{h:Gh}{Q:WK}(x:Q (.bl (decide (i≠j))) h):Cp (.bl i) (.bl j) h Q:=by
 have e:(!Wj (.bl i) (.bl j))=decide (i≠j):=by rw [Wj];cases i <;> cases j <;> rfl
 show Q (.bl (!Wj (.bl i) (.bl j))) h;rw [e];exact x
theorem Pn {p q:Tr}{h:Gh}{Q:WK}(x:Q (.bl (decide (p=q))) h):Dp (tw p) (tw q) h Q:=by
 show Q (.bl (Wj (tw p) (tw q))) h;rw [Rp];exact x
theorem Px {p q:Tr}{h:Gh}{Q:WK}(x:Q (.bl (decide (p≠q))) h):Cp (tw p) (tw q) h Q:=by
 have e:(!Wj (tw p) (tw q))=decide (p≠q):=by rw [Rp];by_cases z:p=q <;> simp [z]
 show Q (.bl (!Wj (tw p) (tw q))) h;rw [e];exact x
theorem Vn {p:Tr}{a b c:Int}{h:Gh}{Q:WK}(x:Q (.bl (decide (p=(a,b,c)))) h):Dp (tw p) (.tup [.int a,.int b,.int c]) h Q:=Pn (q:=(a,b,c)) x
theorem Ux {p:Tr}{a b c:Int}{h:Gh}{Q:WK}(x:Q (.bl (decide (p≠(a,b,c)))) h):Cp (tw p) (.tup [.int a,.int b,.int c]) h Q:=Px (q:=(a,b,c)) x
theorem cG {x w:W}{i:Int}{ws:List W}{h:Gh}{Q:WK}(e:view h x=Dn ws)(a:CK ws i=Dn w)(k:Q w h):W9 x (.int i) h Q:=by
 unfold W9;dsimp only;rw [e];dsimp only;rw [a];exact k
theorem iR {w:W}{T:String}{b:Bool}{h:Gh}{Q:WK}(e:Dc h w T=Dn b)(x:Q (.bl b) h):vX [w,.ty T] h Q:=by
 unfold vX;dsimp only;rw [e];exact x
theorem dU {w:W}{xs:List W}{h:Gh}{Q:WK}(e:view h w=Dn xs)(x:Q (.int (xs.length:Int)) h):X3 [w] h Q:=by
 unfold X3;dsimp only;rw [e];exact x
theorem wR {us:List W}{h:Gh}{Q:WK}(x:Q (.tup us) h):w6 [.lst us] h Q:=x
theorem HX {w:W}{us:List W}{bs:List Bool}{h:Gh}{Q:WK}(e:cC h w=Dn us)(b:Dh us=Dn bs)(x:Q (.bl (bs.any id)) h):Rx [w] h Q:=by
 unfold Rx;dsimp only;rw [e];dsimp only;rw [b];exact x
theorem xO {w:W}{us:List W}{bs:List Bool}{h:Gh}{Q:WK}(e:cC h w=Dn us)(b:Dh us=Dn bs)(x:Q (.bl (bs.all id)) h):La [w] h Q:=by
 unfold La;dsimp only;rw [e];dsimp only;rw [b];exact x
theorem Nh {w:W}{us:List W}{ns:List Int}{h:Gh}{Q:WK}(e:cC h w=Dn us)(b:JN us=Dn ns)(x:Q (.int ns.sum) h):V5 [w] h Q:=by
 unfold V5;dsimp only;rw [e];dsimp only;rw [b];exact x
theorem Np {i:Int}{h:Gh}{Q:WK}(x:Q (.int (if i<0 then -i else i)) h):Xa [.int i] h Q:=x
theorem OD {b:Bool}{h:Gh}{Q:WK}(x:Q (.int (if b then 1 else 0)) h):Wa [.bl b] h Q:=x
theorem pH {mi:MI}{g:MG}{b:MS}{D:bU}{Z : Sw}{h:Gh}(x:mi Z h (Vz g b D Z)):zq mi g b D Z h:=x
theorem mq {ws:List W}{o:Option (Nat×List W)}{g:MG}{b:MS}{D:bU}{Z : Sw}{h:Gh}(x:ji ⟨ws,o⟩ g b D ws Z h):Vz g b D Z ⟨ws,o⟩ h:=x
theorem aby {ws:List W}{g:MG}{b:MS}{D:bU}{Z : Sw}{h:Gh}(x:D.nx Z h):ji ⟨ws,FN⟩ g b D [] Z h:=x
theorem aax {ws r:List W}{w:W}{g:MG}{b:MS}{D:bU}{Z : Sw}{h:Gh}(x:g w Z h fun Z1 h1=>b { D with nx:=ji ⟨ws,FN⟩ g b D r,ct:=ji ⟨ws,FN⟩ g b D r,bk:=D.nx } Z1 h1):ji ⟨ws,FN⟩ g b D (w::r) Z h:=x
theorem uX {m:ME}{R:Src->Gh->Prop}{Z : Sw}{h:Gh}(x:m Z h (iK R)):DX m Z h R:=x
theorem GP {w:W}{ws:List W}{o:Option (Nat×List W)}{h:Gh}{R:Src->Gh->Prop}(e:Qs h w=Dn ⟨ws,o⟩)(x:R ⟨ws,o⟩ h):iK R w h:=by
 unfold iK;rw [e];exact x
theorem oM {ma:MA}{R:Src->Gh->Prop}{Z : Sw}{h:Gh}(x:ma Z h (rgK R)):gw ma Z h R:=x
theorem TX {R:Src->Gh->Prop}{h:Gh}(x:R ⟨[.int 0,.int 1,.int 2],FN⟩ h):rgK R [.int 3] h:=x
theorem TV {R:Src->Gh->Prop}{h:Gh}(x:R ⟨[.int 0,.int 1],FN⟩ h):rgK R [.int 2] h:=x
theorem HS {ma:MA}{R:Src->Gh->Prop}{Z : Sw}{h:Gh}(x:ma Z h (zpK R)):Vr ma Z h R:=x
theorem O4 {a b:W}{as bs:List W}{zs:List W}{R:Src->Gh->Prop}{h:Gh}(e:mY a=Dn as)(e':mY b=Dn bs)(z:jU as bs=zs)(x:R ⟨zs,FN⟩ h):zpK R [a,b] h:=by
 subst z;have es:Ig h a b=Dn ⟨jU as bs,FN⟩:=by unfold Ig;rw [e,e']
 unfold zpK;dsimp only;rw [es];exact x
theorem Tz {n:Nat}{b:W}{as bs:List W}{zs:List W}{R:Src->Gh->Prop}{h:Gh}(e:h.c n=Dn (.lst as))(e':mY b=Dn bs)(z:jU as bs=zs)(x:R ⟨zs,Dn (n,as)⟩ h):zpK R [.loc n,b] h:=by
 subst z;have es:Ig h (.loc n) b=Dn ⟨jU as bs,Dn (n,as)⟩:=by unfold Ig;rw [e'];dsimp only [mY];rw [e]
 unfold zpK;dsimp only;rw [es];exact x
theorem V4 {bs:List W}:jU [] bs=[]:=by cases bs <;> rfl
theorem Wq {a:W}{as:List W}:jU (a::as) []=[]:=rfl
theorem GQ {a b:W}{as bs l:List W}(e:jU as bs=l):jU (a::as) (b::bs)=.tup [a,b]::l:=by rw [jU,e]
theorem lN {own:W->Option (List W)}{ix:List Nat}{mi:MI}{tt:MT}{te:ME}{Z : Sw}{h:Gh}{Q:WK}(x:mi Z h (lcK own ix tt te Z Q)):Aj own ix mi tt te Z h Q:=x
theorem v7 {ws:List W}{o:Option (Nat×List W)}{own:W->Option (List W)}{ix:List Nat}{tt:MT}{te:ME}{Z : Sw}{h:Gh}{Q:WK}(e:Nat.ble ws.length 1000=true)(x:oA ⟨ws,o⟩ own ix tt te Z Q ws [] h):lcK own ix tt te Z Q ⟨ws,o⟩ h:=bI e x
theorem RM {ws acc:List W}{own:W->Option (List W)}{ix:List Nat}{tt:MT}{te:ME}{Z : Sw}{h:Gh}{Q:WK}(x:Q (.lst acc) h):oA ⟨ws,FN⟩ own ix tt te Z Q [] acc h:=x
theorem RN {ws r acc vs:List W}{w:W}{own:W->Option (List W)}{ix:List Nat}{tt:MT}{te:ME}{Z : Sw}{h:Gh}{Q:WK}(e:own w=Dn vs)(x:tt (vs.map Dn++pP ix Z) h fun c h1=>AP c (te (vs.map Dn++pP ix Z) h1 fun v h2=>oA ⟨ws,FN⟩ own ix tt te Z Q r (acc++[v]) h2) (oA ⟨ws,FN⟩ own ix tt te Z Q r acc h1)):oA ⟨ws,FN⟩ own ix tt te Z Q (w::r) acc h:=by
 unfold oA;show match own w with
  | some vs=>tt (vs.map Dn++pP ix Z) h fun c h1=>AP c (te (vs.map Dn++pP ix Z) h1 fun v h2=>oA ⟨ws,FN⟩ own ix tt te Z Q r (acc++[v]) h2) (oA ⟨ws,FN⟩ own ix tt te Z Q r acc h1)
  | none=>False
 rw [e];exact x
theorem TY {n N:Nat}{body:X4->MS}{ws:List W}{h:Gh}{Q:WK}{E:X4}(hl:DK ws.length n=true)(x:body E { nx:=fun _ h'=>Q .non h',rt:=Q } (ws.map Dn++ZD (N - ws.length) FN) h):Ae n N false body ws h Q E:=by
 unfold Ae;rw [hl];exact x
theorem qQ {r:W->Option Int->Option Int->Gh->WK->Prop}{m:ME}{l u:MO}{Z : Sw}{h:Gh}{Q:WK}(x:m Z h fun a h1=>l Z h1 fun lo h2=>u Z h2 fun hi h3=>r a lo hi h3 Q):DW r m l u Z h Q:=x
theorem fY {m:ME}{Z : Sw}{h:Gh}{Q:Option Int->Gh->Prop}(x:m Z h (pK Q)):iI m Z h Q:=x
theorem Dg {i:Int}{h:Gh}{Q:Option Int->Gh->Prop}(x:Q (Dn i) h):pK Q (.int i) h:=x
def p3K (i j k:Nat)(D:bU)(Z : Sw):List W->Gh->Prop:=fun ws h=>match ws with
 | [x,y,z]=>D.nx (((Z.set i (Dn x)).set j (Dn y)).set k (Dn z)) h
 | _=>False
theorem abk {i j k:Nat}{ta:MA}{D:bU}{Z : Sw}{h:Gh}(x:ta Z h (p3K i j k D Z)):Uq i j k ta D Z h:=x
theorem Ob {xs:List W}{n:Int}{a b:Prop}(e:decide ((xs.length:Int)≠n)=false)(x:b):br (decide ((xs.length:Int)≠n)) a b:=Ir e x
theorem abw {bs:List Bool}{a b:Prop}(e:bs.all id=true)(x:b):br (!(bs.all id)) a b:=Ir (by rw [e];rfl) x
theorem U9 {n d:Str}{a b:Prop}(e:FT n d=true)(x:a):AP (FT n d) a b:=Ra e x
theorem SN {n d:Str}{a b:Prop}(e:FT n d=true)(x:a):br (FT n d) a b:=Td e x
theorem Vq {n d:Str}{a b:Prop}(e:FT n d=false)(x:b):br (FT n d) a b:=Ir e x
theorem MP {α : Type}{a x:α}{l:List α}:(a::l).set 0 x=x::l:=rfl
theorem M5 {α : Type}{a x:α}{l l':List α}{n:Nat}(e:l.set n x=l'):(a::l).set (n+1) x=a::l':=by rw [List.set_cons_succ,e]
theorem z9 {i:Nat}{w:W}{Z Z':Sw}{h:Gh}{N:Sw->Gh->Prop}(e:Z.set i (Dn w) = Z')(x:N Z' h):JI i w Z h N:=by
 subst e;exact x
theorem nV {i:Nat}{w:W}{Z Z':Sw}{h:Gh}{N:Sw->Gh->Prop}(x:N Z' h)(e:Z.set i (Dn w) = Z':=by repeat (first | with_reducible exact MP | with_reducible apply M5)):JI i w Z h N:=z9 e x
theorem Vm {i j k:Nat}{D:bU}{Z Z1 Z2 Z3:Sw}{h:Gh}{x y z:W}(e1:Z.set i (Dn x) = Z1)(e2:Z1.set j (Dn y) = Z2)(e3:Z2.set k (Dn z) = Z3)(q:D.nx Z3 h):p3K i j k D Z [x,y,z] h:=by
 subst e1 e2 e3;exact q
def ini (ws:List W)(n:Nat):Sw:=ws.map Dn++ZD (n - ws.length) FN
theorem Wt:ini [] 0=[]:=rfl
theorem Vy {n:Nat}{l:Sw}(e:ini [] n=l):ini [] (n+1)=FN::l:=by
 subst e;rfl
theorem VP {n:Nat}{w:W}{ws:List W}{l:Sw}(e:ini ws n=l):ini (w::ws) (n+1)=Dn w::l:=by
 subst e;unfold ini;rw [YB,Nat.add_sub_add_right];rfl
theorem lR {n N:Nat}{body:X4->MS}{ws:List W}{Z : Sw}{h:Gh}{Q:WK}{E:X4}(hl:DK ws.length n=true)(e:ini ws N = Z)(x:body E { nx:=fun _ h'=>Q .non h',rt:=Q } Z h):Ae n N false body ws h Q E:=by
 subst e;exact TY hl x
theorem Tj {i:Nat}{n d:Str}{fs:List (Str×W)}{mh:MS}{D:bU}{Z Z':Sw}{h:Gh}(e:FT n d=true)(s:Z.set i (Dn (R7 ⟨n,fs⟩)) = Z')(x:mh D Z' h):AP (FT (Xw.mk n fs).cls d) (mh D (Z.set i (Dn (R7 (Xw.mk n fs)))) h) False:=by
 subst s;exact Ra e x
theorem Ip {own:W->Option (List W)}{ix:List Nat}{mi:MI}{tt:MT}{te:ME}{Z : Sw}{h:Gh}{Q:WK}(x:Aj own ix mi tt te Z h (Sh Q)):R0 own ix mi tt te Z h Q:=x
theorem QL {us:List W}{h:Gh}{Q:WK}(x:∀ g:Gh,g.c h.nx=Dn (.lst us)->(∀ n,n≠h.nx->g.c n=h.c n)->g.nx=h.nx+1->Q (.loc h.nx) g):Sh Q (.lst us) h:=x _ (zE _ _) (fun _ e=>qC e) rfl
theorem Ql {mo mi:ME}{ms:Rt}{w:W}{Z : Sw}{h:Gh}{N:Sw->Gh->Prop}(x:mo Z h fun o h1=>mi Z h1 fun i h2=>ms o i w h2 fun h3=>N Z h3):RX mo mi ms w Z h N:=x
theorem abv {ws r us:List W}{n:Nat}{w:W}{g:MG}{b:MS}{D:bU}{Z : Sw}{h:Gh}(e:h.c n=Dn (.lst us))(x:g w Z h fun Z1 h1=>b { D with nx:=ji ⟨ws,Dn (n,us)⟩ g b D r,ct:=ji ⟨ws,Dn (n,us)⟩ g b D r,bk:=D.nx } Z1 h1):ji ⟨ws,Dn (n,us)⟩ g b D (w::r) Z h:=⟨e,x⟩
theorem zbh {ws us:List W}{n:Nat}{g:MG}{b:MS}{D:bU}{Z : Sw}{h:Gh}(e:h.c n=Dn (.lst us))(x:D.nx Z h):ji ⟨ws,Dn (n,us)⟩ g b D [] Z h:=⟨e,x⟩
theorem aaX {ws us acc:List W}{n:Nat}{own:W->Option (List W)}{ix:List Nat}{tt:MT}{te:ME}{Z : Sw}{h:Gh}{Q:WK}(e:h.c n=Dn (.lst us))(x:Q (.lst acc) h):oA ⟨ws,Dn (n,us)⟩ own ix tt te Z Q [] acc h:=⟨e,x⟩
theorem abl {ws us r acc vs:List W}{n:Nat}{w:W}{own:W->Option (List W)}{ix:List Nat}{tt:MT}{te:ME}{Z : Sw}{h:Gh}{Q:WK}(ec:h.c n=Dn (.lst us))(e:own w=Dn vs)(x:tt (vs.map Dn++pP ix Z) h fun c h1=>AP c (te (vs.map Dn++pP ix Z) h1 fun v h2=>oA ⟨ws,Dn (n,us)⟩ own ix tt te Z Q r (acc++[v]) h2) (oA ⟨ws,Dn (n,us)⟩ own ix tt te Z Q r acc h1)):oA ⟨ws,Dn (n,us)⟩ own ix tt te Z Q (w::r) acc h:=by
 unfold oA;refine ⟨ec,?_⟩;show match own w with
  | some vs=>tt (vs.map Dn++pP ix Z) h fun c h1=>AP c (te (vs.map Dn++pP ix Z) h1 fun v h2=>oA ⟨ws,Dn (n,us)⟩ own ix tt te Z Q r (acc++[v]) h2) (oA ⟨ws,Dn (n,us)⟩ own ix tt te Z Q r acc h1)
  | none=>False
 rw [e];exact x
theorem Tt {n:Nat}{ws:List W}{h:Gh}{R:Src->Gh->Prop}(e:h.c n=Dn (.lst ws))(x:R ⟨ws,Dn (n,ws)⟩ h):iK R (.loc n) h:=GP (by simp only [Qs,e]) x
theorem JG {n:Nat}{w:W}{i:Int}{ws:List W}{h:Gh}{Q:WK}(e:h.c n=Dn (.lst ws))(a:CK ws i=Dn w)(k:Q w h):W9 (.loc n) (.int i) h Q:=cG (cO e) a k
theorem BR {n N:Nat}{body:X4->MS}{ws:List W}{Z : Sw}{h:Gh}{Q:WK}{E:X4}(hl:DK ws.length n=true)(e:ini ws N = Z)(x:body E { nx:=fun _ h'=>pO true h .non h' Q,rt:=fun w h'=>pO true h w h' Q } Z h):Ae n N true body ws h Q E:=by
 subst e;unfold Ae;rw [hl];exact x
theorem abH {a b:List W}{h:Gh}{Q:WK}(e:Nat.ble (a.length+b.length) 1000=true)(x:Q (.lst (a++b)) h):fj (.lst a) (.lst b) h Q:=bI e x
theorem Ud {a b:Bool}{h:Gh}{Q:WK}(x:Q (.bl (a==b)) h):kIs (.bl a) (.bl b) h Q:=x
theorem Mg {a b:Bool}{h:Gh}{Q:WK}(x:Q (.bl (!(a==b))) h):Vt (.bl a) (.bl b) h Q:=x
theorem Jm {a b:Str}{h:Gh}{Q:WK}(x:Q (.bl (decide (a=b))) h):Dp (.str a) (.str b) h Q:=by
 have e:Wj (.str a) (.str b)=decide (a=b):=by rw [Wj];by_cases z:a=b <;> simp [z]
 show Q (.bl (Wj (.str a) (.str b))) h;rw [e];exact x
theorem Jq {a b:Str}{h:Gh}{Q:WK}(x:Q (.bl (decide (a≠b))) h):Cp (.str a) (.str b) h Q:=by
 have e:(!Wj (.str a) (.str b))=decide (a≠b):=by rw [Wj];by_cases z:a=b <;> simp [z]
 show Q (.bl (!Wj (.str a) (.str b))) h;rw [e];exact x
theorem PN {bs:List Bool}{a b:Prop}(e:bs.any id=false)(x:b):br (bs.any id) a b:=Ir e x
local macro_rules | `(tactic| rfl') => `(tactic| repeat (first
 | with_reducible (first | refine aM ?_ | refine aX ?_ | refine bw ?_ | refine ao ?_ | refine aF ?_)
 | ((with_reducible apply aA);exact rfl) | with_reducible refine bN ?_ | with_reducible refine aN ?_ | with_reducible refine z9 (by repeat (first | with_reducible exact MP | with_reducible apply M5)) ?_ | with_reducible (first | refine aaY ?_ | refine aah ?_ | refine cu ?_ | refine Xj ?_ | refine Wx ?_ | refine Xc ?_)
 | with_reducible (first | refine dG ?_ | refine TF ?_ | refine dZ ?_ | refine fU ?_ | refine cD ?_ | refine Nz ?_ | refine eN ?_)
 | with_reducible (first | refine cj ?_ | refine qI ?_ | refine gC ?_) | ((with_reducible apply yF);exact rfl) | with_reducible (first | refine gq ?_ | refine Qv ?_ | refine mZ ?_ | refine gZ ?_)
 | with_reducible (first | refine vg ?_ | refine QK ?_ | refine zB ?_ | refine Tq ?_ | refine Xp ?_ | refine V0 ?_ | refine Nf ?_ | refine W4 ?_)
 | with_reducible (first | refine ur ?_ | refine DY ?_ | refine gB ?_ | refine uY ?_ | refine eZ ?_ | refine xG ?_)
 | with_reducible refine cP ?_ | with_reducible refine cZ ?_ | ((with_reducible apply bI);exact rfl) | with_reducible (first | refine d7 ?_ | refine yw ?_ | refine qx ?_)
 | ((with_reducible apply vY);exact rfl;exact rfl) | ((with_reducible apply aaO);exact rfl;exact rfl) | ((with_reducible apply Pz);exact rfl;exact rfl) | with_reducible refine oR ?_ | with_reducible refine Cj ?_
 | with_reducible refine Hv ?_ | with_reducible refine pC ?_ | ((with_reducible apply Qi);exact sV.of (by trivial) (by trivial) (by lia) (by lia)) | with_reducible refine Eo ?_ | with_reducible refine Ti ?_
 | with_reducible (first | refine S5 ?_ | refine Rf ?_ | refine Sy ?_ | refine S7 ?_ | refine Pn ?_ | refine Px ?_ | refine Vn ?_ | refine Ux ?_)
 | ((with_reducible apply cG);exact rfl;exact rfl) | ((with_reducible apply iR);exact rfl) | ((with_reducible apply dU);exact rfl) | with_reducible refine wR ?_ | ((with_reducible apply HX);exact rfl;exact rfl) | ((with_reducible apply xO);exact rfl;exact rfl) | ((with_reducible apply Nh);exact rfl;exact rfl) | with_reducible refine OD ?_ | with_reducible refine Np ?_
 | with_reducible (first | refine pH ?_ | refine mq ?_ | refine aby ?_ | refine aax ?_ | refine uX ?_) | ((with_reducible apply GP);exact rfl) | with_reducible (first | refine oM ?_ | refine TX ?_ | refine TV ?_ | refine HS ?_) | ((with_reducible apply O4);exact rfl;exact rfl;(repeat (first | with_reducible exact V4 | with_reducible exact Wq | with_reducible apply GQ)))
 | with_reducible refine lN ?_ | ((with_reducible apply v7);exact rfl) | with_reducible refine RM ?_ | ((with_reducible apply RN);exact rfl) | ((with_reducible apply lR);exact rfl;repeat (first | with_reducible exact Wt | with_reducible apply VP | with_reducible apply Vy)) | with_reducible (first | refine qQ ?_ | refine fY ?_ | refine Dg ?_ | refine abk ?_) | with_reducible refine Vm (by repeat (first | with_reducible exact MP | with_reducible apply M5)) (by repeat (first | with_reducible exact MP | with_reducible apply M5)) (by repeat (first | with_reducible exact MP | with_reducible apply M5)) ?_ | ((with_reducible apply Ob);exact rfl) | ((with_reducible apply abw);exact rfl) | ((with_reducible apply Tj);decide +kernel;(repeat (first | with_reducible exact MP | with_reducible apply M5))) | ((with_reducible apply U9);decide +kernel) | ((with_reducible apply SN);decide +kernel) | ((with_reducible apply Vq);decide +kernel) | with_reducible refine Ip ?_ | with_reducible refine Ql ?_ | ((with_reducible apply Tt);(with_reducible assumption)) | ((with_reducible apply abv);(with_reducible assumption)) | ((with_reducible apply zbh);(with_reducible assumption)) | ((with_reducible apply aaX);(with_reducible assumption)) | ((with_reducible apply abl);(with_reducible assumption);exact rfl) | ((with_reducible apply JG);(with_reducible assumption);exact rfl) | ((with_reducible apply Tz);(with_reducible assumption);exact rfl;(repeat (first | with_reducible exact V4 | with_reducible exact Wq | with_reducible apply GQ))) | ((with_reducible apply BR);exact rfl;(repeat (first | with_reducible exact Wt | with_reducible apply VP | with_reducible apply Vy))) | ((with_reducible apply abH);exact rfl) | with_reducible (first | refine Ud ?_ | refine Mg ?_ | refine Jm ?_ | refine Jq ?_) | ((with_reducible apply PN);decide +kernel)))
abbrev cs (x:Str):List Nat:=x.cps.toList
def tx (l:List Nat):Str:=⟨l.toArray⟩
theorem kh (l:List Nat):cs (tx l)=l:=by simp [cs,tx]
theorem zc (x:Str):tx (cs x)=x:=by cases x;simp [cs,tx]
theorem nO {x y:Str}(h:cs x=cs y):x=y:=by rw [<-zc x,<-zc y,h]
theorem dj (x y:Str):cs (x++y)=cs x++cs y:=by
 show (x.cps++y.cps).toList=_;rw [Array.toList_append]
theorem eF (x:Str):(cs x).length=x.length:=Kl
def cut (c:Nat):List Nat->List (List Nat)
 | []=>[[]]
 | x::xs=>if x=c then []::cut c xs else match cut c xs with
  | p::ps=>(x::p)::ps
  | []=>[[x]]
def glue (c:Nat):List (List Nat)->List Nat
 | []=>[]
 | [p]=>p
 | p::q::ps=>p++c::glue c (q::ps)
theorem xV {c:Nat}:∀ {p:List Nat},c∉p->cut c p=[p]
 | [],_=>rfl
 | x::p,h=>by
  rw [cut,if_neg fun e=>h (by rw [e];exact Yz),xV fun e=>h (YH _ e)]
theorem Gz {c:Nat}{b:List Nat}:∀ {a:List Nat},c∉a->cut c (a++c::b)=a::cut c b
 | [],_=>by rw [List.nil_append,cut,if_pos rfl]
 | x::a,h=>by
  rw [Kf,cut,if_neg fun e=>h (by rw [e];exact Yz),Gz fun e=>h (YH _ e)]
theorem qO {c:Nat}:∀ {ps:List (List Nat)},ps≠[]->(∀ p∈ps,c∉p)->cut c (glue c ps)=ps
 | [],h,_=>absurd rfl h
 | [p],_,h=>by rw [glue,xV (h p Yz)]
 | p::q::ps,_,h=>by
  rw [glue,Gz (h p Yz),qO (ZR _ _) fun r hr=>h r (YH _ hr)]
theorem rM {c:Nat}:∀ ps:List Str,cs (Et ⟨#[c]⟩ ps)=glue c (ps.map cs)
 | []=>rfl
 | [p]=>rfl
 | p::q::ps=>by
  show cs (p++⟨#[c]⟩++Et ⟨#[c]⟩ (q::ps))=_;rw [dj,dj,rM (q::ps)];show cs p++[c]++glue c _=cs p++c::glue c _;rw [ZG];rfl
theorem aau (x:Str)(c:Nat):ZK x ⟨#[c]⟩=(cut c (cs x)).map tx:=by
 have h1:=congrArg cs (StrLaws.join_split x ⟨#[c]⟩);rw [rM] at h1;have h2:(ZK x ⟨#[c]⟩).map cs≠[]:=by
  have:=split_pos x ⟨#[c]⟩
  intro e;rw [List.map_eq_nil_iff] at e;rw [e] at this;exact absurd this<|by decide
 have h3:=qO (c:=c) h2 fun p hp=>by
  obtain ⟨y,hy,e⟩:=YT.mp hp;rw [<-e];exact StrLaws.split_free x c y hy
 rw [h1] at h3;rw [h3,ZC];exact (List.map_id' _).symm.trans (Z0 fun y _=>(zc y).symm)
def pU (c d:Nat):List Nat->List (List Nat)
 | []=>[[]]
 | [x]=>[[x]]
 | x::y::r=>if x=c/\y=d then []::pU c d r else match pU c d (y::r) with
  | p::ps=>(x::p)::ps
  | []=>[[x]]
theorem nW {c d:Nat}:∀ {l:List Nat},(∀ k r,l.drop k≠c::d::r)->pU c d l=[l]
 | [],_=>rfl
 | [x],_=>rfl
 | x::y::r,h=>by
  rw [pU,if_neg fun e=>h 0 r (by rw [e.1,e.2];rfl),nW (l:=y::r) fun k q e=>h (k+1) q e]
theorem Aq {c d:Nat}{r:List Nat}:∀ {n:Nat} {l:List Nat},(∀ k q,k<n->l.drop k≠c::d::q)->l.drop n=c::d::r->pU c d l=l.take n::pU c d r
 | 0,l,_,e=>by
  rw [Jt] at e;rw [e,pU,if_pos ⟨rfl,rfl⟩];rfl
 | n+1,[],_,e=>by simp at e
 | n+1,[x],_,e=>by simp at e
 | n+1,x::y::s,h,e=>by
  rw [pU,if_neg fun z=>h 0 s (Nat.succ_pos _) (by rw [z.1,z.2];rfl),Aq (n:=n) (l:=y::s) (fun k q hk z=>h (k+1) q (Nat.succ_lt_succ hk) z) e];rfl
section
open PySem.StrLaws PySem.Builtin.Str
theorem at2 {x:Str}{k:Nat}:At x "; " x.length k↔∃ r,(cs x).drop k=59::32::r:=by
 have hl:("; " : Str).length=2:=rfl;have hc:("; " : Str).cps.toList=[59,32]:=rfl;unfold StrLaws.At;rw [subAt_eq,hl,hc,beq_iff_eq,<-eF];show _/\((cs x).drop k).take 2=_↔_;constructor
 ·rintro ⟨h1,h2⟩;match e:(cs x).drop k with
  | []=>rw [e] at h2;simp at h2
  | [a]=>rw [e] at h2;simp at h2
  | a::b::r=>rw [e] at h2;simp at h2;exact ⟨r,by rw [h2.1,h2.2]⟩
 ·rintro ⟨r,e⟩;have:=congrArg Jx e
  rw [J5,YB,YB] at this;exact ⟨by lia,by rw [e];rfl⟩
theorem G8 (x:Str)(i j:Nat):strSub x i j=tx (((cs x).drop i).take (j - i)):=nO (by rw [kh];exact strSub_toList x i j)
theorem Ia {x:Str}:∀ (cuts:List Nat) (a f:Nat),ChainG x "; " x.length a cuts f->(∀ k,f<=k->¬ At x "; " x.length k)->partsFrom x 2 a cuts=(pU 59 32 ((cs x).drop a)).map tx
 | [],a,f,h,hn=>by
  have e:f=a:=h;subst e;rw [nW fun k r e=>hn (f+k) (K3 _ _) (at2.mpr ⟨r,by rw [<-List.drop_drop];exact e⟩)];show [strSub x f x.length]=[tx _];rw [G8,Kq (by rw [J5,eF];exact Ym _)]
 | d::r,a,f,⟨h1,h2,h3,h4⟩,hn=>by
  obtain ⟨q,eq⟩:=at2.mp h2;have ed:((cs x).drop a).drop (d - a)=59::32::q:=by rw [List.drop_drop,Nat.add_sub_cancel' h1];exact eq
  rw [Aq (n:=d - a) (fun k s hk e=>h3 (a+k) (K3 _ _) (by lia) (at2.mpr ⟨s,by rw [<-List.drop_drop];exact e⟩)) ed];show strSub x a d::partsFrom x 2 (d+2) r=tx _::_;have eq2:(cs x).drop (d+2)=q:=by rw [<-List.drop_drop,eq];rfl
  rw [G8,Ia r (d+2) f h4 hn,eq2]
theorem Hf (x:Str):ZK x "; " = (pU 59 32 (cs x)).map tx:=by
 obtain ⟨f,hG,hn⟩:=occ_tight x "; " (by decide:1<=("; " : Str).length);have one:(∀ k,¬ At x "; " x.length k)->[x]=(pU 59 32 (cs x)).map tx:=fun h=>by
  rw [nW fun k r e=>h k (at2.mpr ⟨r,e⟩)];show [x]=[tx (cs x)];rw [zc]
 unfold ZK;split
 ·rename_i hc;refine one fun k hA=>?_;rw [Bool.or_eq_true,decide_eq_true_eq,decide_eq_true_eq] at hc;have h2:("; " : Str).length=2:=rfl;have h1:k+("; " : Str).length<=x.length:=hA.1;rcases hc with h | h
  ·lia
  ·have k1:PySem.Builtin.Str.strKind ("; " : Str)=1:=by decide +kernel
   have k2:1<=PySem.Builtin.Str.strKind x:=by unfold PySem.Builtin.Str.strKind;split;exact Ym _;split <;> decide
   lia
 ·split
  ·rename_i he;have e0:occurrences x "; " 0 x.length (x.length+1)=[]:=List.isEmpty_iff.mp he;rw [e0] at hG;have ef:f=0:=hG;subst ef;exact one fun k=>hn k<|J8 _
  ·rw [partsBetween_eq];exact Ia _ 0 f hG hn
end
def pW:List (List Nat)->List Nat
 | []=>[]
 | [p]=>p
 | p::q::ps=>p++59::32::pW (q::ps)
theorem uz:∀ {p:List Nat},59∉p->pU 59 32 p=[p]
 | [],_=>rfl
 | [x],_=>rfl
 | x::y::r,h=>by
  rw [pU,if_neg fun e=>h (by rw [e.1];exact Yz),uz (p:=y::r) fun e=>h (YH _ e)]
theorem wG {b:List Nat}:∀ {a:List Nat},59∉a->pU 59 32 (a++59::32::b)=a::pU 59 32 b
 | [],_=>by rw [List.nil_append,pU,if_pos ⟨rfl,rfl⟩]
 | [x],h=>by
  show pU 59 32 (x::59::32::b)=_;rw [pU,if_neg fun e=>h (by rw [e.1];exact Yz),pU,if_pos ⟨rfl,rfl⟩]
 | x::y::a,h=>by
  have:=wG (b:=b) (a:=y::a) fun e=>h (YH _ e)
  rw [Kf] at this;rw [Kf,Kf,pU,if_neg fun e=>h (by rw [e.1];exact Yz),this]
theorem tQ:∀ {ps:List (List Nat)},ps≠[]->(∀ p∈ps,59∉p)->pU 59 32 (pW ps)=ps
 | [],h,_=>absurd rfl h
 | [p],_,h=>by rw [pW,uz (h p Yz)]
 | p::q::ps,_,h=>by
  rw [pW,wG (h p Yz),tQ (ZR _ _) fun r hr=>h r (YH _ hr)]
theorem rF:∀ ps:List Str,cs (Et "; " ps)=pW (ps.map cs)
 | []=>rfl
 | [p]=>rfl
 | p::q::ps=>by
  show cs (p ++ "; "++Et "; " (q::ps))=_;rw [dj,dj,rF (q::ps)];show cs p++[59,32]++pW _=cs p++59::32::pW _;rw [ZG];rfl
theorem wk {ps:List Str}(h0:ps≠[])(h:∀ p∈ps,59∉cs p):ZK (Ze "; " ps) "; " = ps:=by
 have e:Ze "; " ps=Et "; " ps:=Kh "; " ps;rw [Hf,e,rF,tQ (by simpa using h0) fun p hp=>by
  obtain ⟨y,hy,e⟩:=YT.mp hp;rw [<-e];exact h y hy,ZC]
 exact (Z0 fun y _=>zc y).trans (List.map_id' _)
theorem vZ {ps:List Str}(h0:ps≠[])(h:∀ p∈ps,32∉cs p):ZK (Ze " " ps) " " = ps:=by
 have e:Ze " " ps=Et ⟨#[32]⟩ ps:=Kh " " ps;rw [show (" " : Str)=⟨#[32]⟩ from rfl] at e |-
 rw [aau,e,rM,qO (by simpa using h0) fun p hp=>by
  obtain ⟨y,hy,e⟩:=YT.mp hp;rw [<-e];exact h y hy,ZC]
 exact (Z0 fun y _=>zc y).trans (List.map_id' _)
theorem jV {r:MM}{mo:ME}{ma:MA}{Z : Sw}{h:Gh}{Q:WK}(x:mo Z h fun x h1=>pQ h1 x (ma Z h1 fun xs h2=>r x xs h2 Q)):zy r mo ma Z h Q:=x
theorem gJ {n:Nat}{us:List W}{h:Gh}{P:Prop}(e:h.c n=Dn (.lst us))(p:P):pQ h (.loc n) P:=by
 simp only [pQ,e];exact p
theorem gM {ma:MA}{ws:List W}{Z : Sw}{h:Gh}{Q:WK}(hm:∀ R,ma Z h R=R ws h)(hz:Nat.ble ws.length 1000=true)(x:∀ g:Gh,g.c h.nx=Dn (.lst ws)->(∀ n,n≠h.nx->g.c n=h.c n)->g.nx=h.nx+1->Q (.loc h.nx) g):lE ma Z h Q:=by
 unfold lE;rw [hm];exact bI hz<|x _ (zE _ _) (fun _ e=>qC e) rfl
theorem yS {h:Gh}{n:Nat}{us:List W}{w:W}{Q:WK}(e:h.c n=Dn (.lst us))(hz:us.length<=1000)(k:∀ g:Gh,g.c n=Dn (.lst (us++[w]))->(∀ m,m≠n->g.c m=h.c m)->g.nx=h.nx->Q .non g):cT (.loc n) [w] h Q:=
 GK e (KC hz (by decide)) (k _ (yD _ _ _) (fun _ e=>uc e) rfl)
def rng (a m:Nat):List Nat:=List.range' a (m - a)
theorem Ln {a m x:Nat}:x∈rng a m↔a<=x/\x<m:=by
 unfold rng;rw [List.mem_range'_1];lia
theorem abT (a m:Nat):wu (a:Int) ((m:Int) - (a:Int)).toNat=(rng a m).map fun x:Nat=>W.int (x:Int):=by
 unfold wu rng;rw [List.range'_eq_map_range,ZC,show ((m:Int) - (a:Int)).toNat=m - a by lia];refine Z0 fun x _=>?_;simp
theorem abN (m:Nat):wu 0 ((m:Nat):Int).toNat=(rng 0 m).map fun x:Nat=>W.int (x:Int):=by
 have:=abT 0 m
 rw [show ((m:Int) - ((0:Nat):Int)).toNat=((m:Nat):Int).toNat by lia] at this;exact this
def zaq (R:Src->Gh->Prop):List W->Gh->Prop:=fun ws h=>match ws with
 | [.int i,.int j]=>zx i (zx j (R ⟨wu i (j - i).toNat,FN⟩ h))
 | _=>False
theorem zj {R:Src->Gh->Prop}{h:Gh}{m:Nat}(h2:m<=1000)(x:R ⟨(rng 0 m).map fun x:Nat=>W.int (x:Int),FN⟩ h):rgK R [.int (m:Int)] h:=by
 rw [<-abN] at x;exact zx.mk (by lia) (by lia) x
def nxt (l:List Nat):Nat:=match l.getLast? with
 | none=>0
 | some x=>x+1
def grow (m:Nat)(l:List Nat):List (List Nat):=(rng (nxt l) m).map fun p=>l++[p]
theorem jR {a m i x:Nat}(e:(rng a m)[i]?=Dn x):x=a+i/\x<m:=by
 have hx:=Ln.mp (YL e);unfold rng at e;have hl:=(Yn.mp e).1;rw [ZL] at hl;rw [Yk (by rw [ZL];exact hl),List.getElem_range'] at e;have:=Yp e
 lia
theorem jL (a b:Str):Wj (.str a) (.str b)=(a==b):=by rw [Wj]
def Ba (h:Gh)(n:Nat):Prop:=∃ a b,h.c n=Dn (.lst [.int a,.int b])/\0<=b/\b<4294967296
def jk (c:VR):Prop:=∀ {h:Gh} {n:Nat} {many:Int} {Q:WK} {E:X4},Ba h n->0<many->Sm 210 many->(∀ d h',0<=d->d<many->Ba h' n->Cy n h h'->Q (.int d) h')->c [.loc n,.int many] h Q E
theorem z6:jk yq:=by
 intro h n many Q E hb hm hs k;obtain ⟨a,b,e,b0,b1⟩:=hb;have hm0:many≠0:=by lia
 have ev:=cO e;have bag:∀ {h':Gh} {a b:Int},h'.c n=Dn (.lst [.int a,.int b])->0<=b->b<4294967296->Ba h' n:=fun e h0 h1=>⟨_,_,e,h0,h1⟩
 show (match view h (.loc n) with
  | some ws=>_
  | none=>False)
 rw [ev];refine oY (fun _=>?_)<|fun _=>?_
 ·show (match view h (.loc n) with
   | some ws=>_
   | none=>False)
  rw [ev];refine And.intro hm0 ?_;show (match view h (.loc n) with
   | some ws=>_
   | none=>False)
  rw [ev];refine And.intro ⟨hm0,210,by decide,hs⟩ ?_;show (match h.c n with
   | some (Cell.lst ws)=>_
   | _=>False)
  rw [e];show Q (.int (a.fmod many)) (h.set n _);rw [fH hm];exact k _ _ (Jv _ hm0) (K9 _ hm) (bag (yD _ _ _) b0 b1) Cy.set
 ·show (match view h (.loc n) with
   | some ws=>_
   | none=>False)
  rw [ev];refine And.intro (.of (m:=33) (n:=64) (Lg (by lia)<|by lia) (.lit rfl) (by decide)<|by decide) ?_;refine And.intro (show (2147483647:Int)≠0 by decide) ?_;show (match h.c n with
   | some (Cell.lst ws)=>_
   | _=>False)
  rw [e];have c0:0<=(b*48271+15731).fmod 2147483647:=by rw [fH (by decide)];exact Jv _ (by decide)
  have c1:(b*48271+15731).fmod 2147483647<2147483647:=by rw [fH (by decide)];exact K9 _ (by decide)
  have e2:(h.set n (.lst [.int a,.int ((b*48271+15731).fmod 2147483647)])).c n=Dn (.lst [.int a,.int ((b*48271+15731).fmod 2147483647)]):=yD _ _ _;have ev2:=cO e2;have o2:Cy n h (h.set n (.lst [.int a,.int ((b*48271+15731).fmod 2147483647)])):=Cy.set;show (match view (h.set n (.lst [.int a,.int ((b*48271+15731).fmod 2147483647)])) (.loc n) with
   | some ws=>_
   | none=>False)
  rw [ev2];show (match view (h.set n (.lst [.int a,.int ((b*48271+15731).fmod 2147483647)])) (.loc n) with
   | some ws=>_
   | none=>False)
  rw [ev2];generalize (b*48271+15731).fmod 2147483647=c at *;refine And.intro ⟨by decide,64,by decide,.lit rfl⟩ ?_;have q0:0<=c.fdiv 32768:=by rw [xT (by decide)];lia
  have q1:c.fdiv 32768<2147483647:=by rw [xT (by decide)];lia
  refine And.intro (.of (m:=31) (n:=40) (Lg (by lia)<|by lia) (Lg (by lia)<|by lia) (by decide)<|by decide) ?_;refine And.intro (show (2147483629:Int)≠0 by decide) ?_;refine And.intro ⟨by decide,64,by decide,.lit rfl⟩ ?_;refine And.intro hm0 ?_;show Q (.int (Int.fmod _ many)) (h.set n (.lst [.int a,.int c]));rw [fH hm];exact k _ _ (Jv _ hm0) (K9 _ hm) (bag e2 c0<|by lia) o2
def Ab (c:VR):Prop:=∀ {h:Gh} {ns:List Int} {k:Int} {Q:WK} {E:X4},0<=k->Q (.int (ns.getD k.toNat 0)) h->c [.kls (ns.map .int),.int k] h Q E
theorem abJ:Ab nM:=by
 intro h ns k Q E h0 q;show br (decide (k<((ns.map W.int).length:Int))) _ _;refine oY (fun hk=>?_)<|fun hk=>?_
 ·conv=>whnf
  rw [aaF h0 hk];exact q
 ·have e:ns.getD k.toNat 0=0:=by
   rw [Zi,Kr (by rw [Yd] at hk;lia)];rfl
  rw [e] at q;exact q
theorem Ng {i j:Int}{h:Gh}{Q:WK}(c:Ve i j)(x:Q (.int (i^j.toNat)) h):Sv (.int i) (.int j) h Q:=⟨c,x⟩
theorem Mv {t:MA}{Z : Sw}{h:Gh}{Q:WK}(x:t Z h fun ws h1=>jD ws.length (Q (.loc h1.nx) (h1.new (.lst ws)))):lE t Z h Q:=x
def Mz (c0:VR):Prop:=∀ {h:Gh} {a:Int} {Q:WK} {E:X4},(∀ h',Ba h' h.nx->h'.nx=h.nx+1->(∀ m,m≠h.nx->h'.c m=h.c m)->Q (.loc h.nx) h')->c0 [.int a] h Q E
theorem Hr:Mz vN:=by
 intro h a Q E k;unfold vN;rfl'
 refine Ng ⟨by decide,by decide,by decide⟩ ?_;rfl'
 refine oY (fun _=>?_)<|fun _=>?_
 ·refine dZ<|Mv ?_
  rfl'
  refine zH (by decide) ?_;rfl'
  have c0:0<=a.fmod 2147483647:=by rw [fH (by decide)];exact Jv _ (by decide)
  have c1:a.fmod 2147483647<2147483647:=by rw [fH (by decide)];exact K9 _ (by decide)
  exact k _ ⟨_,_,zE _ _,by lia,by lia⟩ rfl fun m hm=>qC hm
 ·rfl'
  unfold tZ;refine dZ<|gM (ws:=[.int a,.int 7]) (fun R=>rfl) rfl fun g gc go gn=>?_
  exact k g ⟨_,_,gc,by decide,by decide⟩ gn go
def Bu:List Str:=["free", "join", "meet", "curve", "about", "pole", "other"]
def zu (x:Str):List Str:=if x = "join" then ["spot", "spot"] else if x = "meet" then ["line", "line"] else if x = "about" then ["curve", "spot"] else
 if x = "curve" then ["spot", "spot", "spot", "spot", "spot"] else if x = "pole" then ["curve", "line"] else if x = "other" then ["curve", "spot", "spot"] else []
def Nw1 (h h':Gh):Prop:=(∀ m,m≠h.nx->h'.c m=h.c m)/\h'.nx=h.nx+1
def vA (x:Str):Str:=if x = "join" then "line" else if x = "about" then "line" else if x = "curve" then "curve" else "spot"
theorem xu {x:Str}(hx:x∈Bu):nY jG (.inr x)=Dn (.str (vA x)):=by
 unfold Bu at hx;simp only [Yq,Y5,or_false] at hx;rcases hx with e | e | e | e | e | e | e <;> subst e <;> rfl
def Row (w:W):Prop:=∃ x ns,x∈Bu/\w=.tup (.str x::(ns:List Int).map .int)
def DR:W->Str
 | .tup (.str x::_)=>vA x
 | _ => ""
inductive Th (h:Gh):W->Prop
 | int {i:Int}:Th h (.int i)
 | bl {b:Bool}:Th h (.bl b)
 | str {s:Str}:Th h (.str s)
 | non:Th h .non
 | tup {ws:List W}:Th h (.tup ws)
 | lst {ws:List W}:Th h (.lst ws)
 | loc {n:Nat} {ws:List W} (e:h.c n=Dn (.lst ws)) (l:n<h.nx):Th h (.loc n)
def RW:W->Bool
 | .int _=>true
 | _=>false
def isNum:W->Bool
 | .int _=>true
 | .bl _=>true
 | _=>false
def RZ:W->Bool
 | .tup _=>true
 | _=>false
theorem Th.int' {h:Gh}{w:W}(t:Th h w):Dc h w "int" = Dn (isNum w):=by
 cases t with
 | loc e _=>simp only [Dc,cC,e];rfl
 | _=>rfl
theorem Th.tuple' {h:Gh}{w:W}(t:Th h w):Dc h w "tuple" = Dn (RZ w):=by
 cases t with
 | loc e _=>simp only [Dc,cC,e];rfl
 | _=>rfl
def G6 (c0:VR):Prop:=∀ {h:Gh} {w:W} {Q:WK} {E:X4},Th h w->Q (.bl (RW w)) h->c0 [w] h Q E
theorem qM:G6 lM:=by
 intro h w Q E t k;unfold lM;rfl'
 refine iR t.int' ?_;cases t with
 | @int i=>
  show aK _ _ _ (W.bl true) h;rfl'
  exact k
 | @bl b=>
  show aK _ _ _ (W.bl true) h;rfl'
  exact k
 | _=>exact k
def nth (ss:List Str):W->Option Str
 | .int i=>if 0<=i then ss[i.toNat]? else FN
 | _=>FN
theorem Te {i j:Int}{h:Gh}{Q:WK}(x:Q (.bl (decide (i>=j))) h):kGe (.int i) (.int j) h Q:=x
theorem zbe {w:W}(e:RW w=true):∃ v,w=.int v:=by
 cases w with
 | int v=>exact ⟨v,rfl⟩
 | _=>cases e
theorem aaV {ss:List Str}{w:W}(e:RW w=false):nth ss w=FN:=by
 cases w with
 | int v=>cases e
 | _=>rfl
theorem Nr {ss:List Str}{v:Int}(e:v<0):nth ss (.int v)=FN:=by
 show (if 0<=v then ss[v.toNat]? else FN)=FN;rw [if_neg (by lia)]
theorem Nb {ss:List Str}{v:Int}(e:(ss.length:Int)<=v):nth ss (.int v)=FN:=by
 show (if 0<=v then ss[v.toNat]? else FN)=FN;rw [if_pos (by lia)];exact Kr<|by lia
theorem wQ {ss:List Str}{v:Int}(e:0<=v):nth ss (.int v)=ss[v.toNat]?:=by
 show (if 0<=v then ss[v.toNat]? else FN)=_;rw [if_pos e]
def Vw (c0:VR):Prop:=∀ {h:Gh} {w0:W} {ss due:List Str} {ns:List W} {Q:WK} {E:X4},view h w0=Dn (ss.map .str)->(∀ w∈ns,Th h w)->Q (.bl (decide (ns.map (nth ss)=due.map Dn))) h->c0 [w0,.tup ns,.tup (due.map .str)] h Q E
theorem QD {c0:VR}(hw:G6 c0):Vw (fP c0):=by
 intro h w0 ss due ns Q E hv0 ht k;unfold fP;rfl'
 refine oY (fun e=>?_)<|fun e=>?_
 ·have e2:decide (ns.map (nth ss)=due.map Dn)=false:=decide_eq_false fun z=>e (by have:=congrArg Jx z;rw [Yd,Yd] at this;rw [Yd,this])
  rw [e2] at k;exact k
 ·have el:ns.length=due.length:=by rw [Yd] at e;lia
  refine cD<|cu ?_
  unfold iB;refine aM<|pH<|HS<|ao<|aA rfl<|ao<|aA rfl<|aF<|O4 rfl rfl rfl<|mq ?_
  refine lQ (fun i Z h'=>h'=h/\(∃ a3 a4,Z = [Dn w0,Dn<|.tup ns,Dn<|.tup<|due.map .str,a3,a4])/\∀ j,j<i->(ns.map<|nth ss)[j]?=(due.map Dn)[j]?) ?_ ?_ ⟨rfl,⟨FN,FN,rfl⟩,fun j hj=>absurd hj<|Jl _⟩
  ·rintro i w Z h' N hN ew ⟨rfl,⟨a3,a4,rfl⟩,hi⟩;obtain ⟨a,b,ea,eb,rfl⟩:=kJ ew;rw [Yo] at eb;obtain ⟨d,ed,rfl⟩:=Yy.mp eb;have bad:nth ss a≠Dn d->Q (.bl false) h':=fun z=>by
    have e2:decide (ns.map (nth ss)=due.map Dn)=false:=decide_eq_false fun y=>z (by
     have y1:=congrArg (fun l=>l[i]?) y;simp only [Yo,ea,ed,Ka] at y1;exact Yp y1)
    rw [e2] at k;exact k
   have good:nth ss a=Dn d->N [Dn w0,Dn (.tup ns),Dn (.tup (due.map .str)),Dn a,Dn (.str d)] h':=fun z=>hN _ _ ⟨rfl,⟨_,_,rfl⟩,fun j hj=>by
    rcases Nat.lt_succ_iff_lt_or_eq.mp hj with hj | rfl
    ·exact hi j hj
    ·rw [Yo,Yo,ea,ed,Ka,Ka,z]⟩
   rfl'
   refine hw (ht a<|YL ea) ?_;cases ha:RW a with
   | false=>
    rfl'
    exact bad (by rw [aaV ha];exact fun z=>nomatch z)
   | true=>
    obtain ⟨v,rfl⟩:=zbe ha;rfl'
    refine oY (fun e0=>?_)<|fun e0=>?_
    ·rfl'
     exact bad (by rw [Nr e0];exact fun z=>nomatch z)
    ·rfl'
     refine dU hv0 ?_;refine Te ?_;rfl'
     rw [Yd];refine oY (fun e1=>?_)<|fun e1=>?_
     ·rfl'
      exact bad (by rw [Nb e1];exact fun z=>nomatch z)
     ·obtain ⟨vn,rfl⟩:=K1 (Int.not_lt.mp e0);have hv:vn<ss.length:=by lia
      have e3:nth ss (.int (vn:Int))=Dn ss[vn]:=by
       rw [wQ (by lia)];exact Yk hv
      rfl'
      refine cG (ws:=ss.map .str) (w:=.str ss[vn]) hv0 (bF (by rw [Yo,Yk hv];rfl)) ?_;rfl'
      refine oY (fun e4=>?_)<|fun e4=>?_
      ·rfl'
       exact bad (by rw [e3];exact fun z=>e4<|Yp z)
      ·rfl'
       exact good<|by rw [e3,Decidable.not_not.mp e4]
  ·rintro Z h' ⟨rfl,⟨a3,a4,rfl⟩,hi⟩;have e2:ns.map (nth ss)=due.map Dn:=List.ext_getElem? fun j=>by
    by_cases hj:j<(jU ns (due.map W.str)).length
    ·exact hi j hj
    ·rw [lG,Yd] at hj;rw [Kr (by rw [Yd];lia),Kr (by rw [Yd];lia)]
   rw [decide_eq_true e2] at k;unfold iu;rfl'
   exact k
theorem Fg {tbl:List (Key×W)}{x:Str}{w:W}{mb:ME}{Z : Sw}{h:Gh}{Q:WK}(e:nY tbl (.inr x)=Dn w)(m:∀ R:WK,R (.str x) h->mb Z h R)(k:Q w h):J6 tbl mb Z h Q:=m _ (by
 show (match nY tbl (.inr x) with
  | some w=>Q w h
  | none=>False)
 rw [e];exact k)
def VJ (c0:VR):Prop:=∀ {h:Gh} {w r:W} {rws:List W} {j:Nat} {Q:WK} {E:X4},view h w=Dn rws->rws[j]?=Dn r->Row r->Q (.str (DR r)) h->c0 [w,.int j] h Q E
theorem abO:VJ oW:=by
 intro h w r rws j Q E ev er hr k;obtain ⟨x,ns,hx,rfl⟩:=hr;unfold oW;refine lR rfl (Z:=[Dn w,Dn<|.int j]) rfl ?_;refine (Fg (xu hx) (fun R q=>?_) k:J6 jG _ _ _ _);exact aN<|aN<|aA rfl<|aA rfl<|cG ev (bF er)<|bN<|cG (ws:=.str x::ns.map .int) (w:=.str x) rfl (bF (j:=0) rfl) q
def GC (c0:VR):Prop:=∀ {h:Gh} {w:W} {rws:List W} {Q:WK} {E:X4},view h w=Dn rws->(∀ r∈rws,Row r)->rws.length<=24->Q (.lst ((rws.map DR).map .str)) h->c0 [w] h Q E
theorem yX {c0:VR}(hs:VJ c0):GC (lV c0):=by
 intro h w rws Q E ev hr hl k;unfold lV;rfl'
 refine dU ev<|aF<|zj (m:=rws.length) (by lia)<|v7 (by rw [Yd];unfold rng;rw [ZL];exact Nat.ble_eq.mpr (by lia)) ?_
 refine fJ (fun i acc h'=>h'=h/\acc=((rws.take i).map DR).map .str) ?_ ?_ ⟨rfl,rfl⟩
 ·rintro i u acc h' N hN e ⟨rfl,rfl⟩;rw [Yo] at e;obtain ⟨x,ex,rfl⟩:=Yy.mp e;have e0:=(jR ex).1;have hx:=(jR ex).2;rw [Jy] at e0;subst e0;have hri:rws[x]?=Dn rws[x]:=Yk hx;refine ⟨[.int (x:Int)],rfl,gZ<|eZ<|bw<|ao<|aA rfl<|ao<|aA rfl<|aF ?_⟩;refine hs ev hri (hr _<|J4 hx)<|hN _ _ ⟨rfl,?_⟩
  rw [Zn,hri,YK,YK];rfl
 ·rintro acc h' ⟨rfl,rfl⟩;have e:rws.take ((rng 0 rws.length).map fun x:Nat=>W.int (x:Int)).length=rws:=by
   rw [Yd];unfold rng;rw [ZL,Nat.sub_zero];exact Za
  rw [e];exact k
def Gr (b:Nat)(h h':Gh):Prop:=h.nx<=h'.nx/\∀ m,m<h.nx->m≠b->h'.c m=h.c m
theorem Gr.trans {b:Nat}{h h1 h2:Gh}(x:Gr b h h1)(y:Gr b h1 h2):Gr b h h2:=⟨YS x.1 y.1,fun m hm ne=>(y.2 m (Yl hm x.1) ne).trans (x.2 m hm ne)⟩
theorem Cy.gr {b:Nat}{h h1:Gh}(x:Cy b h h1):Gr b h h1:=⟨Nat.le_of_eq x.1.symm,fun m _ ne=>x.2 m ne⟩
theorem Kw {a b:List W}{h:Gh}{Q:WK}(hz:a.length+b.length<=1000)(x:Q (.lst (a++b)) h):fj (.lst a) (.lst b) h Q:=jD.mk (YS hz (by decide:1000<=YQ)) x
def ok1 (ss:List Str):W->Bool
 | .tup (.str x::ns)=>decide (x∈Bu)&&decide (ns.map (nth ss)=(zu x).map Dn)
 | _=>false
def mH:W->Bool
 | .tup (.str x::_)=>decide (x = "free")
 | _=>false
theorem Qh {ss:List Str}{x:Str}{ns:List W}(hx:x∈Bu)(e:ns.map (nth ss)=(zu x).map Dn):ok1 ss (.tup (.str x::ns))=true:=by
 show (decide (x∈Bu)&&decide (ns.map (nth ss)=(zu x).map Dn))=true;rw [decide_eq_true hx,decide_eq_true e];rfl
def ThD (h:Gh)(w:W):Prop:=Th h w/\∀ ws,w=.tup ws->∀ u∈ws,Th h u
def Qe:W->Bool
 | .str _=>true
 | _=>false
theorem v8 {h:Gh}{w:W}{Q:WK}(t:Th h w)(k:Q (.bl (Qe w)) h):zm [w,.ty "str"] h Q:=by
 have e:R8 h w=Dn (Qe w):=by
  cases t with
  | loc e _=>simp only [R8,Vv,cC,e];rfl
  | _=>rfl
 refine ⟨rfl,?_⟩;rw [e];exact k
theorem inS {y:W}{us:List Str}{a:Str}{h:Gh}{Q:WK}(e:view h y=Dn (us.map .str))(k:Q (.bl (decide (a∈us))) h):kIn (.str a) y h Q:=by
 have e1:(kj (.str a)&&(us.map W.str).all kj)=true:=by
  rw [YM];refine ⟨rfl,Zf.mpr fun w hw=>?_⟩;obtain ⟨x,_,rfl⟩:=YT.mp hw;rfl
 have e2:((us.map W.str).any fun u=>Wj u (.str a))=decide (a∈us):=by
  rw [Jw,Ke,decide_eq_true_iff];constructor
  ·rintro ⟨w,hw,he⟩;obtain ⟨x,hx,rfl⟩:=YT.mp hw;rw [jL] at he;rw [<-eq_of_beq he];exact hx
  ·intro ha;exact ⟨.str a,YT.mpr ⟨a,ha,rfl⟩,by rw [jL];exact beq_self_eq_true a⟩
 unfold kIn;rw [e];show AP (kj (.str a)&&(us.map W.str).all kj) _ _;rw [e1,e2];exact k
def Es (us:List Str):W->Bool
 | .tup (.str x::_)=>decide (x∈us)
 | _=>false
def Tv (c0:VR):Prop:=∀ {h:Gh} {w:W} {us:List Str} {Q:WK} {E:X4},ThD h w->Q (.bl (Es us w)) h->c0 [w,.lst (us.map .str)] h Q E
theorem aaP {w:W}(e:RZ w=true):∃ ws,w=.tup ws:=by
 cases w with
 | tup ws=>exact ⟨ws,rfl⟩
 | _=>cases e
theorem aam {w:W}(e:Qe w=true):∃ x,w=.str x:=by
 cases w with
 | str x=>exact ⟨x,rfl⟩
 | _=>cases e
theorem RD {us:List Str}{w:W}(e:RZ w=false):Es us w=false:=by
 cases w with
 | tup _=>cases e
 | _=>rfl
theorem O5 {us:List Str}{u:W}{ws:List W}(e:Qe u=false):Es us (.tup (u::ws))=false:=by
 cases u with
 | str _=>cases e
 | _=>rfl
theorem wJ:Tv dh:=by
 intro h w us Q E t k;unfold dh;rfl'
 refine iR t.1.tuple' ?_;cases ht:RZ w with
 | false=>
  rw [RD ht] at k;exact k
 | true=>
  obtain ⟨ws,rfl⟩:=aaP ht;cases ws with
  | nil=>
   show aK _ _ _ (W.bl true) h;rfl'
   refine Ir rfl ?_;exact k
  | cons u ws=>
   show aK _ _ _ (W.bl true) h;rfl'
   refine Td (decide_eq_true (by rw [YB];lia)) ?_;rfl'
   refine cG (ws:=u::ws) rfl (bF (j:=0) rfl) ?_;rfl'
   refine v8 (t.2 _ rfl u Yz) ?_;cases hu:Qe u with
   | false=>
    rw [O5 hu] at k;exact k
   | true=>
    obtain ⟨x,rfl⟩:=aam hu;show aK _ _ _ (W.bl true) h;rfl'
    refine cG (ws:=.str x::ws) rfl (bF (j:=0) rfl) ?_;rfl'
    exact inS rfl k
def Eb:List Str:=["same", "on", "row", "bunch", "touch", "parted"]
def Fq (x:Str):List (List Str):=if x = "same" then [["spot", "spot"],["line", "line"],["curve", "curve"]] else if x = "on" then [["spot", "line"],["spot", "curve"]] else if x = "row" then [["spot", "spot", "spot"]] else
 if x = "bunch" then [["line", "line", "line"]] else if x = "touch" then [["line", "curve"]] else if x = "parted" then [["curve"]] else []
theorem NQ {x:Str}(hx:x∈Eb):nY cU (.inr x)=Dn (.tup ((Fq x).map fun d=>.tup (d.map .str))):=by
 unfold Eb at hx;simp only [Yq,Y5,or_false] at hx;rcases hx with e | e | e | e | e | e <;> subst e <;> rfl
theorem aat:(cU.map fun q=>FQ q.1)=Eb.map .str:=rfl
def Fp (ss:List Str):W->Bool
 | .tup (.str x::ns)=>(Fq x).any fun d=>decide (ns.map (nth ss)=d.map Dn)
 | _=>false
theorem MF {x:Str}(hx:x∉Eb):Fq x=[]:=by
 unfold Eb at hx;simp only [Yq,Y5,or_false,not_or] at hx;obtain ⟨h1,h2,h3,h4,h5,h6⟩:=hx;unfold Fq;rw [if_neg h1,if_neg h2,if_neg h3,if_neg h4,if_neg h5,if_neg h6]
theorem Lj {ss:List Str}{w:W}(e:Es Eb w=false):Fp ss w=false:=by
 unfold Fp;split
 ·rename_i x ns;rw [MF (of_decide_eq_false e)];rfl
 ·rfl
theorem Ag {us:List Str}{w:W}(e:Es us w=true):∃ x ns,w=.tup (.str x::ns)/\x∈us:=by
 unfold Es at e;split at e
 ·rename_i x ns;exact ⟨x,ns,rfl,of_decide_eq_true e⟩
 ·cases e
theorem nC {bs:List Bool}:Dh (bs.map .bl)=Dn bs:=by
 induction bs with
 | nil=>rfl
 | cons b bs ih=>
  show (Dh (bs.map .bl)).map (b::·)=_;rw [ih];rfl
theorem zbd (us:List W)(k:Nat):qd us (Dn (k:Int)) FN=us.drop k:=by
 unfold qd;rw [HT.Li,HT.Eu];by_cases h:k<=us.length
 ·rw [Nat.min_eq_left h,Kq (by rw [J5];exact Ym _)]
 ·rw [Nat.min_eq_right (by lia),List.drop_length,List.drop_of_length_le (by lia)];simp
theorem Q6 {u:W}{ns:List W}:qd (u::ns) (Dn 1) FN=ns:=zbd _ 1
theorem dg {Z : Sw}{h:Gh}{Q:Option Int->Gh->Prop}(x:Q FN h):cR Z h Q:=x
theorem wz {u:W}{ns:List W}{h:Gh}{Q:WK}(x:Q (.tup ns) h):sZ (.tup (u::ns)) (Dn 1) FN h Q:=by
 show Q (.tup (qd (u::ns) (Dn 1) FN)) h;rw [Q6];exact x
def VG (c0:VR):Prop:=∀ {h:Gh} {w t:W} {rws:List W} {Q:WK} {E:X4},view h w=Dn rws->(∀ r∈rws,Row r)->rws.length<=24->ThD h t->Q (.bl (Fp (rws.map DR) t)) h->c0 [w,t] h Q E
theorem abS {x:Str}(hx:x∈Eb):(Fq x).length<=24:=by
 unfold Eb at hx;simp only [Yq,Y5,or_false] at hx;rcases hx with e | e | e | e | e | e <;> subst e <;> decide
theorem abj {c0 c1 c2:VR}(hb:Tv c0)(ha:Vw c1)(hs:GC c2):VG (lX c0 c1 c2):=by
 intro h w t rws Q E hv hr hl ht k;unfold lX;rw [aat];rfl'
 refine hb ht ?_;rfl'
 cases e:Es Eb t with
 | false=>
  rfl'
  rw [Lj e] at k;exact k
 | true=>
  obtain ⟨x,ns,rfl,hx⟩:=Ag e;rfl'
  unfold mR;rfl'
  refine hs hv hr hl ?_;rfl'
  refine Fg (NQ hx) (fun R q=>?_) ?_
  ·rfl'
   exact cG (ws:=.str x::ns) rfl (bF (j:=0) rfl) q
  ·rfl'
   refine jD.mk (by rw [Yd];exact YS (abS hx) (by decide)) ?_;refine fJ (fun i acc h'=>h'=h/\acc=(((Fq x).take i).map fun d=>decide<|ns.map (nth<|rws.map DR)=d.map Dn).map .bl) ?_ ?_ ⟨rfl,rfl⟩
   ·rintro i v acc h' N hN ev ⟨rfl,rfl⟩;rw [Yo] at ev;obtain ⟨d,ed,rfl⟩:=Yy.mp ev;refine ⟨[.tup<|d.map .str],rfl,?_⟩;rfl'
    refine dg<|wz ?_
    rfl'
    refine ha rfl (fun u hu=>ht.2 _ rfl u<|YH _ hu)<|hN _ _ ⟨rfl,?_⟩
    rw [Zn,ed,YK,YK];rfl
   ·rintro acc h' ⟨rfl,rfl⟩;rw [Yd,Za];refine aF<|HX (us:=List.map .bl _) rfl nC ?_
    rfl'
    rw [List.any_map];exact k
def Kp (h h':Gh):Prop:=h.nx<=h'.nx/\∀ m,m<h.nx->h'.c m=h.c m
theorem Th.keep {h h':Gh}{w:W}(t:Th h w)(k:Kp h h'):Th h' w:=by
 cases t with
 | int=>exact .int
 | bl=>exact .bl
 | str=>exact .str
 | non=>exact .non
 | tup=>exact .tup
 | lst=>exact .lst
 | loc e l=>exact .loc ((k.2 _ l).trans e) (Yl l k.1)
theorem aas {a b:List Str}:mK (a.map .str) (b.map .str)=decide (a=b):=by
 induction a generalizing b with
 | nil=>
  cases b with
  | nil=>rfl
  | cons y b=>exact (decide_eq_false (fun e=>nomatch e)).symm
 | cons x a ih=>
  cases b with
  | nil=>exact (decide_eq_false (fun e=>nomatch e)).symm
  | cons y b=>
   show (Wj (.str x) (.str y)&&mK (a.map .str) (b.map .str))=_;rw [ih,jL,Jw,YM,decide_eq_true_iff,decide_eq_true_iff,beq_iff_eq,List.cons.injEq]
theorem xY {n:Nat}{a:List Str}:WR (n+1) (.lst (a.map .str))=true:=by
 show ((a.map W.str).all (WR n))=true;refine Zf.mpr fun w hw=>?_;obtain ⟨x,_,rfl⟩:=YT.mp hw;cases n <;> rfl
def s3:List Str:=["spot", "line", "curve"]
theorem map_some {a b:List Str}:(a.map Dn=b.map Dn)↔a=b:=by
 constructor
 ·intro e;have:=congrArg (List.filterMap id) e
  simpa using this
 ·intro e;rw [e]
theorem N7 {ss ls:List Str}{x:Str}{ns:List W}(e:ns.map (nth ss)=ls.map Dn):Fp ss (.tup (.str x::ns))=(Fq x).any fun d=>decide (ls=d):=by
 show ((Fq x).any fun d=>decide (ns.map (nth ss)=d.map Dn))=_;rw [e];congr 1
 funext d;exact decide_eq_decide.mpr map_some
theorem Kg {h h':Gh}{b:Bool}{Q:WK}(k:Kp h h')(q:Q (.bl b) h):pO true h (.bl b) h' Q:=
 ⟨fun m c hm e=>(k.2 m hm).trans e,.inl ⟨by simp [Lo],q⟩⟩
theorem Kp.refl (h:Gh):Kp h h:=⟨Ym _,fun _ _=>rfl⟩
theorem ThD.keep {h h':Gh}{w:W}(t:ThD h w)(k:Kp h h'):ThD h' w:=⟨t.1.keep k,fun ws e u hu=>(t.2 ws e u hu).keep k⟩
def Wd (r:W):Prop:=∃ x ns,r=.tup (.str x::ns)
def Fl (rws:List W)(i:Nat):List Nat:=(ZX i).filter fun j=>mH (rws.getD j .non)
theorem Cg {rws:List W}{i:Nat}{r:W}(e:rws[i]?=Dn r)(f:mH r=true):Fl rws (i+1)=Fl rws i++[i]:=by
 unfold Fl;rw [List.range_succ,KD];congr 1
 rw [List.filter_cons,if_pos (by rw [Zi,e];exact f)];rfl
theorem Iu {rws:List W}{i:Nat}{r:W}(e:rws[i]?=Dn r)(f:mH r=false):Fl rws (i+1)=Fl rws i:=by
 unfold Fl;rw [List.range_succ,KD];conv=>rhs;rw [<-List.append_nil (List.filter _ (ZX i))]
 congr 1
 rw [List.filter_cons,if_neg (by rw [Zi,e];exact fun z=>Y6 (f.symm.trans z))];rfl
theorem zQ {rws:List W}:∀ i,i<=rws.length->(Fl rws i).length=((rws.take i).filter mH).length
 | 0,_=>rfl
 | i+1,h=>by
  have hi:i<rws.length:=h;have e:rws[i]?=Dn rws[i]:=Yk hi;have ih:=zQ i (Je hi);rw [Zn,e,KD,Yw,<-ih];cases f:mH rws[i] with
  | true=>
   rw [Cg e f,Yw];show _=_+([rws[i]].filter mH).length;rw [List.filter_cons,if_pos f];rfl
  | false=>
   rw [Iu e f];show _=_+([rws[i]].filter mH).length;rw [List.filter_cons,if_neg (fun z=>Y6 (f.symm.trans z))];rfl
def frW (rws:List W):List W:=(Fl rws rws.length).map fun j:Nat=>W.int (j:Int)
theorem abK {rws:List W}:(frW rws).length=(rws.filter mH).length:=by
 unfold frW;rw [Yd,zQ _ (Ym _),Za]
theorem frC {w:W}{rws:List W}{h:Gh}{Z : Sw}{ix:List Nat}{Q:WK}(hZ : pP ix Z = [Dn w])(hv:view h w=Dn rws)(hr:∀ r∈rws,Wd r)(hl:rws.length<=100)(q:Q (.lst (frW rws)) h) :
  lcK BP ix (bZ (Mk Dp (Mk W9 (Mk W9 (aG 1) (aG 0)) (mC (.int 0))) (mC (.str "free")))) (aG 0) Z Q ⟨(rng 0 rws.length).map fun x:Nat=>W.int (x:Int),FN⟩ h:=by
 refine v7 (by rw [Yd];unfold rng;rw [ZL];exact Nat.ble_eq.mpr (by lia)) ?_;refine fJ (fun i acc h'=>h'=h/\acc=(Fl rws i).map fun j:Nat=>W.int (j:Int)) ?_ ?_ ⟨rfl,rfl⟩
 ·rintro i u acc h' N hN e ⟨rfl,rfl⟩;rw [Yo] at e;obtain ⟨x,ex,rfl⟩:=Yy.mp e;have e0:=(jR ex).1;have hx:=(jR ex).2;rw [Jy] at e0;subst e0;have hri:rws[x]?=Dn rws[x]:=Yk hx;obtain ⟨y,ms,ey⟩:=hr _ (J4 hx);rw [ey] at hri;refine ⟨[.int (x:Int)],rfl,?_⟩;rw [hZ];refine cj<|aN<|aN<|aN<|aA rfl<|aA rfl<|cG hv (bF hri)<|bN<|cG (ws:=.str y::ms) (w:=.str y) rfl (bF (j:=0) rfl)<|bN<|Jm<|qI ?_
  cases f:decide (y = "free") with
  | true=>exact eZ (aA rfl (hN _ _ ⟨rfl,by rw [Cg hri f,YK];rfl⟩))
  | false=>exact xG (hN _ _ ⟨rfl,by rw [Iu hri f]⟩)
 ·rintro acc h' ⟨rfl,rfl⟩;rw [Yd];unfold rng;rw [ZL,Nat.sub_zero];exact q
theorem Pa {x:Str}(hx:x∈Bu):nY fW (.inr x)=Dn (.tup ((zu x).map .str)):=by
 unfold Bu at hx;simp only [Yq,Y5,or_false] at hx;rcases hx with e | e | e | e | e | e | e <;> subst e <;> rfl
theorem aac:(fW.map fun q=>FQ q.1)=Bu.map .str:=rfl
def xg (ts:List W)(i:Nat):Prop:=∀ j r,j<i->ts[j]?=Dn r->ok1 ((ts.take j).map DR) r=true
def Drw (ts:List W):Prop:=1<=ts.length/\ts.length<=24/\xg ts ts.length/\(ts.filter mH).length<=7
def Wy (t:W):Prop:=∃ ts,t=.lst ts/\Drw ts
def W0:W->Bool
 | .lst _=>true
 | .loc _=>true
 | _=>false
theorem Th.list' {h:Gh}{w:W}(t:Th h w):Dc h w "list" = Dn (W0 w):=by
 cases t with
 | loc e _=>simp only [Dc,cC,e];rfl
 | _=>rfl
theorem xg.bad {ts:List W}{i:Nat}{r:W}(e:ts[i]?=Dn r)(n:ok1 ((ts.take i).map DR) r=false):¬ Wy (.lst ts):=by
 rintro ⟨us,eu,_,_,ho,_⟩;cases eu;have:=ho i r (Yn.mp e).1 e
 rw [n] at this;cases this
theorem aal {ss:List Str}{r:W}(e:Es Bu r=false):ok1 ss r=false:=by
 unfold ok1;split
 ·rename_i x ns;rw [show decide (x∈Bu)=false from e];rfl
 ·rfl
theorem xg.wd {ts:List W}{i:Nat}(o:xg ts i){j:Nat}{r:W}(hj:j<i)(e:ts[j]?=Dn r):∃ x ns,r=.tup (.str x::ns)/\x∈Bu:=by
 have:=o j r hj e
 unfold ok1 at this;split at this
 ·rename_i x ns;exact ⟨x,ns,rfl,of_decide_eq_true (Bool.and_eq_true_iff.mp this).1⟩
 ·cases this
theorem xg.succ {ts:List W}{i:Nat}{r:W}(o:xg ts i)(e:ts[i]?=Dn r)(k:ok1 ((ts.take i).map DR) r=true):xg ts (i+1):=by
 intro j r' hj e';rcases Nat.lt_succ_iff_lt_or_eq.mp hj with hj | rfl
 ·exact o j r' hj e'
 ·rw [e] at e';cases e'
  exact k
theorem Rm {h:Gh}{n:Nat}{us:List W}{Q:WK}(e:h.c n=Dn (.lst us))(k:Q (.lst us) h):yx [.loc n] h Q:=by
 show (match view h (.loc n) with
  | some us=>Q (.lst us) h
  | none=>False)
 rw [cO e];exact k
def Ot (c0:VR):Prop:=∀ {h:Gh} {w:W} {rws:List W} {Q:WK} {E:X4},view h w=Dn rws->(∀ r∈rws,Wd r)->rws.length<=100->Q (.lst (frW rws)) h->c0 [w] h Q E
theorem abb:Ot jT:=by
 intro h w rws Q E hv hr hl k;unfold jT;rfl'
 refine dU hv<|aF<|zj (m:=rws.length) (by lia) ?_
 exact frC rfl hv hr hl k
def DrY (c0:VR):Prop:=∀ {h:Gh} {n:Nat} {ts:List W} {Q:WK} {E:X4},h.c n=Dn (.lst ts)->n<h.nx->(∀ u∈ts,ThD h u)->(∀ b,(b=true↔Drw ts)->Q (.bl b) h)->c0 [.loc n] h Q E
theorem xg.badY {ts:List W}{i:Nat}{r:W}(e:ts[i]?=Dn r)(n:ok1 ((ts.take i).map DR) r=false):¬ Drw ts:=fun z=>xg.bad e n ⟨ts,rfl,z⟩
theorem MJ {c0 c1 c2:VR}(hb:Tv c0)(ha:Vw c1)(hf:Ot c2):DrY (iW c0 c1 c2):=by
 intro h n ts Q E hn nl ht k;have no:¬ Drw ts->∀ h',Kp h h'->pO true h (.bl false) h' Q:=fun z h' kp=>Kg kp (k false ⟨fun e=>absurd e (by decide),fun e=>absurd e z⟩)
 have vn:=cO hn;unfold iW;rfl'
 refine iR (b:=true) (Th.list'<|.loc hn nl) ?_;rfl'
 refine dU vn ?_;rfl'
 refine oY (fun e1=>?_)<|fun e1=>?_
 ·rfl'
  exact no (fun ⟨d1,_⟩=>by lia) _<|Kp.refl _
 ·rfl'
  refine dU vn ?_;rfl'
  refine oY (fun e2=>?_)<|fun e2=>?_
  ·rfl'
   exact no (fun ⟨_,d1,_⟩=>by lia) _<|Kp.refl _
  ·rfl'
   unfold jF;rw [aac];refine aM<|aX<|gM (fun R=>rfl) rfl fun g gc go gn=>?_
   have kp1:Kp h g:=⟨by rw [gn];exact Ew _,fun m hm=>go m (Yv hm)⟩
   generalize eL:h.nx=L at *;rfl'
   refine Tt (ws:=ts) ((kp1.2 n (by rw [eL];exact nl)).trans hn)<|mq ?_
   refine xH (fun i Z h'=>Kp h h'/\(∃ a2,Z = [Dn<|.loc n,Dn<|.loc L,a2])/\h'.c L=Dn (.lst<|((ts.take i).map DR).map .str)/\xg ts i) ?_ ?_ ?_ ⟨kp1,⟨FN,rfl⟩,gc,fun j r hj _=>absurd hj<|Jl _⟩
   ·rintro i Z h' ⟨kp,_⟩ P p;exact ⟨(kp.2 n (by rw [eL];exact nl)).trans hn,p⟩
   ·rintro i r Z h' N hN er ⟨kp,⟨a2,rfl⟩,hL,ho⟩;have tr:=(ht r (YL er)).keep kp;rfl'
    refine hb tr ?_;rfl'
    cases eb:Es Bu r with
    | false=>
     rfl'
     exact no (xg.badY er<|aal eb) _ kp
    | true=>
     obtain ⟨x,ns,rfl,hx⟩:=Ag eb;rfl'
     refine dg<|wz ?_
     refine ao<|Fg (Pa hx) (fun R q=>?_) ?_
     ·rfl'
      exact cG (ws:=.str x::ns) rfl (bF (j:=0) rfl) q
     ·refine aF ?_;refine ha (ss:=(ts.take i).map DR) (cO hL) (fun u hu=>tr.2 _ rfl u<|YH _ hu) ?_;have eo:ok1 ((ts.take i).map DR) (.tup (.str x::ns))=decide (ns.map (nth ((ts.take i).map DR))=(zu x).map Dn):=by
       show (decide (x∈Bu)&&_)=_;rw [decide_eq_true hx,Bool.true_and]
      cases ea:decide (ns.map (nth ((ts.take i).map DR))=(zu x).map Dn) with
      | false=>
       rfl'
       exact no (xg.badY er<|eo.trans ea) _ kp
      | true=>
       rfl'
       refine jV ?_;rfl'
       refine gJ hL ?_;refine ao<|Fg (xu hx) (fun R q=>?_) ?_
       ·rfl'
        exact cG (ws:=.str x::ns) rfl (bF (j:=0) rfl) q
       ·have hle:ts.length<=24:=by lia
        refine aF<|yS hL (by rw [Yd,Yd,Zo];lia) fun g2 gc2 go2 gn2=>?_
        rfl'
        refine hN _ _ ⟨⟨by rw [gn2];exact kp.1,fun m hm=>(go2 m<|Yv (by rw [eL] at hm;exact hm)).trans (kp.2 m hm)⟩,⟨_,rfl⟩,?_,ho.succ er<|eo.trans ea⟩;rw [gc2,Zn,er,YK,YK];rfl
   ·rintro Z h' ⟨kp,⟨a2,rfl⟩,hL,ho⟩;have hn':h'.c n=Dn (.lst ts):=(kp.2 n (by rw [eL];exact nl)).trans hn;unfold jH;rfl'
    refine hf (rws:=ts) (cO hn') (fun r hr=>?_) (by lia) ?_
    ·obtain ⟨j,hj,e⟩:=Jh hr;obtain ⟨x,ns,e,_⟩:=ho.wd hj ((Yk hj).trans (congrArg Dn e));exact ⟨x,ns,e⟩
    ·refine aF<|dU (xs:=frW ts) rfl ?_
     refine bN<|show _ from ?_
     rw [abK];refine Kg kp<|k _ ?_
     rw [decide_eq_true_iff];constructor
     ·intro e3;exact ⟨by lia,by lia,ho,by lia⟩
     ·rintro ⟨_,_,_,d⟩;lia
def low (c:Nat):Bool:=decide (97<=c/\c<=122)
def isF (c:Nat):Bool:=decide (48<=c/\c<=57)
def Cm (c:Nat):Bool:=low c||isF c
def Ep:List Nat->Bool
 | []=>false
 | c::l=>decide (l.length<=7)&&low c&&(c::l).all Cm
abbrev LET:Str := "abcdefghijklmnopqrstuvwxyz"
theorem rE:cs LET=[97,98,99,100,101,102,103,104,105,106,107,108,109,110,111,112,113,114,115,116,117,118,119,120,121,122]:=by decide +kernel
theorem wM:cs ("0123456789" : Str)=[48,49,50,51,52,53,54,55,56,57]:=by decide +kernel
theorem Nt (c:Nat):JQ LET ⟨#[c]⟩=low c:=by
 have:JQ LET ⟨#[c]⟩=decide (c∈cs LET):=StrLaws.found_one _ c
 rw [this,rE];unfold low;rw [decide_eq_decide];simp only [Yq,Y5,or_false];lia
theorem Rr (c:Nat):JQ (LET++("0123456789" : Str)) ⟨#[c]⟩=Cm c:=by
 have:JQ (LET++("0123456789" : Str)) ⟨#[c]⟩=decide (c∈cs (LET++("0123456789" : Str))):=StrLaws.found_one _ c
 rw [this,dj,rE,wM];unfold Cm low isF;rw [Jw,Bool.or_eq_true,decide_eq_true_eq,decide_eq_true_eq,decide_eq_true_eq,Zr];simp only [Yq,Y5,or_false];lia
theorem Xk {c:Nat}{h:Gh}{Q:WK}(q:Q (.bl (!low c)) h):En (.str ⟨#[c]⟩) (.str "abcdefghijklmnopqrstuvwxyz") h Q:=by
 show Q (.bl (!Txt.contains LET ⟨#[c]⟩)) h;rw [Nt];exact q
def NmX (c0:VR):Prop:=∀ {h:Gh} {x:Str} {Q:WK} {E:X4},x.length<=100000->Q (.bl (Ep (cs x))) h->c0 [.str x] h Q E
theorem Dz {n:Nat}(h:n<=100000):n<=YQ:=YS h (by decide)
theorem Ie {x:Str}{h:Gh}{Q:WK}(hz:x.length<=100000)(q:Q (.int (x.length:Int)) h):Cr [.str x] h Q:=⟨Dz hz,q⟩
theorem Ey {x:Str}{i:Int}{c:Nat}{h:Gh}{Q:WK}(hz:x.length<=100000)(e:CK (cs x) i=Dn c)(q:Q (.str ⟨#[c]⟩) h):Gv (.str x) (.int i) h Q:=by
 refine ⟨Dz hz,?_⟩;rw [show CK x.cps.toList i=Dn c from e];exact q
theorem PK {x:Str}{ix:List Nat}{Z : Sw}{h:Gh}{Q:WK}(hv:Z[0]?=Dn (Dn (.str x)))(hz:x.length<=100000)(k:Q (.lst (((cs x).map Cm).map .bl)) h) :
  Aj BP ix (Ss (aG 0)) tu (Mk Sd (aG 0) (Mk jc (mC (.str "abcdefghijklmnopqrstuvwxyz")) (mC (.str "0123456789")))) Z h Q:=by
 refine lN ?_;unfold Ss;refine aA hv ?_;have hl:(L2.signs x).length=(cs x).length:=by simp [L2.signs]
 refine jD.mk (by rw [hl,eF];exact Dz hz) ?_;refine fJ (fun i acc h'=>h'=h/\acc=(((cs x).take i).map Cm).map W.bl) ?_ ?_ ⟨rfl,rfl⟩
 ·rintro i w acc h' N hN e ⟨rfl,rfl⟩;unfold L2.signs at e;rw [Yo,Yy] at e;obtain ⟨c,ec,rfl⟩:=e;refine ⟨[_],rfl,?_⟩;refine gZ<|eZ<|aN<|aA rfl<|aN<|bN<|bN ⟨by decide,?_⟩
  show N (_++[W.bl (JQ (LET++("0123456789" : Str)) ⟨#[c]⟩)]) _;rw [Rr];refine hN _ _ ⟨rfl,?_⟩;rw [Zn,show (cs x)[i]?=Dn c from ec];simp
 ·rintro acc h' ⟨rfl,rfl⟩;rw [hl,Za];exact k
theorem zbi:NmX o9:=by
 intro h x Q E hz k;have hl:=eF x;unfold o9;rfl'
 refine Ie hz ?_;rfl'
 refine oY (fun e1=>?_)<|fun e1=>?_
 ·rfl'
  have:cs x=[]:=Lf (by lia)
  rw [this] at k;exact k
 ·rfl'
  refine Ie hz ?_;rfl'
  obtain ⟨c,l,ec⟩:∃ c l,cs x=c::l:=by
   cases e:cs x with
   | nil=>rw [e] at hl;simp at hl;lia
   | cons c l=>exact ⟨c,l,rfl⟩
  rw [ec] at k hl;rw [YB] at hl;have k:Q (.bl (decide (l.length<=7)&&low c&&(c::l).all Cm)) h:=k;refine oY (fun e2=>?_)<|fun e2=>?_
  ·rfl'
   rw [decide_eq_false (by lia:¬ l.length<=7)] at k;exact k
  ·rfl'
   refine Ey hz (c:=c) (by rw [ec];exact bF (j:=0) rfl) ?_;rfl'
   refine Xk ?_;rw [decide_eq_true (by lia:l.length<=7),Bool.true_and] at k;cases e3:low c with
   | false=>
    rw [e3] at k;rfl'
    exact k
   | true=>
    rw [e3,Bool.true_and] at k;rfl'
    unfold oX;refine dZ<|d7<|ao ?_
    refine PK rfl hz<|aF<|xO (bs:=(cs x).map Cm) rfl nC ?_
    rw [ec,List.all_map];exact k
def uQ:List Str->Str->Nat
 | [],_=>0
 | a::l,y=>if a=y then 0 else uQ l y+1
theorem kW {y:Str}:∀ {ss:List Str},y∈ss->ss[uQ ss y]?=Dn y/\∀ m,m<uQ ss y->ss[m]?≠Dn y
 | [],h=>absurd h (by simp)
 | a::l,h=>by
  by_cases e:a=y
  ·rw [uQ,if_pos e];exact ⟨by rw [e];rfl,fun m hm=>absurd hm<|Jl _⟩
  ·obtain ⟨h1,h2⟩:=kW (ss:=l) ((Yq.mp h).resolve_left fun z=>e z.symm);rw [uQ,if_neg e];refine ⟨h1,fun m hm=>?_⟩;cases m with
   | zero=>exact fun z=>e (Yp z)
   | succ m=>exact h2 m (Nat.lt_of_succ_lt_succ hm)
theorem aaL {y:Str}{ss:List Str}{j:Nat}(nd:ss.Nodup)(e:ss[j]?=Dn y):uQ ss y=j:=by
 have hm:y∈ss:=YL e;have h1:=(kW hm).1;have h2:=(kW hm).2;rcases Nat.lt_trichotomy (uQ ss y) j with z | z | z
 ·obtain ⟨a1,a2⟩:=Yn.mp h1;obtain ⟨b1,b2⟩:=Yn.mp e;exact absurd (a2.trans b2.symm)<|List.pairwise_iff_getElem.mp nd _ _ a1 b1 z
 ·exact z
 ·exact absurd e<|h2 j z
theorem vD {u:W}{ns:List W}{h:Gh}{Q:WK}(x:Q (.lst ns) h):sZ (.lst (u::ns)) (Dn 1) FN h Q:=by
 show Q (.lst (qd (u::ns) (Dn 1) FN)) h;rw [Q6];exact x
theorem Od {i:Nat}{u:W}{us:List W}{Z : Sw}{h:Gh}{R:Src->Gh->Prop}(hv:Z[i]?=Dn (Dn (.lst (u::us))))(k:R ⟨us,FN⟩ h):DX (DW sZ (aG i) (iI (mC (.int 1))) cR) Z h R:=
 uX (qQ (aA hv (fY (bN (Dg (dg (vD (GP rfl k))))))))
theorem Jr {i:Nat}{u:W}{us:List W}{Z : Sw}{h:Gh}{R:Src->Gh->Prop}(hv:Z[i]?=Dn (Dn (.tup (u::us))))(k:R ⟨us,FN⟩ h):DX (DW sZ (aG i) (iI (mC (.int 1))) cR) Z h R:=
 uX (qQ (aA hv (fY (bN (Dg (dg (wz (GP rfl k))))))))
theorem Uo {y:W}{us:List Str}{a:Str}{h:Gh}{Q:WK}(e:cC h y=Dn (us.map .str))(k:Q (.bl (decide (a∈us))) h):RL (.str a) y h Q:=by
 have e1:(WR 20 (.str a)&&(us.map W.str).all (WR 20))=true:=by
  rw [YM];refine ⟨rfl,Zf.mpr fun w hw=>?_⟩;obtain ⟨x,_,rfl⟩:=YT.mp hw;rfl
 have e2:((us.map W.str).any fun u=>Wj u (.str a))=decide (a∈us):=by
  rw [Jw,Ke,decide_eq_true_iff];constructor
  ·rintro ⟨w,hw,he⟩;obtain ⟨x,hx,rfl⟩:=YT.mp hw;rw [jL] at he;rw [<-eq_of_beq he];exact hx
  ·intro ha;exact ⟨.str a,YT.mpr ⟨a,ha,rfl⟩,by rw [jL];exact beq_self_eq_true a⟩
 unfold RL;rw [e];show AP (WR 20 (.str a)&&(us.map W.str).all (WR 20)) _ _;rw [e1,e2];exact k
theorem Xq {w:W}{us:List W}{h:Gh}{P:Prop}(e:cC h w=Dn us)(x:P):qb h w P:=by
 unfold qb;rw [e];exact x
theorem NP {r:MM}{mo:ME}{ma:MA}{Z : Sw}{h:Gh}{Q:WK}(x:mo Z h fun x h1=>qb h1 x (ma Z h1 fun xs h2=>r x xs h2 Q)):Vx r mo ma Z h Q:=x
theorem zbj {w:W}{ns:List Str}{x:Str}{h:Gh}{Q:WK}(e:cC h w=Dn (ns.map .str))(hx:x∈ns)(k:Q (.int (uQ ns x:Nat)) h):oE w [.str x] h Q:=by
 show (match cC h w with
  | some us=>∃ (ns:List Str) (j:Nat),us=ns.map W.str/\ns[j]?=Dn x/\(∀ m,m<j->ns[m]?≠Dn x)/\Q (.int j) h
  | none=>False)
 rw [e];exact ⟨ns,_,rfl,(kW hx).1,(kW hx).2,k⟩
def bC (p:Str×List Nat):W:=.tup (.str p.1::p.2.map fun n:Nat=>W.int (n:Int))
def WnX (c0:VR):Prop:=∀ {h:Gh} {nv:W} {ss:List Str} {x:Str} {ys:List Str} {Q:WK} {E:X4},cC h nv=Dn (ss.map .str)->ys.length<=100000 ->
 ((∀ y∈ys,y∈ss)->Q (bC (x,ys.map (uQ ss))) h)->((¬ ∀ y∈ys,y∈ss)->E ⟨"NoText",[]⟩ h)->c0 [.lst ((x::ys).map .str),nv] h Q E
theorem CV:WnX fZ:=by
 intro h nv ss x ys Q E hv hl k kE;unfold fZ;refine lR rfl (Z:=[Dn<|.lst (.str x::ys.map .str),Dn nv]) rfl ?_;refine aM<|dG<|gq<|gC<|d7<|ao<|lN<|Od rfl ?_
 refine jD.mk (by rw [Yd];exact Dz hl) ?_;refine fJ (fun i acc h'=>h'=h/\acc=((ys.take i).map fun y=>decide<|y∈ss).map W.bl) ?_ ?_ ⟨rfl,rfl⟩
 ·rintro i w acc h' N hN e ⟨rfl,rfl⟩;rw [Yo] at e;obtain ⟨y,ey,rfl⟩:=Yy.mp e;refine ⟨[.str y],rfl,gZ<|eZ<|aN<|aA rfl<|aA rfl<|Uo hv<|hN _ _ ⟨rfl,?_⟩⟩;rw [Zn,ey];simp
 ·rintro acc h' ⟨rfl,rfl⟩;refine aF<|xO (bs:=ys.map fun y=>decide<|y∈ss) (by rw [Yd,Za];rfl) nC ?_
  refine yF rfl ?_;by_cases c:∀ y∈ys,y∈ss
  ·have ec:(ys.map fun y=>decide (y∈ss)).all id=true:=by
    rw [Zf];intro b hb;obtain ⟨y,hy,rfl⟩:=YT.mp hb;exact decide_eq_true<|c y hy
   rw [ec];refine gB<|cD<|cu ?_
   unfold iH;refine dZ<|aN<|cP<|ao<|aN<|aA rfl<|bN<|cG (ws:=.str x::ys.map .str) (w:=.str x) rfl (bF (j:=0) rfl)<|aF<|bI rfl ?_
   refine d7<|ao<|lN<|Od rfl ?_
   refine jD.mk (by rw [Yd];exact Dz hl) ?_;refine fJ (fun i acc h2=>h2=h'/\acc=((ys.take i).map (uQ ss)).map fun n:Nat=>W.int (n:Int)) ?_ ?_ ⟨rfl,rfl⟩
   ·rintro i w acc h2 N hN e ⟨rfl,rfl⟩;rw [Yo] at e;obtain ⟨y,ey,rfl⟩:=Yy.mp e;refine ⟨[.str y],rfl,gZ<|eZ<|NP<|aA rfl<|Xq hv<|ao<|aA rfl<|aF<|zbj hv (c y<|YL ey)<|hN _ _ ⟨rfl,?_⟩⟩;rw [Zn,ey];simp
   ·rintro acc h2 ⟨rfl,rfl⟩;refine aF<|wR ?_
    rw [Yd,Za];refine (jD.mk ?_ ?_:fj (.tup [.str x]) (.tup _) _ _)
    ·rw [Yd,Yd];exact YS (show [W.str x].length+ys.length<=100001 by show 1+ys.length<=100001;lia)<|by decide
    ·exact k c
  ·have ec:(ys.map fun y=>decide (y∈ss)).all id=false:=by
    rw [Bool.eq_false_iff];intro z;exact c fun y hy=>of_decide_eq_true<|Zf.mp z _<|YT.mpr ⟨y,hy,rfl⟩
   rw [ec];exact uY<|eN<|kE c
abbrev Told:=List (Str×List Nat)×List Str
def Ef (st:Told):List Str->Option Told
 | n::x::ys=>if Ep (cs n)=true/\n∉st.2/\∀ y∈ys,y∈st.2 then Dn (st.1++[(x,ys.map (uQ st.2))],st.2++[n]) else FN
 | _=>FN
theorem xW {st:Told}{n x:Str}{ys:List Str}(h:¬ (Ep (cs n)=true/\n∉st.2/\∀ y∈ys,y∈st.2)):Ef st (n::x::ys)=FN:=if_neg h
theorem vV {st:Told}{n x:Str}{ys:List Str}(h:Ep (cs n)=true/\n∉st.2/\∀ y∈ys,y∈st.2):Ef st (n::x::ys)=Dn (st.1++[(x,ys.map (uQ st.2))],st.2++[n]):=if_pos h
def Dl:Told->List (List Str)->Option Told
 | st,[]=>Dn st
 | st,l::ls=>(Ef st l).bind fun s=>Dl s ls
theorem BW {ls ms:List (List Str)}:∀ {st:Told},Dl st (ls++ms)=(Dl st ls).bind fun s=>Dl s ms:=by
 induction ls with
 | nil=>intro st;rfl
 | cons l ls ih=>
  intro st;show (Ef st l).bind _=((Ef st l).bind _).bind _;cases Ef st l with
  | none=>rfl
  | some s=>exact ih
theorem qW {ls:List (List Str)}{st s:Told}{i:Nat}{l:List Str}(e:Dl st (ls.take i)=Dn s)(el:ls[i]?=Dn l):Dl st (ls.take (i+1))=Ef s l:=by
 rw [Zn,el,BW,e];show (Ef s l).bind _=_;cases Ef s l <;> rfl
theorem abo {ls:List (List Str)}{st s:Told}{i:Nat}{l:List Str}(e:Dl st (ls.take i)=Dn s)(el:ls[i]?=Dn l)(b:Ef s l=FN):Dl st ls=FN:=by
 rw [<-List.take_append_drop (i+1) ls,BW,qW e el,b];rfl
theorem aad {st s:Told}{l:List Str}(e:Ef st l=Dn s):s.1.length=st.1.length+1/\s.2.length=st.2.length+1:=by
 match l,e with
 | n::x::ys,e=>
  by_cases c:Ep (cs n)=true/\n∉st.2/\∀ y∈ys,y∈st.2
  ·rw [vV c] at e;cases e;exact ⟨by simp,by simp⟩
  ·rw [xW c] at e;cases e
theorem aaT {ls:List (List Str)}:∀ {st s:Told},Dl st ls=Dn s->s.1.length=st.1.length+ls.length/\s.2.length=st.2.length+ls.length:=by
 induction ls with
 | nil=>intro st s e;cases e;exact ⟨rfl,rfl⟩
 | cons l ls ih=>
  intro st s e;obtain ⟨s1,e1,e2⟩:=Option.bind_eq_some_iff.mp e;have:=aad e1
  have:=ih e2
  rw [YB];lia
def El (l:List Str):W:=.lst (l.map .str)
def SM (ls:List (List Str)):Prop:=ls.length<=100000/\∀ l∈ls,l.length<=100000/\∀ w∈l,w.length<=100000
structure Two (h h':Gh) (a b:Nat) (s:Told):Prop where
 kp:Kp h h'
 ca:h'.c a=Dn (.lst (s.1.map bC))
 cb:h'.c b=Dn (.lst (s.2.map .str))
 ne:a≠b
 la:h.nx<=a
 lb:h.nx<=b
 ua:a<h'.nx
 ub:b<h'.nx
def RrX (c0:VR):Prop:=∀ {h:Gh} {ls:List (List Str)} {Q:WK} {E:X4},SM ls->(∀ s,Dl ([],[]) ls=Dn s->∀ h' a b,Two h h' a b s->Q (.tup [.loc a,.loc b]) h')->(Dl ([],[]) ls=FN->∀ h',Kp h h'->E ⟨"NoText",[]⟩ h') ->
 c0 [.lst (ls.map El)] h Q E
theorem NT {h:Gh}{n:Nat}{us:List W}{w:W}{Q:WK}(e:h.c n=Dn (.lst us))(hz:us.length<=100000)(k:∀ g:Gh,g.c n=Dn (.lst (us++[w]))->(∀ m,m≠n->g.c m=h.c m)->g.nx=h.nx->Q .non g):cT (.loc n) [w] h Q:=
 GK e (KC hz (by decide)) (k _ (yD _ _ _) (fun _ e=>uc e) rfl)
theorem Lw {c0 c1:VR}(hn:NmX c0)(hw:WnX c1):RrX (jM c0 c1):=by
 intro h ls Q E hl k kE;unfold jM;refine lR rfl (Z:=[Dn<|.lst<|ls.map El,FN,FN,FN]) rfl ?_;refine aM<|aX<|gM (fun R=>rfl) rfl fun g1 gc1 go1 gn1=>?_
 refine nV<|cu ?_
 refine aM<|aX<|gM (fun R=>rfl) rfl fun g2 gc2 go2 gn2=>?_
 refine nV<|cu ?_
 have two0:Two h g2 h.nx g1.nx ([],[]):=by
  refine ⟨⟨by lia,fun m hm=>?_⟩,?_,gc2,by lia,Ym _,by lia,by lia,by lia⟩
  ·rw [go2 m (by lia),go1 m (by lia)]
  ·rw [go2 _ (by lia)];exact gc1
 generalize h.nx=a at *;generalize g1.nx=b at *;refine aM<|pH<|uX<|aA rfl<|GP rfl<|mq ?_
 refine lQ (fun i Z h'=>∃ s a3,Dl ([],[]) (ls.take i)=Dn s/\Z = [Dn<|.lst<|ls.map El,Dn<|.loc a,Dn<|.loc b,a3]/\Two h h' a b s) ?_ ?_ ⟨_,_,rfl,rfl,two0⟩
 ·rintro i w Z h' N hN e ⟨s,a3,es,rfl,T⟩;rw [Yo] at e;obtain ⟨l,el,rfl⟩:=Yy.mp e;obtain ⟨l1,l2⟩:=hl.2 l (YL el);have bad:Ef s l=FN->E ⟨"NoText",[]⟩ h':=fun z=>kE (abo es el z) h' T.kp
  have hi:i<ls.length:=(Yn.mp el).1;have sl:=aaT es;rw [Zo] at sl;refine nV<|aM<|dG<|mZ<|cj<|aN<|d7<|ao<|aA rfl<|aF<|dU (xs:=l.map .str) rfl<|bN<|Eo<|qI ?_
  rw [Yd];refine oY (fun e1=>?_)<|fun e1=>?_
  ·refine ur<|eN<|bad ?_
   match l,e1 with
   | [],_=>rfl
   | [_],_=>rfl
   | _::_::_,e1=>simp at e1;lia
  ·obtain ⟨n,x,ys,rfl⟩:∃ n x ys,l=n::x::ys:=by
    match l,e1 with
    | [],e1=>simp at e1
    | [_],e1=>simp at e1
    | n::x::ys,_=>exact ⟨n,x,ys,rfl⟩
   have ix0:∀ {g:Gh} {R:WK},R (.str n) g->W9 (El (n::x::ys)) (.int 0) g R:=fun q=>cG (ws:=.str n::.str x::ys.map .str) rfl (bF (j:=0) rfl) q
   refine mZ<|gq<|gC<|bw<|ao<|aN<|aA rfl<|bN<|ix0<|aF ?_
   refine hn (l2 n Yz)<|yF rfl ?_
   cases en:Ep (cs n) with
   | false=>
    refine uY<|ur<|eN<|bad ?_
    exact xW fun z=>by rw [en] at z;exact absurd z.1 (by decide)
   | true=>
    refine gB<|cj<|aN<|aN<|aA rfl<|bN<|ix0<|aA rfl<|inS (us:=s.2) (cO T.cb)<|qI ?_
    refine oY (fun e2=>?_)<|fun e2=>?_
    ·refine eN<|bad ?_
     exact xW fun z=>z.2.1 e2
    ·refine cD<|cu<|aM<|fU<|jV<|aA rfl<|gJ T.ca<|ao<|bw<|ao<|qQ<|aA rfl<|fY<|bN<|Dg<|dg<|vD<|ao<|aA rfl<|aF ?_
     refine hw (ss:=s.2) (x:=x) (ys:=ys) (by show cC h' (.loc b)=_;simp only [cC,T.cb]) (by rw [YB,YB] at l1;lia) (fun c=>?_)<|fun c=>?_
     ·have e3:Ef s (n::x::ys)=Dn (s.1++[(x,ys.map (uQ s.2))],s.2++[n]):=vV ⟨en,e2,c⟩;refine aF<|NT T.ca (by rw [Yd];have:=hl.1;have:=sl.1;simp at this;lia) fun g3 gc3 go3 gn3=>?_
      refine cu<|fU<|jV<|aA rfl<|gJ ((go3 b<|Bk T.ne).trans T.cb)<|ao<|aN<|aA rfl<|bN<|ix0<|aF ?_
      refine NT ((go3 b<|Bk T.ne).trans T.cb) (by rw [Yd];have:=hl.1;have:=sl.2;simp at this;lia) fun g4 gc4 go4 gn4=>?_;refine cu<|hN _ _ ⟨_,_,(qW es el).trans e3,rfl,⟨⟨by rw [gn4,gn3];exact T.kp.1,fun m hm=>?_⟩,?_,?_,T.ne,T.la,T.lb,by rw [gn4,gn3];exact T.ua,by rw [gn4,gn3];exact T.ub⟩⟩
      ·have:=T.la;have:=T.lb
       rw [go4 m (Yv (Yl hm T.lb)),go3 m (Yv (Yl hm T.la)),T.kp.2 m hm]
      ·rw [go4 a T.ne,gc3,YK];rfl
      ·rw [gc4,YK];rfl
     ·exact bad<|xW fun z=>c z.2.2
 ·rintro Z h' ⟨s,a3,es,rfl,T⟩;rw [Yd,Za] at es;unfold lg;exact cu<|dZ<|cP<|ao<|aA rfl<|ao<|aA rfl<|aF<|bI rfl<|k s es h' a b T
theorem oZ {y p:Str}:∀ {ps:List Str},p∈ps->p.length<=(Et y ps).length
 | [],h=>absurd h (by simp)
 | [q],h=>by rw [Y0.mp h];exact Ym _
 | q::r::ps,h=>by
  show _<=(q++y++Et y (r::ps)).length;rw [Y4,Y4];rcases Yq.mp h with rfl | h
  ·lia
  ·have:=oZ (y:=y) h
   lia
theorem qT {x y p:Str}(h:p∈ZK x y):p.length<=x.length:=by
 have:=oZ (y:=y) h
 rw [StrLaws.join_split] at this;exact this
def mF (x:Str):List (List Str):=(ZK x "; ").map fun l=>ZK l " "
theorem Tf {x:Str}(hz:x.length<=99000):SM (mF x):=by
 refine ⟨?_,fun l hl=>?_⟩
 ·unfold mF;rw [Yd];have:=(Lb x "; ").2
  lia
 ·obtain ⟨p,hp,rfl⟩:=YT.mp hl;have h1:=qT hp;have:=(Lb p " ").2
  exact ⟨by lia,fun w hw=>by have:=qT hw;lia⟩
theorem Ej {r:MM}{mo:ME}{ma:MA}{Z : Sw}{h:Gh}{Q:WK}{x:Str}(m:∀ R:WK,R (.str x) h->mo Z h R)(k:ma Z h fun xs h2=>r (.str x) xs h2 Q):G4 r mo ma Z h Q:=m _ k
theorem zL {a b:Str}{h:Gh}{Q:WK}(hb:(b.length==0)=false)(ha:a.length<=99000)(q:Q (.lst ((ZK a b).map .str)) h):ud (.str a) [.str b] h Q:=by
 refine ⟨hb,Dz<|by lia,Dz ?_,q⟩;have:=(Lb a b).2
 lia
theorem Ly {u:W}{ns:List W}{h:Gh}{Q:WK}(x:Q (.lst ns) h):sZ (.lst (ns++[u])) FN (Dn (-1)) h Q:=by
 have e:qd (ns++[u]) FN (Dn (-1))=ns:=by
  unfold qd;have e1:HT.sIx (ns++[u]).length 0 FN=0:=rfl;have e2:HT.sIx (ns++[u]).length (ns++[u]).length (Dn (-1))=ns.length:=by
   unfold HT.sIx;rw [Yw];show _=ns.length;simp;lia
  rw [e1,e2];simp
 show Q (.lst (qd (ns++[u]) FN (Dn (-1)))) h;rw [e];exact x
def rdC (s:Told):List Str->Option (Str×List Nat)
 | c::x::ys=>if c = "claim"/\∀ y∈ys,y∈s.2 then Dn (x,ys.map (uQ s.2)) else FN
 | _=>FN
theorem Gu {st:Told}{c x:Str}{ys:List Str}(h:¬ (c = "claim"/\∀ y∈ys,y∈st.2)):rdC st (c::x::ys)=FN:=if_neg h
theorem CZ {st:Told}{c x:Str}{ys:List Str}(h:c = "claim"/\∀ y∈ys,y∈st.2):rdC st (c::x::ys)=Dn (x,ys.map (uQ st.2)):=if_pos h
def okD (s:Told)(cl:Str×List Nat):Prop:=Drw (s.1.map bC)/\Fp ((s.1.map bC).map DR) (bC cl)=true
theorem Av {h:Gh}(p:Str×List Nat):ThD h (bC p):=by
 refine ⟨.tup,fun ws e u hu=>?_⟩;cases e;rcases Yq.mp hu with rfl | hu
 ·exact .str
 ·obtain ⟨n,_,rfl⟩:=YT.mp hu;exact .int
theorem zbs {p:Str×List Nat}(hx:p.1∈Bu):Row (bC p):=⟨p.1,p.2.map fun n:Nat=>(n:Int),hx,by unfold bC;rw [ZC];rfl⟩
theorem zaX {ts:List (Str×List Nat)}(d:Drw (ts.map bC)):∀ r∈ts.map bC,Row r:=by
 intro r hr;obtain ⟨j,hj,e⟩:=Jh hr;obtain ⟨x,ns,e2,hx⟩:=d.2.2.1.wd hj ((Yk hj).trans (congrArg Dn e));obtain ⟨p,_,rfl⟩:=YT.mp hr;refine zbs ?_;unfold bC at e2;cases e2;exact hx
def RdX (c0:VR):Prop:=∀ {h:Gh} {x:Str} {init:List (List Str)} {last:List Str} {Q:WK} {E:X4},x.length<=99000->mF x=init++[last] ->
 (∀ s cl,Dl ([],[]) init=Dn s->rdC s last=Dn cl->okD s cl->∀ h' a b,Two h h' a b s->Q (.tup [.loc a,.loc b,bC cl]) h') ->
 ((∀ s cl,Dl ([],[]) init=Dn s->rdC s last=Dn cl->¬ okD s cl)->∀ h',Kp h h'->E ⟨"NoText",[]⟩ h')->c0 [.str x] h Q E
theorem aaz {c0 c1 c2 c3:VR}(hd:DrY c0)(hc:VG c1)(hw:WnX c2)(hr:RrX c3):RdX (fV c0 c1 c2 c3):=by
 intro h x init last Q E hz et k kE;have lo:=Tf hz;rw [et] at lo;have lo1:SM init:=⟨by have:=lo.1;rw [Yw] at this;lia,fun l hl=>lo.2 l (List.mem_append_left _ hl)⟩
 have lo2:=lo.2 last (Zm _ Yz);unfold fV;refine lR rfl (Z:=[Dn<|.str x,FN,FN,FN,FN]) rfl ?_;refine aM<|dG<|gq<|gC<|d7<|ao<|aA rfl<|ao<|bN<|aF<|v8 .str<|yF rfl<|gB<|cD<|cu ?_
 unfold iw;refine aM<|aX<|lN<|uX<|Ej (fun R q=>aA rfl q)<|ao<|bN<|aF<|zL rfl hz<|GP rfl ?_
 refine jD.mk (by rw [Yd];have:=(Lb x "; ").2;exact Dz (by lia)) ?_;refine fJ (fun i acc h'=>h'=h/\acc=((ZK x "; ").take i).map fun l=>El<|ZK l " ") ?_ ?_ ⟨rfl,rfl⟩
 ·rintro i w acc h' N hN e ⟨rfl,rfl⟩;rw [Yo] at e;obtain ⟨l,el,rfl⟩:=Yy.mp e;refine ⟨[.str l],rfl,gZ<|eZ<|Ej (fun R q=>aA rfl q)<|ao<|bN<|aF<|zL rfl ?_<|hN _ _ ⟨rfl,?_⟩⟩
  ·have:=qT (YL el)
   lia
  ·rw [Zn,el,YK];rfl
 ·rintro acc h' ⟨rfl,rfl⟩;have ea:(((ZK x "; ").take ((ZK x "; ").map W.str).length).map fun l=>El (ZK l " "))=init.map El++[El last]:=by
   rw [Yd,Za];have:((ZK x "; ").map fun l=>El (ZK l " "))=(mF x).map El:=by unfold mF;rw [ZC];rfl
   rw [this,et,YK];rfl
  rw [ea];refine nV<|cu<|aM<|aX<|bw<|ao<|qQ<|aA rfl<|dg<|fY<|yw<|bN<|qx<|Dg<|Ly<|aF ?_
  refine hr lo1 (fun s es h2 a b T=>?_)<|fun z h2 kp=>kE (fun s cl e=>by rw [z] at e;cases e) h2 kp
  have bad:rdC s last=FN->E ⟨"NoText",[]⟩ h2:=fun z=>kE (fun s2 cl e e2=>by rw [es] at e;cases e;rw [z] at e2;cases e2) h2 T.kp
  refine nV<|cu<|aM<|aX<|aN<|aA rfl<|yw<|bN<|qx<|cG (ws:=init.map El++[El last]) rfl (zbo _ _) ?_
  refine nV<|cu<|aM<|dG<|mZ<|cj<|aN<|d7<|ao<|aA rfl<|aF<|dU (xs:=last.map .str) rfl<|bN<|Eo<|qI ?_
  rw [Yd];refine oY (fun e1=>?_)<|fun e1=>?_
  ·refine ur<|eN<|bad ?_
   match last,e1 with
   | [],_=>rfl
   | [_],_=>rfl
   | _::_::_,e1=>simp at e1;lia
  ·obtain ⟨c,y,ys,rfl⟩:∃ n x ys,last=n::x::ys:=by
    match last,e1 with
    | [],e1=>simp at e1
    | [_],e1=>simp at e1
    | n::x::ys,_=>exact ⟨n,x,ys,rfl⟩
   refine cj<|aN<|aN<|aA rfl<|bN<|cG (ws:=.str c::.str y::ys.map .str) rfl (bF (j:=0) rfl)<|bN<|Jq<|qI ?_
   refine oY (fun e2=>?_)<|fun e2=>?_
   ·exact eN<|bad<|Gu fun z=>e2 z.1
   ·have e2:=Decidable.not_not.mp e2;refine cD<|cu ?_
    unfold iy;refine aM<|aX<|bw<|ao<|qQ<|aA rfl<|fY<|bN<|Dg<|dg<|vD<|ao<|aN<|aA rfl<|bN<|cG (ws:=[.loc a,.loc b]) (w:=.loc b) rfl rfl<|aF ?_
    refine hw (ss:=s.2) (x:=y) (ys:=ys) (by show cC h2 (.loc b)=_;simp only [cC,T.cb]) (by have:=lo2.1;rw [YB,YB] at this;lia) (fun ec=>?_)<|fun ec=>bad<|Gu fun z=>ec z.2
    have e3:=CZ (st:=s) (x:=y) ⟨e2,ec⟩;generalize ecl:(y,ys.map (uQ s.2))=cl at *;have bad2:¬ okD s cl->E ⟨"NoText",[]⟩ h2:=fun z=>kE (fun s2 cl2 e e4=>by rw [es] at e;cases e;rw [e3] at e4;cases e4;exact z) h2 T.kp
    refine nV<|cu<|aM<|dG<|mZ<|gq<|gC<|bw<|ao<|aN<|aA rfl<|bN<|cG (ws:=[.loc a,.loc b]) (w:=.loc a) rfl rfl<|aF ?_
    refine hd T.ca T.ua (fun u hu=>by obtain ⟨p,_,rfl⟩:=YT.mp hu;exact Av p) fun bb hb=>yF rfl ?_;cases bb with
    | false=>exact uY (ur (eN (bad2 fun z=>absurd (hb.mpr z.1) (by decide))))
    | true=>
     have dr:=hb.mp rfl;refine gB<|gq<|gC<|bw<|ao<|aN<|aA rfl<|bN<|cG (ws:=[.loc a,.loc b]) (w:=.loc a) rfl rfl<|ao<|aA rfl<|aF ?_
     refine hc (cO T.ca) (zaX dr) dr.2.1 (Av cl)<|yF rfl ?_
     cases ek:Fp ((s.1.map bC).map DR) (bC cl) with
     | false=>exact uY (eN (bad2 fun z=>absurd (ek.symm.trans z.2) (by decide)))
     | true=>
      refine gB<|cD<|cu ?_
      unfold iz;refine dZ<|cP<|ao<|aN<|aA rfl<|bN<|cG (ws:=[.loc a,.loc b]) (w:=.loc a) rfl rfl ?_
      refine ao<|aN<|aA rfl<|bN<|cG (ws:=[.loc a,.loc b]) (w:=.loc b) rfl rfl ?_
      exact ao<|aA rfl<|aF<|bI rfl<|k s cl es e3 ⟨dr,ek⟩ h2 a b T
def wn (nms:List Str)(p:Str×List Nat):List Str:=p.1::p.2.map fun n=>nms.getD n ""
def BX (nms:List Str):List Str->List (Str×List Nat)->List (List Str)
 | n::ns,p::ps=>(n::wn nms p)::BX nms ns ps
 | _,_=>[]
def Fk (nms:List Str)(ts:List (Str×List Nat))(cl:Str×List Nat):Str:=Ze "; " ((BX nms nms ts++[("claim" : Str)::wn nms cl]).map (Ze " "))
def Wk (x:Str):Prop:=32∉cs x/\59∉cs x
theorem Rv {c:Nat}(h:Cm c=true):c≠32/\c≠59:=by
 unfold Cm low isF at h;rw [Bool.or_eq_true,decide_eq_true_eq,decide_eq_true_eq] at h;lia
theorem Ak {l:List Nat}(h:Ep l=true):∀ c∈l,Cm c=true:=by
 cases l with
 | nil=>cases h
 | cons c l=>
  have h:(decide (l.length<=7)&&low c&&(c::l).all Cm)=true:=h;rw [YM] at h;exact Zf.mp h.2
theorem Qm {x:Str}(h:Ep (cs x)=true):Wk x:=⟨fun z=>(Rv (Ak h _ z)).1 rfl,fun z=>(Rv (Ak h _ z)).2 rfl⟩
theorem uZ {c d:Nat}:∀ {ps:List (List Nat)},c≠d->(∀ p∈ps,c∉p)->c∉glue d ps
 | [],_,_=>by simp [glue]
 | [p],_,h=>h p Yz
 | p::q::ps,hc,h=>by
  rw [glue,Zr,Yq];rintro (z | z | z)
  ·exact h p Yz z
  ·exact hc z
  ·exact uZ hc (fun r hr=>h r<|YH _ hr) z
theorem rZ (ps:List Str):cs (Ze " " ps)=glue 32 (ps.map cs):=by
 have e:Ze " " ps=Et ⟨#[32]⟩ ps:=Kh " " ps;rw [e,rM]
theorem za {ps:List Str}(h:∀ p∈ps,59∉cs p):59∉cs (Ze " " ps):=by
 rw [rZ];refine uZ (by decide) fun p hp=>?_;obtain ⟨y,hy,rfl⟩:=YT.mp hp;exact h y hy
theorem aaW {ls:List (List Str)}(h0:ls≠[])(h:∀ l∈ls,l≠[]/\∀ w∈l,Wk w):mF (Ze "; " (ls.map (Ze " ")))=ls:=by
 unfold mF;rw [wk (by simpa using h0) fun p hp=>by
  obtain ⟨l,hl,rfl⟩:=YT.mp hp;exact za fun w hw=>((h l hl).2 w hw).2,ZC]
 refine (Z0 fun l hl=>?_).trans (List.map_id' _);exact vZ (h l hl).1 fun w hw=>((h l hl).2 w hw).1
structure DP (nms:List Str) (m:Nat):Prop where
 len:nms.length=m
 nd:nms.Nodup
 nm:∀ n∈nms,Ep (cs n)=true
def Ahd (ts:List (Str×List Nat)):Prop:=∀ (i:Nat) (p:Str×List Nat),ts[i]?=Dn p->Wk p.1/\∀ n∈p.2,n<i
theorem rQ {nms:List Str}{m n:Nat}(N:DP nms m)(hn:n<m):Wk (nms.getD n "")/\nms[n]?=Dn (nms.getD n ""):=by
 have hl:n<nms.length:=by rw [N.len];exact hn
 rw [Zi,Yk hl];exact ⟨Qm<|N.nm _<|J4 hl,rfl⟩
theorem Oo {nms:List Str}{m:Nat}{p:Str×List Nat}(N:DP nms m)(hp:Wk p.1)(hn:∀ n∈p.2,n<m):∀ w∈wn nms p,Wk w:=by
 intro w hw;rcases Yq.mp hw with rfl | hw
 ·exact hp
 ·obtain ⟨n,h,rfl⟩:=YT.mp hw;exact (rQ N<|hn n h).1
theorem rY {nms:List Str}:∀ {ns:List Str} {ps:List (Str×List Nat)} {i:Nat} {l:List Str},(BX nms ns ps)[i]?=Dn l->∃ n p,ns[i]?=Dn n/\ps[i]?=Dn p/\l=n::wn nms p
 | [],_,i,l,e=>by simp [BX] at e
 | n::ns,[],i,l,e=>by simp [BX] at e
 | n::ns,p::ps,0,l,e=>by
  cases e;exact ⟨n,p,rfl,rfl,rfl⟩
 | n::ns,p::ps,i+1,l,e=>rY (ns:=ns) (ps:=ps) (i:=i) e
theorem n8 {nms:List Str}:∀ {ns:List Str} {ps:List (Str×List Nat)},ns.length=ps.length->(BX nms ns ps).length=ps.length
 | [],[],_=>rfl
 | _::ns,_::ps,h=>by
  show (BX nms ns ps).length+1=ps.length+1;rw [n8 (Nat.succ.inj h)]
theorem Pb {nms:List Str}{ts:List (Str×List Nat)}{cl:Str×List Nat}(N:DP nms ts.length)(A:Ahd ts)(hp:Wk cl.1)(hn:∀ n∈cl.2,n<ts.length):mF (Fk nms ts cl)=BX nms nms ts++[("claim" : Str)::wn nms cl]:=by
 refine aaW (by simp) fun l hl=>?_;rcases Zr.mp hl with hl | hl
 ·obtain ⟨i,hi,e⟩:=Jh hl;obtain ⟨n,p,en,ep,rfl⟩:=rY ((Yk hi).trans (congrArg Dn e));have hlt:i<ts.length:=(Yn.mp ep).1;refine ⟨ZR _ _,fun w hw=>?_⟩;rcases Yq.mp hw with rfl | hw
  ·exact Qm<|N.nm _<|YL en
  ·exact Oo N (A i p ep).1 (fun n h=>Nat.lt_trans ((A i p ep).2 n h) hlt) w hw
 ·rw [Y0.mp hl];refine ⟨ZR _ _,fun w hw=>?_⟩;rcases Yq.mp hw with rfl | hw
  ·exact ⟨by decide +kernel,by decide +kernel⟩
  ·exact Oo N hp hn w hw
theorem Cv {nms:List Str}{m k:Nat}{ns:List Nat}(N:DP nms m)(hk:k<=m)(hn:∀ n∈ns,n<k):(∀ y∈ns.map (fun n=>nms.getD n ""),y∈nms.take k)/\(ns.map fun n=>nms.getD n "").map (uQ (nms.take k))=ns:=by
 have key:∀ n∈ns,(nms.take k)[n]?=Dn (nms.getD n ""):=fun n h=>by
  rw [List.getElem?_take_of_lt (hn n h)];exact (rQ N<|Yl (hn n h) hk).2
 refine ⟨fun y hy=>?_,?_⟩
 ·obtain ⟨n,h,rfl⟩:=YT.mp hy;exact YL<|key n h
 ·rw [ZC];refine (Z0 fun n h=>?_).trans (List.map_id' _);exact aaL (N.nd.sublist<|List.take_sublist _ _)<|key n h
theorem Al {nms:List Str}{ts:List (Str×List Nat)}(N:DP nms ts.length)(A:Ahd ts):Dl ([],[]) (BX nms nms ts)=Dn (ts,nms):=by
 have ll:=n8 (nms:=nms) (ns:=nms) (ps:=ts) N.len;have key:∀ i,i<=ts.length->Dl ([],[]) ((BX nms nms ts).take i)=Dn (ts.take i,nms.take i):=by
  intro i;induction i with
  | zero=>intro _;rfl
  | succ i ih=>
   intro hi;have h1:i<(BX nms nms ts).length:=by rw [ll];exact hi
   have e1:(BX nms nms ts)[i]?=Dn (BX nms nms ts)[i]:=Yk h1;obtain ⟨n,p,en,ep,el⟩:=rY e1;rw [qW (ih (Nat.le_of_succ_le hi)) e1,el];obtain ⟨b1,b2⟩:=Cv (k:=i) N (Nat.le_of_succ_le hi) (A i p ep).2;rw [show wn nms p=p.1::p.2.map fun n=>nms.getD n "" from rfl,vV ⟨N.nm n (YL en),fun z=>?_,b1⟩,b2,Zn,Zn,ep,en]
   ·rfl
   ·obtain ⟨j,hj,e⟩:=Jh z;rw [Zo] at hj;rw [List.getElem_take] at e;obtain ⟨q1,q2⟩:=Yn.mp en;exact List.pairwise_iff_getElem.mp N.nd j i (by lia) q1 (by lia)<|e.trans q2.symm
 have:=key ts.length (Ym _)
 rw [Za,<-N.len,Za,N.len,<-ll,Za] at this;exact this
theorem Cw {nms:List Str}{ts:List (Str×List Nat)}{cl:Str×List Nat}(N:DP nms ts.length)(hn:∀ n∈cl.2,n<ts.length):rdC (ts,nms) ("claim"::wn nms cl)=Dn cl:=by
 obtain ⟨b1,b2⟩:=Cv (k:=ts.length) N (Ym _) hn;rw [<-N.len,Za] at b1 b2;rw [show wn nms cl=cl.1::cl.2.map fun n=>nms.getD n "" from rfl,CZ (st:=(ts,nms)) ⟨rfl,b1⟩,b2]
def Sz (p:Str×List Nat):Prop:=p.1.length<=8/\p.2.length<=6
theorem sX {y:Str}{B:Nat}:∀ {ps:List Str},(∀ p∈ps,p.length<=B)->(Ze y ps).length<=ps.length*(B+y.length):=by
 intro ps h;have e:Ze y ps=Et y ps:=Kh y ps;rw [e];clear e;induction ps with
 | nil=>exact J8 _
 | cons p ps ih=>
  cases ps with
  | nil=>
   have:=h p Yz
   show p.length<=1*(B+y.length);lia
  | cons q ps=>
   have h1:=h p Yz;have h2:=ih fun r hr=>h r (YH _ hr)
   show (p++y++Et y (q::ps)).length<=((q::ps).length+1)*(B+y.length);rw [Y4,Y4,Nat.succ_mul];lia
theorem zJ {l:List Nat}(h:Ep l=true):l.length<=8:=by
 cases l with
 | nil=>cases h
 | cons c l=>
  have h:(decide (l.length<=7)&&low c&&(c::l).all Cm)=true:=h;rw [YM,YM,decide_eq_true_eq] at h;have:=h.1.1
  rw [YB];lia
theorem wB {nms:List Str}{m n:Nat}(N:DP nms m)(hn:n<m):(nms.getD n "").length<=8:=by
 have h:=(rQ N hn).2;rw [<-eF];exact zJ<|N.nm _<|YL h
theorem Cd {nms:List Str}{m:Nat}{p:Str×List Nat}(N:DP nms m)(hs:Sz p)(hn:∀ n∈p.2,n<m):(∀ w∈wn nms p,w.length<=8)/\(wn nms p).length<=7:=by
 refine ⟨fun w hw=>?_,?_⟩
 ·rcases Yq.mp hw with rfl | hw
  ·exact hs.1
  ·obtain ⟨n,h,rfl⟩:=YT.mp hw;exact wB N<|hn n h
 ·show (p.2.map _).length+1<=7;rw [Yd];exact Nat.succ_le_succ hs.2
theorem xJ {nms:List Str}{m:Nat}{p:Str×List Nat}(N:DP nms m)(hs:Sz p)(hn:∀ n∈p.2,n<m):(Ze " " (wn nms p)).length<=63:=by
 have h:=Cd N hs hn;have:=sX (y := " ") h.1
 have e:(" " : Str).length=1:=rfl;rw [e] at this;have:=Nat.mul_le_mul_right (8+1) h.2
 lia
theorem eU {x:Str}{l:List Str}(h:l≠[]):Ze " " (x::l)=x ++ " "++Ze " " l:=by
 refine nO ?_;rw [rZ,dj,dj,rZ];cases l with
 | nil=>exact absurd rfl h
 | cons y l=>
  show cs x++32::glue 32 _=cs x++[32]++glue 32 _;rw [ZG];rfl
theorem qH {y:Str}:∀ {l:List Str},l≠[]->Ze " " (l++[y])=Ze " " l ++ " "++y
 | [],h=>absurd rfl h
 | [x],_=>by
  rw [List.singleton_append,eU (by simp)];rfl
 | x::z::l,_=>by
  rw [Kf,eU (by simp),eU (l:=z::l) (by simp),qH (l:=z::l) (by simp)];exact nO<|by simp only [dj,ZG]
theorem gY {a b:Str}{h:Gh}{Q:WK}(hz:a.length+b.length<=100000)(q:Q (.str (a++b)) h):jc (.str a) (.str b) h Q:=⟨Dz hz,q⟩
theorem zM {nv:W}{nms:List Str}{n:Nat}{h:Gh}{Q:WK}(hv:view h nv=Dn (nms.map .str))(hn:n<nms.length)(q:Q (.str (nms.getD n "")) h):W9 nv (.int (n:Nat)) h Q:=
 cG hv (bF (by rw [Yo,Yk hn,Ka,Zi,Yk hn];rfl)) q
def WsX (c0:VR):Prop:=∀ {h:Gh} {nv:W} {nms:List Str} {m:Nat} {p:Str×List Nat} {Q:WK} {E:X4},view h nv=Dn (nms.map .str)->DP nms m->Sz p->(∀ n∈p.2,n<m)->Q (.str (Ze " " (wn nms p))) h->c0 [bC p,nv] h Q E
theorem Ml:WsX pA:=by
 intro h nv nms m p Q E hv N hs hn k;obtain ⟨x,ns⟩:=p;unfold pA;refine lR rfl (Z:=[Dn<|bC (x,ns),Dn nv,FN,FN]) rfl ?_;refine aM<|aX<|aN<|aA rfl<|bN<|cG (ws:=.str x::ns.map fun n:Nat=>.int n) (w:=.str x) rfl (bF (j:=0) rfl)<|nV<|cu<|aM<|pH<|Jr (u:=.str x) (us:=ns.map fun n:Nat=>.int n) rfl<|mq ?_
 refine lQ (fun i Z h'=>h'=h/\∃ a3,Z = [Dn<|bC (x,ns),Dn nv,Dn<|.str<|Ze " " (x::(ns.take i).map fun n=>nms.getD n ""),a3]) ?_ ?_ ⟨rfl,FN,rfl⟩
 ·rintro i w Z h' R hR e ⟨rfl,a3,rfl⟩;rw [Yo] at e;obtain ⟨n,en,rfl⟩:=Yy.mp e;have hm:n∈ns:=YL en;have hl:(Ze " " (x::(ns.take i).map fun n=>nms.getD n "")).length<=63:=
   xJ (p:=(x,ns.take i)) N ⟨hs.1,by have:=hs.2;rw [Zo];show min i ns.length<=6;have h6:ns.length<=6:=hs.2;lia⟩ fun n h=>hn n (List.mem_of_mem_take h)
  have h8:=wB N (hn n hm);refine nV<|aX<|aN<|aN<|aA rfl<|bN<|gY (YS (Nat.add_le_add_right hl _)<|by decide) ?_
  refine aN<|aA rfl<|aA rfl<|zM hv (by rw [N.len];exact hn n hm)<|gY ?_<|nV<|hR _ _ ⟨rfl,Dn<|.int n,?_⟩
  ·rw [Y4];have:(" " : Str).length=1:=rfl
   lia
  ·rw [<-qH (ZR _ _),Zn,en,YK];rfl
 ·rintro Z h' ⟨rfl,a3,rfl⟩;rw [Yd,Za];unfold oJ;exact cu<|dZ<|aA rfl k
def Uu (c0:VR):Prop:=∀ {h:Gh} {nv:W} {nms:List Str} {m:Nat} {p:Str×List Nat} {Q:WK} {E:X4},view h nv=Dn (nms.map .str)->DP nms m->Sz p->(∀ n∈p.2,n<m)->Q (.lst ((wn nms p).map .str)) h->c0 [bC p,nv] h Q E
theorem vQ:Uu je:=by
 intro h nv nms m p Q E hv N hs hn k;obtain ⟨x,ns⟩:=p;have h6:ns.length<=6:=hs.2;unfold je;refine lR rfl (Z:=[Dn<|bC (x,ns),Dn nv]) rfl ?_;refine dZ<|aN<|cZ<|ao<|aN<|aA rfl<|bN<|cG (ws:=.str x::ns.map fun n:Nat=>.int n) (w:=.str x) rfl (bF (j:=0) rfl)<|aF<|bI rfl<|lN<|Jr (u:=.str x) (us:=ns.map fun n:Nat=>.int n) rfl ?_
 refine jD.mk (by rw [Yd];exact Dz (by lia)) ?_;refine fJ (fun i acc h'=>h'=h/\acc=((ns.take i).map fun n=>nms.getD n "").map .str) ?_ ?_ ⟨rfl,rfl⟩
 ·rintro i w acc h' R hR e ⟨rfl,rfl⟩;rw [Yo] at e;obtain ⟨n,en,rfl⟩:=Yy.mp e;refine ⟨[.int (n:Nat)],rfl,gZ<|eZ<|aN<|aA rfl<|aA rfl<|zM hv (by rw [N.len];exact hn n (YL en))<|hR _ _ ⟨rfl,?_⟩⟩;rw [Zn,en];simp
 ·rintro acc h' ⟨rfl,rfl⟩;rw [Yd,Za];refine Kw (a:=[.str x]) ?_ ?_
  ·rw [Yd,Yd];show 1+ns.length<=1000;lia
  ·exact k
theorem uJ:∀ ys:List Str,vh (ys.map .str)=Dn ys
 | []=>rfl
 | y::ys=>by
  show (vh (ys.map .str)).map (y::·)=_;rw [uJ ys];rfl
theorem Ii {w:W}{a:Str}{ys:List Str}{B:Nat}{h:Gh}{Q:WK}(e:cC h w=Dn (ys.map .str))(hB:∀ y∈ys,y.length<=B)(hz:ys.length*B+ys.length*a.length<=16777216)(q:Q (.str (Ze a ys)) h):vC (.str a) [w] h Q:=by
 show (match cC h w with
  | some us=>(match vh us with
   | some ys=>(ys.map fun x=>x.length).sum+ys.length*a.length<=16777216/\Q (.str (Ze a ys)) h
   | none=>False)
  | none=>False)
 rw [e];dsimp only;rw [uJ];refine ⟨?_,q⟩;have:=StrLaws.sumLen_le ys hB
 lia
def ShX (c0:VR):Prop:=∀ {h:Gh} {nms:List Str} {ts:List (Str×List Nat)} {cl:Str×List Nat} {Q:WK} {E:X4},DP nms ts.length->(∀ p∈ts,Sz p/\∀ n∈p.2,n<ts.length)->ts.length<=24->Sz cl->(∀ n∈cl.2,n<ts.length) ->
 Q (.str (Fk nms ts cl)) h->c0 [.lst (ts.map bC),.lst (nms.map .str),bC cl] h Q E
theorem Vu {h h':Gh}{x:Str}{Q:WK}(k:Kp h h')(q:Q (.str x) h):pO true h (.str x) h' Q:=⟨fun m c hm e=>(k.2 m hm).trans e,.inl ⟨by simp [Lo],q⟩⟩
theorem Qt {i:Nat}{ws:List W}{Z : Sw}{h:Gh}{R:Src->Gh->Prop}(hv:Z[i]?=Dn (Dn (.lst ws)))(k:R ⟨enW 0 ws,FN⟩ h):JW (au (aG i) aO) Z h R:=ao (aA hv (aF k))
theorem CP {nms:List Str}:∀ {ns:List Str} {ps:List (Str×List Nat)} {i:Nat} {n:Str} {p:Str×List Nat},ns[i]?=Dn n->ps[i]?=Dn p->(BX nms ns ps)[i]?=Dn (n::wn nms p)
 | [],_,i,_,_,e,_=>by simp at e
 | n::ns,[],i,_,_,_,e=>by simp at e
 | n::ns,p::ps,0,_,_,e,e'=>by cases e;cases e';rfl
 | n::ns,p::ps,i+1,_,_,e,e'=>CP (ns:=ns) (ps:=ps) (i:=i) e e'
theorem Gq {c0:VR}(hw:Uu c0){h:Gh}{Z : Sw}{mh mr mn:ME}{E:X4}{nms:List Str}{m:Nat}{x:Str}{p:Str×List Nat}{Q:WK}(h1:∀ R:WK,R (.str x) h->mh Z h R)(h2:∀ R:WK,R (bC p) h->mr Z h R)(h3:∀ R:WK,R (.lst (nms.map .str)) h->mn Z h R)
  (N:DP nms m) (hs:Sz p) (hn:∀ n∈p.2,n<m) (hx:x.length<=8) (k:Q (.str (Ze " " (x::wn nms p))) h) :
  G4 vC (mC (.str " ")) (au (Mk fj (pL (au mh aO)) (bM c0 E (au mr (au mn aO)))) aO) Z h Q:=by
 obtain ⟨l1,l2⟩:=Cd N hs hn;refine Ej (fun R q=>bN q)<|ao<|aN<|cZ<|ao<|h1 _<|aF<|bI rfl<|bw<|ao<|h2 _<|ao<|h3 _<|aF ?_
 refine hw (nms:=nms) (m:=m) rfl N hs hn<|Kw (a:=[.str x]) ?_ ?_
 ·rw [Yd];show 1+(wn nms p).length<=1000;lia
 ·refine aF<|Ii (ys:=x::wn nms p) (B:=8) rfl (fun y hy=>?_) ?_ k
  ·rcases Yq.mp hy with rfl | hy
   ·exact hx
   ·exact l1 y hy
  ·have e1:(" " : Str).length=1:=rfl;rw [YB,e1];lia
theorem Bp {nms:List Str}{ts:List (Str×List Nat)}(N:DP nms ts.length)(hs:∀ p∈ts,Sz p/\∀ n∈p.2,n<ts.length):∀ l∈BX nms nms ts,(Ze " " l).length<=72:=by
 intro l hl;obtain ⟨i,hi,e⟩:=Jh hl;obtain ⟨n,p,en,ep,rfl⟩:=rY ((Yk hi).trans (congrArg Dn e));obtain ⟨s1,s2⟩:=hs p (YL ep);obtain ⟨l1,l2⟩:=Cd N s1 s2;have h8:n.length<=8:=by rw [<-eF];exact zJ (N.nm n (YL en))
 have:=sX (y := " ") (B:=8) (ps:=n::wn nms p) fun q hq=>by
  rcases Yq.mp hq with rfl | hq
  ·exact h8
  ·exact l1 q hq
 have e1:(" " : Str).length=1:=rfl;rw [e1,YB] at this;have:=Nat.mul_le_mul_right (8+1) (Nat.succ_le_succ l2)
 lia
theorem GD {nms:List Str}{m:Nat}{p:Str×List Nat}(N:DP nms m)(hs:Sz p)(hn:∀ n∈p.2,n<m):(Ze " " (("claim" : Str)::wn nms p)).length<=72:=by
 rw [eU (l:=wn nms p) (ZR _ _),Y4,Y4];have:=xJ N hs hn
 have:(" " : Str).length=1:=rfl
 have:("claim" : Str).length=5:=rfl
 lia
theorem O6 {c0:VR}(hw:Uu c0):ShX (fQ c0):=by
 intro h nms ts cl Q E N hs hl sc hc k;have ll:=n8 (nms:=nms) (ns:=nms) (ps:=ts) N.len;unfold fQ;refine BR rfl (Z:=[Dn<|.lst<|ts.map bC,Dn<|.lst<|nms.map .str,Dn<|bC cl,FN]) rfl ?_;refine aM<|aX<|Ip<|lN<|Qt rfl ?_
 refine jD.mk (by rw [rD,Yd];exact Dz (by lia)) ?_;refine fJ (fun i acc h'=>h'=h/\acc=(((BX nms nms ts).take i).map (Ze " ")).map .str) ?_ ?_ ⟨rfl,rfl⟩
 ·rintro i w acc h' R hR e ⟨rfl,rfl⟩;obtain ⟨u,eu,rfl⟩:=vP e;rw [Yo] at eu;obtain ⟨p,ep,rfl⟩:=Yy.mp eu;obtain ⟨s1,s2⟩:=hs p (YL ep);have hi:i<ts.length:=(Yn.mp ep).1;obtain ⟨_,en⟩:=rQ N hi;rw [Jy];refine ⟨[.int (i:Nat),bC p],rfl,gZ<|eZ ?_⟩;refine Gq hw (fun R q=>aN<|aA rfl<|aA rfl<|zM (nms:=nms) rfl (by rw [N.len];exact hi) q) (fun R q=>aA rfl q) (fun R q=>aA rfl q) N s1 s2 (wB N hi)<|hR _ _ ⟨rfl,?_⟩
  rw [Zn,CP en ep];simp
 ·rintro acc h' ⟨rfl,rfl⟩;rw [rD,Yd,<-ll,Za];refine QL fun g gc go gn=>?_;have kp:Kp h' g:=⟨by rw [gn];exact Ew _,fun m hm=>go m (Yv hm)⟩
  refine nV<|cu<|aM<|fU<|jV<|aA rfl<|gJ gc<|ao ?_
  refine Gq hw (fun R q=>bN q) (fun R q=>aA rfl q) (fun R q=>aA rfl q) N sc hc (by decide)<|aF ?_
  refine yS gc (by rw [Yd,Yd,ll];lia) fun g2 gc2 go2 gn2=>?_;refine cu<|dZ<|Ej (fun R q=>bN q)<|ao<|aA rfl<|aF ?_
  have e:((BX nms nms ts).map (Ze " ")).map W.str++[W.str (Ze " " (("claim" : Str)::wn nms cl))]=(((BX nms nms ts++[("claim" : Str)::wn nms cl]).map (Ze " ")).map .str):=by
   rw [YK,YK];rfl
  rw [e] at gc2;refine Ii (ys:=(BX nms nms ts++[("claim" : Str)::wn nms cl]).map (Ze " ")) (B:=72) (by simp only [cC,gc2]) (fun y hy=>?_) ?_<|Vu ⟨by rw [gn2];exact kp.1,fun m hm=>(go2 m<|Yv hm).trans (kp.2 m hm)⟩ k
  ·obtain ⟨l,hl,rfl⟩:=YT.mp hy;rcases Zr.mp hl with hl | hl
   ·exact Bp N hs l hl
   ·rw [Y0.mp hl];exact GD N sc hc
  ·rw [Yd,Yw,ll];have e1:("; " : Str).length=2:=rfl;rw [e1];show (ts.length+1)*72+(ts.length+1)*2<=_;lia
def M4:List (Key×W):=[(.inr "join",.str "line"),(.inr "about",.str "line"),(.inr "curve",.str "curve")]
theorem Lz (x:Str):(nY M4 (.inr x)).getD (.str "spot")=.str (vA x):=by
 by_cases e1:x = "join"
 ·subst e1;rfl
 by_cases e2:x = "about"
 ·subst e2;rfl
 by_cases e3:x = "curve"
 ·subst e3;rfl
 have e4:nY M4 (.inr x)=FN:=by
  simp [nY,M4,J3,Bk e1,Bk e2,Bk e3]
 rw [e4];unfold vA;rw [if_neg e1,if_neg e2,if_neg e3];rfl
def Wr (c0:VR):Prop:=∀ {h:Gh} {x:Str} {Q:WK} {E:X4},(∀ h',Nw1 h h'->Q (.str (vA x)) h')->c0 [.str x] h Q E
theorem O7:Wr wZ:=by
 intro h x Q E k;show (match (h.new (.dct [])).c h.nx with
  | some (.dct [])=>_
  | _=>False)
 rw [zE];show (match (((h.new (.dct [])).set h.nx (.dct M4)).c h.nx) with
  | some (.dct _)=>_
  | _=>False)
 rw [yD];show (match (((h.new (.dct [])).set h.nx (.dct M4)).c h.nx),Ou (.str x) with
  | some (.dct kvs),Dn k=>_
  | _,_=>False)
 rw [yD];show Q ((nY M4 (.inr x)).getD (.str "spot")) _;rw [Lz];exact k _ ⟨fun m hm=>by rw [uc hm,qC hm],rfl⟩
def E0 (L:List Nat)(t f k:Nat):List Nat:=L.take t++(97+(f+k) % 26)::L.drop (t+1)
def Bs (L:List Nat)(n:Nat):Prop:=L.length=n/\(∀ c,L.head?=Dn c->low c=true)/\∀ c∈L,Cm c=true
theorem Oq (n:Nat):low (97+n % 26)=true:=by
 unfold low;rw [decide_eq_true_eq];lia
theorem zT {c:Nat}(h:low c=true):Cm c=true:=by unfold Cm;rw [h];rfl
theorem Q7 {L:List Nat}{n t f k:Nat}(b:Bs L n)(h8:n<=8)(ht:t<n):Ep (E0 L t f k)=true:=by
 have hl:(E0 L t f k).length=n:=by
  unfold E0;rw [Yw,YB,Zo,J5,b.1];lia
 have ha:∀ c∈E0 L t f k,Cm c=true:=by
  intro c hc;unfold E0 at hc;rcases Zr.mp hc with hc | hc
  ·exact b.2.2 c<|List.mem_of_mem_take hc
  ·rcases Yq.mp hc with rfl | hc
   ·exact zT<|Oq _
   ·exact b.2.2 c<|List.mem_of_mem_drop hc
 have hh:∀ c,(E0 L t f k).head?=Dn c->low c=true:=by
  intro c hc;cases t with
  | zero=>cases hc;exact Oq _
  | succ t=>
   cases L with
   | nil=>have:=b.1;simp at this;lia
   | cons d L=>exact b.2.1 c hc
 cases e:E0 L t f k with
 | nil=>rw [e] at hl;simp at hl;lia
 | cons c l=>
  rw [e] at hl ha hh;show (decide (l.length<=7)&&low c&&(c::l).all Cm)=true;rw [YB] at hl;rw [decide_eq_true (by lia),hh c rfl,Zf.mpr ha];rfl
theorem Lq {L:List Nat}{n t f k k':Nat}(b:Bs L n)(ht:t<n)(hk:k<26)(hk':k'<26)(e:E0 L t f k=E0 L t f k'):k=k':=by
 unfold E0 at e;have:=List.append_cancel_left e
 have:=(List.cons.inj this).1
 lia
theorem HJ (l:List Nat):(tx l).length=l.length:=by rw [<-eF,kh]
def nmL (L:List Nat)(t f m:Nat):List Str:=(ZX m).map fun k=>tx (E0 L t f k)
theorem Oc {L:List Nat}{n t f m:Nat}(b:Bs L n)(h8:n<=8)(ht:t<n)(hm:m<=26):DP (nmL L t f m) m:=by
 refine ⟨by unfold nmL;rw [Yd,List.length_range],?_,fun x hx=>?_⟩
 ·unfold nmL;refine List.pairwise_map.mpr ?_;refine List.nodup_range.imp_of_mem fun {a c} ha hc ne e=>ne ?_;have e:tx (E0 L t f a)=tx (E0 L t f c):=e;have e2:=congrArg cs e;rw [kh,kh] at e2;rw [Ju] at ha hc;exact Lq b ht (by lia) (by lia) e2
 ·obtain ⟨k,_,rfl⟩:=YT.mp hx;rw [kh];exact Q7 b h8 ht
theorem Ue {x:Str}{t:Nat}{h:Gh}{Q:WK}(hx:x.length<=100)(ht:t<=x.length)(q:Q (.str (tx ((cs x).take t))) h):M6 (.str x) FN (Dn (t:Int)) h Q:=by
 have hl:=eF x;have e:Jg x FN (Dn (t:Int))=tx ((cs x).take t):=by
  rw [StrLaws.sliceText_to (j:=(t:Int)) ⟨KJ _,by show (t:Int)<=((cs x).length:Int);lia⟩];show tx _=tx _;congr 1
 refine ⟨?_,by rw [e];exact q⟩;rw [e,<-eF,kh,Zo];exact Dz<|by lia
theorem Uj {x:Str}{t:Nat}{h:Gh}{Q:WK}(hx:x.length<=100)(ht:t<=x.length)(q:Q (.str (tx ((cs x).drop t))) h):M6 (.str x) (Dn (t:Int)) FN h Q:=by
 have hl:=eF x;have e:Jg x (Dn (t:Int)) FN=tx ((cs x).drop t):=by
  rw [StrLaws.sliceText_from (i:=(t:Int)) ⟨KJ _,by show (t:Int)<=((cs x).length:Int);lia⟩];show tx (((cs x).drop t).take _)=tx _;congr 1
  rw [Kq];rw [J5];show (cs x).length - t<=(((cs x).length:Int) - t).toNat;lia
 refine ⟨?_,by rw [e];exact q⟩;rw [e,<-eF,kh,J5];exact Dz<|by lia
theorem Il {d:Int}(h0:0<=d)(h1:d<26):CK (cs LET) d=Dn (97+d.toNat):=by
 obtain ⟨n,rfl⟩:=K1 h0;refine bF ?_;rw [ZQ,rE];have:∀ n:Nat,n<26->([97,98,99,100,101,102,103,104,105,106,107,108,109,110,111,112,113,114,115,116,117,118,119,120,121,122]:List Nat)[n]?=Dn (97+n):=by decide
 exact this n<|by lia
theorem Vg {d:Int}(h0:0<=d)(h1:d<36):∃ c,CK (cs (LET++("0123456789" : Str))) d=Dn c/\Cm c=true:=by
 obtain ⟨n,rfl⟩:=K1 h0;have e:cs (LET++("0123456789" : Str))=[97,98,99,100,101,102,103,104,105,106,107,108,109,110,111,112,113,114,115,116,117,118,119,120,121,122,48,49,50,51,52,53,54,55,56,57]:=by
  rw [dj,rE,wM];rfl
 rw [e];have:∀ n:Nat,n<36->∃ c,([97,98,99,100,101,102,103,104,105,106,107,108,109,110,111,112,113,114,115,116,117,118,119,120,121,122,48,49,50,51,52,53,54,55,56,57]:List Nat)[n]?=Dn c/\Cm c=true:=by
  intro n hn;have h2:n<([97,98,99,100,101,102,103,104,105,106,107,108,109,110,111,112,113,114,115,116,117,118,119,120,121,122,48,49,50,51,52,53,54,55,56,57]:List Nat).length:=hn;refine ⟨_,Yk h2,?_⟩;have al:∀ c∈([97,98,99,100,101,102,103,104,105,106,107,108,109,110,111,112,113,114,115,116,117,118,119,120,121,122,48,49,50,51,52,53,54,55,56,57]:List Nat),Cm c=true:=by decide
  exact al _<|J4 h2
 obtain ⟨c,h1,h2⟩:=this n (by lia);exact ⟨c,bF h1,h2⟩
def VN (c0:VR):Prop:=∀ {h:Gh} {b m:Nat} {Q:WK} {E:X4},Ba h b->m<=24->(∀ nms h',DP nms m->Ba h' b->Cy b h h'->Q (.lst (nms.map .str)) h')->c0 [.loc b,.int (m:Int)] h Q E
theorem abe {c0:VR}(hd:jk c0):VN (pJ c0):=by
 intro h b m Q E hb hm k;unfold pJ;refine lR rfl (Z:=[Dn<|.loc b,Dn<|.int m,FN,FN,FN,FN,FN,FN]) rfl ?_;refine aM<|aX<|bN<|nV<|cu<|aM<|aX<|aN<|bN<|bw<|ao<|aA rfl<|ao<|bN<|aF ?_
 refine hd hb (by decide) (by unfold Sm;decide) fun d1 h1 a0 a1 hb1 o1=>pC<|nV<|cu ?_
 obtain ⟨s,rfl⟩:=K1 a0;have hs:s<8:=by lia
 have e1:(1:Int)+(s:Int)=((s+1:Nat):Int):=by lia
 rw [e1];refine aM<|aX<|bw<|ao<|aA rfl<|ao<|aA rfl<|aF ?_
 refine hd hb1 (by lia) (by unfold Sm;lia) fun d2 h2 b0 b1 hb2 o2=>nV<|cu ?_
 obtain ⟨t,rfl⟩:=K1 b0;have ht:t<s+1:=by lia
 refine aM<|aX<|aN<|aA rfl<|bw<|ao<|aA rfl<|ao<|bN<|aF ?_
 refine hd hb2 (by decide) (by unfold Sm;decide) fun d3 h3 c0' c1' hb3 o3=>Ey (by decide) (Il c0' c1')<|nV<|cu ?_
 have bs0:Bs (cs (⟨#[97+d3.toNat]⟩:Str)) (0+1):=by
  refine ⟨rfl,fun c hc=>?_,fun c hc=>?_⟩
  ·cases hc;unfold low;rw [decide_eq_true_eq];lia
  ·have:c=97+d3.toNat:=by simpa [cs] using hc
   rw [this];refine zT ?_;unfold low;rw [decide_eq_true_eq];lia
 refine aM ?_;refine aaZ (ma:=au (Mk KQ (aG 3)<|mC<|.int 1) aO) (j:=(s:Int)) (fun R=>?_) (by lia) (by lia) (fun i Z h'=>∃ x a6,Bs (cs x) (i+1)/\Z = [Dn<|.loc b,Dn<|.int m,Dn<|.str LET,Dn<|.int ((s+1:Nat):Int),Dn<|.int (t:Int),Dn<|.str x,a6,FN]/\Ba h' b/\Cy b h h') ?_ ?_ ⟨_,_,bs0,rfl,hb3,(o1.trans o2).trans o3⟩
 ·show R [.int (((s+1:Nat):Int) - 1)] h3=_;have:(((s+1:Nat):Int) - 1)=(s:Int):=by lia
  rw [this]
 ·rintro i Z h' N hN hi ⟨x,a6,bx,rfl,hb',o'⟩;have hx:x.length=i+1:=by rw [<-eF];exact bx.1
  rw [ZQ] at hi;refine nV<|aX<|aN<|aA rfl<|aN<|aN<|aA rfl<|bN<|gY (a:=LET) (by decide)<|bw<|ao<|aA rfl<|ao<|bN<|aF ?_
  refine hd hb' (by decide) (by unfold Sm;decide) fun d4 h4 f0 f1 hb4 o4=>?_;obtain ⟨c,ec,lc⟩:=Vg f0 f1;refine Ey (by decide) ec<|gY ?_<|nV<|hN _ _ ⟨_,_,?_,rfl,hb4,o'.trans o4⟩
  ·have:(⟨#[c]⟩:Str).length=1:=rfl
   lia
  ·rw [dj];refine ⟨by rw [Yw,bx.1];rfl,fun e he=>?_,fun e he=>?_⟩
   ·cases ex:cs x with
    | nil=>have:=bx.1;rw [ex] at this;simp at this
    | cons y l=>rw [ex] at he bx;exact bx.2.1 e he
   ·rcases Zr.mp he with he | he
    ·exact bx.2.2 e he
    ·have:e=c:=by simpa [cs] using he
     rw [this];exact lc
 ·rintro Z h' ⟨x,a6,bx,rfl,hb',o'⟩;rw [ZQ] at bx;have hx:x.length=s+1:=by rw [<-eF];exact bx.1
  unfold nU;refine cu<|aM<|aX<|bw<|ao<|aA rfl<|ao<|bN<|aF ?_
  refine hd hb' (by decide) (by unfold Sm;decide) fun d5 h5 f0 f1 hb5 o5=>nV<|cu ?_
  obtain ⟨f,rfl⟩:=K1 f0;refine dZ<|lN<|oM<|ao<|aA rfl<|aF<|zj (m:=m) (by lia) ?_
  refine v7 (by rw [Yd];unfold rng;rw [ZL];exact Nat.ble_eq.mpr (by lia)) ?_;refine fJ (fun i acc h'=>h'=h5/\acc=(nmL (cs x) t f i).map .str) ?_ ?_ ⟨rfl,rfl⟩
  ·rintro i w acc h' N hN e ⟨rfl,rfl⟩;rw [Yo] at e;obtain ⟨y,ey,rfl⟩:=Yy.mp e;have e0:=(jR ey).1;rw [Jy] at e0;subst e0;refine ⟨[.int (y:Int)],rfl,gZ<|eZ<|aN<|aN<|qQ<|aA rfl<|dg<|fY<|aA rfl<|Dg<|Ue (by lia) (by lia) ?_ ⟩;refine aN<|aA rfl<|aN<|aN<|aA rfl<|aA rfl<|pC<|bN<|zH (by decide) ?_
   have em:((f:Int)+(y:Int)).fmod 26=(((f+y) % 26:Nat):Int):=by
    rw [fH (by decide)];lia
   rw [em];refine Ey (by decide) (Il (by lia)<|by lia)<|gY ?_ ?_
   ·rw [<-eF,kh,Zo];show _+1<=_;lia
   ·refine qQ<|aA rfl<|fY<|aN<|aA rfl<|bN<|pC<|Dg<|dg ?_
    rw [show ((t:Int)+1)=((t+1:Nat):Int) from rfl];refine Uj (by lia) (by lia)<|gY ?_<|hN _ _ ⟨rfl,?_⟩
    ·rw [Y4,HJ,HJ,Zo,J5];have hl:=eF x;show _+1+_<=_;lia
    ·unfold nmL;rw [List.range_succ,YK,YK];congr 1
     show [W.str _]=[W.str _];congr 2
     refine nO ?_;rw [dj,dj,kh,kh,kh,ZQ];unfold E0;rw [ZG];rfl
  ·rintro acc h' ⟨rfl,rfl⟩;rw [Yd];unfold rng;rw [ZL,Nat.sub_zero];exact k _ _ (Oc bx (by lia) ht<|by lia) hb5<|o'.trans o5
def Bf (js:List Nat):W:=.lst (js.map fun j:Nat=>W.int (j:Int))
theorem zN {ws:List W}{i:Int}(h1:-(ws.length:Int)<=i)(h2:i<ws.length):∃ w,CK ws i=Dn w/\w∈ws:=by
 have:∃ j:Nat,Ea ws.length i=Dn j/\j<ws.length:=by
  unfold Ea;by_cases c:0<=i
  ·rw [if_pos c,if_pos h2];exact ⟨_,rfl,by lia⟩
  ·rw [if_neg c,if_pos h1];exact ⟨_,rfl,by lia⟩
 obtain ⟨j,e,hj⟩:=this;exact ⟨ws[j],by unfold CK;rw [e];exact Yk hj,J4 hj⟩
theorem ixJ {js:List Nat}{i:Int}{h:Gh}{Q:WK}(h1:-(js.length:Int)<=i)(h2:i<js.length)(k:∀ j∈js,Q (.int (j:Nat)) h):W9 (Bf js) (.int i) h Q:=by
 obtain ⟨w,e,hw⟩:=zN (ws:=js.map fun j:Nat=>W.int (j:Int)) (i:=i) (by rw [Yd];exact h1) (by rw [Yd];exact h2);obtain ⟨j,hj,rfl⟩:=YT.mp hw;exact cG rfl e<|k j hj
theorem vI {js:List Nat}{h:Gh}{Q:WK}(k:Q (.bl (decide (js≠[]))) h):Cp (Bf js) (.lst []) h Q:=by
 have p:WR 30 (Bf js)=true:=by
  show ((js.map fun j:Nat=>W.int (j:Int)).all (WR 29))=true;refine Zf.mpr fun w hw=>?_;obtain ⟨j,_,rfl⟩:=YT.mp hw;rfl
 have e:(!Wj (Bf js) (.lst []))=decide (js≠[]):=by
  cases js with
  | nil=>rfl
  | cons j js=>rfl
 show AP (WR 30 (Bf js)&&WR 30 (.lst [])) (Q (.bl (!Wj (Bf js) (.lst []))) h) False;rw [p,e];exact k
def Js (ss:List Str)(s:Str)(js:List Nat):Prop:=(∀ j∈js,ss[j]?=Dn s)/\js.length<=24
theorem pkC {s:Str}{i n:Nat}{ss:List Str}{Z : Sw}{h:Gh}{Q:WK}(hv:Z[i]?=Dn (Dn (.loc n)))(hZ : pP [i] Z = [Dn (.loc n)])(hn:h.c n=Dn (.lst (ss.map .str)))(hl:ss.length<=24)(q:∀ js,Js ss s js->(s∈ss->js≠[])->Q (Bf js) h) :
  Aj BP [i] (gw (au (X7 X3 (au (aG i) aO)) aO)) (bZ (Mk Dp (Mk W9 (aG 1) (aG 0)) (mC (.str s)))) (aG 0) Z h Q:=by
 have ev:=cO hn;refine lN<|oM<|ao<|d7<|ao<|aA hv<|aF<|dU ev<|aF ?_
 rw [Yd];refine zj (m:=ss.length) (by lia)<|v7 (by rw [Yd];unfold rng;rw [ZL];exact Nat.ble_eq.mpr (by lia)) ?_
 refine fJ (fun i acc h'=>h'=h/\∃ js:List Nat,acc=js.map (fun j:Nat=>W.int (j:Int))/\js.length<=i/\((∃ k,k<i/\ss[k]?=Dn s)->js≠[])/\∀ j∈js,ss[j]?=Dn s) ?_ ?_ ⟨rfl,[],rfl,Ym _,fun ⟨_,z,_⟩=>absurd z<|Jl _,fun j hj=>absurd hj<|by simp⟩
 ·rintro i w acc h' N hN e ⟨rfl,js,rfl,jl,jn,jo⟩;rw [Yo] at e;obtain ⟨x,ex,rfl⟩:=Yy.mp e;have e0:=(jR ex).1;have hx:=(jR ex).2;rw [Jy] at e0;subst e0;have hri:ss[x]?=Dn ss[x]:=Yk hx;refine ⟨[.int (x:Int)],rfl,?_⟩;rw [hZ];refine cj<|aN<|aN<|aA rfl<|aA rfl<|cG ev (bF (v:=W.str ss[x]) (by rw [Yo,hri];rfl))<|bN<|Jm<|qI ?_
  by_cases z:ss[x]=s
  ·rw [decide_eq_true z];refine eZ<|aA rfl<|hN _ _ ⟨rfl,js++[x],by rw [YK];rfl,by rw [Yw];exact Nat.succ_le_succ jl,fun _ y=>?_,fun j hj=>?_⟩
   ·exact absurd (congrArg Jx y) (by rw [Yw];exact Nat.succ_ne_zero _)
   ·rcases Zr.mp hj with hj | hj
    ·exact jo j hj
    ·rw [Y0.mp hj,hri,z]
  ·rw [decide_eq_false z];refine xG<|hN _ _ ⟨rfl,js,rfl,Nat.le_succ_of_le jl,fun ⟨q,hq,e1⟩=>jn ⟨q,?_,e1⟩,jo⟩
   rcases Nat.lt_or_ge q x with y | y
   ·exact y
   ·have:q=x:=by lia
    subst this;rw [hri] at e1;exact absurd (Yp e1) z
 ·rintro acc h' ⟨rfl,js,rfl,jl,jn,jo⟩;rw [Yd] at jl jn;unfold rng at jl jn;rw [ZL,Nat.sub_zero] at jl jn;refine q js ⟨jo,by lia⟩ fun hs=>jn ?_;obtain ⟨k,hk,e⟩:=Jh hs;exact ⟨k,hk,by rw [Yk hk,e]⟩
theorem nH {c0:VR}(hd:jk c0){i kb b:Nat}{js:List Nat}{Z : Sw}{h:Gh}{E:X4}{Q:WK}(hi:Z[i]?=Dn (Dn (Bf js)))(hk:Z[kb]?=Dn (Dn (.loc b)))(hb:Ba h b)(hj:js≠[])(hl:js.length<=24)
  (k:∀ j∈js,∀ h',Ba h' b->Cy b h h'->Q (.int (j:Nat)) h'):Mk W9 (aG i) (bM c0 E (au (aG kb) (au (X7 X3 (au (aG i) aO)) aO))) Z h Q:=by
 have hp:0<js.length:=Ji.mpr hj;refine aN<|aA hi<|bw<|ao<|aA hk<|ao<|d7<|ao<|aA hi<|aF<|dU (xs:=js.map fun j:Nat=>W.int (j:Int)) rfl<|aF ?_
 rw [Yd];exact hd hb (by lia) (by unfold Sm;lia) fun d h' d0 d1 hb' o=>ixJ (by lia) d1 fun j hj=>k j hj h' hb' o
def Gd (ss:List Str)(fr:Int)(w:W):Prop:=∃ p,w=bC p/\ok1 ss w=true/\(mH w=true->fr<7)
theorem uV {ss:List Str}{fr:Int}{x:Str}{js:List Nat}(hx:x∈Bu)(hf:x ≠ "free")(e:js.map (fun j=>ss[j]?)=(zu x).map Dn):Gd ss fr (bC (x,js)):=by
 refine ⟨(x,js),rfl,Qh hx ?_,fun z=>absurd (of_decide_eq_true<|show decide (x = "free")=true from z) hf⟩;rw [<-e,ZC];refine Z0 fun j hj=>?_;show nth ss (.int (j:Int))=_;rw [wQ (KJ _),ZQ]
structure RS (G:W->Prop) (h0 h:Gh) (b L:Nat) (us:List W):Prop where
 bag:Ba h b
 cL:h.c L=Dn (.lst us)
 lL:h0.nx<=L
 uL:L<h.nx
 bl:b<h0.nx
 gr:Gr b h0 h
 gd:∀ w∈us,G w
theorem RS.ne {G:W->Prop}{h0 h:Gh}{b L:Nat}{us:List W}(R:RS G h0 h b L us):L≠b:=ZS (Yl R.bl R.lL)
theorem RS.oth {G:W->Prop}{h0 h h':Gh}{b L:Nat}{us:List W}(R:RS G h0 h b L us)(hb:Ba h' b)(o:Cy b h h'):RS G h0 h' b L us:=
 ⟨hb,(o.2 L R.ne).trans R.cL,R.lL,by rw [o.1];exact R.uL,R.bl,R.gr.trans o.gr,R.gd⟩
theorem ju {h h':Gh}{b:Nat}(hb:Ba h b)(e:h'.c b=h.c b):Ba h' b:=by
 obtain ⟨p,q,e1,r⟩:=hb;exact ⟨p,q,e.trans e1,r⟩
theorem uw {G:W->Prop}{h0 h:Gh}{b L:Nat}{us vs:List W}{Q:WK}(R:RS G h0 h b L us)(hz:us.length<=20)(hv:vs.length<=5)(gv:∀ w∈vs,G w)(k:∀ g L',RS G h0 g b L' (us++vs)->Q (.loc L') g):sG (.loc L) (.lst vs) h Q:=by
 have e1:Df h (.loc L)=Dn us:=by
  show (match h.c L with
   | some (.lst ws)=>Dn ws
   | _=>FN)=_
  rw [R.cL]
 unfold sG;rw [e1];refine jD.mk (YS (show us.length+vs.length<=25 by lia)<|by decide)<|k _ h.nx ⟨?_,zE _ _,YS R.lL<|Je R.uL,JK _,R.bl,⟨YS R.gr.1<|Ew _,fun m hm ne=>?_⟩,fun w hw=>?_⟩
 ·exact ju R.bag<|qC<|Yv<|Yl R.bl R.gr.1
 ·rw [qC (Yv (Yl hm R.gr.1))];exact R.gr.2 m hm ne
 ·rcases Zr.mp hw with hw | hw
  ·exact R.gd w hw
  ·exact gv w hw
theorem HN {G:W->Prop}{h0 h:Gh}{b L:Nat}{us:List W}{v:W}{Q:WK}(R:RS G h0 h b L us)(hz:us.length<=20)(gv:G v)(k:∀ g,RS G h0 g b L (us++[v])->Q .non g):cT (.loc L) [v] h Q:=
 yS R.cL (by lia) fun g gc go gn=>k g ⟨ju R.bag (go b (Bk R.ne)),gc,R.lL,by rw [gn];exact R.uL,R.bl,⟨by rw [gn];exact R.gr.1,fun m hm ne=>(go m (Yv (Yl hm R.lL))).trans (R.gr.2 m hm ne)⟩,fun w hw=>by
  rcases Zr.mp hw with hw | hw
  ·exact R.gd w hw
  ·rw [Y0.mp hw];exact gv⟩
theorem IK {c0:VR}(hd:jk c0){ss:List Str}{fr:Int}{h0 h:Gh}{b L:Nat}{us:List W}{E:X4}{D:bU}{a1 a2 a3 a4 a5 a7 a8 a9 a10 a11:Option W}(R:RS (Gd ss fr) h0 h b L us)(hu:us≠[])(hz:us.length<=20)
  (k:∀ w h',Gd ss fr w->Ba h' b->Gr b h0 h'->D.rt w h'):pG c0 E D [Dn (.loc b),a1,a2,a3,a4,a5,Dn (.loc L),a7,a8,a9,a10,a11] h:=by
 have hp:0<us.length:=Ji.mpr hu;unfold pG;refine dZ<|aN<|aA rfl<|bw<|ao<|aA rfl<|ao<|d7<|ao<|aA rfl<|aF<|dU (cO R.cL)<|aF ?_
 refine hd R.bag (by lia) (by unfold Sm;lia) fun d h' d0 d1 hb' o=>?_;have R':=R.oth hb' o;obtain ⟨w,e,hw⟩:=zN (ws:=us) (i:=d) (by lia) d1;exact JG R'.cL e<|k w h' (R.gd w hw) hb' R'.gr
theorem Jj {c0:VR}(hd:jk c0){ss:List Str}{fr:Int}{h0 h:Gh}{b L:Nat}{us:List W}{ls qs:List Nat}{E:X4}{D:bU}{a1 a2 a3 a7 a8 a9 a10 a11:Option W}(R:RS (Gd ss fr) h0 h b L us)(hu:us≠[])(hz:us.length<=10)
  (jl:Js ss "line" ls) (jq:Js ss "curve" qs) (k:∀ w h',Gd ss fr w->Ba h' b->Gr b h0 h'->D.rt w h'):oh c0 E D [Dn (.loc b),a1,a2,a3,Dn (Bf ls),Dn (Bf qs),Dn (.loc L),a7,a8,a9,a10,a11] h:=by
 unfold oh;refine aM<|dG<|cj<|aN<|aA rfl<|cZ<|aF<|bI rfl<|vI<|qI ?_
 refine oY (fun e1=>?_)<|fun e1=>?_
 ·refine aM<|aX<|nH hd rfl rfl R.bag e1 jl.2 fun l hl h1 hb1 o1=>nV<|cu ?_
  have R1:=R.oth hb1 o1;refine aM<|aX<|nH hd rfl rfl hb1 e1 jl.2 fun m hm h2 hb2 o2=>nV<|cu ?_
  have R2:=R1.oth hb2 o2;have sl:=jl.1 l hl;have sm:=jl.1 m hm;refine aM<|aX<|aN<|aA rfl<|cZ<|ao<|cP<|ao<|bN<|ao<|aA rfl<|ao<|aA rfl<|aF<|bI rfl ?_
  refine ao<|cP<|ao<|bN<|ao<|aA rfl<|ao<|aA rfl<|aF<|bI rfl<|aF<|bI rfl ?_
  refine uw (vs:=[bC ("meet",[l,m]),bC ("meet",[m,l])]) R2 (by lia) (YD rfl) (fun w hw=>?_) fun g L' R3=>nV<|cu ?_
  ·rcases Yq.mp hw with rfl | hw
   ·exact uV (by decide) (by decide) (by show [ss[l]?,ss[m]?]=_;rw [sl,sm];rfl)
   ·rw [Y0.mp hw];exact uV (by decide) (by decide) (by show [ss[m]?,ss[l]?]=_;rw [sl,sm];rfl)
  ·have hz3:(us++[bC ("meet",[l,m]),bC ("meet",[m,l])]).length<=12:=by rw [Yw];show us.length+2<=12;lia
   refine dG<|cj<|aN<|aA rfl<|cZ<|aF<|bI rfl<|vI<|qI ?_
   refine oY (fun e2=>?_)<|fun e2=>?_
   ·refine fU<|jV<|aA rfl<|gJ R3.cL<|ao<|cP<|ao<|bN<|ao<|nH hd rfl rfl R3.bag e2 jq.2 fun q hq h4 hb4 o4=>?_
    have R4:=R3.oth hb4 o4;refine ao<|aA rfl<|aF<|bI rfl<|aF ?_
    refine HN (v:=bC ("pole",[q,m])) R4 (by lia) (uV (by decide) (by decide) (by show [ss[q]?,ss[m]?]=_;rw [jq.1 q hq,sm];rfl)) fun g5 R5=>cu ?_;exact IK hd R5 (by simp) (by rw [Yw];show _+1<=20;lia) k
   ·exact cD<|cu<|IK hd R3 (by simp) (by lia) k
 ·exact cD<|cu<|IK hd R hu (by lia) k
theorem Vp {js:List Nat}{i:Nat}{Z : Sw}{h:Gh}{Q:WK}(hZ : pP [i] Z = [Dn (Bf js)])(hj:js≠[])(hl:js.length<=24)(q:∀ a b c,a∈js->b∈js->c∈js->Q (Bf [a,b,c]) h) :
  Aj BP [i] (gw (au (mC (.int 3)) aO)) tu (Mk W9 (aG 1) (Mk KQ (Gm Io (mC (.int 1))) (Mk Bd (aG 0) (X7 X3 (au (aG 1) aO))))) Z h Q:=by
 have hp:0<js.length:=Ji.mpr hj;refine lN<|oM<|ao<|bN<|aF<|zj (m:=3) (by lia)<|v7 rfl ?_
 refine fJ (fun i acc h'=>h'=h/\∃ xs:List Nat,acc=xs.map (fun j:Nat=>W.int (j:Int))/\xs.length=i/\∀ x∈xs,x∈js) ?_ ?_ ⟨rfl,[],rfl,rfl,fun x hx=>absurd hx<|by simp⟩
 ·rintro i w acc h' N hN e ⟨rfl,xs,rfl,xl,xm⟩;rw [Yo] at e;obtain ⟨x,ex,rfl⟩:=Yy.mp e;refine ⟨[.int (x:Int)],rfl,?_⟩;rw [hZ];refine gZ<|eZ<|aN<|aA rfl<|aN<|yw<|bN<|qx<|aN<|aA rfl<|d7<|ao<|aA rfl<|aF<|dU (xs:=js.map fun j:Nat=>W.int (j:Int)) rfl ?_
  rw [Yd];refine zH (by lia)<|Hv ?_
  rw [fH (by lia)];have h0:=Jv (x:Int) (show (js.length:Int)≠0 by lia);have h1:=K9 (x:Int) (show (0:Int)<(js.length:Int) by lia);refine ixJ (by lia) (by lia) fun j hj=>hN _ _ ⟨rfl,xs++[j],by rw [YK];rfl,by rw [Yw,xl];rfl,fun y hy=>?_⟩;rcases Zr.mp hy with hy | hy
  ·exact xm y hy
  ·rw [Y0.mp hy];exact hj
 ·rintro acc h' ⟨rfl,xs,rfl,xl,xm⟩;have xl:xs.length=3:=xl;match xs,xl with
  | [a,b,c],_=>exact q a b c (xm a (by simp)) (xm b (by simp)) (xm c (by simp))
theorem PX {c0:VR}(hd:jk c0){ss:List Str}{fr:Int}{h0 h:Gh}{b L:Nat}{us:List W}{ps ls qs:List Nat}{E:X4}{D:bU}{a1 a2 a7 a8 a9 a10 a11:Option W}(R:RS (Gd ss fr) h0 h b L us)(hu:us≠[]\/ps≠[])(hz:us.length<=2)
  (jp:Js ss "spot" ps) (jl:Js ss "line" ls) (jq:Js ss "curve" qs) (k:∀ w h',Gd ss fr w->Ba h' b->Gr b h0 h'->D.rt w h'):nT c0 E D [Dn (.loc b),a1,a2,Dn (Bf ps),Dn (Bf ls),Dn (Bf qs),Dn (.loc L),a7,a8,a9,a10,a11] h:=by
 unfold nT;refine aM<|dG<|cj<|aN<|aA rfl<|cZ<|aF<|bI rfl<|vI<|qI ?_
 refine oY (fun e1=>?_)<|fun e1=>?_
 ·refine aM<|aX<|nH hd rfl rfl R.bag e1 jp.2 fun x hx h1 hb1 o1=>nV<|cu ?_
  have R1:=R.oth hb1 o1;refine aM<|aX<|nH hd rfl rfl hb1 e1 jp.2 fun y hy h2 hb2 o2=>nV<|cu ?_
  have R2:=R1.oth hb2 o2;have sx:=jp.1 x hx;have sy:=jp.1 y hy;refine aM<|aX<|Vp (js:=ps) rfl e1 jp.2 fun u v w hu hv hw=>nV<|cu ?_
  have su:=jp.1 u hu;have sv:=jp.1 v hv;have sw:=jp.1 w hw;have i0:∀ {g:Gh} {Q:WK},Q (.int (u:Nat)) g->W9 (Bf [u,v,w]) (.int 0) g Q:=fun q=>cG (ws:=[.int (u:Nat),.int (v:Nat),.int (w:Nat)]) rfl (bF (j:=0) rfl) q
  have i1:∀ {g:Gh} {Q:WK},Q (.int (v:Nat)) g->W9 (Bf [u,v,w]) (.int 1) g Q:=fun q=>cG (ws:=[.int (u:Nat),.int (v:Nat),.int (w:Nat)]) rfl (bF (j:=1) rfl) q
  have i2:∀ {g:Gh} {Q:WK},Q (.int (w:Nat)) g->W9 (Bf [u,v,w]) (.int 2) g Q:=fun q=>cG (ws:=[.int (u:Nat),.int (v:Nat),.int (w:Nat)]) rfl (bF (j:=2) rfl) q
  refine aM<|aX<|aN<|aA rfl<|cZ<|ao<|cP<|ao<|bN<|ao<|aA rfl<|ao<|aA rfl<|aF<|bI rfl ?_
  refine ao<|cP<|ao<|bN<|ao<|aA rfl<|ao<|aA rfl<|aF<|bI rfl ?_
  refine ao<|cP<|ao<|bN<|ao<|aA rfl<|ao<|aA rfl<|ao<|aN<|aA rfl<|bN<|i0 ?_
  refine ao<|aN<|aA rfl<|bN<|i1<|ao<|aN<|aA rfl<|bN<|i2<|aF<|bI rfl<|aF<|bI rfl ?_
  refine uw (vs:=[bC ("join",[x,y]),bC ("join",[y,x]),bC ("curve",[x,y,u,v,w])]) R2 (by lia) (YD rfl) (fun z hz=>?_) fun g L' R3=>nV<|cu ?_
  ·rcases Yq.mp hz with rfl | hz
   ·exact uV (by decide) (by decide) (by show [ss[x]?,ss[y]?]=_;rw [sx,sy];rfl)
   rcases Yq.mp hz with rfl | hz
   ·exact uV (by decide) (by decide) (by show [ss[y]?,ss[x]?]=_;rw [sx,sy];rfl)
   ·rw [Y0.mp hz];exact uV (by decide) (by decide) (by show [ss[x]?,ss[y]?,ss[u]?,ss[v]?,ss[w]?]=_;rw [sx,sy,su,sv,sw];rfl)
  ·have hz3:(us++[bC ("join",[x,y]),bC ("join",[y,x]),bC ("curve",[x,y,u,v,w])]).length<=5:=by rw [Yw];show us.length+3<=5;lia
   refine dG<|cj<|aN<|aA rfl<|cZ<|aF<|bI rfl<|vI<|qI ?_
   refine oY (fun e2=>?_)<|fun e2=>?_
   ·have hq:0<qs.length:=Ji.mpr e2;refine aX<|aN<|aA rfl<|cZ<|ao<|cP<|ao<|bN<|ao<|aN<|aA rfl<|yw<|bN<|qx<|ixJ (by lia) (by lia) fun q1 hq1=>?_
    refine ao<|aA rfl<|aF<|bI rfl ?_
    refine ao<|cP<|ao<|bN<|ao<|aN<|aA rfl<|bN<|ixJ (by lia) (by lia) fun q2 hq2=>?_
    refine ao<|aA rfl<|ao<|aA rfl<|aF<|bI rfl<|aF<|bI rfl ?_
    refine uw (vs:=[bC ("about",[q1,x]),bC ("other",[q2,x,y])]) R3 (by lia) (YD rfl) (fun z hz=>?_) fun g L' R4=>nV<|cu ?_
    ·rcases Yq.mp hz with rfl | hz
     ·exact uV (by decide) (by decide) (by show [ss[q1]?,ss[x]?]=_;rw [sx,jq.1 q1 hq1];rfl)
     ·rw [Y0.mp hz];exact uV (by decide) (by decide) (by show [ss[q2]?,ss[x]?,ss[y]?]=_;rw [sx,sy,jq.1 q2 hq2];rfl)
    ·exact Jj hd R4 (by simp) (by rw [Yw];show _+2<=10;lia) jl jq k
   ·exact cD<|cu<|Jj hd R3 (by simp) (by lia) jl jq k
 ·exact cD<|cu<|Jj hd R (hu.resolve_right e1) (by lia) jl jq k
def Wn (c0:VR):Prop:=∀ {h:Gh} {b n:Nat} {ss:List Str} {fr:Int} {Q:WK} {E:X4},Ba h b->h.c n=Dn (.lst (ss.map .str))->b<h.nx->ss.length<=24->(fr<7\/("spot" : Str)∈ss)->(∀ w h',Gd ss fr w->Ba h' b->Gr b h h'->Q w h')->c0 [.loc b,.loc n,.int fr] h Q E
theorem RK {c0:VR}(hd:jk c0):Wn (vo c0):=by
 intro h b n ss fr Q E hb hn bl hl hs k;unfold vo;refine lR rfl (Z:=[Dn<|.loc b,Dn<|.loc n,Dn<|.int fr,FN,FN,FN,FN,FN,FN,FN,FN,FN]) rfl ?_;refine aM<|aX<|pkC rfl rfl hn hl fun ps jp np=>nV<|cu ?_
 refine aM<|aX<|pkC rfl rfl hn hl fun ls jl _=>nV<|cu ?_
 refine aM<|aX<|pkC rfl rfl hn hl fun qs jq _=>nV<|cu ?_
 refine aM<|aX<|gM (fun R=>rfl) rfl fun g gc go gn=>nV<|cu ?_
 have R:RS (Gd ss fr) h g b h.nx []:=⟨ju hb (go b (Yv bl)),gc,Ym _,by rw [gn];exact JK _,bl,⟨by rw [gn];exact Ew _,fun m hm _=>go m (Yv hm)⟩,fun w hw=>absurd hw (by simp)⟩
 refine aM<|dG<|cj<|aN<|aA rfl<|bN<|Eo<|qI ?_
 refine oY (fun e1=>?_)<|fun e1=>?_
 ·refine aX<|gM (ws:=[bC ("free",[]),bC ("free",[])]) (fun R=>rfl) rfl fun g2 gc2 go2 gn2=>nV<|cu ?_
  have gf:Gd ss fr (bC ("free",[])):=⟨_,rfl,Qh (by decide) rfl,fun _=>e1⟩
  refine PX hd (us:=[bC ("free",[]),bC ("free",[])]) (h0:=h) ⟨ju R.bag<|go2 b<|Yv (by rw [gn];lia),gc2,by rw [gn];lia,by rw [gn2];lia,bl,⟨by rw [gn2,gn];lia,fun m hm ne=>?_⟩,fun w hw=>?_⟩ (.inl<|by simp) (Ym _) jp jl jq k
  ·rw [go2 m (Yv (by rw [gn];lia))];exact go m<|Yv hm
  ·rcases Yq.mp hw with rfl | hw
   ·exact gf
   ·rw [Y0.mp hw];exact gf
 ·exact cD<|cu<|PX hd R (.inr<|np<|hs.resolve_left e1) (by decide) jp jl jq k
def Gc (ss:List Str)(w:W):Prop:=∃ p,w=bC p/\p.1∈Eb/\Fp ss w=true/\p.2.length<=3/\∀ n∈p.2,n<ss.length
theorem qY {ss ls:List Str}{x:Str}{js:List Nat}(hx:x∈Eb)(hl:js.length<=3)(e:js.map (fun j=>ss[j]?)=ls.map Dn)(hm:ls∈Fq x):Gc ss (bC (x,js)):=by
 refine ⟨(x,js),rfl,hx,?_,hl,fun n hn=>?_⟩
 ·have e2:(js.map fun n:Nat=>W.int (n:Int)).map (nth ss)=ls.map Dn:=by
   rw [<-e,ZC];refine Z0 fun j hj=>?_;show nth ss (.int (j:Int))=_;rw [wQ (KJ _),ZQ]
  show Fp ss (.tup (.str x::js.map fun n:Nat=>W.int (n:Int)))=true;rw [N7 e2];exact Ke.mpr ⟨ls,hm,decide_eq_true rfl⟩
 ·have h1:ss[n]?∈js.map (fun j=>ss[j]?):=YT.mpr ⟨n,hn,rfl⟩;rw [e] at h1;obtain ⟨s,_,e3⟩:=YT.mp h1;exact (Yn.mp e3.symm).1
theorem Ny {c0:VR}(hd:jk c0){i b:Nat}{js:List Nat}{Z : Sw}{h:Gh}{E:X4}{Q:WK}(hZ : pP [0,i] Z = [Dn (.loc b),Dn (Bf js)])(hb:Ba h b)(hj:js≠[])(hl:js.length<=24)
  (q:∀ x y z,x∈js->y∈js->z∈js->∀ h',Ba h' b->Cy b h h'->Q (Bf [x,y,z]) h') :
  Aj BP [0,i] (gw (au (mC (.int 3)) aO)) tu (Mk W9 (aG 2) (bM c0 E (au (aG 1) (au (X7 X3 (au (aG 2) aO)) aO)))) Z h Q:=by
 refine lN<|oM<|ao<|bN<|aF<|zj (m:=3) (by lia)<|v7 rfl ?_
 refine fJ (fun i acc h'=>Ba h' b/\Cy b h h'/\∃ xs:List Nat,acc=xs.map (fun j:Nat=>W.int (j:Int))/\xs.length=i/\∀ x∈xs,x∈js) ?_ ?_ ⟨hb,.refl _ _,[],rfl,rfl,fun x hx=>absurd hx<|by simp⟩
 ·rintro i w acc h' N hN e ⟨hb',o',xs,rfl,xl,xm⟩;rw [Yo] at e;obtain ⟨x,ex,rfl⟩:=Yy.mp e;refine ⟨[.int (x:Int)],rfl,?_⟩;rw [hZ];refine gZ<|eZ<|nH hd rfl rfl hb' hj hl fun j hj h2 hb2 o2=>hN _ _ ⟨hb2,o'.trans o2,xs++[j],by rw [YK];rfl,by rw [Yw,xl];rfl,fun y hy=>?_⟩
  rcases Zr.mp hy with hy | hy
  ·exact xm y hy
  ·rw [Y0.mp hy];exact hj
 ·rintro acc h' ⟨hb',o',xs,rfl,xl,xm⟩;have xl:xs.length=3:=xl;match xs,xl with
  | [x,y,z],_=>exact q x y z (xm x (by simp)) (xm y (by simp)) (xm z (by simp)) h' hb' o'
section
variable {u v w:Nat}{g:Gh}{Q:WK}
theorem i3a (q:Q (.int (u:Nat)) g):W9 (Bf [u,v,w]) (.int 0) g Q:=cG (ws:=[.int (u:Nat),.int (v:Nat),.int (w:Nat)]) rfl (bF (j:=0) rfl) q
theorem i3b (q:Q (.int (v:Nat)) g):W9 (Bf [u,v,w]) (.int 1) g Q:=cG (ws:=[.int (u:Nat),.int (v:Nat),.int (w:Nat)]) rfl (bF (j:=1) rfl) q
theorem i3c (q:Q (.int (w:Nat)) g):W9 (Bf [u,v,w]) (.int 2) g Q:=cG (ws:=[.int (u:Nat),.int (v:Nat),.int (w:Nat)]) rfl (bF (j:=2) rfl) q
end
theorem Q9 {c0:VR}(hd:jk c0){G:W->Prop}{h0 h:Gh}{b L:Nat}{us:List W}{E:X4}{D:bU}{a1 a2 a3 a4 a5 a7 a8:Option W}(R:RS G h0 h b L us)(hu:us≠[])(hz:us.length<=20)
  (k:∀ w h',G w->Ba h' b->Gr b h0 h'->D.rt w h'):jJ c0 E D [Dn (.loc b),a1,a2,a3,a4,a5,Dn (.loc L),a7,a8] h:=by
 have hp:0<us.length:=Ji.mpr hu;unfold jJ;refine dZ<|aN<|aA rfl<|bw<|ao<|aA rfl<|ao<|d7<|ao<|aA rfl<|aF<|dU (cO R.cL)<|aF ?_
 refine hd R.bag (by lia) (by unfold Sm;lia) fun d h' d0 d1 hb' o=>?_;have R':=R.oth hb' o;obtain ⟨w,e,hw⟩:=zN (ws:=us) (i:=d) (by lia) d1;exact JG R'.cL e<|k w h' (R.gd w hw) hb' R'.gr
theorem Iw {c0:VR}(hd:jk c0){ss:List Str}{h0 h:Gh}{b L x y z:Nat}{us:List W}{qs:List Nat}{E:X4}{D:bU}{a1 a2 a3 a7 a8:Option W}(R:RS (Gc ss) h0 h b L us)(hu:us≠[])(hz:us.length<=8)(sx:ss[x]?=Dn "spot")
  (jq:Js ss "curve" qs) (k:∀ w h',Gc ss w->Ba h' b->Gr b h0 h'->D.rt w h'):jQ c0 E D [Dn (.loc b),a1,a2,a3,Dn (Bf qs),Dn (Bf [x,y,z]),Dn (.loc L),a7,a8] h:=by
 unfold jQ;refine aM<|dG<|cj<|aN<|aA rfl<|cZ<|aF<|bI rfl<|vI<|qI ?_
 refine oY (fun e1=>?_)<|fun e1=>?_
 ·have hq:0<qs.length:=Ji.mpr e1;refine aM<|aX<|nH hd rfl rfl R.bag e1 jq.2 fun q hq h1 hb1 o1=>nV<|cu ?_
  have R1:=R.oth hb1 o1;have sq:=jq.1 q hq;refine aX<|aN<|aA rfl<|cZ<|ao<|cP<|ao<|bN<|ao<|aA rfl<|aF<|bI rfl ?_
  refine ao<|cP<|ao<|bN<|ao<|aN<|aA rfl<|bN<|i3a<|ao<|aA rfl<|aF<|bI rfl ?_
  refine ao<|cP<|ao<|bN<|ao<|aA rfl<|ao<|aN<|aA rfl<|bN<|ixJ (by lia) (by lia) fun q2 hq2=>?_
  refine aF<|bI rfl<|aF<|bI rfl ?_
  refine uw (vs:=[bC ("parted",[q]),bC ("on",[x,q]),bC ("same",[q,q2])]) R1 (by lia) (YD rfl) (fun w hw=>?_) fun g L' R3=>nV<|cu ?_
  ·rcases Yq.mp hw with rfl | hw
   ·exact qY (ls:=["curve"]) (by decide) (YD rfl) (by show [ss[q]?]=_;rw [sq];rfl)<|by decide
   rcases Yq.mp hw with rfl | hw
   ·exact qY (ls:=["spot", "curve"]) (by decide) (YD rfl) (by show [ss[x]?,ss[q]?]=_;rw [sx,sq];rfl)<|by decide
   ·rw [Y0.mp hw];exact qY (ls:=["curve", "curve"]) (by decide) (YD rfl) (by show [ss[q]?,ss[q2]?]=_;rw [sq,jq.1 q2 hq2];rfl)<|by decide
  ·exact Q9 hd R3 (by simp) (by rw [Yw];show _+3<=20;lia) k
 ·exact cD<|cu<|Q9 hd R hu (by lia) k
def V2 (c0:VR):Prop:=∀ {h:Gh} {b n:Nat} {ss:List Str} {Q:WK} {E:X4},Ba h b->h.c n=Dn (.lst (ss.map .str))->b<h.nx->b≠n->ss.length<=24->("spot" : Str)∈ss->(∀ w h',Gc ss w->Ba h' b->Gr b h h'->Q w h')->c0 [.loc b,.loc n] h Q E
theorem aai {c0:VR}(hd:jk c0):V2 (pD c0):=by
 intro h b n ss Q E hb hn bl bn hl hs k;unfold pD;refine lR rfl (Z:=[Dn<|.loc b,Dn<|.loc n,FN,FN,FN,FN,FN,FN,FN]) rfl ?_;refine aM<|aX<|pkC rfl rfl hn hl fun ps jp np=>nV<|cu ?_
 refine aM<|aX<|pkC rfl rfl hn hl fun ls jl _=>nV<|cu ?_
 refine aM<|aX<|pkC rfl rfl hn hl fun qs jq _=>nV<|cu ?_
 refine aM<|aX<|Ny hd (js:=ps) rfl hb (np hs) jp.2 fun x y z hx hy hz h1 hb1 o1=>nV<|cu ?_
 have sx:=jp.1 x hx;have sy:=jp.1 y hy;have sz:=jp.1 z hz;refine aM<|aX<|gM (ws:=[bC ("same",[x,y]),bC ("row",[x,y,z])]) (fun R=>rfl) rfl fun g gc go gn=>nV<|cu ?_
 have bl1:b<h1.nx:=by rw [o1.1];exact bl
 have R:RS (Gc ss) h g b h1.nx [bC ("same",[x,y]),bC ("row",[x,y,z])]:=by
  refine ⟨ju hb1<|go b<|Yv bl1,gc,by rw [o1.1];exact Ym _,by rw [gn];exact JK _,bl,o1.gr.trans ⟨by rw [gn];exact Ew _,fun m hm _=>go m<|Yv hm⟩,fun w hw=>?_⟩;rcases Yq.mp hw with rfl | hw
  ·exact qY (ls:=["spot", "spot"]) (by decide) (YD rfl) (by show [ss[x]?,ss[y]?]=_;rw [sx,sy];rfl)<|by decide
  ·rw [Y0.mp hw];exact qY (ls:=["spot", "spot", "spot"]) (by decide) (YD rfl) (by show [ss[x]?,ss[y]?,ss[z]?]=_;rw [sx,sy,sz];rfl)<|by decide
 refine aM<|dG<|cj<|aN<|aA rfl<|cZ<|aF<|bI rfl<|vI<|qI ?_
 refine oY (fun e1=>?_)<|fun e1=>?_
 ·refine aM<|aX<|Ny hd (js:=ls) rfl R.bag e1 jl.2 fun l m o hl' hm ho h2 hb2 o2=>nV<|cu ?_
  have R2:=R.oth hb2 o2;have s1:=jl.1 l hl';have s2:=jl.1 m hm;have s3:=jl.1 o ho;refine aM<|aX<|aN<|aA rfl<|cZ<|ao<|cP<|ao<|bN<|ao<|aN<|aA rfl<|bN<|i3a<|ao<|aN<|aA rfl<|bN<|i3b<|aF<|bI rfl ?_
  refine ao<|cP<|ao<|bN<|ao<|aN<|aA rfl<|bN<|i3a<|ao<|aN<|aA rfl<|bN<|i3b<|ao<|aN<|aA rfl<|bN<|i3c<|aF<|bI rfl ?_
  refine ao<|cP<|ao<|bN<|ao<|aN<|aA rfl<|bN<|i3a<|ao<|aN<|aA rfl<|bN<|i3a<|aF<|bI rfl<|aF<|bI rfl ?_
  refine uw (vs:=[bC ("same",[l,m]),bC ("bunch",[l,m,o]),bC ("on",[x,l])]) R2 (YD rfl) (YD rfl) (fun w hw=>?_) fun g3 L' R3=>nV<|cu ?_
  ·rcases Yq.mp hw with rfl | hw
   ·exact qY (ls:=["line", "line"]) (by decide) (YD rfl) (by show [ss[l]?,ss[m]?]=_;rw [s1,s2];rfl)<|by decide
   rcases Yq.mp hw with rfl | hw
   ·exact qY (ls:=["line", "line", "line"]) (by decide) (YD rfl) (by show [ss[l]?,ss[m]?,ss[o]?]=_;rw [s1,s2,s3];rfl)<|by decide
   ·rw [Y0.mp hw];exact qY (ls:=["spot", "line"]) (by decide) (YD rfl) (by show [ss[x]?,ss[l]?]=_;rw [sx,s1];rfl)<|by decide
  ·refine dG<|cj<|aN<|aA rfl<|cZ<|aF<|bI rfl<|vI<|qI ?_
   refine oY (fun e2=>?_)<|fun e2=>?_
   ·have hq:0<qs.length:=Ji.mpr e2;refine fU<|jV<|aA rfl<|gJ R3.cL<|ao<|cP<|ao<|bN<|ao<|aN<|aA rfl<|bN<|i3a<|ao<|aN<|aA rfl<|yw<|bN<|qx<|ixJ (by lia) (by lia) fun q hq=>?_
    refine aF<|bI rfl<|aF ?_
    refine HN (v:=bC ("touch",[l,q])) R3 (YD rfl) (qY (ls:=["line", "curve"]) (by decide) (YD rfl) (by show [ss[l]?,ss[q]?]=_;rw [s1,jq.1 q hq];rfl)<|by decide) fun g5 R5=>cu ?_;exact Iw hd R5 (by simp) (YD rfl) sx jq k
   ·exact cD<|cu<|Iw hd R3 (by simp) (YD rfl) sx jq k
 ·exact cD<|cu<|Iw hd R (by simp) (YD rfl) sx jq k
theorem oV {ss:List Str}{p:Str×List Nat}(e:ok1 ss (bC p)=true):p.1∈Bu/\(p.2.map fun n:Nat=>W.int (n:Int)).map (nth ss)=(zu p.1).map Dn:=by
 have e:(decide (p.1∈Bu)&&decide ((p.2.map fun n:Nat=>W.int (n:Int)).map (nth ss)=(zu p.1).map Dn))=true:=e;rw [YM,decide_eq_true_eq,decide_eq_true_eq] at e;exact e
theorem rJ {ss:List Str}{p:Str×List Nat}(e:ok1 ss (bC p)=true):(∀ n∈p.2,n<ss.length)/\p.2.length=(zu p.1).length:=by
 have e1:=(oV e).2;refine ⟨fun n hn=>?_,?_⟩
 ·have h1:nth ss (.int (n:Int))∈(p.2.map fun n:Nat=>W.int (n:Int)).map (nth ss):=YT.mpr ⟨_,YT.mpr ⟨n,hn,rfl⟩,rfl⟩;rw [e1] at h1;obtain ⟨s,_,e3⟩:=YT.mp h1;rw [wQ (KJ _),ZQ] at e3;exact (Yn.mp e3.symm).1
 ·have:=congrArg Jx e1
  simpa using this
theorem UW {x:Str}(hx:x∈Bu):(zu x).length<=5:=by
 unfold Bu at hx;simp only [Yq,Y5,or_false] at hx;rcases hx with e | e | e | e | e | e | e <;> subst e <;> decide
theorem PB {ss:List Str}{p:Str×List Nat}(e:ok1 ss (bC p)=true):Wj (bC p) (.tup [.str "free"])=mH (bC p):=by
 have h2:=(rJ e).2;obtain ⟨x,ns⟩:=p;show (Wj (.str x) (.str "free")&&mK (ns.map fun n:Nat=>W.int (n:Int)) [])=decide (x = "free");rw [jL];by_cases c:x = "free"
 ·subst c;have:ns=[]:=Lf h2
  rw [this];decide
 ·rw [decide_eq_false c,beq_eq_false_iff_ne.mpr c];rfl
theorem zay {h:Gh}{ns:List Nat}:fC h (ns.map fun n:Nat=>W.int (n:Int))=Dn (ns.map fun n:Nat=>W.int (n:Int)):=by
 induction ns with
 | nil=>rfl
 | cons n ns ih=>
  show (match lq h (.int (n:Int)),fC h (ns.map fun n:Nat=>W.int (n:Int)) with
   | some d,Dn ds=>Dn (d::ds)
   | _,_=>FN)=_
  rw [ih];rfl
theorem zba {h:Gh}(p:Str×List Nat):pR h (bC p)=Dn (bC p):=by
 obtain ⟨x,ns⟩:=p;show (match fC h (.str x::ns.map fun n:Nat=>W.int (n:Int)) with
  | some ds=>Dn (W.tup ds)
  | none=>FN)=_
 have:fC h (.str x::ns.map fun n:Nat=>W.int (n:Int))=Dn (.str x::ns.map fun n:Nat=>W.int (n:Int)):=by
  show (match lq h (.str x),fC h (ns.map fun n:Nat=>W.int (n:Int)) with
   | some d,Dn ds=>Dn (d::ds)
   | _,_=>FN)=_
  rw [zay];rfl
 rw [this];rfl
theorem Ax {n:Nat}(p:Str×List Nat):WR (n+2) (bC p)=true:=by
 show ((W.str p.1::p.2.map fun n:Nat=>W.int (n:Int)).all (WR (n+1)))=true;rw [IW,YM];refine ⟨rfl,Zf.mpr fun w hw=>?_⟩;obtain ⟨y,_,rfl⟩:=YT.mp hw;rfl
theorem Qu {ss:List Str}{p:Str×List Nat}{h:Gh}{Q:WK}(e:ok1 ss (bC p)=true)(k:Q (.bl (mH (bC p))) h):M7 (bC p) (.tup [.str "free"]) h Q:=by
 unfold M7;rw [zba];show AP (WR 30 (bC p)&&WR 30 (.tup [.str "free"])) (Q (.bl (Wj (bC p) (.tup [.str "free"]))) h) False;rw [Ax,PB e];exact k
structure Cz (ts:List (Str×List Nat)):Prop where
 ok:xg (ts.map bC) ts.length
 fr:((ts.map bC).filter mH).length<=7
 len:ts.length<=24
def cQ (ts:List (Str×List Nat)):List Str:=(ts.map bC).map DR
theorem Cz.okj {ts:List (Str×List Nat)}(d:Cz ts){j:Nat}{p:Str×List Nat}(e:ts[j]?=Dn p):ok1 (((ts.map bC).take j).map DR) (bC p)=true:=
 d.ok j (bC p) (Yn.mp e).1 (by rw [Yo,e];rfl)
theorem Cz.mem {ts:List (Str×List Nat)}(d:Cz ts){p:Str×List Nat}(hp:p∈ts):∃ ss,ok1 ss (bC p)=true/\ss.length<=ts.length:=by
 obtain ⟨j,hj,e⟩:=Jh hp;refine ⟨_,d.okj<|(Yk hj).trans (congrArg Dn e),?_⟩;rw [Yd,Zo,Yd];lia
theorem WT {n:Nat}{ts:List (Str×List Nat)}{i:Nat}{Z : Sw}{h:Gh}{Q:WK}(d:Cz ts)(hv:Z[i]?=Dn (Dn (.loc n)))(hn:h.c n=Dn (.lst (ts.map bC)))(q:∀ ws:List W,ws.length=((ts.map bC).filter mH).length->Q (.lst ws) h) :
  Aj BP [] (DX (aG i)) (bZ (Mk M7 (aG 0) (lJ (au (mC (.str "free")) aO)))) (aG 0) Z h Q:=by
 refine lN<|uX<|aA hv<|Tt hn ?_
 refine jD.mk (by rw [Yd];exact YS d.len (by decide)) ?_;refine Mf (fun i acc h'=>h'=h/\acc=((ts.map bC).take i).filter mH) ?_ ?_ ?_ ⟨rfl,rfl⟩
 ·rintro i acc h' ⟨rfl,_⟩ P p;exact ⟨hn,p⟩
 ·rintro i w acc h' N hN ew ⟨rfl,rfl⟩;have ew0:=ew;rw [Yo] at ew;obtain ⟨p,ep,rfl⟩:=Yy.mp ew;refine ⟨[bC p],rfl,cj<|aN<|aA rfl<|cP<|ao<|bN<|aF<|bI rfl<|Qu (d.okj ep)<|qI ?_⟩;cases c:mH (bC p) with
  | true=>exact eZ (aA rfl (hN _ _ ⟨rfl,by rw [Zn,ew0,KD];simp [c]⟩))
  | false=>exact xG (hN _ _ ⟨rfl,by rw [Zn,ew0,KD];simp [c]⟩)
 ·rintro acc h' ⟨rfl,rfl⟩;rw [Za];exact q _ rfl
theorem Cz.spot {ts:List (Str×List Nat)}(h:¬ (((ts.map bC).filter mH).length:Int)<7):("spot" : Str)∈cQ ts:=by
 cases e:(ts.map bC).filter mH with
 | nil=>rw [e] at h;exact absurd (by decide) h
 | cons w l=>
  have hw:w∈(ts.map bC).filter mH:=by rw [e];exact Yz
  obtain ⟨h1,h2⟩:=List.mem_filter.mp hw;refine YT.mpr ⟨w,h1,?_⟩;obtain ⟨p,_,rfl⟩:=YT.mp h1;have:p.1 = "free":=of_decide_eq_true (show decide (p.1 = "free")=true from h2)
  show vA p.1 = "spot";rw [this];rfl
theorem Cz.snoc {ts:List (Str×List Nat)}{p:Str×List Nat}(d:Cz ts)(hl:ts.length<24)(g:ok1 (cQ ts) (bC p)=true)(f:mH (bC p)=true->(((ts.map bC).filter mH).length:Int)<7):Cz (ts++[p]):=by
 refine ⟨?_,?_,by rw [Yw];exact hl⟩
 ·rw [YK,Yw];have e:(ts.map bC++[p].map bC)[ts.length]?=Dn (bC p):=by
   rw [Zh (by rw [Yd];exact Ym _),Yd,Nat.sub_self];rfl
  refine xg.succ (fun j r hj er=>?_) e ?_
  ·rw [Zu (by rw [Yd];exact hj)] at er;have:=d.ok j r hj er
   rw [List.take_append_of_le_length (by rw [Yd];lia)];exact this
  ·rw [List.take_append_of_le_length (by rw [Yd];exact Ym _),Kq (by rw [Yd];exact Ym _)];exact g
 ·rw [YK,KD,Yw];show _+([bC p].filter mH).length<=7;cases c:mH (bC p) with
  | true=>
   have h1:=f c;have:([bC p].filter mH).length=1:=by simp [c]
   lia
  | false=>
   have h1:=d.fr;have:([bC p].filter mH).length=0:=by simp [c]
   lia
structure Rws (h h':Gh) (a b:Nat) (ts:List (Str×List Nat)):Prop where
 kp:Kp h h'
 ca:h'.c a=Dn (.lst (ts.map bC))
 cb:h'.c b=Dn (.lst ((cQ ts).map .str))
 ne:a≠b
 la:h.nx<=a
 lb:h.nx<=b
 ua:a<h'.nx
 ub:b<h'.nx
 d:Cz ts
def Wc (c0:VR):Prop:=∀ {h:Gh} {ns:List Int} {m:Nat} {Q:WK} {E:X4},m<=23->(∀ ts a b h',ts.length<=m+1->1<=ts.length->Rws h h' a b ts->Q (.tup [.loc a,.loc b]) h')->c0 [.kls (ns.map .int),.int 2,.int (m:Nat)] h Q E
theorem zbu {ns:List Int}{m:Nat}:∃ ms:List Int,qd (ns.map .int) (Dn 2) (Dn (2+(m:Int)))=ms.map .int/\ms.length<=m:=by
 unfold qd;refine ⟨_,by rw [<-List.map_drop,<-List.map_take],?_⟩;rw [Zo];have e1:HT.sIx (ns.map W.int).length 0 (Dn 2)=min 2 (ns.map W.int).length:=by
  unfold HT.sIx;simp
 have e2:HT.sIx (ns.map W.int).length (ns.map W.int).length (Dn (2+(m:Int)))=min (2+m) (ns.map W.int).length:=by
  unfold HT.sIx;simp;rw [if_neg (by lia)];lia
 rw [e1,e2];lia
theorem RJ {ws:List W}{lo hi:Option Int}{h:Gh}{Q:WK}(x:Q (.lst (qd ws lo hi)) h):sZ (.kls ws) lo hi h Q:=x
theorem N8 {c0 c1 c2:VR}(hb:Mz c0)(hr:Wn c1)(hs:Wr c2):Wc (qR c0 c1 c2):=by
 intro h ns m Q E hm k;unfold qR;refine lR rfl (Z:=[Dn<|.kls<|ns.map .int,Dn<|.int 2,Dn<|.int (m:Nat),FN,FN,FN,FN]) rfl ?_;refine aM<|aX<|gM (fun R=>rfl) rfl fun g1 gc1 go1 gn1=>?_
 refine nV<|cu ?_
 refine aM<|aX<|gM (fun R=>rfl) rfl fun g2 gc2 go2 gn2=>?_
 refine nV<|cu ?_
 have d0:Cz []:=⟨fun j r hj _=>absurd hj (Jl _),by decide,by decide⟩
 have two0:Rws h g2 h.nx g1.nx []:=by
  refine ⟨⟨by lia,fun m hm=>?_⟩,?_,gc2,by lia,Ym _,by lia,by lia,by lia,d0⟩
  ·rw [go2 m (by lia),go1 m (by lia)]
  ·rw [go2 _ (by lia)];exact gc1
 generalize h.nx=a at *;generalize g1.nx=b at *;obtain ⟨ms,em,lm⟩:=zbu (ns:=ns) (m:=m);refine aM<|pH<|uX<|aN<|qQ<|aA rfl<|fY<|aA rfl<|Dg<|fY<|aN<|aA rfl<|aA rfl<|pC<|Dg ?_
 refine RJ ?_;rw [em];refine cZ<|ao<|bN<|aF<|bI rfl<|Kw (by rw [Yd];show _+1<=1000;lia)<|GP rfl<|mq ?_
 have e3:(ms.map W.int++[W.int 3])=(ms++[3]).map W.int:=by rw [YK];rfl
 rw [e3];refine lQ (fun i Z h'=>∃ ts a5 a6,ts.length=i/\Z = [Dn<|.kls<|ns.map .int,Dn<|.int 2,Dn<|.int (m:Nat),Dn<|.loc a,Dn<|.loc b,a5,a6]/\Rws h h' a b ts) ?_ ?_ ⟨[],FN,FN,rfl,rfl,two0⟩
 ·rintro i w Z h' N hN e ⟨ts,a5,a6,tl,rfl,R⟩;have hi:i<((ms++[3]).map W.int).length:=(Yn.mp e).1;rw [Yd,Yw] at hi;have hi:i<ms.length+1:=hi;rw [Yo] at e;obtain ⟨x,ex,rfl⟩:=Yy.mp e;refine nV<|aM<|aX<|bw<|ao<|bw<|ao<|aA rfl<|aF<|hb fun h1 bf n1 o1=>?_
  obtain ⟨bg,ebg⟩:∃ bg,bg=h'.nx:=⟨_,rfl⟩
  rw [<-ebg] at bf n1 o1 |-
  have ua:a<bg:=by rw [ebg];exact R.ua
  have ub:b<bg:=by rw [ebg];exact R.ub
  have k0:h.nx<=bg:=by rw [ebg];exact R.kp.1
  have ca1:h1.c a=Dn (.lst (ts.map bC)):=(o1 a (Yv ua)).trans R.ca;have cb1:h1.c b=Dn (.lst ((cQ ts).map .str)):=(o1 b (Yv ub)).trans R.cb;refine ao<|aA rfl<|ao<|d7<|ao<|WT R.d rfl ca1 fun ws wl=>aF<|dU (xs:=ws) rfl<|aF ?_
  rw [wl];refine hr bf cb1 (by rw [n1];exact JK _) (by unfold cQ;rw [Yd,Yd];exact R.d.len) ?_ fun w h2 gd bg2 gr2=>nV<|cu ?_
  ·by_cases c:(((ts.map bC).filter mH).length:Int)<7
   ·exact .inl c
   ·exact .inr<|Cz.spot c
  ·obtain ⟨p,rfl,g1',g2'⟩:=gd;have na:a≠bg:=Yv ua;have nb:b≠bg:=Yv ub;have ca2:h2.c a=Dn (.lst (ts.map bC)):=(gr2.2 a (by rw [n1];exact Nat.lt_succ_of_lt ua) na).trans ca1;have cb2:h2.c b=Dn (.lst ((cQ ts).map .str)):=(gr2.2 b (by rw [n1];exact Nat.lt_succ_of_lt ub) nb).trans cb1;have nx2:bg+1<=h2.nx:=by have:=gr2.1;rw [n1] at this;exact this
   have kp2:Kp h h2:=by
    refine ⟨by lia,fun q hq=>?_⟩;have h0:q<bg:=by lia
    rw [gr2.2 q (by lia) (by lia),o1 q (by lia),R.kp.2 q hq]
   have tl2:ts.length<24:=by lia
   refine aM<|fU<|jV<|aA rfl<|gJ ca2<|ao<|aA rfl<|aF<|yS ca2 (by rw [Yd];lia) fun g3 gc3 go3 gn3=>cu ?_
   have cb3:g3.c b=Dn (.lst ((cQ ts).map .str)):=(go3 b (Bk R.ne)).trans cb2;refine fU<|jV<|aA rfl<|gJ cb3<|ao<|bw<|ao<|aN<|aA rfl<|bN<|cG (ws:=.str p.1::p.2.map fun n:Nat=>.int n) (w:=.str p.1) rfl (bF (j:=0) rfl)<|aF<|hs fun h4 n4=>aF ?_
   have lb2:b<g3.nx:=by rw [gn3];lia
   have la2:a<g3.nx:=by rw [gn3];lia
   have cb4:h4.c b=Dn (.lst ((cQ ts).map .str)):=(n4.1 b (Yv lb2)).trans cb3;refine yS cb4 (by unfold cQ;rw [Yd,Yd,Yd];lia) fun g5 gc5 go5 gn5=>cu<|hN _ _ ⟨ts++[p],_,_,by rw [Yw,tl];rfl,rfl,⟨?_,?_,?_,R.ne,R.la,R.lb,by rw [gn5,n4.2];lia,by rw [gn5,n4.2];lia,R.d.snoc tl2 g1' g2'⟩⟩
   ·refine ⟨by rw [gn5,n4.2,gn3];have:=kp2.1;lia,fun q hq=>?_⟩;have:=R.la
    have:=R.lb
    have q3:q<g3.nx:=by rw [gn3];have:=kp2.1;lia
    rw [go5 q (by lia),n4.1 q (Yv q3),go3 q (by lia),kp2.2 q hq]
   ·rw [go5 a R.ne,n4.1 a (Yv la2),gc3,YK];rfl
   ·rw [gc5];unfold cQ;rw [YK,YK,YK];rfl
 ·rintro Z h' ⟨ts,a5,a6,tl,rfl,R⟩;rw [Yd,Yw] at tl;have tl:ts.length=ms.length+1:=tl;unfold qG;exact cu<|dZ<|cP<|ao<|aA rfl<|ao<|aA rfl<|aF<|bI rfl<|k ts a b h' (by lia) (by lia) R
theorem yr:∀ ns:List Nat,mK (ns.map fun n:Nat=>W.int (n:Int)) (ns.map fun n:Nat=>W.int (n:Int))=true
 | []=>rfl
 | n::ns=>by
  show (Wj (.int (n:Int)) (.int (n:Int))&&mK _ _)=true;rw [yr ns,lW,beq_self_eq_true];rfl
theorem zZ (p:Str×List Nat):Wj (bC p) (bC p)=true:=by
 show (Wj (.str p.1) (.str p.1)&&mK _ _)=true;rw [yr,jL,beq_self_eq_true];rfl
theorem qZ:∀ ts:List (Str×List Nat),mK (ts.map bC) (ts.map bC)=true
 | []=>rfl
 | p::ts=>by
  show (Wj (bC p) (bC p)&&mK _ _)=true;rw [qZ ts,zZ];rfl
theorem wO {n:Nat}(ts:List (Str×List Nat)):WR (n+3) (.lst (ts.map bC))=true:=by
 show ((ts.map bC).all (WR (n+2)))=true;refine Zf.mpr fun w hw=>?_;obtain ⟨p,_,rfl⟩:=YT.mp hw;exact Ax p
theorem rm {h:Gh}{n:Nat}{us:List W}(e:h.c n=Dn (.lst us)):lq h (.loc n)=Dn (.lst us):=by
 show (match h.c n with
  | some (.lst ws)=>Dn (W.lst ws)
  | _=>FN)=_
 rw [e]
theorem QM {h:Gh}{x y z a b c:W}(e1:lq h x=Dn a)(e2:lq h y=Dn b)(e3:lq h z=Dn c):fC h [x,y,z]=Dn [a,b,c]:=by
 simp only [fC,e1,e2,e3]
theorem Pu {h:Gh}{x y a b:W}(e1:lq h x=Dn a)(e2:lq h y=Dn b):fC h [x,y]=Dn [a,b]:=by
 simp only [fC,e1,e2]
theorem Bc {h:Gh}(p:Str×List Nat):lq h (bC p)=Dn (bC p):=rfl
theorem zby {h:Gh}{x y z x' y' z' a b c:W}{Q:WK}(e1:lq h x=Dn a)(e2:lq h y=Dn b)(e3:lq h z=Dn c)(f1:lq h x'=Dn a)(f2:lq h y'=Dn b)(f3:lq h z'=Dn c)
  (p1:WR 29 a=true) (p2:WR 29 b=true) (p3:WR 29 c=true) (q1:Wj a a=true) (q2:Wj b b=true) (q3:Wj c c=true) (k:Q (.bl false) h):QB (.tup [x,y,z]) (.tup [x',y',z']) h Q:=by
 have d1:pR h (.tup [x,y,z])=Dn (.tup [a,b,c]):=by
  show (match fC h [x,y,z] with
   | some ds=>Dn (W.tup ds)
   | none=>FN)=_
  rw [QM e1 e2 e3]
 have d2:pR h (.tup [x',y',z'])=Dn (.tup [a,b,c]):=by
  show (match fC h [x',y',z'] with
   | some ds=>Dn (W.tup ds)
   | none=>FN)=_
  rw [QM f1 f2 f3]
 have pp:WR 30 (.tup [a,b,c])=true:=by
  show ([a,b,c].all (WR 29))=true;simp [p1,p2,p3]
 have qq:Wj (.tup [a,b,c]) (.tup [a,b,c])=true:=by
  show (Wj a a&&(Wj b b&&(Wj c c&&true)))=true;rw [q1,q2,q3];rfl
 unfold QB;rw [d1,d2];show AP (WR 30 (.tup [a,b,c])&&WR 30 (.tup [a,b,c])) (Q (.bl (!Wj (.tup [a,b,c]) (.tup [a,b,c]))) h) False;rw [pp,qq];exact k
theorem zbg {h:Gh}{x y x' y' a b:W}{Q:WK}(e1:lq h x=Dn a)(e2:lq h y=Dn b)(f1:lq h x'=Dn a)(f2:lq h y'=Dn b)
  (p1:WR 29 a=true) (p2:WR 29 b=true) (q1:Wj a a=true) (q2:Wj b b=true) (k:Q (.bl false) h):Pq (.lst [x,y]) (.lst [x',y']) h Q:=by
 have d1:rH h (.lst [x,y])=Dn (.lst [a,b]):=by
  show (match fC h [x,y] with
   | some ds=>Dn (W.lst ds)
   | none=>FN)=_
  rw [Pu e1 e2]
 have d2:rH h (.lst [x',y'])=Dn (.lst [a,b]):=by
  show (match fC h [x',y'] with
   | some ds=>Dn (W.lst ds)
   | none=>FN)=_
  rw [Pu f1 f2]
 have pp:WR 30 (.lst [a,b])=true:=by
  show ([a,b].all (WR 29))=true;simp [p1,p2]
 have qq:Wj (.lst [a,b]) (.lst [a,b])=true:=by
  show (Wj a a&&(Wj b b&&true))=true;rw [q1,q2];rfl
 unfold Pq;rw [d1,d2];show AP (WR 30 (.lst [a,b])&&WR 30 (.lst [a,b])) (Q (.bl (!Wj (.lst [a,b]) (.lst [a,b]))) h) False;rw [pp,qq];exact k
theorem Ce (a:List Str):Wj (.lst (a.map .str)) (.lst (a.map .str))=true:=by
 show mK (a.map .str) (a.map .str)=true;rw [aas];exact decide_eq_true rfl
theorem Us {us vs:List W}{n:Nat}{h:Gh}{Q:WK}(e:h.c n=Dn (.lst us))(hz:us.length+vs.length<=1000)(k:Q (.lst (us++vs)) h):fj (.loc n) (.lst vs) h Q:=by
 show (match Df h (.loc n),Df h (.lst vs) with
  | some a,Dn b=>jD (a.length+b.length) (Q (.lst (a++b)) h)
  | _,_=>False)
 have e1:Df h (.loc n)=Dn us:=by
  show (match h.c n with
   | some (.lst ws)=>Dn ws
   | _=>FN)=_
  rw [e]
 rw [e1];exact jD.mk (YS hz<|by decide) k
theorem SQ {h:Gh}{n:Nat}{us:List W}{Q:WK}(e:h.c n=Dn (.lst us))(k:∀ g:Gh,g.nx=h.nx->(∀ m,m≠n->g.c m=h.c m)->Q .non g):pQ h (.loc n) (qm (.loc n) [] h Q):=by
 simp only [pQ,qm,e];exact k _ rfl fun m hm=>uc hm
theorem abP {r:MM}{mo:ME}{Z : Sw}{h:Gh}{Q:WK}(x:mo Z h fun x h1=>pQ h1 x (r x [] h1 Q)):Fi r mo Z h Q:=x
structure Fd (nms:List Str) (ts:List (Str×List Nat)) (cl:Str×List Nat):Prop where
 nm:DP nms ts.length
 d:Cz ts
 l1:1<=ts.length
 c1:cl.1∈Eb
 c2:Fp (cQ ts) (bC cl)=true
 c3:cl.2.length<=3
 c4:∀ n∈cl.2,n<ts.length
theorem Ih {x:Str}(hx:x∈Bu):Wk x/\x.length<=8:=by
 unfold Bu at hx;simp only [Yq,Y5,or_false] at hx;rcases hx with e | e | e | e | e | e | e <;> subst e <;> exact ⟨⟨by decide +kernel,by decide +kernel⟩,by decide⟩
theorem G3 {x:Str}(hx:x∈Eb):Wk x/\x.length<=8:=by
 unfold Eb at hx;simp only [Yq,Y5,or_false] at hx;rcases hx with e | e | e | e | e | e <;> subst e <;> exact ⟨⟨by decide +kernel,by decide +kernel⟩,by decide⟩
section
variable {nms:List Str}{ts:List (Str×List Nat)}{cl:Str×List Nat}
theorem Cz.ahd (d:Cz ts):Ahd ts:=by
 intro i p e;have o:=d.okj e;refine ⟨(Ih (oV o).1).1,fun n hn=>?_⟩;have:=(rJ o).1 n hn
 rw [Yd,Zo,Yd] at this;lia
theorem Cz.sz (d:Cz ts):∀ p∈ts,Sz p/\∀ n∈p.2,n<ts.length:=by
 intro p hp;obtain ⟨ss,o,hl⟩:=d.mem hp;obtain ⟨n1,n2⟩:=rJ o;have:=UW (oV o).1
 exact ⟨⟨(Ih (oV o).1).2,by lia⟩,fun n hn=>Yl (n1 n hn) hl⟩
theorem Fd.csz (t:Fd nms ts cl):Sz cl:=⟨(G3 t.c1).2,YS t.c3 (by decide)⟩
theorem Fd.drw (t:Fd nms ts cl):Drw (ts.map bC):=by
 refine ⟨by rw [Yd];exact t.l1,by rw [Yd];exact t.d.len,?_,t.d.fr⟩;rw [Yd];exact t.d.ok
theorem Fd.okD (t:Fd nms ts cl):okD (ts,nms) cl:=⟨t.drw,t.c2⟩
theorem Fd.len (t:Fd nms ts cl):(Fk nms ts cl).length<=2000:=by
 have ll:=n8 (nms:=nms) (ns:=nms) (ps:=ts) t.nm.len;have:=sX (y := "; ") (B:=72) (ps:=(BX nms nms ts++[("claim" : Str)::wn nms cl]).map (Ze " ")) fun p hp=>by
  obtain ⟨l,hl,rfl⟩:=YT.mp hp;rcases Zr.mp hl with hl | hl
  ·exact Bp t.nm t.d.sz l hl
  ·rw [Y0.mp hl];exact GD t.nm t.csz t.c4
 rw [Yd,Yw,ll,List.length_singleton] at this;have e1:("; " : Str).length=2:=rfl;rw [e1] at this;have:=t.d.len
 unfold Fk;lia
end
def ReX (c0:VR):Prop:=∀ {h:Gh} {nms:List Str} {ts:List (Str×List Nat)} {cl:Str×List Nat} {ra:Nat} {Q:WK} {E:X4},Fd nms ts cl->h.c ra=Dn (.lst (ts.map bC))->ra<h.nx->Q (.bl true) h->c0 [.str (Fk nms ts cl),.loc ra,.lst (nms.map .str),bC cl] h Q E
theorem Lx {c0 c1:VR}(hr:RdX c0)(hw:∀ {h:Gh} {n:Nat} {Q:WK} {E:X4},Q (.bl true) h->c1 [.int (n:Nat)] h Q E):ReX (qX c0 c1):=by
 intro h nms ts cl ra Q E t hra rl k;unfold qX;refine BR rfl (Z:=[Dn<|.str<|Fk nms ts cl,Dn<|.loc ra,Dn<|.lst<|nms.map .str,Dn<|bC cl,FN,FN]) rfl ?_;refine aM<|aX<|bw<|ao<|aA rfl<|aF ?_
 refine hr (YS t.len<|by decide) (Pb t.nm t.d.ahd (G3 t.c1).1 t.c4) (fun s cl2 e1 e2 _ h2 a b T=>?_)<|fun z=>absurd t.okD<|z _ _ (Al t.nm t.d.ahd)<|Cw t.nm t.c4
 rw [Al t.nm t.d.ahd] at e1;cases e1;rw [Cw t.nm t.c4] at e2;cases e2;have T1:h2.c a=Dn (.lst (ts.map bC)):=T.ca;have T2:h2.c b=Dn (.lst (nms.map .str)):=T.cb;have hra2:h2.c ra=Dn (.lst (ts.map bC)):=(T.kp.2 ra rl).trans hra;have ix0:∀ {g:Gh} {R:WK},R (.loc a) g->W9 (.tup [.loc a,.loc b,bC cl]) (.int 0) g R:=fun q=>cG (ws:=[.loc a,.loc b,bC cl]) rfl (bF (j:=0) rfl) q
 have ix1:∀ {g:Gh} {R:WK},R (.loc b) g->W9 (.tup [.loc a,.loc b,bC cl]) (.int 1) g R:=fun q=>cG (ws:=[.loc a,.loc b,bC cl]) rfl (bF (j:=1) rfl) q
 have ix2:∀ {g:Gh} {R:WK},R (bC cl) g->W9 (.tup [.loc a,.loc b,bC cl]) (.int 2) g R:=fun q=>cG (ws:=[.loc a,.loc b,bC cl]) rfl (bF (j:=2) rfl) q
 refine nV<|cu<|aM<|dG<|mZ<|gq<|gC<|d7<|ao<|aA rfl<|ao<|bN<|aF<|iR (b:=true) rfl<|yF rfl<|gB ?_
 refine mZ<|cj<|aN<|d7<|ao<|aA rfl<|aF<|dU (xs:=[.loc a,.loc b,bC cl]) rfl<|bN<|Rf<|qI<|Ir (decide_eq_false<|fun z=>z rfl) ?_
 refine gq<|gC<|d7<|ao<|aN<|aA rfl<|bN<|ix2<|ao<|bN<|aF<|iR (b:=true) rfl<|yF rfl<|gB<|cD<|cu ?_
 unfold pY;refine aM<|dG<|mZ<|gq<|gC<|d7<|ao<|aN<|aA rfl<|bN<|ix0<|ao<|bN<|aF<|iR (b:=true) (Th.list'<|.loc T1 T.ua)<|yF rfl<|gB ?_
 refine mZ<|gq<|gC<|d7<|ao<|aN<|aA rfl<|bN<|ix1<|ao<|bN<|aF<|iR (b:=true) (Th.list'<|.loc T2 T.ub)<|yF rfl<|gB ?_
 refine cj<|aN<|aA rfl<|cP<|ao<|aA rfl<|ao<|aA rfl<|ao<|aA rfl<|aF<|bI rfl ?_
 refine zby (rm T1) (rm T2) (Bc cl) (rm hra2) rfl (Bc cl) (wO ts) xY (Ax cl) (qZ ts) (Ce nms) (zZ cl)<|qI<|DY<|cD<|cu ?_
 unfold qL;refine aM<|pH<|uX<|aN<|aN<|aA rfl<|bN<|ix0<|cZ<|ao<|aN<|aA rfl<|bN<|ix2<|aF<|bI rfl<|Us T1 ?_<|GP rfl<|mq ?_
 ·rw [Yd];have:=t.d.len
  show ts.length+1<=1000;lia
 have e3:ts.map bC++[bC cl]=(ts++[cl]).map bC:=by rw [YK];rfl
 rw [e3];have h9:∀ p∈ts++[cl],p.2.length<=6:=by
  intro p hp;rcases Zr.mp hp with hp | hp
  ·exact (t.d.sz p hp).1.2
  ·rw [Y0.mp hp];exact t.csz.2
 refine lQ (fun i Z h'=>h'=h2/\∃ a5,Z = [Dn<|.str<|Fk nms ts cl,Dn<|.loc ra,Dn<|.lst<|nms.map .str,Dn<|bC cl,Dn<|.tup [.loc a,.loc b,bC cl],a5]) ?_ ?_ ⟨rfl,FN,rfl⟩
 ·rintro i w Z h' N hN e ⟨rfl,a5,rfl⟩;rw [Yo] at e;obtain ⟨p,ep,rfl⟩:=Yy.mp e;have hp6:=h9 p (YL ep);refine nV<|dG<|mZ<|gq<|gC<|d7<|ao<|aA rfl<|ao<|bN<|aF<|iR (b:=true) rfl<|yF rfl<|gB ?_
  refine gq<|gC<|d7<|ao<|lN<|Jr (u:=.str p.1) (us:=p.2.map fun n:Nat=>.int n) rfl ?_
  refine jD.mk (by rw [Yd];exact Dz (by lia)) ?_;refine fJ (fun i acc h2=>h2=h'/\acc=(ZD i true).map .bl) ?_ ?_ ⟨rfl,rfl⟩
  ·rintro i w acc h3 R hR e ⟨rfl,rfl⟩;rw [Yo] at e;obtain ⟨n,en,rfl⟩:=Yy.mp e;refine ⟨[.int (n:Nat)],rfl,gZ<|eZ<|bw<|ao<|aA rfl<|aF<|hw<|hR _ _ ⟨rfl,?_⟩⟩;rw [List.replicate_succ',YK];rfl
  ·rintro acc h3 ⟨rfl,rfl⟩;refine aF<|xO rfl nC<|yF rfl ?_
   have:(ZD (p.2.map fun n:Nat=>W.int (n:Int)).length true).all id=true:=by simp
   rw [this];exact gB<|cD<|cu<|hN _ _ ⟨rfl,_,rfl⟩
 ·rintro Z h' ⟨rfl,a5,rfl⟩;unfold qp;refine cu<|aM<|fU<|abP<|aN<|aA rfl<|bN<|ix0<|SQ T1 fun g gn go=>cu ?_
  have cb:g.c b=Dn (.lst (nms.map .str)):=(go b (Bk T.ne)).trans T2;refine aM<|fU<|jV<|aN<|aA rfl<|bN<|ix1<|gJ cb<|ao<|bN<|aF<|yS cb ?_ fun g2 gc2 go2 gn2=>cu<|dZ<|bN<|Kg ?_ k
  ·rw [Yd,t.nm.len];exact YS t.d.len<|by decide
  ·refine ⟨by rw [gn2,gn];exact T.kp.1,fun m hm=>?_⟩;have:=T.la
   have:=T.lb
   rw [go2 m (by lia),go m (by lia)];exact T.kp.2 m hm
def pre2 (ls:List (List Str)):Str:=tx ((ls.map fun l=>cs (Ze " " l)++[59,32]).flatten)
theorem zaC {ls:List (List Str)}{l:List Str}:pre2 (ls++[l])=pre2 ls++Ze " " l ++ "; ":=by
 refine nO ?_;unfold pre2;rw [dj,dj,kh,kh,YK,List.flatten_append,ZG];show _++[_].flatten=_;rw [List.flatten_singleton];rfl
theorem qz {l:List Nat}:∀ {ls:List (List Nat)},pW (ls++[l])=(ls.map fun x=>x++[59,32]).flatten++l
 | []=>rfl
 | [p]=>by
  show p++59::32::l=[p++[59,32]].flatten++l;rw [List.flatten_singleton,ZG];rfl
 | p::q::ls=>by
  show p++59::32::pW ((q::ls)++[l])=_;rw [qz (ls:=q::ls)];show _=((p++[59,32])::((q::ls).map fun x=>x++[59,32])).flatten++l;rw [List.flatten_cons,ZG,ZG];rfl
theorem aaS {nms:List Str}{ts:List (Str×List Nat)}{cl:Str×List Nat}:pre2 (BX nms nms ts) ++ "claim "++Ze " " (wn nms cl)=Fk nms ts cl:=by
 refine nO ?_;have e:Fk nms ts cl=Et "; " ((BX nms nms ts++[("claim" : Str)::wn nms cl]).map (Ze " ")):=Kh "; " _;rw [e,rF,ZC,YK];show _=pW (_++[cs (Ze " " (("claim" : Str)::wn nms cl))]);rw [qz,eU (l:=wn nms cl) (ZR _ _),ZC,dj,dj,dj,dj];unfold pre2;rw [kh,ZG];congr 1
theorem Ub {as:List W}{n:Nat}{bs:List W}{i j:Nat}{Z : Sw}{h:Gh}{R:Src->Gh->Prop}(h1:Z[i]?=Dn (Dn (.lst as)))(h2:Z[j]?=Dn (Dn (.loc n)))(e:h.c n=Dn (.lst bs))(k:R ⟨jU as bs,Dn (n,bs)⟩ h) :
  IV (au (aG i) (au (aG j) aO)) Z h R:=by
 refine ao<|aA h1<|ao<|aA h2<|aF ?_
 show (match L2.GQ h (.lst as) (.loc n) with
  | some s=>R s h
  | none=>False)
 have:L2.GQ h (.lst as) (.loc n)=Dn ⟨jU as bs,Dn (n,bs)⟩:=by
  show (match h.c n with
   | some (.lst bs)=>Dn (⟨jU as bs,Dn (n,bs)⟩:Src)
   | _=>FN)=_
  rw [e]
 rw [this];exact k
theorem Q0 {us:List W}{h:Gh}{Q:WK}(k:Q (.lst us) h):yx [.lst us] h Q:=k
theorem zbm {h:Gh}{n:Nat}{Q:WK}{E:X4}(k:Q (.bl true) h):nZ [.int (n:Nat)] h Q E:=by
 unfold nZ;refine lR rfl (Z:=[Dn<|.int (n:Nat)]) rfl ?_;refine dZ<|vg<|d7<|ao<|aA rfl<|ao<|bN<|aF<|iR (b:=true) rfl<|Tq<|ur ?_
 exact zB<|d7<|ao<|aA rfl<|ao<|bN<|aF<|iR (b:=false) rfl<|V0 k
theorem Gc.tol {ss:List Str}{w:W}(g:Gc ss w){nms:List Str}{ts:List (Str×List Nat)}(N:DP nms ts.length)(d:Cz ts)(l1:1<=ts.length)(e:ss=cQ ts):∃ cl,w=bC cl/\Fd nms ts cl:=by
 obtain ⟨p,rfl,h1,h2,h3,h4⟩:=g;subst e;refine ⟨p,rfl,N,d,l1,h1,h2,h3,fun n hn=>?_⟩;have:=h4 n hn
 unfold cQ at this;rw [Yd,Yd] at this;exact this
theorem Cz.spot1 {ts:List (Str×List Nat)}(d:Cz ts)(l1:1<=ts.length):("spot" : Str)∈cQ ts:=by
 cases ts with
 | nil=>cases l1
 | cons p ts=>
  have o:=d.okj (j:=0) (p:=p) rfl;obtain ⟨h1,h2⟩:=rJ o;have h1:∀ n∈p.2,n<0:=h1
  have e:(zu p.1).length=0:=by
   rw [<-h2];cases q:p.2 with
   | nil=>rfl
   | cons n l=>exact absurd (h1 n (by rw [q];exact Yz)) (Jl _)
  have hx:=(oV o).1;refine Yq.mpr<|.inl ?_
  show ("spot" : Str)=vA p.1;unfold Bu at hx;simp only [Yq,Y5,or_false] at hx;rcases hx with z | z | z | z | z | z | z <;> rw [z] at e |- <;> first | rfl | exact absurd e (by decide)
theorem Vf {sd ca bg nm rw' cm ws re:VR}(hsd:ShX sd)(hca:Ab ca)(hbg:Mz bg)(hnm:VN nm)(hrw:Wc rw')(hcm:V2 cm)(hws:WsX ws)(hre:ReX re)(ns:List Int)(hn:ns.length<=63) :
  JZ sd ca bg nm rw' cm ws re [.kls (ns.map W.int)] g0 (fun w _=>w=.bl true) EF:=by
 unfold JZ;refine lR rfl (Z:=[Dn<|.kls<|ns.map .int,FN,FN,FN,FN,FN,FN,FN,FN,FN,FN]) rfl ?_;refine aM<|aX<|bw<|ao<|bw<|ao<|aA rfl<|ao<|bN<|aF<|hca (by decide)<|aF<|hbg fun h1 b1 n1 o1=>nV<|cu ?_
 generalize g0.nx=b0 at *;refine aM<|aX<|bw<|ao<|aA rfl<|ao<|bN<|ao<|bN<|aF ?_
 refine hrw (m:=23) (Ym _) fun ts a b h2 tl1 tl2 R=>vY rfl rfl<|oR<|nV ?_
 refine oR<|nV<|Cj<|cu ?_
 have b0l:b0<h1.nx:=by rw [n1];exact JK _
 have na:b0≠a:=Yv (Yl b0l R.la);have nb:b0≠b:=Yv (Yl b0l R.lb);have b2:Ba h2 b0:=ju b1 (R.kp.2 b0 b0l);refine aM<|aX<|bw<|ao<|aA rfl<|ao<|d7<|ao<|aA rfl<|aF<|dU (cO R.ca)<|aF ?_
 rw [Yd];refine hnm b2 R.d.len fun nms h3 N b3 o3=>nV<|cu ?_
 have ca3:h3.c a=Dn (.lst (ts.map bC)):=(o3.2 a (Bk na)).trans R.ca;have cb3:h3.c b=Dn (.lst ((cQ ts).map .str)):=(o3.2 b (Bk nb)).trans R.cb;have ua3:a<h3.nx:=by rw [o3.1];exact R.ua
 have ub3:b<h3.nx:=by rw [o3.1];exact R.ub
 refine aM<|aX<|bw<|ao<|bw<|ao<|bw<|ao<|aA rfl<|ao<|bN<|aF<|hca (by decide)<|aF<|hbg fun h4 b4 n4 o4=>ao<|aA rfl<|aF ?_
 have ca4:=(o4 a (Yv ua3)).trans ca3;have cb4:=(o4 b (Yv ub3)).trans cb3;refine hcm b4 cb4 (by rw [n4];exact JK _) (ZS ub3) (by unfold cQ;rw [Yd,Yd];exact R.d.len) (R.d.spot1 tl2) fun w h5 gc b5 g5=>nV<|cu ?_
 obtain ⟨cl,rfl,T⟩:=gc.tol N R.d tl2 rfl;have ua4:a<h4.nx:=by rw [n4];exact Nat.lt_succ_of_lt ua3
 have ca5:h5.c a=Dn (.lst (ts.map bC)):=(g5.2 a ua4 (Yv ua3)).trans ca4;have ua5:a<h5.nx:=Yl ua4 g5.1;have ll:=n8 (nms:=nms) (ns:=nms) (ps:=ts) N.len;have ln:=Bp N R.d.sz;refine aM<|aX<|bN<|nV<|cu<|aM<|pH<|Ub (as:=nms.map .str) rfl rfl ca5<|mq ?_
 refine xH (fun i Z h'=>h'=h5/\(pre2<|(BX nms nms ts).take i).length<=i*74/\∃ a7 a8,Z = [Dn<|.kls<|ns.map .int,Dn<|.loc b0,Dn<|.loc a,Dn<|.loc b,Dn<|.lst<|nms.map .str,Dn<|bC cl,Dn<|.str<|pre2<|(BX nms nms ts).take i,a7,a8,FN,FN]) ?_ ?_ ?_ ⟨rfl,Ym _,FN,FN,rfl⟩
 ·rintro i Z h' ⟨rfl,_⟩ P p;exact ⟨ca5,p⟩
 ·rintro i w Z h' K hK e ⟨rfl,hp,a7,a8,rfl⟩;obtain ⟨x,y,ex,ey,rfl⟩:=kJ e;rw [Yo] at ex ey;obtain ⟨n,en,rfl⟩:=Yy.mp ex;obtain ⟨p,ep,rfl⟩:=Yy.mp ey;obtain ⟨s1,s2⟩:=R.d.sz p (YL ep);have hi:i<ts.length:=(Yn.mp ep).1;have h24:=R.d.len;have el:=CP (nms:=nms) en ep;have l63:=xJ N s1 s2;have l8:n.length<=8:=by rw [<-eF];exact zJ (N.nm n (YL en))
  have l1:(" " : Str).length=1:=rfl;have l2:("; " : Str).length=2:=rfl;have es:pre2 ((BX nms nms ts).take i)++n ++ " "++Ze " " (wn nms p) ++ "; " = pre2 ((BX nms nms ts).take (i+1)):=by
   rw [Zn,el];show _=pre2 (_++[_]);rw [zaC,eU (l:=wn nms p) (ZR _ _)];exact nO<|by simp only [dj,ZG]
  refine vY rfl rfl<|oR<|nV ?_
  refine oR<|nV<|Cj ?_
  refine aX<|aN<|aN<|aN<|aN<|aA rfl<|aA rfl<|gY ?_<|bN<|gY ?_<|bw<|ao<|aA rfl<|ao<|aA rfl<|aF ?_ 
  ·lia
  ·rw [Y4,l1];lia
  ·refine hws (nms:=nms) rfl N s1 s2<|gY ?_<|bN<|gY ?_<|nV ?_
   ·rw [Y4,Y4,l1];lia
   ·rw [Y4,Y4,Y4,l1,l2];lia
   ·rw [es];refine hK _ _ ⟨rfl,?_,_,_,rfl⟩;rw [<-es,Y4,Y4,Y4,Y4,l1,l2];lia
 ·rintro Z h' ⟨rfl,hp,a7,a8,rfl⟩;have h24:=R.d.len;have ez:(jU (nms.map W.str) (ts.map bC)).length=ts.length:=by
   rw [lG,Yd,Yd,N.len];lia
  rw [ez] at hp |-
  rw [<-ll,Za] at hp |-
  rw [ll] at hp;have l6:("claim " : Str).length=6:=rfl;have l63:=xJ N T.csz T.c4;unfold Ao;refine cu<|aM<|aX<|aN<|aN<|aA rfl<|bN<|gY ?_<|bw<|ao<|aA rfl<|ao<|aA rfl<|aF ?_
  ·rw [l6];lia
  refine hws (nms:=nms) rfl N T.csz T.c4<|gY ?_<|nV<|cu ?_
  ·rw [Y4,l6];lia
  rw [aaS];refine aM<|aX<|cZ<|ao<|d7<|ao<|aA rfl<|aF<|Rm ca5<|ao<|d7<|ao<|aA rfl<|aF<|Q0<|aF<|bI rfl<|nV<|cu ?_
  refine aM<|aX<|bw<|ao<|aN<|aA rfl<|bN<|cG (ws:=[.lst<|ts.map bC,.lst<|nms.map .str]) rfl (bF (j:=0) rfl)<|ao<|aN<|aA rfl<|bN<|cG (ws:=[.lst<|ts.map bC,.lst<|nms.map .str]) rfl (bF (j:=1) rfl)<|ao<|aA rfl<|aF ?_
  refine hsd N R.d.sz R.d.len T.csz T.c4<|nV<|cu ?_
  refine aM<|dG<|mZ<|gq<|gC<|d7<|ao<|aA rfl<|ao<|bN<|aF<|v8 .str<|yF rfl<|gB ?_
  refine mZ<|cj<|aN<|aA rfl<|aA rfl<|Jq<|qI<|Ir (decide_eq_false fun z=>z rfl) ?_
  refine cj<|aN<|aA rfl<|cZ<|ao<|aA rfl<|ao<|aA rfl<|aF<|bI rfl ?_
  refine zbg (a:=.lst (ts.map bC)) (b:=.lst (nms.map .str)) rfl rfl (rm ca5) rfl (wO ts) xY (qZ ts) (Ce nms)<|qI<|DY<|cD<|cu ?_
  unfold xZ;refine dZ<|vg<|bw<|ao<|aA rfl<|ao<|aA rfl<|ao<|aA rfl<|ao<|aA rfl<|aF ?_
  refine hre T ca5 ua5<|Tq<|ur<|bw<|ao<|aA rfl<|ao<|aA rfl<|ao<|aA rfl<|ao<|aA rfl<|aF ?_
  exact hre T ca5 ua5 rfl
theorem Ru (ns:List Int)(hn:ns.length<=63):Ec [.kls (ns.map W.int)] g0 (fun w _=>w=.bl true) EF:=
 Vf (O6 vQ) abJ Hr (abe z6) (N8 Hr (RK z6) O7) (aai z6) Ml
  (Lx (aaz (MJ wJ (QD qM) abb) (abj wJ (QD qM) (yX abO)) CV (Lw zbi CV)) zbm) ns hn
end My
namespace PySem.W.Fast
def tw10611400895721598526:=()
def tw5436001978548491909:=()
def tw9319958714103819459:=()
def tw9052488278059799161:=()
def tw9633659988911000800:=()
def tw8428868529041557172:=()
def tw1891357040093909744:=()
def tw450129239195115013:=()
def tw4746874981308088455:=()
def tw14089256233728935669:=()
def tw6021572668341126482:=()
def tw10309776429722228185:=()
def tw17480372156808447289:=()
def tw15965272615438258872:=()
def tw3146998034955927640:=()
def tw10954642813377306206:=()
def tw1008739085293873442:=()
def tw2906567685190694172:=()
def tw9657835768944337853:=()
def tw8390112674726620452:=()
def tw5730189191426950784:=()
def tw5467332939434476175:=()
def tw4538247401691916568:=()
def tw7734270753101256566:=()
def tw12369724578162531308:=()
def tw3219640016896649134:=()
def tw9907743538314474914:=()
def tw17785852622219877915:=()
def tw1083460904008078433:=()
def tw11199387619218233160:=()
def tw14117336796570333477:=()
def tw17607750743352530233:=()
def tw3964013634214882258:=()
def tw13501282376389611886:=()
def tw11593644023745607595:=()
def tw7709424095817829682:=()
def tw2267170506884960213:=()
def tw17995763644819977812:=()
def tw10058068994814123816:=()
def tw6569425008713276191:=()
def tw17138166352340916285:=()
def tw9092923193435794435:=()
def tw4230319963304610533:=()
def tw1044149423292547490:=()
def tw15857165916139574375:=()
def tw11905855263775152129:=()
def tw18373566144243624881:=()
def tw17703500385399228753:=()
def tw5893086218269765157:=()
def tw3597236296142033459:=()
def tw11791803923811057377:=()
def tw4867619064831559098:=()
def tw12004434027866938624:=()
def tw7841719936610866409:=()
def tw18287494888486690381:=()
def tw12969849685171385595:=()
def tw7065647129244104364:=()
def tw9557794736823712156:=()
def tw3650954598600411423:=()
def tw17234629092237601539:=()
def tw9651998397021404705:=()
def tw4019914492559323343:=()
def tw2283931076948459316:=()
def tw4226425772740399444:=()
def tw9977076245779447338:=()
def tw5325472556300318418:=()
def tw12724237145595249252:=()
def tw16812588438722844144:=()
def tw109300703384192120:=()
def tw9199592128383876709:=()
def tw15251238064738746975:=()
end PySem.W.Fast
open PySem PySem.W PyProof.Rows
theorem PySem.Challenge.cw_easelroom_k91_drawings_written_and_read_holds : PySem.Challenge.rw_easelroom_k91_drawings_written_and_read.Holds := by
 w_on;o_law;k_head;(case hw=>w_witness2)
 k_fill
 refine My.walk (l:=PySem.Challenge.rw_easelroom_k91_drawings_written_and_read) rfl rfl (fun w h Y=>PySem.W.kIn_of Y) ?F
 case F=>
  intro w mg fa h KX G hmg;refine' My.all_mk My.Ru KX G hmg ?a0 ?l0 ?c0 ?k0 ?a1 ?l1 ?c1 ?k1 ?a2 ?l2 ?c2 ?k2 ?a3 ?l3 ?c3 ?k3 ?a4 ?l4 ?c4 ?k4 ?a5 ?l5 ?c5 ?k5 ?a6 ?l6 ?c6 ?k6 ?a7 ?l7 ?c7 ?k7 ?a8 ?l8 ?c8 ?k8 ?a9 ?l9 ?c9 ?k9 ?a10 ?l10 ?c10 ?k10 ?a11 ?l11 ?c11 ?k11 ?a12 ?l12 ?c12 ?k12 ?a13 ?l13 ?c13 ?k13 ?a14 ?l14 ?c14 ?k14 ?a15 ?l15 ?c15 ?k15 ?a16 ?l16 ?c16 ?k16 ?a17 ?l17 ?c17 ?k17 ?a18 ?l18 ?c18 ?k18 ?a19 ?l19 ?c19 ?k19 ?a20 ?l20 ?c20 ?k20 ?a21 ?l21 ?c21 ?k21 ?a22 ?l22 ?c22 ?k22 ?a23 ?l23 ?c23 ?k23 ?a24 ?l24 ?c24 ?k24 ?a25 ?l25 ?c25 ?k25 ?z_all ?z_any ?z_bool ?z_enumerate ?z_int ?z_isinstance ?z_len ?z_list ?z_range ?z_str ?z_tuple ?z_zip ?gk_MADE ?sk_MADE ?lk_MADE ?gk_TAKEN ?sk_TAKEN ?lk_TAKEN ?lk_TAKEN_0 ?lk_TAKEN_1 ?lk_TAKEN_2 ?lk_TAKEN_3 ?lk_TAKEN_4 ?lk_TAKEN_5 ?lk_TAKEN_6 ?gk_CLAIMED ?sk_CLAIMED ?lk_CLAIMED ?lk_CLAIMED_0 ?lk_CLAIMED_0_0 ?lk_CLAIMED_0_1 ?lk_CLAIMED_0_2 ?lk_CLAIMED_1 ?lk_CLAIMED_1_0 ?lk_CLAIMED_1_1 ?lk_CLAIMED_2 ?lk_CLAIMED_2_0 ?lk_CLAIMED_3 ?lk_CLAIMED_3_0 ?lk_CLAIMED_4 ?lk_CLAIMED_4_0 ?lk_CLAIMED_5 ?lk_CLAIMED_5_0 ?gk_MOST_ROWS ?gk_MOST_FREE ?gk_FIGURES ?gk_SMALL_LETTERS ?gk_MOST_SIGNS
  (case a0 | l0 | c0 | k0 | a1 | l1 | c1 | k1 | a2 | l2 | c2 | k2 | a3 | l3 | c3 | k3 | a4 | l4 | c4 | k4 | a5 | l5 | c5 | k5 | a6 | l6 | c6 | k6 | a7 | l7 | c7 | k7 | a8 | l8 | c8 | k8 | a9 | l9 | c9 | k9=>k_is)
  (case a10 | l10 | c10 | k10 | a11 | l11 | c11 | k11 | a12 | l12 | c12 | k12 | a13 | l13 | c13 | k13 | a14 | l14 | c14 | k14 | a15 | l15 | c15 | k15 | a16 | l16 | c16 | k16 | a17 | l17 | c17 | k17 | a18 | l18 | c18 | k18 | a19 | l19 | c19 | k19=>k_is)
  (case a20 | l20 | c20 | k20 | a21 | l21 | c21 | k21 | a22 | l22 | c22 | k22 | a23 | l23 | c23 | k23 | a24 | l24 | c24 | k24 | a25 | l25 | c25 | k25 | z_all | z_any | z_bool | z_enumerate | z_int | z_isinstance | z_len | z_list | z_range | z_str | z_tuple | z_zip | gk_MADE=>k_is)
  (case sk_MADE=>rfl)
  (case lk_MADE | gk_TAKEN=>k_is)
  (case sk_TAKEN=>rfl)
  (case lk_TAKEN | lk_TAKEN_0 | lk_TAKEN_1 | lk_TAKEN_2 | lk_TAKEN_3 | lk_TAKEN_4 | lk_TAKEN_5 | lk_TAKEN_6 | gk_CLAIMED=>k_is)
  (case sk_CLAIMED=>rfl)
  (case lk_CLAIMED | lk_CLAIMED_0 | lk_CLAIMED_0_0 | lk_CLAIMED_0_1 | lk_CLAIMED_0_2 | lk_CLAIMED_1 | lk_CLAIMED_1_0 | lk_CLAIMED_1_1 | lk_CLAIMED_2 | lk_CLAIMED_2_0 | lk_CLAIMED_3 | lk_CLAIMED_3_0 | lk_CLAIMED_4 | lk_CLAIMED_4_0 | lk_CLAIMED_5 | lk_CLAIMED_5_0 | gk_MOST_ROWS | gk_MOST_FREE | gk_FIGURES | gk_SMALL_LETTERS | gk_MOST_SIGNS=>k_is)
