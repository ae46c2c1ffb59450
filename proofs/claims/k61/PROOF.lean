import PyProof.Rows.All
import Wide.All
import OpenK.AllK
import Wide.FinOn
import Lean
import PyProof.EqAt
import PyProof.EqKinds
import PyProof.TupleCall
import PySem.Challenge.RW_easelroom_k61_things_of_rows
set_option Elab.async false
set_option linter.all false
set_option maxRecDepth 100000
set_option maxHeartbeats 0
local macro_rules | `(tactic| lia) => `(tactic| first | lia (splits := 9) | omega)
open Option renaming some→Dn,none→Go
open PySem renaming wpAny_bind→Al,Value→JI,Shared→AP,Spec→ahg,wpAny_pure→HF,starEach→HJ,Program→HN,SetTable→RV,mainGlobals→JR,wpAny→Bb,Around→Hh,sizeLine→Il,model→CG,World→HI,wpAny_holding→N6,wpAny_mono→KY,wpAny_field→Ls,NameKind→Ow,boot_len→Q8,compareOp→ML,cellsFrom→MJ,wpAny_callSpecial?_slot→WQ,Builtin→WM,tupleKeyHash→QX,mem_of_lookup→Vq,assignEach→OJ,FuncData→Ms,wpAny_Call_Name_kw→WD,wpAny_call_entry→Vo,wpAny_truthy_bool→W5,wpAny_newObj_type→W4,foldedSetIterable→W3,PassesOwn→Yb,intKind→Mx,wpAny_seqItems→VG,backTo→Ka,binaryOp→Q7,wpAny_attempt→VF,codeAny_mono→Td,wpAny_setState_of→XD,wpAny_pyIter_list→X8,wpAny_loadPart_at→Xa,bootBuiltins→VR,Paired→VN,wpAny_setField→Wd,wpAny_setField_rec→Y5,wpAny_passesOwn→Wr,wpAny_standAt→Wa,behindInMarks→WY,codeAny_call_builtin→YD,wpAny_of_eq→Vu,wpAny_specialOf→Xi,wpAny_execs_nil→Xh,attributeBase→X7,cLine→Ln,rawInt→Q6,wpAny_call→Vx,sysModules→Vw,isSubtype_type→Y4,codeAny→RJ,wpAny_rule→Wb,typeLookup_type→YH,swapsWith→Vv,sliceBounds→Wx,sizeLine_eq→Wu,excClassObj→Ws,codeAny_builtin→YG,Keyword→Ra,IsPair→Qk,typeLookup→Wn,isInstance→Wj,wpAny_throw→Xe,keywordEach→Xd,holding→VB
open PySem.W renaming Frag→Ax,nsIn→K1,Looks→Xb,mg_none_of→QZ,findIn→Oh,excIn→QV,keepIn→Qm,mroIn→Qo,mg_of→Rh,clsIn→Vy,fnOf→W9,looks_findIn→Yk,looks_mroIn→YF,codeIn→Xk,InstAt→Xj,isFn→Xr,typeIn→YK
open PySem.Heap renaming get?_push_of_some→Iw,lt_size→Ik,get?_push_size→Kh,get?_update_other→Qu,get?_update_self→Qs,SameBut→QJ,size_push→S7,get?_none_of_le→Yc,ExtBut→Xf
open List renaming length_map→Hi,getElem?_map→Jm,getElem?_eq_getElem→N5,length_append→KJ,size_toArray→K8,getElem?_eq_some_iff→Ob,mem_cons→K5,length_cons→Nq,take_succ→N7,not_mem_nil→Ot,getElem?_append_left→Rn,mem_cons_of_mem→Qp,getElem?_append_right→SQ,getD_eq_getElem?_getD→SJ,take_length→Q9,map_cons→Nj,mem_of_getElem?→RN,mem_singleton→R8,mem_map→Ni,length_singleton→Rz,mem_cons_self→RM,replicate→QW,map_congr_left→Ry,map_append→R7,mem_append_right→Vl,all_eq_true→Rm,range→P0,nodup_cons→S8,length_take→Ti,mem_filter→Vn,lookup_cons→W0,mem_range→VH,mem_append→Vz,length_range'→XQ,drop_eq_getElem_cons→YZ,length→Tc,getElem_mem→XS,map_map→W8,length_replicate→Ym,mem_append_left→Yg,getElem?_of_mem→Ye,length_set→Xp,getElem?_take→YB,getElem?_replicate→Ys,foldl_cons→Xo,append_nil→Xm,any_eq_true→YL,getElem?_set_ne→Yt,any_cons→Xz
open Nat renaming le_refl→IK,lt_of_lt_of_le→Jq,ne_of_lt→JM,le_trans→Ja,le_of_ble_eq_true→QB,lt_irrefl→Qf,ne_of_gt→R9,not_lt_zero→VL,zero_le→Rb,lt_of_le_of_lt→XJ,le_of_lt→W7,eq_of_beq_eq_true→Yh,beq→Qe,zero_add→WT,le_succ→Wc
open Option.some renaming inj→Lr
open Bool renaming false_ne_true→QL,and_eq_true→Qn,and_false→Wo,not_eq_true→Xq
open Classical renaming byContradiction→Ro,epsilon_spec→YW
open Option renaming map_eq_some_iff→S6,bind_some→W2
open PyProof.Rows renaming slot_tuple_getitem→Wi,callWith_type1→Y9,boot_isinstance→Wq,SortKind→X5,Keyed→Nf,kindOf→Ql,boot_list→WR,SortSt→Qx,AllBare→Sy,envOfC→RG
open PySem.SeqAt renaming EqAt→Wg,ne_of_list_tuple→Yq
open PySem.Obj renaming data_mapFields→Rg,isFreed_of_fields→Vk,cls_mapFields→YS
open PySem.Builtin.SmallTypes renaming nextOf→Wf
open Int renaming mul_eq_zero→R0,emod_lt_of_pos→Y6,emod_nonneg→XR,eq_ofNat_of_zero_le→Yr,gcd→RL
open Ne renaming symm→Jc
open PySem.PassesOwn renaming never→Ri
open PySem.Heap.SameBut renaming update→WL
open PySem.SetTable renaming bits→RT,insertAt→Vp,layClean→ajI,probe→Xl,runEnd→YQ
open PySem.F renaming called_set→RQ,slot_tuple_iterator_next→Yv,attrBase_ValueError→Z1,excBase_ValueError→Z0,store_object→Yi,slot_zip_next→Yp
open False renaming elim→Qy
open PyProof.Rows.F renaming plain_set_update_loop→Yn
open Lean renaming maxHeartbeats→ajE,maxRecDepth→akW
open PySem.Code renaming quiet_builtin→Y7
open PySem.SetTable.layClean renaming free→Yx
open PySem.Calls renaming Name_function_global→Yw
namespace L2
open PySem PySem.Spec PyProof.Rows
abbrev Key:=Sum Int Str
def Hx:Key->JI->Bool
 | .inl k,v=>Value.isInt k v
 | .inr x,v=>Value.isStrOf x v
def agn (w:HI):Key->Int
 | .inl k=>hashInt k
 | .inr x=>hashStr w x
theorem cu:∀{k v},Hx k v=true->(∃i t,k=Sum.inl i/\v=Value.int i t)\/(∃x t,k=Sum.inr x/\v=Value.str x t)
 | .inl i,v,h=>by
  obtain⟨t,e⟩:=Value.isInt_shape h;simp_all
 | .inr x,v,h=>by
  obtain⟨t,e⟩:=Value.isStrOf_shape h;simp_all
theorem zbi (i:Int)(t:Tok):Hx (.inl i) (.int i t)=true:=by simp[Hx,Value.isInt]
theorem zaK (x)(t):Hx (.inr x) (.str x t)=true:=by simp[Hx,Value.isStrOf]
theorem aaF (a b):decide ((Sum.inl a:Key)=Sum.inl b)=(a==b):=by grind
theorem aby (a b):decide ((Sum.inr a:Key)=Sum.inr b)=decide (a=b):=by simp_all
theorem abt (a)(b):decide ((Sum.inl a:Key)=Sum.inr b)=false:=rfl
theorem abW (a)(b):decide ((Sum.inr a:Key)=Sum.inl b)=false:=rfl
def fj (prog:HN)(w:HI):PySem.KeyKind prog w Key where
 is:=Hx
 hash:=agn w
 inj:=λv a b ha hb=>by
  rcases cu ha with⟨i,t,rfl,rfl⟩|⟨x,t,rfl,rfl⟩
  rcases cu hb with⟨j,u,rfl,e⟩|⟨y,u,rfl,e⟩
  injection e with e1 _;rw[e1]
  exact nomatch e
  rcases cu hb with⟨j,u,rfl,e⟩|⟨y,u,rfl,e⟩
  exact nomatch e
  injection e with e1 _;rw[e1]
 byValue:=λk v h=>by
  rcases cu h with⟨i,t,rfl,rfl⟩|⟨x,t,rfl,rfl⟩<;>rfl
 pyHash:=λhv h=>by
  rcases cu hv with⟨i,t,rfl,rfl⟩|⟨x,t,rfl,rfl⟩
  exact wpAny_pyHash_int h;exact wpAny_pyHash_str h
 eqBool:=λhu hv h=>by
  rcases cu hu with⟨i,t,rfl,rfl⟩|⟨x,t,rfl,rfl⟩
  rcases cu hv with⟨j,u,rfl,rfl⟩|⟨y,u,rfl,rfl⟩
  rw[aaF]at h;exact wpAny_eqBool_int h;rw[abt]at h;exact SeqAt.EqAt.int_str i t y u _ _ _ _ h;rcases cu hv with⟨j,u,rfl,rfl⟩|⟨y,u,rfl,rfl⟩
  rw[abW]at h;exact SeqAt.EqAt.str_int x t j u _ _ _ _ h;rw[aby]at h;exact wpAny_eqBool_str h
 «strs»:=λk x t v h=>by
  rcases cu h with⟨i,u,rfl,e⟩|⟨y,u,rfl,e⟩
  exact nomatch e
  injection e with e1 _
  subst e1;cases v<;>rfl
theorem aha (prog)(w)(i)(t):(fj prog w).is (.inl i) (.int i t)=true:=zbi i t
theorem zaf (prog:HN)(w:HI)(x:Str)(t:Tok):(fj prog w).is (.inr x) (.str x t)=true:=zaK x t
inductive V where
 | non|bl (b:Bool)|int (i:Int)|str (x:Str)|byt (b:Array UInt8)|flt (b:UInt64)|ref (a:Addr)|ty (n:String)
 deriving DecidableEq
def RelV:V->JI->Prop
 | .non,u=>u=Value.none
 | .bl b,u=>u=Value.bool b
 | .int i,u=>∃t,u=Value.int i t
 | .str x,u=>∃t,u=Value.str x t
 | .byt b,u=>∃t,u=Value.bytes b t
 | .flt b,u=>∃t,u=Value.float b t
 | .ref a,u=>u=Value.ref a
 | .ty n,u=>u=Value.type n
abbrev Cq:List V->List JI->Prop:=VN RelV
variable {xs:List V}{us:List JI}
theorem Cq.length {xs}{us}(r:Cq xs us):xs.length=us.length:=Paired.length r
theorem Cq.get:∀{xs}{us}{i:Nat}{x},Cq xs us->xs[i]?=Dn x->∃u,us[i]?=Dn u/\RelV x u
 | _,_,0,_,.cons r _,e=>by simp at e;subst e;exact⟨_,rfl,r⟩
 | _,_,i+1,x,.cons _ t,e=>by
  obtain⟨u,h1,h2⟩:=Cq.get t (by simpa using e)
  simp_all
variable {u:JI}
theorem Cq.set {x:V}{u:JI}(r:RelV x u):∀{xs:List V}{us:List JI}(i:Nat),Cq xs us->Cq (xs.set i x) (us.set i u)
 | _,_,_,.nil=>.nil
 | _,_,0,.cons _ t=>.cons r t
 | _,_,i+1,.cons q t=>.cons q (Cq.set r i t)
theorem Cq.append:∀{xs ys}{us ws},Cq xs us->Cq ys ws->Cq (xs++ys) (us++ws)
 | _,_,_,_,.nil,s=>s
 | _,_,_,_,.cons r t,s=>.cons r (Cq.append t s)
theorem Cq.take:∀{xs}{us}(n),Cq xs us->Cq (xs.take n) (us.take n)
 | _,_,0,_|_,_,_+1,.nil=>.nil
 | _,_,n+1,.cons r t=>.cons r (Cq.take n t)
theorem Cq.drop:∀{xs}{us}(n),Cq xs us->Cq (xs.drop n) (us.drop n)
 | _,_,0,r=>r
 | _,_,_+1,.nil=>.nil
 | _,_,n+1,.cons _ t=>Cq.drop n t
def Zq:Option V->Option JI->Prop
 | some v,Dn u=>RelV v u
 | none,Go=>True
 | _,_=>False
variable {κ:Type}
def KV:List (κ×V)->List (κ×JI)->Prop:=VN λ(p:κ×V) (q:κ×JI)=>p.1=q.1/\RelV p.2 q.2
def kV:Key->V
 | .inl i=>.int i
 | .inr x=>.str x
inductive HO where
 | lst (xs:List V)
 | tup (xs:List V)
 | dK (kvs:List (Key×V))|dT (kvs:List (List Key×V))
 | set (S:Int->Bool) (n:Nat)
 | ins (C dx:Addr) (fs:List (Str×V))
 | own (x:Addr)
 | xd (fs:List (Str×V))
 | met (f x:Addr)
 | rng (lo hi:Int)
 | frz (o:Obj) (u:HO)
 | tbl (ps:Array JI)
 | ext (φ:Heap->Prop)
abbrev Hp:=Addr->Option HO
def HW (H:Hp)(a:Addr)(o:HO):Hp:=λb=>if b=a then Dn o else H b
variable {a:Addr}{H:Hp}
theorem aV {o}:HW H a o a=Dn o:=by unfold HW;rw[if_pos rfl]
variable {b:Addr}
theorem aL {o}(h:b≠a):HW H a o b=H b:=by unfold HW;rw[if_neg h]
theorem aN {o}(h:H a=Dn o)(h':H b=Go):a≠b:=by lia
section
variable (P:HN)(w:HI)
def Te (h:Heap)(a:Addr)(items:Array JI):Prop:=∃o,h.get? a=Dn o/\o.cls=.type "tuple"/\(∃n,o.data=.seq items n)/\o.dict=Go
theorem Te.tup {h}{items}(x:Te h a items):IsTup h a items:=let⟨o,ho,hc,hd,_⟩:=x;⟨o,ho,hc,hd⟩
theorem Te.new (h:Heap)(items):Te (h.push {cls:=.type "tuple",data:=.seq items}) h.objs.size items:=⟨_,Kh _ rfl,rfl,⟨_,rfl⟩,rfl⟩
def fD (H:Hp)(h:Heap)(a:Addr):HO->Prop
 | .lst xs=>xs.length<=Il/\∃(its:List JI) (n:Nat),Cq xs its/\h.get? a=Dn {cls:=.type "list",data:=.seq its.toArray n}
 | .tup xs=>xs.length<=Il/\∃its:List JI,Cq xs its/\Te h a its.toArray
 | .dK kvs=>kvs.length<=Il/\(a==Vw)=false/\∃vs,KV kvs vs/\h.DictOf (fj P w) a vs
 | .dT kvs=>kvs.length<=Il/\(a==Vw)=false/\∃xs:List (List Key×Addr×JI),
   VN (λ(p:List Key×V) (q:List Key×Addr×JI)=>p.1=q.1/\H q.2.1=Dn (.tup (p.1.map kV))/\RelV p.2 q.2.2) kvs xs /\
   ∃o es ep,h.get? a=Dn o/\o.ExactDict/\o.data=.dict es ep/\es.toList=xs.map (entryOfKey (tupleKind (fj P w)))/\(xs.map (·.1)).Nodup
 | .set S n=>h.SetOf (Mx P w) a S n
 | .ins C dx fs=>H dx=Dn (.own a)/\fs.length<=1000/\dx≠a/\h.get? a=Dn (PySem.W.instObj C dx) /\
   ∃mA,h.Ns1 dx mA/\(∀f,Zq (fs.lookup f) (mA f))/\PySem.Within mA (fs.map (·.1))
 | .own _=>∃o,h.get? a=Dn o
 | .xd fs=>∃mA,h.Ns1 a mA/\∀f,Zq (fs.lookup f) (mA f)
 | .rng lo hi=>∃t u v,h.get? a=Dn {cls:=.type "range",data:=.fields #[.int lo t,.int hi u,.int 1 v]}
 | .frz o u=>h.get? a=Dn o/\fD H h a u
 | .tbl ps=>h.get? a=Dn {cls:=.none,data:=.fields ps}
 | .met f x=>h.get? a=Dn (PySem.W.methodObj (.ref f) (.ref x))
 | .ext φ=>φ h/\(∃o,h.get? a=Dn o)/\∀h1 h2:Heap,φ h1->(∀o,h1.get? a=Dn o->h2.get? a=Dn o)->φ h2
def Kv (H:Hp)(h:Heap):Prop:=∀a o,H a=Dn o->fD P w H h a o
end
variable {h:Heap}
section
variable {P:HN}{w:HI}{H':Hp}{h':Heap}{o:HO}
theorem fD.lt (x:fD P w H h a o):a<h.objs.size:=by
 cases o with
 | lst xs=>obtain⟨_,_,_,_,e⟩:=x;exact Ik e
 | tup xs=>obtain⟨_,_,_,p⟩:=x;exact p.tup.lt
 | dK kvs|dT kvs=>obtain⟨_,_,_,_,o,_,_,e,_⟩:=x;exact Ik e
 | set S n=>obtain⟨o,_,_,_,e,_⟩:=x;exact Ik e
 | ins C dx fs=>obtain⟨_,_,_,e,_⟩:=x;exact Ik e
 | own y=>obtain⟨_,e⟩:=x;exact Ik e
 | xd fs=>obtain⟨_,⟨_,_,_,e,_⟩,_⟩:=x;exact Ik e
 | rng lo hi=>obtain⟨_,_,_,e⟩:=x;exact Ik e
 | frz ob u=>obtain⟨e,_⟩:=x;exact Ik e
 | tbl ps|met f y=>exact Ik x
 | ext φ=>obtain⟨_,⟨_,e⟩,_⟩:=x;exact Ik e
theorem Paired.mapP {α β}{F G}:∀{l₁:List α}{l₂:List β},VN F l₁ l₂->(∀a b,F a b->G a b)->VN G l₁ l₂
 | _,_,.nil,_=>.nil
 | _,_,.cons r t,f=>.cons (f _ _ r) (Paired.mapP t f)
theorem fD.stay (x:fD P w H h a o)(k:∀b u,(b=a\/H b=Dn (.own a))->h.get? b=Dn u->h'.get? b=Dn u)
  (ho:∀b,H b=Dn (.own a)->H' b=Dn (.own a)) (ht:∀b xs,H b=Dn (.tup xs)->H' b=Dn (.tup xs)):fD P w H' h' a o:=by
 induction o with
 | lst xs=>obtain⟨z,its,n,r,e⟩:=x;exact⟨z,its,n,r,k _ _ (.inl rfl) e⟩
 | tup xs=>obtain⟨z,its,r,ob,e,c⟩:=x;exact⟨z,its,r,ob,k _ _ (.inl rfl) e,c⟩
 | dK kvs=>obtain⟨z,y,vs,r,ob,es,ep,e,c⟩:=x;exact⟨z,y,vs,r,ob,es,ep,k _ _ (.inl rfl) e,c⟩
 | dT kvs=>
  obtain⟨z,y,xs,r,ob,es,ep,e,c⟩:=x;exact⟨z,y,xs,Paired.mapP r λp q z=>⟨z.1,ht _ _ z.2.1,z.2.2⟩,ob,es,ep,k _ _ (.inl rfl) e,c⟩
 | set S n=>obtain⟨ob,es,ep,t,e,c⟩:=x;exact⟨ob,es,ep,t,k _ _ (.inl rfl) e,c⟩
 | ins C dx fs=>
  obtain⟨d,z,ne,e,mA,⟨od,es,ep,e2,c⟩,r⟩:=x;exact⟨ho _ d,z,ne,k _ _ (.inl rfl) e,mA,⟨od,es,ep,k _ _ (.inr d) e2,c⟩,r⟩
 | own y=>obtain⟨ob,e⟩:=x;exact⟨ob,k _ _ (.inl rfl) e⟩
 | xd fs=>obtain⟨mA,⟨od,es,ep,e,c⟩,r⟩:=x;exact⟨mA,⟨od,es,ep,k _ _ (.inl rfl) e,c⟩,r⟩
 | rng lo hi=>obtain⟨t,u,v,e⟩:=x;exact⟨t,u,v,k _ _ (.inl rfl) e⟩
 | frz ob u ih=>obtain⟨e,q⟩:=x;exact⟨k _ _ (.inl rfl) e,ih q⟩
 | tbl ps|met f y=>
  have e:=x;exact k a _ (.inl rfl) e
 | ext φ=>obtain⟨p,⟨o,e⟩,st⟩:=x;exact⟨st _ _ p λo q=>k _ _ (.inl rfl) q,⟨o,k _ _ (.inl rfl) e⟩,st⟩
theorem Kv.lt (x:Kv P w H h)(e:H a=Dn o):a<h.objs.size:=(x a o e).lt
theorem Kv.fresh (x:Kv P w H h)(e:h.objs.size<=a):H a=Go:=by
 cases q:H a with
 | none=>rfl
 | some u=>exact absurd (Jq (x.lt q) e) (Qf _)
theorem Kv.kept (x:Kv P w H h)(k:∀b u,h.get? b=Dn u->h'.get? b=Dn u):Kv P w H h':=λa o e=>
 (x a o e).stay (λb u _ q=>k b u q) (λ_ q=>q) λ_ _ q=>q
theorem Kv.laid (x:Kv P w H h)(k:∀b u,h.get? b=Dn u->h'.get? b=Dn u)(hp:h.objs.size<=a)(new:fD P w (HW H a o) h' a o):Kv P w (HW H a o) h':=λb u e=>by
 have hn:=x.fresh hp;by_cases hb:b=a
 subst hb;rw[aV]at e;cases e;exact new;rw[aL hb]at e;exact(x b u e).stay (λc v _ q=>k c v q) (λc q=>aL (aN q hn) ▸ q) λc xs q=>aL (aN q hn) ▸ q
end
variable {h':Heap}{H':Hp}{w:HI}{P:HN}
def Rd (H:Hp)(a:Addr)(u:HO):Prop:=H a=Dn u\/∃o,H a=Dn (.frz o u)
theorem Rd.ok {u}(r:Rd H a u)(x:Kv P w H h):fD P w H h a u:=by
 rcases r with r|⟨o,r⟩
 exact x a u r;obtain⟨_,q⟩:=x a _ r;exact q
def Mut:Option HO->Prop
 | some (.lst _)=>True
 | some (.dK _)=>True
 | some (.dT _)=>True
 | some (.set _ _)=>True
 | some (.ins _ _ _)=>True
 | some (.ext _)=>True
 | some (.xd _)=>True
 | _=>False
section
variable {x e:Addr}{o':HO}
theorem Kv.write (ok:Kv P w H h)(mu:Mut (H x))(he:e=x\/H e=Dn (.own x))(k:∀b u,b≠e->h.get? b=Dn u->h'.get? b=Dn u)(heo:∃u,h'.get? e=Dn u)
  (new:fD P w (HW H x o') h' x o'):Kv P w (HW H x o') h':=λb u q=>by
 have nown:∀c y,H c=Dn (.own y)->c≠x:=λc y r z=>by subst z;rw[r]at mu;exact mu
 by_cases hb:b=x
 subst hb;rw[aV]at q;cases q;exact new;rw[aL hb]at q;by_cases hbe:b=e
 have q':H b=Dn (.own x):=by
  simp_all
 rw[q]at q';cases q';obtain⟨v,hv⟩:=heo;exact⟨v,hbe ▸ hv⟩;refine(ok b u q).stay (λc v hc r=>k c v ?_ r) (λc r=>aL (nown c b r) ▸ r) λc xs r=>by rw[aL ((λc xs r z=>by subst z;rw[r]at mu;exact mu) c xs r)];exact r
 grind
end
structure Un (fs ex:List Addr) (H H':Hp) (h h':Heap):Prop where
 keep:∀b o,h.get? b=Dn o->H b=Go->b∉fs->b∉ex->h'.get? b=Dn o
 slot:∀b o,h.get? b=Dn o->H b=Go->b∈fs->b∉ex->∃sl,h'.get? b=Dn {o with slots:=sl}
 free:∀b o,h.get? b=Dn o->H b=Go->b∉ex->H' b=Go
 there:∀b o,h.get? b=Dn o->b∉ex->∃o',h'.get? b=Dn o'
 tups:∀b xs,H b=Dn (.tup xs)->H' b=Dn (.tup xs)
 frzs:∀b o u,H b=Dn (.frz o u)->H' b=Dn (.frz o u)
 tbls:∀b ps,H b=Dn (.tbl ps)->∃more,H' b=Dn (.tbl (ps++more))
section
variable {fs fs' ex ex':List Addr}{H1 H2:Hp}{h1 h2:Heap}{x e:Addr}{o:HO}
theorem Un.any (u:Un fs ex H H1 h h1){ob}(q:h.get? b=Dn ob)(n:H b=Go)(hx:b∉ex):∃sl,h1.get? b=Dn {ob with slots:=sl}:=by
 by_cases hb:b∈fs
 exact u.slot b ob q n hb hx;exact⟨ob.slots,u.keep b ob q n hb hx⟩
theorem Un.kept (k:∀b u,h.get? b=Dn u->h'.get? b=Dn u):Un fs ex H H h h':=
 ⟨λb ob q _ _ _=>k b ob q,λb ob q _ _ _=>⟨ob.slots,k b ob q⟩,λ_ _ _ n _=>n,λb ob q _=>⟨ob,k b ob q⟩,λ_ _ q=>q,λ_ _ _ q=>q,λ_ ps q=>⟨#[],by rw[q];simp⟩⟩
theorem Un.refl:Un fs ex H H h h:=Un.kept λ_ _ q=>q
theorem Un.laid (k:∀b u,h.get? b=Dn u->h'.get? b=Dn u)(hp:h.objs.size<=a)(hn:H a=Go):Un fs ex H (HW H a o) h h' where
 keep:=λb u q _ _ _=>k b u q
 slot:=λb u q _ _ _=>⟨u.slots,k b u q⟩
 free:=λb u q n _=>aL (JM (Jq (Ik q) hp)) ▸ n
 there:=λb u q _=>⟨u,k b u q⟩
 tups:=λb xs q=>aL (aN q hn) ▸ q
 frzs:=λb u xs q=>aL (aN q hn) ▸ q
 tbls:=λb ps q=>⟨#[],by rw[aL (aN q hn),q];simp⟩
theorem Un.write (mu:Mut (H x))(he:e=x\/H e=Dn (.own x))(k:∀b u,b≠e->h.get? b=Dn u->h'.get? b=Dn u)(heo:∃u,h'.get? e=Dn u):Un fs ex H (HW H x o) h h':=by
 have hx:∀b,H b=Go->b≠x:=λb n z=>by subst z;rw[n]at mu;exact mu
 have hb:∀b,H b=Go->b≠e:=λb n z=>by
  simp_all
 have hm:∀b u,H b=Dn u->¬Mut (Dn u)->b≠x:=λb u q nm z=>by subst z;rw[q]at mu;exact nm mu
 refine⟨λb u q n _ _=>k b u (hb b n) q,λb u q n _ _=>⟨u.slots,k b u (hb b n) q⟩,λb u q n _=>aL (hx b n) ▸ n,λb u q _=>?_,
  λb xs q=>aL (hm b _ q λz=>z) ▸ q,λb u xs q=>aL (hm b _ q λz=>z) ▸ q,λb ps q=>⟨#[],by rw[aL (hm b _ q λz=>z),q];simp⟩⟩
 grind
end
def trk (h:Heap)(H:Hp):List Addr:=(P0 h.objs.size).filter λa=>(H a).isSome
def V7 (h:Heap)(H:Hp):Heap:=PySem.W.hideAll h (trk h H)
theorem zaY (h)(H):(V7 h H).objs.size=h.objs.size:=PySem.W.hideAll_size _ _
theorem ahS {o}(e:h.get? b=Dn o)(n:H b=Go):(V7 h H).get? b=Dn o:=
 PySem.W.hideAll_get _ e λhm=>by
  have q:=(Vn.mp hm).2;simp_all
theorem ajT {o:Obj}(e:(V7 h H).get? b=Dn o):h.get? b=Dn o/\H b=Go:=by
 have e':=PySem.W.of_hideAll _ e;refine⟨e',?_⟩;cases q:H b with
 | none=>rfl
 | some x=>
  have z:(V7 h H).get? b=Go:=PySem.W.hideAll_none _ (Vn.mpr ⟨VH.mpr (Ik e'),by simp[q]⟩);simp_all
def akD (g h:Heap)(L:Addr):List (Addr×Obj):=(P0 h.objs.size).filterMap λa=>if a=L\/(g.get? a).isSome=true then Go else(h.get? a).map λo=>(a,o)
def rest (g h:Heap)(L d:Addr):List (Addr×Obj):=(akD g h L).filter λp=>decide (p.1≠d)
structure Mod (K:Ax) (mg:Str->Option JI) (base:Heap):Prop where
 kin:K.In base
 glob:base.Ns JR mg
 blt:∃mb,base.Ns builtinsNs mb/\∀x:Str,x ≠ "__name__"->mb x=VR x
 nolimit:base.NoLimit
structure Cx where
 prog:HN
 w:HI
 K:Ax
 mg:Str->Option JI
 base:Heap
 A:Hh
 N:List Str
 s₀:AP
 H₀:Hp
 env:Env
 outer:List Env
 stack:List Env
 ex:List Addr
 fn:Str->Bool
 calm:Bool
 pn:List (Addr×Obj)
 xe:JI->AP->Prop
def frs (l:List Env):List Addr:=l.filterMap (·.frame)
abbrev Cx.fs (X:Cx):List Addr:=frs X.outer
def Vis (sc:Scope)(x:Str):Prop:=sc.names.lookup x=Dn .local\/sc.names.lookup x=Dn .cell\/sc.names.lookup x=Dn .free
def Loc (sc:Scope)(x:Str):Prop:=sc.names.lookup x=Dn .local\/sc.names.lookup x=Dn .cell
def Look (env:Env)(h:Heap)(m:Str->Option JI)(x:Str)(u:JI):Prop:=
 (env.kindOf x=Dn .local/\m x=Dn u)\/((env.kindOf x=Dn .cell\/env.kindOf x=Dn .free)/\∃c,env.cells.lookup x=Dn c/\h.IsCell c (Dn u))
inductive Qg (H:Hp):JI->Prop
 | nil:Qg H .none
 | cons {c:Addr}{o:Obj}{u:HO}{vs:Array JI}{z:JI}(h1:H c=Dn (.frz o u)) (h2:o.data=.fields vs) (h3:vs[2]?=Dn z) (t:Qg H z):Qg H (.ref c)
theorem Qg.mono {v}(c:Qg H v)(k:∀a o u,H a=Dn (.frz o u)->H' a=Dn (.frz o u)):Qg H' v:=by
 induction c with
 | nil=>exact .nil
 | cons h1 h2 h3 _ ih=>exact .cons (k _ _ _ h1) h2 h3 ih
def Still (H:Hp)(v:JI):Prop:=(∃a,v=.ref a)/\Qg H v
def Quiet (A:Hh)(H:Hp):Prop:=∀v,A.handled=Dn v->Still H v
structure Cx.Ok (X:Cx):Prop where
 mod:Mod X.K X.mg X.base
 kind:X.env.scope.kind=.function
 glob:X.env.globals=JR
 blt:X.env.builtins=builtinsNs
 above:X.s₀.heap.objs.size<=X.env.locals
 inj:∀x y c,X.env.cells.lookup x=Dn c->X.env.cells.lookup y=Dn c->x=y
 has:∀x,(X.env.kindOf x=Dn .cell\/X.env.kindOf x=Dn .free)->∃c,X.env.cells.lookup x=Dn c
 cab:∀x c,X.fn x=true->X.env.cells.lookup x=Dn c->X.s₀.heap.objs.size<=c
 hd:X.calm=true->X.A.handled=Go
 qt:Quiet X.A X.H₀
 frames:X.A.frames=Dn X.stack
 stk:X.stack=X.outer\/(X.stack=X.env::X.outer/\X.env.frame=Dn X.env.locals)
 exf:∀b∈X.ex,b≠X.env.locals/\∀x c,X.env.cells.lookup x=Dn c->c≠b
 bs:∀b o,X.base.get? b=Dn o->X.s₀.heap.get? b=Dn o/\X.H₀ b=Go
 bsz:X.base.objs.size<=X.s₀.heap.objs.size
 noex:∀b o,X.base.get? b=Dn o->b∉X.ex
 exfs:∀b∈X.ex,b∉X.fs
 funs:X.s₀.heap.FunFrames X.base X.outer
 frf:∀b∈X.fs,X.H₀ b=Go
structure Aq (X:Cx) (amx:List (Addr×Obj)) (σ:List (Option V)) (H:Hp) (s:AP):Prop where
 ok:X.Ok
 os:s.os=X.s₀.os
 bare:Sy s.gens
 base:Un X.fs X.ex X.H₀ H X.s₀.heap s.heap
 loc:∃m,s.heap.Ns X.env.locals m/\∀(i:Nat) (x:Str) (v:V),X.N[i]?=Dn x->σ[i]?=Dn (Dn v)->Vis X.env.scope x->∃u,RelV v u/\Look X.env s.heap m x u
 cell:∀x c,X.env.cells.lookup x=Dn c->∃v,s.heap.IsCell c v
 free:H X.env.locals=Go
 freeC:∀x c,X.env.cells.lookup x=Dn c->H c=Go
 pin:∀p∈X.pn++amx,s.heap.get? p.1=Dn p.2/\H p.1=Go/\p.1≠X.env.locals/\p.1∉X.fs/\∀v,p.2.data≠.cell v
 hok:Kv X.prog X.w H s.heap
 len:σ.length=X.N.length
section
variable {X:Cx}{amx:List (Addr×Obj)}{σ:List (Option V)}{s:AP}
theorem Cx.Ok.nofr (ok:X.Ok){o}(e:X.base.get? b=Dn o):b∉X.fs:=λhb=>by
 have:=(ok.funs.mem hb).1
 simp_all
theorem Aq.bs (I:Aq X amx σ H s):∀b o,X.base.get? b=Dn o->s.heap.get? b=Dn o/\H b=Go:=λb o e=>
 ⟨I.base.keep b o (I.ok.bs b o e).1 (I.ok.bs b o e).2 (I.ok.nofr e) (I.ok.noex b o e),I.base.free b o (I.ok.bs b o e).1 (I.ok.bs b o e).2 (I.ok.noex b o e)⟩
theorem Aq.qt0 (I:Aq X amx σ H s):Quiet X.A H:=λv e=>⟨(I.ok.qt v e).1,(I.ok.qt v e).2.mono I.base.frzs⟩
theorem Aq.bk (I:Aq X amx σ H s):∀b o,X.base.get? b=Dn o->s.heap.get? b=Dn o:=λb o e=>(I.bs b o e).1
theorem Aq.mod (I:Aq X amx σ H s):Mod X.K X.mg X.base:=I.ok.mod
theorem Aq.kIn (I:Aq X amx σ H s):X.K.In s.heap:=I.ok.mod.kin.keeps I.bk
theorem Aq.lt (I:Aq X amx σ H s):X.env.locals<s.heap.objs.size:=let⟨_,hn,_⟩:=I.loc;hn.lt
theorem Aq.sz (I:Aq X amx σ H s):X.s₀.heap.objs.size<=s.heap.objs.size:=Ja I.ok.above (W7 I.lt)
theorem Aq.nofs (I:Aq X amx σ H s)(h:s.heap.objs.size<=a):a∉X.fs:=λhb=>by
 obtain⟨_,o,ho,_⟩:=I.ok.funs.mem hb;exact absurd (Jq (Ik ho)<|Ja I.sz h)<|Qf _
theorem Aq.cne (I:Aq X amx σ H s):∀x c,X.env.cells.lookup x=Dn c->c≠X.env.locals:=λx c e z=>by
 obtain⟨v,o,ho,hd⟩:=I.cell x c e;obtain⟨m,⟨o',es,ep,ho',hd',_⟩,_⟩:=I.loc;simp_all
theorem Aq.funs (I:Aq X amx σ H s):s.heap.FunFrames X.base X.outer:=by
 have all:∀(l:List Env),(∀b∈frs l,b∈X.fs)->X.s₀.heap.FunFrames X.base l->s.heap.FunFrames X.base l:=by
  intro l;induction l with
  | nil=>intro _ _;trivial
  | cons env r ih=>
   intro hs hl;obtain⟨hk,⟨L,o,hf,hn,ho,hd⟩,hr⟩:=hl;have hL:=hs L (by unfold frs;rw[List.filterMap_cons,hf];exact RM);obtain⟨sl,e⟩:=I.base.slot L o ho (I.ok.frf L hL) hL λz=>I.ok.exfs L z hL
   exact⟨hk,⟨L,_,hf,hn,e,hd⟩,ih (λb hb=>hs b (by unfold frs;rw[List.filterMap_cons,hf];exact Qp _ hb)) hr⟩
 exact all _ (λ_ hb=>hb) I.ok.funs
theorem Aq.stack (I:Aq X amx σ H s):s.heap.FunFrames X.base X.stack:=by
 rcases I.ok.stk with e|⟨e,hf⟩
 rw[e];exact I.funs;rw[e];obtain⟨m,hn,_⟩:=I.loc;refine .cons (by rw[I.ok.kind];decide) hf hn ?_ I.funs;exact Yc<|Ja I.ok.bsz I.ok.above
theorem Aq.stkSub (I:Aq X amx σ H s):∀b∈frs X.stack,b∈X.env.locals::X.fs:=λb hb=>by
 rcases I.ok.stk with e|⟨e,hf⟩
 simp_all
 rw[e]at hb;unfold frs at hb
 rwa[List.filterMap_cons,hf]at hb
theorem Aq.stkFree (I:Aq X amx σ H s):∀b∈frs X.stack,H b=Go:=λb hb=>by
 rcases K5.mp (I.stkSub b hb)with e|hb
 rw[e];exact I.free;obtain⟨_,o,ho,_⟩:=I.ok.funs.mem hb;exact I.base.free b o ho (I.ok.frf b hb) λz=>I.ok.exfs b z hb
theorem Aq.stepG {g':Array GenState}{t':Nat}{d':Drawn}{ch:List Addr}(I:Aq X amx σ H s)
  (hch:∀b∈ch,(b∈X.ex\/X.s₀.heap.get? b=Go)/\b≠X.env.locals/\(∀x c,X.env.cells.lookup x=Dn c->c≠b)/\∀p∈X.pn++amx,p.1≠b)
  (keep:∀b o,b≠X.env.locals->b∉X.fs->b∉ch->s.heap.get? b=Dn o->H b=Go->h'.get? b=Dn o)
  (slot:∀b o,b≠X.env.locals->b∈X.fs->b∉ch->s.heap.get? b=Dn o->H b=Go->∃sl,h'.get? b=Dn {o with slots:=sl}) (free:∀b o,b∉ch->s.heap.get? b=Dn o->H b=Go->H' b=Go)
  (there:∀b o,b∉ch->s.heap.get? b=Dn o->∃o',h'.get? b=Dn o')
  (tups:∀b xs,H b=Dn (.tup xs)->H' b=Dn (.tup xs)) (frzs:∀b o u,H b=Dn (.frz o u)->H' b=Dn (.frz o u)) (tbls:∀b ps,H b=Dn (.tbl ps)->∃more,H' b=Dn (.tbl (ps++more)))
  (ns:∀m,s.heap.Ns X.env.locals m->h'.Ns X.env.locals m) (hok:Kv X.prog X.w H' h') (hg:Sy g') :
  Aq X amx σ H' {s with heap:=h',gens:=g',drawn:=d',toks:=t'}:=by
 have neL:∀b o,X.s₀.heap.get? b=Dn o->b≠X.env.locals:=λb o e=>JM (Jq (Ik e) I.ok.above)
 have neC:∀b o,X.s₀.heap.get? b=Dn o->b∉X.ex->b∉ch:=λb o e hx hb=>by
  rcases(hch b hb).1 with z|z
  exact hx z;rw[z]at e;cases e
 have cellK:∀x c,X.env.cells.lookup x=Dn c->∀v,s.heap.IsCell c v->h'.IsCell c v:=λx c e v a=>by
  obtain⟨o,ho,hd⟩:=a;have nch:=λz=>(hch c z).2.2.1 x c e rfl
  by_cases hc:c∈X.fs
  obtain⟨sl,q⟩:=slot c o (I.cne x c e) hc nch ho (I.freeC x c e);exact⟨_,q,hd⟩;exact⟨o,keep c o (I.cne x c e) hc nch ho<|I.freeC x c e,hd⟩
 refine⟨I.ok,I.os,hg,⟨λb o e n hb hx=>?_,λb o e n hb hx=>?_,λb o e n hx=>?_,λb o e hx=>?_,λb xs e=>tups b xs<|I.base.tups b xs e,λb o xs e=>frzs b o xs<|I.base.frzs b o xs e,λb ps e=>?_⟩,?_,λx c e=>?_,?_,λx c e=>?_,λp hp=>?_,hok,I.len⟩;exact keep b o (neL b o e) hb (neC b o e hx) (I.base.keep b o e n hb hx)<|I.base.free b o e n hx
 obtain⟨sl,e1⟩:=I.base.slot b o e n hb hx;obtain⟨sl',e2⟩:=slot b _ (neL b o e) hb (neC b o e hx) e1 (I.base.free b o e n hx);exact⟨sl',e2⟩;obtain⟨o',e1⟩:=I.base.there b o e hx;exact free b o' (neC b o e hx) e1<|I.base.free b o e n hx
 obtain⟨o',e1⟩:=I.base.there b o e hx;exact there b o' (neC b o e hx) e1;obtain⟨m1,e1⟩:=I.base.tbls b ps e;obtain⟨m2,e2⟩:=tbls b _ e1;exact⟨m1++m2,by rw[e2,Array.append_assoc]⟩;obtain⟨m,hn,hl⟩:=I.loc;refine⟨m,ns m hn,λi x v e1 e2 e3=>?_⟩;obtain⟨u,r,l⟩:=hl i x v e1 e2 e3;refine⟨u,r,?_⟩;rcases l with l|⟨k,c,e,z⟩
 exact .inl l;exact .inr ⟨k,c,e,cellK x c e _ z⟩;obtain⟨v,z⟩:=I.cell x c e;exact⟨v,cellK x c e v z⟩;obtain⟨m,⟨o,_,_,ho,_⟩,_⟩:=I.loc;exact free _ o (λz=>(hch _ z).2.1 rfl) ho I.free;obtain⟨v,o,ho,hd⟩:=I.cell x c e;exact free c o (λz=>(hch c z).2.2.1 x c e rfl) ho<|I.freeC x c e
 obtain⟨e,n,ne,nf,d⟩:=I.pin p hp;have nch:=λz=>(hch _ z).2.2.2 p hp rfl
 exact⟨keep _ _ ne nf nch e n,free _ p.2 nch e n,ne,nf,d⟩
theorem Aq.step {g' t'}{d'}{ch:List Addr}(I:Aq X amx σ H s)
  (hch:∀b∈ch,(b∈X.ex\/X.s₀.heap.objs.size<=b)/\b≠X.env.locals/\(∀x c,X.env.cells.lookup x=Dn c->c≠b)/\∀p∈X.pn++amx,p.1≠b)
  (keep:∀b o,b≠X.env.locals->b∉X.fs->b∉ch->s.heap.get? b=Dn o->H b=Go->h'.get? b=Dn o)
  (slot:∀b o,b≠X.env.locals->b∈X.fs->b∉ch->s.heap.get? b=Dn o->H b=Go->∃sl,h'.get? b=Dn {o with slots:=sl}) (free:∀b o,b∉ch->s.heap.get? b=Dn o->H b=Go->H' b=Go)
  (there:∀b o,b∉ch->s.heap.get? b=Dn o->∃o',h'.get? b=Dn o')
  (tups:∀b xs,H b=Dn (.tup xs)->H' b=Dn (.tup xs)) (frzs:∀b o u,H b=Dn (.frz o u)->H' b=Dn (.frz o u)) (tbls:∀b ps,H b=Dn (.tbl ps)->∃more,H' b=Dn (.tbl (ps++more)))
  (ns:∀m,s.heap.Ns X.env.locals m->h'.Ns X.env.locals m) (hok:Kv X.prog X.w H' h') (hg:Sy g') :
  Aq X amx σ H' {s with heap:=h',gens:=g',drawn:=d',toks:=t'}:=
 I.stepG (λb z=>⟨(hch b z).1.imp id λq=>Yc q,(hch b z).2⟩) keep slot free there tups frzs tbls ns hok hg
theorem Aq.un {t'}(I:Aq X amx σ H s)(u:Un X.fs [] H H' s.heap h')(hok:Kv X.prog X.w H' h'):Aq X amx σ H' {s with heap:=h',toks:=t'}:=by
 obtain⟨m,⟨o,es,ep,ho,r⟩,_⟩:=I.loc;obtain⟨sl,hL⟩:=u.any ho I.free (by simp);exact I.step (ch:=[]) nofun (λb o _ hb _ e n=>u.keep b o e n hb (by simp)) (λb o _ hb _ e n=>u.slot b o e n hb (by simp)) (λb o _ e n=>u.free b o e n (by simp)) (λb o _ e=>u.there b o e (by simp)) u.tups u.frzs u.tbls (λm' hm=>by
  obtain⟨o',es',ep',ho',r'⟩:=hm;rw[ho]at ho';cases ho';exact⟨_,es',ep',hL,r'⟩) hok I.bare
theorem Aq.call {g' t'}{d'}{ch}(I:Aq X amx σ H s)(u:Un (frs X.stack) ch H H' s.heap h')(hok:Kv X.prog X.w H' h')(hg:Sy g')
  (hch:∀b∈ch,(b∈X.ex\/X.s₀.heap.objs.size<=b)/\b≠X.env.locals/\(∀x c,X.env.cells.lookup x=Dn c->c≠b)/\∀p∈X.pn++amx,p.1≠b) :
  Aq X amx σ H' {s with heap:=h',gens:=g',drawn:=d',toks:=t'}:=by
 obtain⟨m,⟨o,es,ep,ho,r⟩,_⟩:=I.loc;obtain⟨sl,hL⟩:=u.any ho I.free λz=>(hch _ z).2.1 rfl
 exact I.step hch (λb o hL hb hc e n=>u.keep b o e n (λz=>(K5.mp (I.stkSub b z)).elim hL hb) hc) (λb o _ _ hc e n=>u.any e n hc) (λb o hc e n=>u.free b o e n hc) (λb o hc e=>u.there b o e hc) u.tups u.frzs u.tbls (λm' hm=>by
  obtain⟨o',es',ep',ho',r'⟩:=hm;rw[ho]at ho';cases ho';exact⟨_,es',ep',hL,r'⟩) hok hg
theorem Aq.turned {t'}{it}(I:Aq X amx σ H s)(k:∀b o,b≠it->s.heap.get? b=Dn o->h'.get? b=Dn o)(hn:H it=Go)(hL:it≠X.env.locals)
  (h1:it∈X.ex\/X.s₀.heap.objs.size<=it) (h2:∀x c,X.env.cells.lookup x=Dn c->c≠it) (h3:∀p∈X.pn++amx,p.1≠it):Aq X amx σ H {s with heap:=h',toks:=t'}:=by
 have nit:∀b u,H b=Dn u->b≠it:=λb u e z=>by rw[z,hn]at e;cases e
 refine I.step (ch:=[it]) (λb hb=>?_) (λb o _ _ hc e _=>k b o (λz=>hc<|by simp[z]) e) (λb o _ _ hc e _=>⟨o.slots,k b o (λz=>hc<|by simp[z]) e⟩) (λ_ _ _ _ n=>n)
  (λb o hc e=>⟨o,k b o (λz=>hc (by simp[z])) e⟩) (λ_ _ e=>e) (λ_ _ _ e=>e) (λb ps e=>⟨#[],by rw[e];simp⟩) (λm hm=>?_) (λb u e=>?_) I.bare
 grind
 obtain⟨o,es,ep,ho,r⟩:=hm;exact⟨o,es,ep,k _ o (Jc hL) ho,r⟩;refine(I.hok b u e).stay (λc v hc q=>k c v ?_ q) (λ_ q=>q) λ_ _ q=>q;rcases hc with z|z
 simp_all
 exact nit c _ z
theorem Aq.tok (I:Aq X amx σ H s)(t):Aq X amx σ H {s with toks:=t}:=I.un Un.refl I.hok
theorem Aq.kept {t'}(I:Aq X amx σ H s)(k:∀b u,s.heap.get? b=Dn u->h'.get? b=Dn u):Aq X amx σ H {s with heap:=h',toks:=t'}:=I.un (Un.kept k) (I.hok.kept k)
theorem Aq.laid {a:Addr}{o}{t'}(I:Aq X amx σ H s)(k:∀b u,s.heap.get? b=Dn u->h'.get? b=Dn u)(hp:s.heap.objs.size<=a)(new:fD X.prog X.w (HW H a o) h' a o) :
  Aq X amx σ (HW H a o) {s with heap:=h',toks:=t'}:=I.un (Un.laid k hp (I.hok.fresh hp)) (I.hok.laid k hp new)
theorem Aq.write {x e:Addr}{o:HO}{t':Nat}(I:Aq X amx σ H s)(mu:Mut (H x))(he:e=x\/H e=Dn (.own x))(k:∀b u,b≠e->s.heap.get? b=Dn u->h'.get? b=Dn u)(heo:∃u,h'.get? e=Dn u)
  (new:fD X.prog X.w (HW H x o) h' x o):Aq X amx σ (HW H x o) {s with heap:=h',toks:=t'}:=I.un (Un.write mu he k heo) (I.hok.write mu he k heo new)
theorem Aq.weak {σ'}(I:Aq X amx σ H s)(hl:σ'.length=σ.length)(w:∀(i:Nat) v,σ'[i]?=Dn (Dn v)->σ[i]?=Dn (Dn v)):Aq X amx σ' H s:=
 ⟨I.ok,I.os,I.bare,I.base,let⟨m,hn,hl'⟩:=I.loc;⟨m,hn,λi x v e1 e2 e3=>hl' i x v e1 (w i v e2) e3⟩,I.cell,I.free,I.freeC,I.pin,I.hok,hl.trans I.len⟩
theorem Aq.pins_of {pins'}(I:Aq X amx σ H s)(h:∀p∈pins',s.heap.get? p.1=Dn p.2/\H p.1=Go/\p.1≠X.env.locals/\p.1∉X.fs/\∀v,p.2.data≠.cell v):Aq X pins' σ H s:=
 ⟨I.ok,I.os,I.bare,I.base,I.loc,I.cell,I.free,I.freeC,λp hp=>(Vz.mp hp).elim (λz=>I.pin p (Yg _ z)) (h p),I.hok,I.len⟩
theorem Et {N:List Str}(hN:N.Nodup){i j:Nat}{x}(a:N[i]?=Dn x)(b:N[j]?=Dn x):i=j:=by
 obtain⟨h1,e1⟩:=Ob.mp a;obtain⟨h2,e2⟩:=Ob.mp b;exact(List.getElem_inj hN).mp (e1.trans e2.symm)
theorem yV {M A}{E i x v}{Q}(I:Aq X amx σ H s)(hN:X.N.Nodup)(hi:X.N[i]?=Dn x)(hx:Loc X.env.scope x)(r:RelV v u)
  (h:∀s',Aq X amx (σ.set i (Dn v)) H s'->(∃a,QJ a s.heap s'.heap/\(a=X.env.locals\/X.env.cells.lookup x=Dn a))->Q () s') (hf:X.fn x=true\/X.env.scope.names.lookup x=Dn .local:=by first|exact .inl rfl|exact .inr rfl|assumption):Bb M A (storeName X.env x u) Q E s:=by
 obtain⟨m,hn,hl⟩:=id I.loc;have hiσ:i < σ.length:=by rw[I.len];exact(Ob.mp hi).1
 have cne:=I.cne;have tracked:∀{a:Addr}{h':Heap},(∃o,s.heap.get? a=Dn o/\H a=Go)->QJ a s.heap h'->Kv X.prog X.w H h':=λ{a h'} ha hs b ob e=>by
  obtain⟨_,_,hfree⟩:=ha;refine(I.hok b ob e).stay (λc w' hc q=>(hs.2 c ?_).trans q) (λ_ q=>q) λ_ _ q=>q;rintro rfl;rcases hc with rfl|hc
  rw[hfree]at e;cases e;rw[hfree]at hc;cases hc
 rcases hx with hk|hk
 refine wpAny_storeName_local hk hn (λh' hn' hs=>?_) (by rw[I.ok.kind];rfl);obtain⟨oL,_,_,hoL,_⟩:=id hn;refine h _ ⟨I.ok,I.os,I.bare,⟨λb o e n hb hx=>?_,λb o e n hb hx=>?_,I.base.free,λb o e hx=>?_,I.base.tups,I.base.frzs,I.base.tbls⟩,⟨_,hn',λj y v' e1 e2 e3=>?_⟩,λy c e=>?_,I.free,I.freeC,λp hp=>?_,tracked ⟨oL,hoL,I.free⟩ hs,by simpa using I.len⟩ ⟨_,hs,.inl rfl⟩;exact(hs.2 b<|JM<|Jq (Ik e) I.ok.above).trans (I.base.keep b o e n hb hx);obtain⟨sl,e1⟩:=I.base.slot b o e n hb hx;exact⟨sl,(hs.2 b<|JM<|Jq (Ik e) I.ok.above).trans e1⟩;obtain⟨o',e1⟩:=I.base.there b o e hx;exact⟨o',(hs.2 b<|JM<|Jq (Ik e) I.ok.above).trans e1⟩;by_cases hj:j=i
 subst hj;rw[hi]at e1;cases e1;rw[List.getElem?_set_self hiσ]at e2;cases e2;exact⟨u,r,.inl ⟨hk,by simp⟩⟩;rw[Yt (Jc hj)]at e2;obtain⟨u',r',q⟩:=hl j y v' e1 e2 e3;refine⟨u',r',?_⟩;rcases q with⟨k,e⟩|⟨k,c,e,z⟩
 refine .inl ⟨k,?_⟩;have:y≠x:=λe=>hj (Et hN e1 (e ▸ hi))
 simp[this,e];exact .inr ⟨k,c,e,z.sameBut hs<|cne y c e⟩;obtain⟨w',z⟩:=I.cell y c e;exact⟨w',z.sameBut hs<|cne y c e⟩;obtain⟨e,n,ne,nf,d⟩:=I.pin p hp;exact⟨(hs.2 p.1 ne).trans e,n,ne,nf,d⟩;have hfn:X.fn x=true:=by
  rcases hf with z|z
  exact z;rw[z]at hk;cases hk
 obtain⟨c,hc⟩:=I.ok.has x (.inl hk);obtain⟨w',z⟩:=I.cell x c hc;refine wpAny_storeName_cell I.ok.kind hk hc z<|λh' hc' hs=>?_
 obtain⟨oc,hoc,hocd⟩:=id z;refine h {s with heap:=h'} ⟨I.ok,I.os,I.bare,⟨λb o e n hb hx=>?_,λb o e n hb hx=>?_,I.base.free,λb o e hx=>?_,I.base.tups,I.base.frzs,I.base.tbls⟩,⟨m,hn.sameBut hs<|Jc<|cne x c hc,λj y v' e1 e2 e3=>?_⟩,λy c' e=>?_,I.free,I.freeC,λp hp=>?_,tracked ⟨oc,hoc,I.freeC x c hc⟩ hs,by simpa using I.len⟩ ⟨c,hs,.inr hc⟩;exact(hs.2 b<|JM<|Jq (Ik e)<|I.ok.cab x c hfn hc).trans (I.base.keep b o e n hb hx);obtain⟨sl,e1⟩:=I.base.slot b o e n hb hx;exact⟨sl,(hs.2 b<|JM<|Jq (Ik e)<|I.ok.cab x c hfn hc).trans e1⟩;obtain⟨o',e1⟩:=I.base.there b o e hx;exact⟨o',(hs.2 b<|JM<|Jq (Ik e)<|I.ok.cab x c hfn hc).trans e1⟩;by_cases hj:j=i
 subst hj;rw[hi]at e1;cases e1;rw[List.getElem?_set_self hiσ]at e2;cases e2;exact⟨u,r,.inr ⟨.inl hk,c,hc,hc'⟩⟩;rw[Yt (Jc hj)]at e2;obtain⟨u',r',q⟩:=hl j y v' e1 e2 e3;refine⟨u',r',?_⟩;rcases q with q|⟨k,c',e,z'⟩
 exact .inl q;refine .inr ⟨k,c',e,z'.sameBut hs ?_⟩;rintro rfl;exact hj<|Et hN e1<|I.ok.inj _ _ _ e hc ▸ hi
 by_cases hcc:c'=c
 subst hcc;exact⟨_,hc'⟩;obtain⟨w2,z2⟩:=I.cell y c' e;exact⟨w2,z2.sameBut hs hcc⟩;obtain⟨e,n,ne,nf,d⟩:=I.pin p hp;refine⟨(hs.2 p.1 ?_).trans e,n,ne,nf,d⟩;intro q;rw[q,hoc]at e;exact d w'<|(Lr e) ▸ hocd
theorem m7 {M A}{E i x v}{Q}(I:Aq X amx σ H s)(hN:X.N.Nodup)(hi:X.N[i]?=Dn x)(hx:Loc X.env.scope x)(r:RelV v u)
  (h:∀s',Aq X amx (σ.set i (Dn v)) H s'->Q () s') (hf:X.fn x=true\/X.env.scope.names.lookup x=Dn .local:=by first|exact .inl rfl|exact .inr rfl|assumption):Bb M A (storeName X.env x u) Q E s:=
 yV I hN hi hx r (λs' I' _=>h s' I') hf
theorem Aq.call' {s'}{ch}(I:Aq X amx σ H s)(ho:s'.os=s.os)(u:Un (frs X.stack) ch H H' s.heap s'.heap)(hok:Kv X.prog X.w H' s'.heap)(hg:Sy s'.gens)
  (hch:∀b∈ch,(b∈X.ex\/X.s₀.heap.objs.size<=b)/\b≠X.env.locals/\(∀x c,X.env.cells.lookup x=Dn c->c≠b)/\∀p∈X.pn++amx,p.1≠b):Aq X amx σ H' s':=by
 obtain⟨h',g',d',t',o'⟩:=s';subst ho;exact I.call u hok hg hch
end
variable {X:Cx}{amx:List (Addr×Obj)}{M:Model}{i j:Nat}{A:Hh}{E:JI->AP->Prop}{s':AP}
abbrev XK:=JI->Option Addr->Hp->Prop
abbrev St:=List (Option V)
abbrev VK:=V->Hp->Prop
abbrev TE:=St->Hp->VK->Prop
abbrev TT:=St->Hp->(Bool->Hp->Prop)->Prop
abbrev TA:=St->Hp->(List V->Hp->Prop)->Prop
structure Ends where
 nx:St->Hp->Prop
 rt:VK
 bk:St->Hp->Prop:=λ_ _=>False
 ct:St->Hp->Prop:=λ_ _=>False
abbrev TS:=Ends->St->Hp->Prop
def EP (X:Cx)(amx:List (Addr×Obj))(σ:St)(Q:VK)(u:JI)(s':AP):Prop:=∃v H',Aq X amx σ H' s'/\RelV v u/\Q v H'
def TP (X:Cx)(amx:List (Addr×Obj))(σ:St)(Q:Bool->Hp->Prop)(b:Bool)(s':AP):Prop:=∃H',Aq X amx σ H' s'/\Q b H'
def ahe (X:Cx)(amx:List (Addr×Obj))(σ:St)(Q:List V->Hp->Prop)(us:List JI)(s':AP):Prop:=∃vs H',Aq X amx σ H' s'/\Cq vs us/\Q vs H'
def SP (X:Cx)(amx:List (Addr×Obj))(D:Ends)(f:Flow)(s':AP):Prop:=
 match f with
 | .next=>∃σ' H',Aq X amx σ' H' s'/\D.nx σ' H'
 | .brk=>∃σ' H',Aq X amx σ' H' s'/\D.bk σ' H'
 | .cont=>∃σ' H',Aq X amx σ' H' s'/\D.ct σ' H'
 | .ret u=>∃v σ' H',Aq X amx σ' H' s'/\RelV v u/\D.rt v H'
def PE (X:Cx)(e:Expr)(t:TE):Prop:=
 ∀(amx:List (Addr×Obj)) (s:AP) (σ:St) (H:Hp) (Q:VK),Aq X amx σ H s->t σ H Q->Bb (CG X.prog X.w) X.A (eval e X.env) (EP X amx σ Q) X.xe s
def PT (X:Cx)(e:Expr)(t:TT):Prop:=
 ∀(amx:List (Addr×Obj)) (s:AP) (σ:St) (H:Hp) (Q:Bool->Hp->Prop),Aq X amx σ H s->t σ H Q->Bb (CG X.prog X.w) X.A (isTrue e X.env (eval e X.env)) (TP X amx σ Q) X.xe s
def PW (X:Cx)(e:Expr)(t:TT):Prop:=
 ∀(whole:Sem JI) (amx:List (Addr×Obj)) (s:AP) (σ:St) (H:Hp) (Q:Bool->Hp->Prop),Aq X amx σ H s->t σ H Q->Bb (CG X.prog X.w) X.A (isTrue e X.env whole) (TP X amx σ Q) X.xe s
variable {e:Expr}
theorem PW.pt {t}(h:PW X e t):PT X e t:=h _
def PA (X:Cx)(es:List Expr)(t:TA):Prop:=
 ∀(pos:Pos) (amx:List (Addr×Obj)) (s:AP) (σ:St) (H:Hp) (Q:List V->Hp->Prop),Aq X amx σ H s->t σ H Q->Bb (CG X.prog X.w) X.A (spliced (Ka pos (HJ es X.env))) (ahe X amx σ Q) X.xe s
def PS (X:Cx)(st:Stmt)(t:TS):Prop:=
 ∀(amx:List (Addr×Obj)) (s:AP) (σ:St) (H:Hp) (D:Ends),Aq X amx σ H s->t D σ H->Bb (CG X.prog X.w) X.A (exec st X.env) (SP X amx D) X.xe s
def QC (X:Cx)(st:List Stmt)(t:TS):Prop:=
 ∀(amx:List (Addr×Obj)) (s:AP) (σ:St) (H:Hp) (D:Ends),Aq X amx σ H s->t D σ H->Bb (CG X.prog X.w) X.A (execs st X.env) (SP X amx D) X.xe s
theorem Hj {α}{t:Sem α}{Q Q' s}(h:Bb M A t Q E s)(hQ:∀a s,Q a s->Q' a s):Bb M A t Q' E s:=KY h hQ λ_ _ x=>x
section
def ac1 (i:Nat):TE:=fun σ H Q=>∃v,σ[i]?=Dn (Dn v)/\Q v H
def tC (v:V):TE:=λ_ H Q=>Q v H
theorem aaJ {x}{pos}(hN:X.N[i]?=Dn x)(hv:Vis X.env.scope x)(hd:(x==("__debug__" : Str))=false:=by decide)(hcd:(x==("__classdict__" : Str))=false:=by decide):PE X (.Name x pos) (ac1 i):=by
 intro amx s σ H Q I h;obtain⟨v,e,h⟩:=h;obtain⟨m,hn,hl⟩:=I.loc;obtain⟨u,r,l⟩:=hl i x v hN e hv;have fin:EP X amx σ Q u s:=⟨v,H,I,r,h⟩
 rcases l with⟨hk,hm⟩|⟨hk,c,hc,hcell⟩
 exact wpAny_Name (wpAny_loadName_local I.ok.kind hk hn hm fin) hd;rcases hk with hk|hk
 exact wpAny_Name (wpAny_loadName_cell I.ok.kind hk hc hcell fin) hd;exact wpAny_Name (wpAny_loadName_free I.ok.kind hk hc hcell fin hcd) hd
theorem abq {i j pos}:PE X (.Constant (.int i) j pos) (tC (.int i)):=λ_ _ _ H _ I h=>wpAny_Constant_int ⟨.int i,H,I.tok _,⟨_,rfl⟩,h⟩
theorem aeQ {b j pos}:PE X (.Constant (.bool b) j pos) (tC (.bl b)):=λ_ _ _ H _ I h=>Constant_bool ⟨.bl b,H,I,rfl,h⟩
theorem aa5 {j pos}:PE X (.Constant .none j pos) (tC .non):=λ_ _ _ H _ I h=>Constant_none ⟨.non,H,I,rfl,h⟩
theorem T9 {x j pos}:PE X (.Constant (.str x) j pos) (tC (.str x)):=λ_ _ _ H _ I h=>Calls.Constant_str ⟨.str x,H,I.tok _,⟨_,rfl⟩,h⟩
def Gl (X:Cx)(x:Str):Prop:=X.env.kindOf x=Dn .globalImplicit
theorem j9 {s}{σ:St}{x}{pos}{Q}(I:Aq X amx σ H s)(hg:Gl X x)(hm:X.mg x=Dn u)(h:Q u s)
  (hd:(x==("__debug__" : Str))=false:=by decide):Bb (CG X.prog X.w) X.A (eval (.Name x pos) X.env) Q E s:=
 Yw I.ok.kind hg (Calls.loadGlobal_global (I.ok.glob ▸ I.mod.glob.keeps I.bk) hm h) hd
theorem pB {s:AP}{σ:St}{x:Str}{pos:Pos}{Q:JI->AP->Prop}(I:Aq X amx σ H s)(hg:Gl X x)(hm:X.mg x=Go)(hv:VR x=Dn u)(h:Q u s)
  (hn:x ≠ "__name__":=by decide) (hd:(x==("__debug__" : Str))=false:=by decide):Bb (CG X.prog X.w) X.A (eval (.Name x pos) X.env) Q E s:=by
 obtain⟨mb,h1,h2⟩:=I.mod.blt;exact Yw I.ok.kind hg (Calls.loadGlobal_builtin (I.ok.glob ▸ I.mod.glob.keeps I.bk) hm (I.ok.blt ▸ h1.keeps I.bk) ((h2 x hn).trans hv) h) hd
theorem Cj {x v}{pos}(hg:Gl X x)(hm:X.mg x=Dn u)(r:RelV v u)(hd:(x==("__debug__" : Str))=false:=by decide):PE X (.Name x pos) (tC v):=
 λ_ _ _ H _ I h=>j9 I hg hm ⟨v,H,I,r,h⟩ hd
theorem lD {x v}{pos}(hg:Gl X x)(hm:X.mg x=Go)(hv:VR x=Dn u)(r:RelV v u)(hn:x ≠ "__name__":=by decide)(hd:(x==("__debug__" : Str))=false:=by decide):PE X (.Name x pos) (tC v):=
 λ_ _ _ H _ I h=>pB I hg hm hv ⟨v,H,I,r,h⟩ hn hd
variable {a b:Expr}{ta tb:TE}{pos:Pos}
variable {tA tB':TT}{rest:List Expr}
def agr (t u:TT):TT:=fun σ H Q=>t σ H λc H1=>if c=true then u σ H1 Q else Q false H1
def tOr (t u:TT):TT:=fun σ H Q=>t σ H λc H1=>if c=true then Q true H1 else u σ H1 Q
def af5 (t:TT):TT:=fun σ H Q=>t σ H λc H1=>Q (!c) H1
theorem zbX (ha:PT X a tA):PW X (.BoolOp .And [a] pos) tA:=by
 intro wh amx s σ H Q I h;refine isTrue_and<|Hj (ha amx s σ H Q I h) λc s1 e=>?_
 cases c with
 | true=>exact isTrue_and_nil e
 | false=>exact e
theorem acg (ha:PT X a tA):PW X (.BoolOp .Or [a] pos) tA:=by
 intro wh amx s σ H Q I h;refine isTrue_or<|Hj (ha amx s σ H Q I h) λc s1 e=>?_
 cases c with
 | false=>exact isTrue_or_nil e
 | true=>exact e
theorem acX (ha:PT X a tA)(hb:PW X (.BoolOp .And (b::rest) pos) tB'):PW X (.BoolOp .And (a::b::rest) pos) (agr tA tB'):=by
 intro wh amx s σ H Q I h;refine isTrue_and<|Hj (ha amx s σ H _ I h) λc s1 d=>?_;obtain⟨H1,I1,q1⟩:=d
 cases c with
 | true=>exact hb wh amx s1 σ H1 Q I1 q1
 | false=>exact⟨H1,I1,q1⟩
theorem ae8 (ha:PT X a tA)(hb:PW X (.BoolOp .Or (b::rest) pos) tB'):PW X (.BoolOp .Or (a::b::rest) pos) (tOr tA tB'):=by
 intro wh amx s σ H Q I h;refine isTrue_or<|Hj (ha amx s σ H _ I h) λc s1 d=>?_;obtain⟨H1,I1,q1⟩:=d
 cases c with
 | true=>exact⟨H1,I1,q1⟩
 | false=>exact hb wh amx s1 σ H1 Q I1 q1
theorem abB (ha:PT X a tA):PT X (.UnaryOp .Not a pos) (af5 tA):=by
 intro amx s σ H Q I h;exact isTrue_not<|ha amx s σ H _ I h
def adM (ta tb:TE):TE:=fun σ H Q=>ta σ H λx H1=>∃c,x=.bl c/\if c=true then tb σ H1 Q else Q (.bl false) H1
def agi (ta tb:TE):TE:=fun σ H Q=>ta σ H λx H1=>∃c,x=.bl c/\if c=true then Q (.bl true) H1 else tb σ H1 Q
def aep (ta:TE):TE:=fun σ H Q=>ta σ H λx H1=>∃c,x=.bl c/\Q (.bl (!c)) H1
theorem acS {op}{t:TE}(h:PE X a t):PE X (.BoolOp op [a] pos) t:=λamx s σ H Q I hw=>BoolOp_one (h amx s σ H Q I hw)
theorem aai (ha:PE X a ta)(hb:PE X (.BoolOp .And (b::rest) pos) tb):PE X (.BoolOp .And (a::b::rest) pos) (adM ta tb):=by
 intro amx s σ H Q I h;refine BoolOp_and<|Hj (ha amx s σ H _ I h) λv s1 d=>?_;obtain⟨x,H1,I1,r1,q1⟩:=d
 obtain⟨c,rfl,q1⟩:=q1;cases r1;refine W5 ?_;cases c with
 | true=>exact hb amx s1 σ H1 Q I1 q1
 | false=>exact⟨.bl false,H1,I1,rfl,q1⟩
theorem afd (ha:PE X a ta)(hb:PE X (.BoolOp .Or (b::rest) pos) tb):PE X (.BoolOp .Or (a::b::rest) pos) (agi ta tb):=by
 intro amx s σ H Q I h;refine BoolOp_or<|Hj (ha amx s σ H _ I h) λv s1 d=>?_;obtain⟨x,H1,I1,r1,q1⟩:=d
 obtain⟨c,rfl,q1⟩:=q1;cases r1;refine W5 ?_;cases c with
 | false=>exact hb amx s1 σ H1 Q I1 q1
 | true=>exact⟨.bl true,H1,I1,rfl,q1⟩
theorem aas (ha:PE X a ta):PE X (.UnaryOp .Not a pos) (aep ta):=by
 intro amx s σ H Q I h;refine UnaryOp_<|Hj (ha amx s σ H _ I h) λv s1 b=>?_;obtain⟨x,H1,I1,r1,q1⟩:=b
 obtain⟨c,rfl,q1⟩:=q1;cases r1;exact not_of<|W5 ⟨.bl<|!c,H1,I1,rfl,q1⟩
def tIf (t:TT)(ta tb:TE):TE:=fun σ H Q=>t σ H λc H1=>if c=true then ta σ H1 Q else tb σ H1 Q
theorem aht {c}(hc:PT X c tA)(ha:PE X a ta)(hb:PE X b tb):PE X (.IfExp c a b pos) (tIf tA ta tb):=by
 intro amx s σ H Q I h;refine wpAny_IfExp<|Hj (hc amx s σ H _ I h) λd s1 e=>?_;obtain⟨H1,I1,q1⟩:=e
 cases d with
 | true=>exact ha amx s1 σ H1 Q I1 q1
 | false=>exact hb amx s1 σ H1 Q I1 q1
end
variable {pos:Pos}{σ:St}{ta:TE}{Q:JI->AP->Prop}
def Jb (K:Ax)(H:Hp)(a:Addr)(xs:List V):Prop:=
 Rd H a (.lst xs) \/
  ∃(o:Obj) (its:Array JI) (n:Nat),K.lookup a=Dn o/\o.cls=.type "list"/\o.dict=Go/\o.data=.seq its n/\its.size<=Il/\Cq xs its.toList
def Jt (K:Ax)(H:Hp)(a:Addr)(xs:List V):Prop:=
 Rd H a (.tup xs) \/
  ∃(o:Obj) (its:Array JI) (n:Nat),K.lookup a=Dn o/\o.cls=.type "tuple"/\o.data=.seq its n/\its.size<=Il/\Cq xs its.toList/\o.dict=Go
def agA:JI->Option V
 | .none=>Dn .non
 | .bool b=>Dn (.bl b)
 | .int i _=>Dn (.int i)
 | .str x _=>Dn (.str x)
 | .bytes b _=>Dn (.byt b)
 | .float b _=>Dn (.flt b)
 | .ref a=>Dn (.ref a)
 | .type n=>Dn (.ty n)
 | _=>Go
theorem RelV.abs {x}(r:RelV x u):agA u=Dn x:=by
 cases x with
 | non|bl _|ref _|ty _=>cases r;rfl
 | int _|str _|byt _|flt _=>obtain⟨t,rfl⟩:=r;rfl
theorem RelV.inj {x y}(r:RelV x u)(q:RelV y u):x=y:=Lr (r.abs.symm.trans q.abs)
theorem Cq.inj:∀{xs ys us},Cq xs us->Cq ys us->xs=ys
 | _,_,_,.nil,.nil=>rfl
 | _,_,_,.cons r t,.cons r' t'=>by rw[r.inj r',Cq.inj t t']
section
variable {s:AP}{ys:List V}
theorem Jb.of {K:Ax}(h:H a=Dn (.lst xs)):Jb K H a xs:=.inl (.inl h)
theorem Jt.of {K}(h:H a=Dn (.tup xs)):Jt K H a xs:=.inl (.inl h)
theorem Aq.list (I:Aq X amx σ H s)(h:Jb X.K H a xs):∃its,Cq xs its/\PlainL s.heap a its.toArray/\xs.length<=Il:=by
 rcases h with h|⟨o,its,n,hk,hc,hd,hs,hz,r⟩
 obtain⟨z,its,n,r,e⟩:=h.ok I.hok;exact⟨its,r,⟨_,n,e,rfl,rfl,rfl⟩,z⟩;refine⟨its.toList,r,⟨o,n,I.kIn a o hk,hc,hd,by simpa using hs⟩,?_⟩;have e:=r.length;simp_all
theorem Aq.tupO (I:Aq X amx σ H s)(h:Jt X.K H a xs):∃its,Cq xs its/\Te s.heap a its.toArray/\xs.length<=Il:=by
 rcases h with h|⟨o,its,n,hk,hc,hs,hz,r,hd⟩
 obtain⟨z,its,r,p⟩:=h.ok I.hok;grind
 refine⟨its.toList,r,⟨o,I.kIn a o hk,hc,⟨n,by simpa using hs⟩,hd⟩,?_⟩;have e:=r.length;simp_all
theorem Aq.tuple (I:Aq X amx σ H s)(h:Jt X.K H a xs):∃its,Cq xs its/\IsTup s.heap a its.toArray/\xs.length<=Il:=let⟨its,r,p,z⟩:=I.tupO h;⟨its,r,p.tup,z⟩
theorem Aq.list_inj (I:Aq X amx σ H s)(h:Jb X.K H a xs)(h':Jb X.K H a ys):xs=ys:=by
 obtain⟨its,r,⟨o,n,e,_,_,d⟩,_⟩:=I.list h;obtain⟨its',r',⟨o',n',e',_,_,d'⟩,_⟩:=I.list h';rw[e]at e';cases e';rw[d]at d';injection d' with d1 _
 have:=by simpa using congrArg Array.toList d1
 subst this;exact r.inj r'
theorem Aq.tuple_inj (I:Aq X amx σ H s)(h:Jt X.K H a xs)(h':Jt X.K H a ys):xs=ys:=by
 obtain⟨its,r,⟨o,e,_,n,d⟩,_⟩:=I.tuple h;obtain⟨its',r',⟨o',e',_,n',d'⟩,_⟩:=I.tuple h';rw[e]at e';cases e';rw[d]at d';injection d' with d1 _
 have:=by simpa using congrArg Array.toList d1
 subst this;exact r.inj r'
end
variable {K:Ax}
abbrev Cx.wish (X:Cx)(E:JI->AP->Prop):Cx:={X with xe:=E}
abbrev Cx.nox (X:Cx):Cx:=X.wish λ_ _=>False
theorem Cx.Ok.wish {X:Cx}(ok:X.Ok)(E):(X.wish E).Ok:=
 ⟨ok.mod,ok.kind,ok.glob,ok.blt,ok.above,ok.inj,ok.has,ok.cab,ok.hd,ok.qt,ok.frames,ok.stk,ok.exf,ok.bs,ok.bsz,ok.noex,ok.exfs,ok.funs,ok.frf⟩
theorem Cx.Ok.unwish (ok:(X.wish E).Ok):X.Ok:=
 ⟨ok.mod,ok.kind,ok.glob,ok.blt,ok.above,ok.inj,ok.has,ok.cab,ok.hd,ok.qt,ok.frames,ok.stk,ok.exf,ok.bs,ok.bsz,ok.noex,ok.exfs,ok.funs,ok.frf⟩
section
variable {s:AP}
theorem Aq.wish (I:Aq X amx σ H s)(E):Aq (X.wish E) amx σ H s:=⟨I.ok.wish E,I.os,I.bare,I.base,I.loc,I.cell,I.free,I.freeC,I.pin,I.hok,I.len⟩
theorem Aq.unwish (I:Aq (X.wish E) amx σ H s):Aq X amx σ H s:=⟨I.ok.unwish,I.os,I.bare,I.base,I.loc,I.cell,I.free,I.freeC,I.pin,I.hok,I.len⟩
theorem SP.unwish {D f s'}(h:SP (X.wish E) amx D f s'):SP X amx D f s':=by
 cases f with
 | next|brk|cont=>obtain⟨σ',H',I,q⟩:=h;exact⟨σ',H',I.unwish,q⟩
 | ret u=>obtain⟨v,σ',H',I,r,q⟩:=h;exact⟨v,σ',H',I.unwish,r,q⟩
theorem QC.nox {st t}(h:QC X.nox st t):QC X st t:=λamx s σ H D I hw=>
 KY (h amx s σ H D (I.wish _) hw) (λ_ _ q=>q.unwish) λ_ _ z=>Qy z
end
section
variable {st:Stmt}{rest:List Stmt}{t u:TS}{te:TE}
def afi:TS:=λD σ H=>D.nx σ H
def ago (t u:TS):TS:=λD σ H=>t {D with nx:=u D} σ H
theorem ali:QC X [] afi:=λ_ _ σ H _ I h=>Xh ⟨σ,H,I,h⟩
theorem Ed (h1:PS X st t)(h2:QC X rest u):QC X (st::rest) (ago t u):=by
 intro amx s σ H D I h;refine wpAny_execs_cons<|Hj (h1 amx s σ H {D with nx:=u D} I h) λf s1 q=>?_
 cases f with
 | next=>
  obtain⟨σ',H',I',q⟩:=q;exact h2 amx s1 σ' H' D I' q
 | ret v|brk|cont=>exact q
theorem Bm (h1:PS X st t):QC X [st] t:=by
 intro amx s σ H D I h;refine wpAny_execs_cons<|Hj (h1 amx s σ H D I h) λf s1 q=>?_
 cases f with
 | next=>exact Xh q
 | ret v|brk|cont=>exact q
theorem Aq.quiet {s}(I:Aq X amx σ H s):interactive X.env=false:=by simp[interactive,I.ok.kind]
def aew (te:TE):TS:=λD σ H=>te σ H λ_ H1=>D.nx σ H1
theorem ajU (he:PE X e te)(hs:Vv e Go pos.line X.env=pure false:=by rfl):PS X (.Expr e pos) (aew te):=by
 intro amx s σ H D I h;exact wpAny_Expr_any (Hj (he amx s σ H _ I h) λv s1 ⟨x,H1,I1,r1,q1⟩=>⟨σ,H1,I1,q1⟩) I.quiet hs
def agM (te:TE):TS:=λD σ H=>te σ H D.rt
theorem U0 (he:PE X e te):PS X (.Return (Dn e) pos) (agM te):=by
 intro amx s σ H D I h;exact wpAny_Return_some<|Hj (he amx s σ H _ I h) λv s1 ⟨x,H1,I1,r1,q1⟩=>⟨x,σ,H1,I1,r1,q1⟩
def agg (c:TT)(t u:TS):TS:=λD σ H=>c σ H λb H1=>if b=true then t D σ H1 else u D σ H1
theorem aaN {c}{a b tc}(hc:PT X c tc)(ha:QC X a t)(hb:QC X b u):PS X (.If c a b pos) (agg tc t u):=by
 intro amx s σ H D I h;refine wpAny_If<|Hj (hc amx s σ H _ I h) λd s1 e=>?_;obtain⟨H1,I1,q1⟩:=e
 cases d with
 | true=>exact ha amx s1 σ H1 D I1 q1
 | false=>exact hb amx s1 σ H1 D I1 q1
end
abbrev TG:=V->St->Hp->(St->Hp->Prop)->Prop
abbrev Tj:=List V->St->Hp->(St->Hp->Prop)->Prop
def PG (X:Cx)(target:Expr)(t:TG):Prop:=
 ∀(amx:List (Addr×Obj)) (s:AP) (σ:St) (H:Hp) (v:V) (u:JI) (Q:St->Hp->Prop),Aq X amx σ H s->RelV v u->t v σ H Q ->
  Bb (CG X.prog X.w) X.A (assign target X.env u) (λ_ s'=>∃σ' H',Aq X amx σ' H' s'/\Q σ' H') X.xe s
def Vr (X:Cx)(ts:List Expr)(t:Tj):Prop:=
 ∀(amx:List (Addr×Obj)) (s:AP) (σ:St) (H:Hp) (vs:List V) (us:List JI) (Q:St->Hp->Prop),Aq X amx σ H s->Cq vs us->t vs σ H Q ->
  Bb (CG X.prog X.w) X.A (assignInOrder ((OJ ts X.env).map (·.2)) us) (λ_ s'=>∃σ' H',Aq X amx σ' H' s'/\Q σ' H') X.xe s
abbrev Zt:=V->V->V->Hp->(Hp->Prop)->Prop
def adq (X:Cx)(t:Zt):Prop:=
 ∀(amx:List (Addr×Obj)) (s:AP) (σ:St) (H:Hp) (o i v:V) (ov iv u:JI) (Q:Hp->Prop),Aq X amx σ H s->RelV o ov->RelV i iv->RelV v u->t o i v H Q ->
  Bb (CG X.prog X.w) X.A (setItem ov iv u) (λ_ s'=>∃H',Aq X amx σ H' s'/\Q H') X.xe s
section
def Lq (i:Nat):TG:=λv σ H Q=>Q (σ.set i (Dn v)) H
theorem nR {x}(hN:X.N.Nodup)(hi:X.N[i]?=Dn x)(hx:Loc X.env.scope x)(hf:X.fn x=true\/X.env.scope.names.lookup x=Dn .local:=by first|exact .inl rfl|exact .inr rfl|assumption):PG X (.Name x pos) (Lq i):=by
 intro amx s σ H v u Q I r h;exact wpAny_assign_Name<|m7 I hN hi hx r (λs' I'=>⟨_,H,I',h⟩) hf
def agC:Tj:=λvs σ H Q=>vs=[]/\Q σ H
def aen (t:TG)(u:Tj):Tj:=λvs σ H Q=>∃v r,vs=v::r/\t v σ H fun σ' H'=>u r σ' H' Q
theorem J5:Vr X [] agC:=by
 intro amx s σ H vs us Q I r h;obtain⟨e,h⟩:=h;exact assignInOrder_nil ⟨σ,H,I,h⟩
theorem vC {es t u}(h1:PG X e t)(h2:Vr X es u)
  (hs:(OJ (e::es) X.env).map (·.2)=assign e X.env::(OJ es X.env).map (·.2):=by rfl):Vr X (e::es) (aen t u):=by
 intro amx s σ H vs us Q I r h;obtain⟨v,vr,e1,h⟩:=h;subst e1;cases r with
 | cons r rr=>
  exact hs ▸ assignInOrder_cons (Hj (h1 amx s σ H _ _ _ I r h) λ_ s1 ⟨σ1,H1,I1,q1⟩=>(h2 amx s1 σ1 H1 _ _ Q I1 rr q1))
def agQ (K:Ax)(n:Nat)(t:Tj):TG:=λv σ H Q=>∃a xs,v=.ref a/\Jt K H a xs/\xs.length=n/\t xs σ H Q
theorem aaT {es k t}{n}(hc:X.calm=true)(h:Vr X es t)
  (hn:(OJ es X.env).length=n:=by rfl) (hst:(OJ es X.env).findIdx? (·.1)=Go:=by rfl):PG X (.Tuple es k pos) (agQ X.K n t):=by
 intro amx s σ H v u Q I r hw;obtain⟨a,xs,e1,hq,hl,hw⟩:=hw;subst e1;cases r;obtain⟨its,rv,ht,hz⟩:=I.tuple hq;exact assign_Tuple_tuple (I.ok.hd hc) ht (by simp[hn,<-hl,rv.length]) hst λh' hx=>(h amx _ σ H xs _ Q (I.kept λb o e=>hx b o (JM<|Ik e) e) (by simpa using rv) hw)
def agz (to ti:TE)(t:Zt):TG:=λv σ H Q=>to σ H λo H1=>ti σ H1 λi H2=>t o i v H2 λH3=>Q σ H3
theorem aaf {o i to ti t}(ho:PE X o to)(hi:PE X i ti)(hs:adq X t)
  (ha:∀v,assign (.Subscript o i pos) X.env v=(do
   let ov <-VB [v] (eval o X.env)
   let iv <-VB [v,ov] (eval i X.env)
   standAt pos
   VB [v,ov,iv] (setItem ov iv v)
   release [v,ov,iv] []):=by intro _;rfl):PG X (.Subscript o i pos) (agz to ti t):=by
 intro amx s σ H v u Q I r h;rw[ha];exact Al<|N6<|Hj (ho amx s σ H _ I h) λov s1 ⟨x,H1,I1,r1,q1⟩=>(Al<|N6<|Hj (hi amx s1 σ H1 _ I1 q1) λiv s2 ⟨y,H2,I2,r2,q2⟩=>(Al<|Wa<|Al<|N6<|Hj (hs amx s2 σ H2 x y v ov iv u _ I2 r1 r2 r q2) λ_ s3 ⟨H3,I3,q3⟩=>(wpAny_release ⟨σ,H3,I3,q3⟩)))
def aac (te:TE)(g:TG):TS:=λD σ H=>te σ H λx H1=>g x σ H1 D.nx
theorem abe {tg te g}(he:PE X e te)(hg:PG X tg g)(hs:swapsWithSole [tg] e pos.line X.env=pure false:=by rfl)(hw:swappedStores [tg] e X.env=pure Go:=by rfl)
  (h1:(OJ [tg] X.env).map (·.2)=[assign tg X.env]:=by rfl):PS X (.Assign [tg] e pos) (aac te g):=by
 intro amx s σ H D I h;exact wpAny_Assign_stores (Hj (he amx s σ H _ I h) λv s1 ⟨x,H1,I1,r1,q1⟩=>(h1 ▸ Hj (hg amx s1 σ H1 x v _ I1 r1 q1) λ_ s2 q=>q)) hs hw
theorem Vg {x te}{pos'}(hN:X.N.Nodup)(hi:X.N[i]?=Dn x)(hx:Loc X.env.scope x)(he:PE X e te)(hs:Vv e (Dn (.Name x pos')) pos.line X.env=pure false:=by rfl)(hf:X.fn x=true\/X.env.scope.names.lookup x=Dn .local:=by first|exact .inl rfl|exact .inr rfl|assumption):
  PS X (.Assign [.Name x pos'] e pos) (aac te (Lq i)):=by
 intro amx s σ H D I h;exact wpAny_Assign_Name (Hj (he amx s σ H _ I h) λv s1 ⟨y,H1,I1,r1,q1⟩=>(m7 I1 hN hi hx r1 (λs2 I2=>⟨_,H1,I2,q1⟩) hf)) hs
def afu (i j:Nat)(ta:TA):TS:=λD σ H=>ta σ H λvs H1=>∃v w,vs=[v,w]/\D.nx ((σ.set i (Dn v)).set j (Dn w)) H1
theorem ab8 {x y:Str}{a b:Expr}{ta:TA}{px py pt:Pos}{kt k2 pt2}(hc:X.calm=true)(hN:X.N.Nodup)(hi:X.N[i]?=Dn x)(hj:X.N[j]?=Dn y)(hij:i≠j)
  (hx:X.env.scope.names.lookup x=Dn .local) (hy:X.env.scope.names.lookup y=Dn .local) (ha:PA X [a,b] ta)
  (hw:swappedStores [.Tuple [.Name x px,.Name y py] kt pt] (.Tuple [a,b] k2 pt2) X.env=pure (Dn [x,y]))
  (hs:swapsWithSole [.Tuple [.Name x px,.Name y py] kt pt] (.Tuple [a,b] k2 pt2) pos.line X.env=pure false:=by rfl) :
  PS X (.Assign [.Tuple [.Name x px,.Name y py] kt pt] (.Tuple [a,b] k2 pt2) pos) (afu i j ta):=by
 intro amx s σ H D I h;refine Al<|Wa ?_
 refine Al<|HF ?_
 refine Al<|Tuple_<|Hj (ha _ amx s σ H _ I h) λus s1 c=>?_;obtain⟨vs,H1,I1,r1,q1⟩:=c
 obtain⟨v,w,e1,q1⟩:=q1;subst e1;obtain⟨u1,u2,rfl,rv,rw'⟩:∃u1 u2,us=[u1,u2]/\RelV v u1/\RelV w u2:=by
  cases r1 with
  | cons p q=>
   cases q with
   | cons p' q'=>
    cases q'
    exact⟨_,_,rfl,p,p'⟩
 refine W4 ?_ (by show 2<=Il;decide);have I2:Aq X amx σ H1 {s1 with heap:=s1.heap.push {cls:=.type "tuple",data:=.seq [u1,u2].toArray} }:=I1.kept λb o e=>Iw _ e
 rw[hw];show Bb (CG X.prog X.w) X.A (do rule "assign.swapped-stores";let items <-unpackItems _ 2 Go;assignInOrder [λv=>bindName X.env y v,λv=>bindName X.env x v] items.reverse;pure Flow.next) _ _ _;refine Al<|Wb<|Al<|unpackItems_tuple (items:=#[u1,u2]) (I.ok.hd hc) (IsTup.new s1.heap _) λh' hx'=>?_
 have I3:=I2.kept (t':=s1.toks) λb o e=>hx' b o (JM (Ik e)) e
 refine Al<|assignInOrder_cons<|wpAny_bindName<|m7 I3 hN hj (.inl hy) rw' (λs2 I4=>?_)<|.inr hy
 refine assignInOrder_cons<|wpAny_bindName<|m7 I4 hN hi (.inl hx) rv (λs3 I5=>assignInOrder_nil<|HF ?_)<|.inr hx
 rw[List.set_comm _ _ (Jc hij)]at I5;exact⟨_,H1,I5,q1⟩
end
variable {o tg:Expr}{es:List Expr}{k n:Nat}{pos':Pos}
section
def aaH (c:TT)(tb:TS):TS:=λD σ H=>∃W:Nat->St->Hp->Prop,(∃m,W m σ H)/\∀m σ H,W m σ H ->
 c σ H λb H1=>if b=true then ∃N:St->Hp->Prop,(∀σ' H',N σ' H'->∃m',m'<m/\W m' σ' H')/\tb {D with nx:=N,ct:=N,bk:=D.nx} σ H1 else D.nx σ H1
theorem alh {c}{body tc tb}(hp:Yb (CG X.prog X.w) X.A X.env X.xe)(hc:PT X c tc)(hb:QC X body tb):PS X (.While c body [] pos) (aaH tc tb):=by
 intro amx s σ H D I h;obtain⟨W,⟨m0,w0⟩,turn⟩:=h;refine wpAny_While<|codeAny_whileLoop (λn s'=>∃σ' H',Aq X amx σ' H' s'/\W n σ' H') ?_ m0 ⟨σ,H,I,w0⟩
 rintro n s1 ⟨σ1,H1,I1,w1⟩;refine Wr hp<|Hj (hc amx s1 σ1 H1 _ I1<|turn n σ1 H1 w1) λb s2 a=>?_;obtain⟨H2,I2,q2⟩:=a
 cases b with
 | true=>
  obtain⟨N,hN,q2⟩:=q2;refine Wr hp<|Hj (hb amx s2 σ1 H2 _ I2 q2) λf s3 q3=>?_
  cases f with
  | next|cont=>
   obtain⟨σ3,H3,I3,n3⟩:=q3;obtain⟨m',hm,w3⟩:=hN σ3 H3 n3;exact⟨m',hm,σ3,H3,I3,w3⟩
  | brk|ret v=>exact q3
 | false=>
  exact Xh ⟨σ1,H2,I2,q2⟩
end
variable {body:List Stmt}
theorem uW:entryFor table "proto.unchain" = Dn WM.«proto.unchain»:=entryFor_of_tree (by kernel_rfl)
inductive Ho (h:Heap):List Addr->JI->Prop
 | nil:Ho h [] .none
 | cons {c:Addr}{o:Obj}{vs:Array JI}{z:JI}{l:List Addr}(ho:h.get? c=Dn o) (hd:o.data=.fields vs) (h2:vs[2]?=Dn z) (t:Ho h l z):Ho h (c::l) (.ref c)
theorem Ho.keep {l v}(c:Ho h l v)(k:∀a∈l,∀o,h.get? a=Dn o->h'.get? a=Dn o):Ho h' l v:=by
 induction c with
 | nil=>exact .nil
 | cons ho hd h2 t ih=>exact .cons (k _ (by simp) _ ho) hd h2 (ih λa ha=>k a (by simp[ha]))
theorem Ho.there {l v}(c:Ho h l v):∀a∈l,∃o,h.get? a=Dn o:=by
 induction c with
 | nil=>intro a ha;cases ha
 | @cons c o vs z l ho hd h2 t ih=>
  simp_all
def Bg (A:Hh)(h:Heap):Prop:=∀v,A.handled=Dn v->∃a l,v=.ref a/\Ho h l v
theorem Qg.heap {v}(c:Qg H v)(x:Kv P w H h):∃l,Ho h l v:=by
 induction c with
 | nil=>exact⟨[],.nil⟩
 | cons h1 h2 h3 _ ih=>obtain⟨l,t⟩:=ih;exact⟨_,.cons (x _ _ h1).1 h2 h3 t⟩
theorem zaA (q:Quiet A H)(x:Kv P w H h):Bg A h:=λv e=>by
 obtain⟨⟨a,h1⟩,c⟩:=q v e;obtain⟨l,t⟩:=c.heap x;grind
def Lnk (h:Heap)(x y:JI):Prop:=∃(c:Addr) (o:Obj) (vs:Array JI),x=.ref c/\h.get? c=Dn o/\o.data=.fields vs/\vs[2]?=Dn y
inductive SX (h:Heap):JI->JI->Prop
 | refl {x:JI}:SX h x x
 | step {x y z:JI}(a:Lnk h x y) (b:SX h y z):SX h x z
variable {z:JI}
theorem SX.snoc {x y}(a:SX h x y)(b:Lnk h y z):SX h x z:=by
 induction a with
 | refl=>exact .step b .refl
 | step l _ ih=>exact .step l (ih b)
theorem SX.one {x y}(a:SX h x y)(b:Lnk h y z):∃u,Lnk h x u/\SX h u z:=by
 cases a with
 | refl=>exact⟨z,b,.refl⟩
 | step l r=>exact⟨_,l,r.snoc b⟩
variable {R:Result->AP->Prop}{prog:HN}
theorem uh {s}{e}(h:R (.ok (.ret .none)) s):∀{l o},Ho s.heap l o->e∉l->(∃a,o=.ref a)->∀slow tg,(tg=false->SX s.heap slow o)->(tg=true->∃y,Lnk s.heap slow y/\SX s.heap y o) ->
  RJ (CG prog w) A (.builtin "proto.unchain" ⟨[.ref e,o,slow,.bool tg],[]⟩) R s:=by
 intro l o c;induction c with
 | nil=>rintro _ ⟨a,z⟩;cases z
 | @cons c o vs z l ho hd h2 t ih=>
  intro ne _ slow tg hf ht;have lk:Lnk _ _ z:=⟨c,o,vs,rfl,ho,hd,h2⟩
  refine YG uW<|Al<|Ls ho hd h2 ?_
  by_cases z0:z=.none
  subst z0;refine Al<|HF<|HF ?_
  exact h;obtain⟨d,rfl,hdm⟩:∃d,z=.ref d/\d∈l:=by
   cases t with
   | nil=>exact absurd rfl z0
   | cons=>exact⟨_,rfl,by simp⟩
  have ze:¬(Value.ref d==Value.ref e)=true:=λq=>by
   have:=Value.ref.inj (beq_iff_eq.mp q)
   exact ne (by rw[<-this];simp[hdm])
  rw[if_neg ze];by_cases zs:(Value.ref d==slow)=true
  rw[if_pos zs];refine Al<|Wb ?_
  first
   | (refine Al (HF (HF ?_));exact h)
  rw[if_neg zs];have ne':e∉l:=λq=>ne (by simp[q])
  cases tg with
  | true=>
   obtain⟨y,⟨cs,os,ss,rfl,hs1,hs2,hs3⟩,r⟩:=ht rfl;exact Al<|Ls hs1 hs2 hs3<|HF ⟨Y7 _<|by decide +kernel,(ih ne' ⟨d,rfl⟩ y false (λ_=>r.snoc lk) nofun)⟩
  | false=>
   exact Al<|HF<|HF ⟨Y7 _<|by decide +kernel,(ih ne' ⟨d,rfl⟩ slow true nofun λ_=>(hf rfl).one lk)⟩
variable {oe:Obj}
theorem ahn {α s}{e}{ws h0}{Q}(hq:Bg A h0)(k0:∀b o,h0.get? b=Dn o->s.heap.get? b=Dn o)(e0:h0.get? e=Go)(he:s.heap.get? e=Dn oe)(hd:oe.data=.fields ws)(hz:2<ws.size)
  (h:∀h',(∀b,b≠e->h'.get? b=s.heap.get? b)->(∃o',h'.get? e=Dn o'/\o'.cls=oe.cls/\o'.dict=oe.dict/\((A.handled=Go/\h'=s.heap)\/∃v,A.handled=Dn v/\o'.data=.fields (ws.setIfInBounds 2 v)))->E (.ref e) {s with heap:=h'}):Bb (CG prog w) A (raiseNew (.ref e):Sem α) Q E s:=by
 refine Al<|wpAny_handled ?_
 cases hh:A.handled with
 | none=>
  exact Al<|HF<|Xe<|h _ (λ_ _=>rfl) ⟨oe,he,rfl,rfl,.inl ⟨hh,rfl⟩⟩
 | some v=>
  obtain⟨a,l,rfl,ch⟩:=hq v hh;have nl:e∉l:=λq=>by obtain⟨o,z⟩:=ch.there e q;rw[e0]at z;cases z
  dsimp only;have ne:(Value.ref a != Value.ref e)=true:=by
   simp only[bne_iff_ne];intro q;exact nl<|Value.ref.inj q ▸ ((by cases ch with|cons=>simp))
  rw[if_pos ne];refine Al<|N6<|wpAny_runValue<|uh (Al<|Al<|wpAny_load he ?_) (ch.keep λb _ o z=>k0 b o z) nl ⟨a,rfl⟩ _ false (λ_=>.refl) nofun
  rw[hd];dsimp only;rw[if_pos hz];refine wpAny_update he<|Xe ?_
  have hd3:=Rg hd (·.setIfInBounds 2 (Value.ref a));exact h _ (λb hb=>Qu _ _<|Jc hb) ⟨_,Qs _ he<|Vk hd3,YS _ _,by obtain⟨c0,d0,dt,sl⟩:=oe;cases hd;rfl,.inr ⟨_,hh,hd3⟩⟩
theorem zaP {s:AP}{it:Addr}{x left step:Int}{Q:Option JI->AP->Prop}(hh:Bg A s.heap)(hit:IsRangeIter s.heap it x left step)(hleft:left<=0)
  (hQ:∀h',Xf it s.heap h'->Q Go {s with heap:=h'}):Bb (CG prog w) A (pyNext (.ref it)) Q E s:=by
 have hT:s.TypeIs (.ref it) "range_iterator":=⟨_,hit,rfl⟩
 refine Al (VF (WQ hT F.slot_range_iterator_next
  (Vo F.slot_range_iterator_next hT F.entry_range_iterator_next ?_ (F.args_range_iterator_next_1 _))))
 show Bb _ _ (field (.ref it) 0 >>= _) _ _ s;refine Al<|Ls hit rfl (x:=Q6 x) rfl ?_
 refine Al<|Ls hit rfl (x:=Q6 left) rfl ?_
 refine Al<|Ls hit rfl (x:=Q6 step) rfl ?_
 show Bb _ _ (if left<=0 then _ else _) _ _ s;rw[if_pos hleft];refine Al<|Wb ?_
 refine Al ?_;refine Al ?_;refine Al (m:=firstArgMember _ _)<|Vu (a:=Value.none) (by first|rfl|(simp only[firstArgMember];rfl)) ?_
 refine W4 ?_<|by size_fits
 refine ahn (A:=A.in1) (h0:=s.heap) hh (λb o q=>Iw _<|Iw _ q) (Yc<|by simp[Heap.push]) (Kh _ rfl) rfl (by simp;lia) λh' h1 c=>?_;obtain⟨o',h2,h3,_⟩:=c;refine Al<|wpAny_isInstance (T := "StopIteration") (b:=true) ⟨_,h2,h3⟩ isSubtype_stop ?_
 refine HF<|hQ _ λb o hb e=>?_
 rw[h1 b ?_];exact Iw _<|Iw _ e
 have:=Ik e
 exact JM<|Jq this<|by simp[Heap.push]
structure It where
 go:Nat->Hp->Prop
 yld:Nat->Hp->V->Hp->Prop
 stop:Nat->Hp->Prop
 cm:Bool
def Iu (X:Cx)(amx:List (Addr×Obj))(H:Hp)(b:Addr):Prop:=
 H b=Go/\b≠X.env.locals/\b∉X.fs/\(b∈X.ex\/X.s₀.heap.objs.size<=b)/\(∀x c,X.env.cells.lookup x=Dn c->c≠b)/\∀p∈X.pn++amx,p.1≠b
theorem Aq.fpOk {s}(I:Aq X amx σ H s)(hb:s.heap.objs.size<=b)(hn:H' b=Go):Iu X amx H' b:=by
 refine⟨hn,R9<|Jq I.lt hb,I.nofs hb,.inr<|Ja I.sz hb,λx c e z=>?_,λp hp z=>(absurd (Jq (Ik (I.pin p hp).1)<|z ▸ hb)<|Qf _)⟩;obtain⟨v,q⟩:=I.cell x c e;exact absurd (Jq q.lt<|z ▸ hb)<|Qf _
structure Turn (P:HN) (w:HI) (K:Ax) (tg:Expr) (J:It) (fp:List Addr) (it:Addr) (tn:Nat->Heap->Prop):Prop where
 mem:it∈fp
 obj:∀i h,tn i h->∀b∈fp,∃o,h.get? b=Dn o/\∀v,o.data≠.cell v
 keep:∀i h h',tn i h->(∀b∈fp,∀o,h.get? b=Dn o->h'.get? b=Dn o)->tn i h'
 item:∀(X:Cx),X.prog=P->X.w=w->X.K=K->(J.cm=true->X.calm=true)->∀(i:Nat) (amx:List (Addr×Obj)) (s:AP) (σ:St) (H:Hp) (E:JI->AP->Prop),Aq X amx σ H s->(∀b∈fp,Iu X amx H b)->tn i s.heap->J.go i H ->
  Bb (CG P w) X.A (pyNext (.ref it)) (λr s1=>∃u,r=Dn u /\
   Bb (CG P w) X.A (letOwnedTupleGo tg (.ref it) u) (λ_ s2=>∃x H',Aq X amx σ H' s2/\RelV x u/\J.yld i H x H'/\tn (i+1) s2.heap/\∀b∈fp,H' b=Go) E s1) E s
 done:∀(X:Cx),X.prog=P->X.w=w->X.K=K->(J.cm=true->X.calm=true)->∀(i:Nat) (amx:List (Addr×Obj)) (s:AP) (σ:St) (H:Hp) (E:JI->AP->Prop),Aq X amx σ H s->(∀b∈fp,Iu X amx H b)->tn i s.heap->J.stop i H ->
  Bb (CG P w) X.A (pyNext (.ref it)) (λr s1=>r=Go/\Aq X amx σ H s1) E s
 self:∀(A:Hh) (i:Nat) (s:AP) (Q:JI->AP->Prop) (E:JI->AP->Prop),tn i s.heap->Q (.ref it) s->Bb (CG P w) A (pyIter (.ref it)) Q E s
abbrev TI:=St->Hp->(It->Hp->Prop)->Prop
def PIE (X:Cx)(amx:List (Addr×Obj))(σ:St)(tg:Expr)(R:It->Hp->Prop)(itv:JI)(s2:AP):Prop:=
 ∃(it:Addr) (fp:List Addr) (tn:Nat->Heap->Prop) (J:It) (H':Hp),itv=.ref it/\Aq X amx σ H' s2/\Turn X.prog X.w X.K tg J fp it tn/\tn 0 s2.heap/\(∀b∈fp,Iu X amx H' b)/\R J H'
def PI (X:Cx)(tg iter:Expr)(wi:TI):Prop:=
 ∀(amx:List (Addr×Obj)) (s:AP) (σ:St) (H:Hp) (R:It->Hp->Prop),Aq X amx σ H s->wi σ H R ->
  Bb (CG X.prog X.w) X.A (eval iter X.env) (λv s1=>Bb (CG X.prog X.w) X.A (pyIter v) (PIE X amx σ tg R) X.xe s1) X.xe s
theorem La {s:AP}{it:Addr}{o:Obj}{n:String}{vs:Array JI}{Q:Unit->AP->Prop}(ho:s.heap.get? it=Dn o)(hc:o.cls=.type n)(hd:o.data=.fields vs)
    (hn:["enumerate", "zip", "dict_itemiterator", "dict_reverseitemiterator", "odict_iterator", "itertools.zip_longest", "itertools.pairwise"].contains n=false) (hQ:Q () s):Bb M A (letOwnedTupleGo tg (.ref it) u) Q E s:=by
  cases tg<;>first
    | exact HF hQ
    | (cases u<;>first
        | exact HF hQ
        | (refine Al (wpAny_load ho ?_)
           rw[hc,hd];show Bb M A (if _=true then _ else _) Q E s;rw[if_neg (by intro h;rw[hn]at h;cases h)];exact HF hQ))
def Itl (K:Ax)(a:Addr):It:=
 ⟨λi H=>∃xs x,Jb K H a xs/\xs[i]?=Dn x,λi H x H'=>H'=H/\∀xs,Jb K H a xs->xs[i]?=Dn x,λi H=>∃xs,Jb K H a xs/\xs.length<=i,true⟩
def Itt (K:Ax)(a:Addr):It:=
 ⟨λi H=>∃xs x,Jt K H a xs/\xs[i]?=Dn x,λi H x H'=>H'=H/\∀xs,Jt K H a xs->xs[i]?=Dn x,λi H=>∃xs,Jt K H a xs/\xs.length<=i,true⟩
def Itr (lo:Int)(n:Nat):It:=⟨λi _=>i<n,λi H x H'=>H'=H/\x=.int (lo+i),λi _=>n<=i,false⟩
theorem zaF (a it:Addr):Turn P w K tg (Itl K a) [it] it (λi h=>h.IsListIter it a i) where
 mem:=by simp
 obj:=λi h st b hb=>by
  cases by simpa using hb
  obtain⟨o,e,c,d⟩:=st;simp_all
 keep:=λi h h' st k=>st.at λo e=>k it (by simp) o e
 item:=by
  intro X hP hw hK hc i amx s σ H E I hf st hg;subst hP hw hK;obtain⟨xs,x,hq,hx⟩:=hg;obtain⟨its,rv,p,hz⟩:=I.list hq;obtain⟨u,hu,ru⟩:=rv.get hx;obtain⟨f0,f1,f2,f3,f4,f5⟩:=hf it (by simp);refine wpAny_pyNext_list_item st p.isList (by simpa using hu) λh' st' sb=>?_;obtain⟨o,e,c,d⟩:=id st';exact⟨u,rfl,La e c d (by decide) ⟨x,H,(I.turned (λb o hb e=>(sb.2 b hb).trans e) f0 f1 f3 f4 f5),ru,⟨rfl,λys hy=>by rwa[I.list_inj hy hq]⟩,st',λb hb=>(hf b hb).1⟩⟩
 done:=by
  intro X hP hw hK hc i amx s σ H E I hf st hg;subst hP hw hK;obtain⟨xs,hq,hx⟩:=hg;obtain⟨its,rv,p,hz⟩:=I.list hq;obtain⟨f0,f1,f2,f3,f4,f5⟩:=hf it (by simp);have hl:=rv.length;exact wpAny_pyNext_list_end (I.ok.hd<|hc rfl) st p.isList (by simp;lia) λh' eb=>⟨rfl,I.turned (λb o hb e=>eb b o hb e) f0 f1 f3 f4 f5⟩
 self:=λ_ _ _ _ _ st h=>wpAny_pyIter_listiter st h
theorem zay (a it:Addr):Turn P w K tg (Itt K a) [it] it (λi h=>h.IsTupleIter it a i) where
 mem:=by simp
 obj:=λi h st b hb=>by
  obtain rfl:=by simpa using hb
  obtain⟨o,e,c,d⟩:=st;exact⟨o,e,λv z=>by rw[d]at z;cases z⟩
 keep:=λi h h' st k=>st.at λo e=>k it (by simp) o e
 item:=by
  intro X hP hw hK hc i amx s σ H E I hf st hg;subst hP hw hK;obtain⟨xs,x,hq,hx⟩:=hg;obtain⟨its,rv,p,hz⟩:=I.tuple hq;obtain⟨u,hu,ru⟩:=rv.get hx;obtain⟨f0,f1,f2,f3,f4,f5⟩:=hf it (by simp);refine wpAny_pyNext_tuple_item st (p) (by simpa using hu) λh' st' sb=>?_;obtain⟨o,e,c,d⟩:=id st';exact⟨u,rfl,La e c d (by decide) ⟨x,H,(I.turned (λb o hb e=>(sb.2 b hb).trans e) f0 f1 f3 f4 f5),ru,⟨rfl,λys hy=>I.tuple_inj hy hq ▸ hx⟩,st',λb hb=>(hf b hb).1⟩⟩
 done:=by
  intro X hP hw hK hc i amx s σ H E I hf st hg;subst hP hw hK;obtain⟨xs,hq,hx⟩:=hg;obtain⟨its,rv,p,hz⟩:=I.tuple hq;obtain⟨f0,f1,f2,f3,f4,f5⟩:=hf it (by simp);have hl:=rv.length;exact wpAny_pyNext_tuple_end (I.ok.hd<|hc rfl) st p (by simp;lia) λh' eb=>⟨rfl,I.turned (λb o hb e=>eb b o hb e) f0 f1 f3 f4 f5⟩
 self:=λ_ _ _ _ _ st h=>wpAny_pyIter_tupleiter st h
theorem aix (it:Addr)(lo:Int)(n:Nat):Turn P w K tg (Itr lo n) [it] it (λi h=>IsRangeIter h it (lo+(i:Nat)*1) ((n:Int)-(i:Nat)) 1) where
 mem:=by simp
 obj:=λi h st b hb=>by
  obtain rfl:=by simpa using hb
  exact⟨_,st,λv z=>by
   cases z⟩
 keep:=λi h h' st k=>k it (by simp) _ st
 item:=by
  intro X hP hw hK hc i amx s σ H E I hf st hg;obtain⟨f0,f1,f2,f3,f4,f5⟩:=hf it (by simp);refine wpAny_pyNext_range_item st (by have:i<n:=hg;lia) λh' st' kk=>?_;have I1:Aq X amx σ H {s with heap:=h',toks:=s.toks+1}:=I.turned (λb o hb e=>(kk.2 b hb).trans e) f0 f1 f3 f4 f5;have st2:IsRangeIter h' it (lo+((i+1:Nat):Int)*1) ((n:Int)-((i+1:Nat):Int)) 1:=by
   have e1:lo+((i+1:Nat):Int)*1=lo+((i:Nat):Int)*1+1:=by lia
   have e2:(n:Int)-((i+1:Nat):Int)=(n:Int)-((i:Nat):Int)-1:=by lia
   rw[e1,e2];exact st'
  refine⟨_,rfl,La (n := "range_iterator") st' rfl rfl (by decide) ⟨.int<|lo+i,H,I1,⟨s.toks,?_⟩,⟨rfl,rfl⟩,st2,λb hb=>(hf b hb).1⟩⟩;rw[Int.mul_one]
 done:=by
  intro X hP hw hK hc i amx s σ H E I hf st hg;obtain⟨f0,f1,f2,f3,f4,f5⟩:=hf it (by simp);exact zaP (zaA I.qt0 I.hok) st (by have:n<=i:=hg;lia) λh' eb=>⟨rfl,I.turned (t':=s.toks) (λb o hb e=>eb b o hb e) f0 f1 f3 f4 f5⟩
 self:=λ_ _ _ _ _ st h=>wpAny_pyIter_rangeiter st h
section
theorem DR {s:AP}{R:It->Hp->Prop}{lo hi:Int}{t u v:Tok}{tk:Nat}(I:Aq X amx σ H s)(h1:-(2^62)<=lo)(h2:lo<2^62)(h3:-(2^62)<=hi)(h4:hi<2^62)
  (q:R (Itr lo (hi-lo).toNat) H):Bb (CG X.prog X.w) X.A (pyIter (.ref s.heap.objs.size)) (PIE X amx σ tg R) E {s with heap:=s.heap.push {cls:=.type "range",data:=.fields #[.int lo t,.int hi u,.int 1 v]},toks:=tk}:=by
 refine wpAny_pyIter_range (IsRange.new ..) (small_one h1 h2 h3 h4) ?_;have I1:Aq X amx σ H {s with heap:=s.heap.push {cls:=.type "range",data:=.fields #[.int lo t,.int hi u,.int 1 v]},toks:=tk}:=I.kept λb o e=>Iw _ e
 refine⟨(s.heap.push {cls:=.type "range",data:=.fields #[.int lo t,.int hi u,.int 1 v]}).objs.size,[(s.heap.push {cls:=.type "range",data:=.fields #[.int lo t,.int hi u,.int 1 v]}).objs.size],_,_,H,rfl,
  I1.kept λb o e=>Iw _ e,aix _ lo (hi-lo).toNat,?_,λb hb=>?_,q⟩
 have e1:lo+((0:Nat):Int)*1=lo:=by simp
 have e2:(((hi-lo).toNat:Nat):Int)-((0:Nat):Int)=Builtin.Range.rangeSize lo hi 1:=by rw[rangeSize_one];split<;>lia
 rw[e1,e2];exact Kh _ rfl;have e:b=(s.heap.push {cls:=.type "range",data:=.fields #[.int lo t,.int hi u,.int 1 v]}).objs.size:=by simpa using hb
 subst e;exact I1.fpOk (IK _)<|I1.hok.fresh<|IK _
def aem (ta:TA):TI:=fun σ H R=>ta σ H λvs H1=>∃j:Int,vs=[.int j]/\-(2^62)<=j/\j<2^62/\R (Itr 0 j.toNat) H1
def aeh (ta:TA):TI:=fun σ H R=>ta σ H λvs H1=>∃i j:Int,vs=[.int i,.int j]/\(-(2^62)<=i/\i<2^62/\-(2^62)<=j/\j<2^62)/\R (Itr i (j-i).toNat) H1
theorem zaG {a ta p}(hg:Gl X "range")(hm:X.mg "range" = Go)(ha:PA X [a] ta)(hs:HJ [a] X.env=[(false,eval a X.env)]:=by rfl):PI X tg (.Call (.Name "range" p) [a] [] pos) (aem ta):=by
 intro amx s σ H R I h;refine Call_<|pB I hg hm boot_range<|Y9 (Hj (ha pos amx s σ H _ I h) λus s1 b=>?_) hs rfl;obtain⟨vs,H1,I1,r1,q1⟩:=b
 obtain⟨j,e,q1,q2,q⟩:=q1;subst e;cases r1 with
 | cons r rr=>
  cases rr;obtain⟨t,rfl⟩:=r;exact call_range_1<|DR I1 (by lia) (by lia) q1 q2<|by simpa using q
theorem zbg {a b ta p}(hg:Gl X "range")(hm:X.mg "range" = Go)(ha:PA X [a,b] ta)(hs:HJ [a,b] X.env=[(false,eval a X.env),(false,eval b X.env)]:=by rfl)(hs2:HJ [b] X.env=[(false,eval b X.env)]:=by rfl):
  PI X tg (.Call (.Name "range" p) [a,b] [] pos) (aeh ta):=by
 intro amx s σ H R I h;refine Call_<|pB I hg hm boot_range<|Y9 (Hj (ha pos amx s σ H _ I h) λus s1 c=>?_) (by rw[hs,hs2]) (by rw[hs2];rfl);obtain⟨vs,H1,I1,r1,q1⟩:=c
 obtain⟨i,j,e,⟨q1,q2,q3,q4⟩,q⟩:=q1;subst e;cases r1 with
 | cons r rr=>
  cases rr with
  | cons r' rr=>
   cases rr;obtain⟨t,rfl⟩:=r;obtain⟨t',rfl⟩:=r';exact call_range_2<|DR I1 q1 q2 q3 q4 q
def af9 (wi:TI)(g:TG)(tb:TS):TS:=λD σ H=>wi σ H λJ H1=>∃W:Nat->Nat->St->Hp->Prop,(∃m,W 0 m σ H1)/\∀i m σ H,W i m σ H ->
 (J.stop i H/\D.nx σ H)\/(J.go i H/\∃N:St->Hp->Prop,(∀σ' H',N σ' H'->∃m',m'<m/\W (i+1) m' σ' H')/\∀x H',J.yld i H x H'->g x σ H' fun σ2 H2=>tb {D with nx:=N,ct:=N,bk:=D.nx} σ2 H2)
def Dv (fp:List Addr)(h:Heap):List (Addr×Obj):=fp.filterMap λb=>(h.get? b).map λo=>(b,o)
theorem jJ {fp o}(hb:b∈fp)(e:h.get? b=Dn o):(b,o)∈Dv fp h:=List.mem_filterMap.mpr ⟨b,hb,by rw[e];rfl⟩
theorem zaZ {fp:List Addr}{p:Addr×Obj}(hp:p∈Dv fp h):p.1∈fp/\h.get? p.1=Dn p.2:=by
 obtain⟨b,hb,e⟩:=List.mem_filterMap.mp hp;cases q:h.get? b with
 | none=>rw[q]at e;cases e
 | some o=>
  grind
theorem Aq.pinned {s}{fp}(I:Aq X amx σ H s)(hf:∀b∈fp,Iu X amx H b)(ho:∀b∈fp,∃o,s.heap.get? b=Dn o/\∀v,o.data≠.cell v):Aq X (amx++Dv fp s.heap) σ H s:=
 I.pins_of λp hp=>(Vz.mp hp).elim (λz=>I.pin p (Vl _ z)) λz=>by
  obtain⟨hb,e⟩:=zaZ z;obtain⟨f0,f1,f2,_⟩:=hf _ hb;grind
theorem Aq.unpinned {pl s}(I:Aq X (amx++pl) σ H s):Aq X amx σ H s:=I.pins_of λp hp=>I.pin p (Vl _ (Yg _ hp))
theorem Tw {iter wi g}{tb}(hp:Yb (CG X.prog X.w) X.A X.env X.xe)(hc:X.calm=true)(hi:PI X tg iter wi)(hg:PG X tg g)(hb:QC X body tb)
  (hs:∀x,W3 iter X.env x=pure x:=by intro _;rfl):PS X (.For tg iter body [] pos) (af9 wi g tb):=by
 intro amx s σ H D I h;refine wpAny_For (Hj (hi amx s σ H _ I h) λv s1 h1=>Hj h1 λitv s2 h2=>?_) hs;obtain⟨it,fp,tn,J,H2,e,I2,T,st2,f2,W,⟨m0,w0⟩,turn⟩:=h2;subst e;have stat:∀{H':Hp},(∀b∈fp,H' b=Go)->∀b∈fp,Iu X amx H' b:=λhn b hb=>⟨hn b hb,(f2 b hb).2⟩
 refine codeAny_forLoop_any (λn s'=>∃i σ' H',Aq X amx σ' H' s'/\tn i s'.heap/\(∀b∈fp,H' b=Go)/\W i n σ' H') ?_ m0 ⟨0,σ,H2,I2,st2,λb hb=>(f2 b hb).1,w0⟩;rintro n s3 ⟨i,σ3,H3,I3,st3,fr3,w3⟩;rcases turn i n σ3 H3 w3 with⟨stop,qn⟩|⟨go,N,hN,step⟩
 ·refine Wr hp<|Hj (T.done X rfl rfl rfl (λ_=>hc) i amx s3 σ3 H3 X.xe I3 (stat fr3) st3 stop) λr s4 a=>?_;obtain⟨hr,I4⟩:=a
  subst hr;exact Xh ⟨σ3,H3,I4,qn⟩
 ·refine Wr hp<|Hj (T.item X rfl rfl rfl (λ_=>hc) i amx s3 σ3 H3 X.xe I3 (stat fr3) st3 go) λr s4 c=>?_;obtain⟨u,hr,h4⟩:=c
  subst hr;refine Wr hp<|Hj h4 λ_ s5 j=>?_;obtain⟨x,H5,I5,r5,y5,st5,fr5⟩:=j
  refine Wr hp<|Hj (hg _ s5 σ3 H5 x u _ (I5.pinned (stat fr5)<|T.obj _ _ st5) r5<|step x H5 y5) λ_ s6 k=>?_;obtain⟨σ6,H6,I6,q6⟩:=k
  refine Wr hp<|Hj (hb _ s6 σ6 H6 _ I6 q6) λf s7 q7=>?_
  have again:∀{σ7:St}{H7:Hp},Aq X _ σ7 H7 s7->N σ7 H7->∃m,m<n/\∃i σ' H',Aq X amx σ' H' s7/\tn i s7.heap/\(∀b∈fp,H' b=Go)/\W i m σ' H':=λ{σ7 H7} I7 n7=>by
   obtain⟨m',hm,w7⟩:=hN σ7 H7 n7;refine⟨m',hm,i+1,σ7,H7,I7.unpinned,T.keep _ _ _ st5 λb hb o e=>(I7.pin (b,o)<|Vl _<|Vl _<|jJ hb e).1,λb hb=>?_,w7⟩;obtain⟨o,e,d⟩:=T.obj _ _ st5 b hb;exact(I7.pin (b,o)<|Vl _<|Vl _<|jJ hb e).2.1
  cases f with
  | next=>obtain⟨σ7,H7,I7,n7⟩:=q7;exact again I7 n7
  | cont=>obtain⟨σ7,H7,I7,n7⟩:=q7;exact again I7 n7
  | brk=>obtain⟨σ7,H7,I7,q7⟩:=q7;exact⟨σ7,H7,I7.unpinned,q7⟩
  | ret v=>obtain⟨x7,σ7,H7,I7,r7,q7⟩:=q7;exact⟨x7,σ7,H7,I7.unpinned,r7,q7⟩
end
abbrev R2:=V->V->Hp->VK->Prop
def Kr (X:Cx)(f:JI->JI->Sem JI)(r:R2):Prop:=
 ∀(amx:List (Addr×Obj)) (s:AP) (σ:St) (H:Hp) (x y:V) (v u:JI) (Q:VK),Aq X amx σ H s->RelV x v->RelV y u->r x y H Q ->
  Bb (CG X.prog X.w) X.A (f v u) (EP X amx σ Q) X.xe s
def UnR (X:Cx)(f:JI->Sem JI)(r:V->Hp->VK->Prop):Prop:=
 ∀(amx:List (Addr×Obj)) (s:AP) (σ:St) (H:Hp) (x:V) (v:JI) (Q:VK),Aq X amx σ H s->RelV x v->r x H Q ->
  Bb (CG X.prog X.w) X.A (f v) (EP X amx σ Q) X.xe s
def iV (X:Cx)(f:JI)(r:List V->Hp->VK->Prop):Prop:=
 ∀(amx:List (Addr×Obj)) (s:AP) (σ:St) (H:Hp) (xs:List V) (us:List JI) (Q:VK),Aq X amx σ H s->Cq xs us->r xs H Q ->
  Bb (CG X.prog X.w) X.A (call f us) (EP X amx σ Q) X.xe s
def af8 (X:Cx)(r:V->Hp->(Bool->Hp->Prop)->Prop):Prop:=
 ∀(amx:List (Addr×Obj)) (s:AP) (σ:St) (H:Hp) (x:V) (v:JI) (Q:Bool->Hp->Prop),Aq X amx σ H s->RelV x v->r x H Q ->
  Bb (CG X.prog X.w) X.A (truthy v) (TP X amx σ Q) X.xe s
def tOp (r:R2)(ta tb:TE):TE:=fun σ H Q=>ta σ H λx H1=>tb σ H1 λy H2=>r x y H2 Q
def tUn (r:V->Hp->VK->Prop)(ta:TE):TE:=fun σ H Q=>ta σ H λx H1=>r x H1 Q
def rI (C:Int->Int->Prop)(g:Int->Int->V):R2:=λx y H Q=>∃i j,x=.int i/\y=.int j/\C i j/\Q (g i j) H
def Vt (g:Int->Int->V):R2:=λx y H Q=>∃i j,x=.int i/\y=.int j/\Q (g i j) H
def rU (g:Int->V):V->Hp->VK->Prop:=λx H Q=>∃i,x=.int i/\Q (g i) H
section
variable {a b c:Expr}{tb tc:TE}
theorem ad9 (ha:PE X a ta)(hb:PE X b tb){s}{R:V->V->Hp->Prop}(I:Aq X amx σ H s)
  (h:ta σ H λx H1=>tb σ H1 λy H2=>R x y H2) {Q}{f:JI->JI->Sem JI}
  (hf:∀v u s2 x y H2,Aq X amx σ H2 s2->RelV x v->RelV y u->R x y H2->Bb (CG X.prog X.w) X.A (f v u) Q X.xe s2) :
  Bb (CG X.prog X.w) X.A (eval a X.env) (λv s₁=>Bb (CG X.prog X.w) X.A (eval b X.env) (λu s₂=>Bb (CG X.prog X.w) X.A (f v u) Q X.xe s₂) X.xe s₁) X.xe s:=Hj (ha amx s σ H _ I h) λv s1 ⟨x,H1,I1,r1,q1⟩=>(Hj (hb amx s1 σ H1 _ I1 q1) λu s2 ⟨y,H2,I2,r2,q2⟩=>(hf v u s2 x y H2 I2 r1 r2 q2))
theorem adJ {op r}(ho:Kr X (Q7 op) r)(ha:PE X a ta)(hb:PE X b tb):PE X (.BinOp a op b pos) (tOp r ta tb):=by
 intro amx s σ H Q I h;exact wpAny_BinOp<|ad9 ha hb I h λv u s2 x y H2 I2 rx ry q=>ho amx s2 σ H2 x y v u Q I2 rx ry q
theorem aeM {op}{r}(ho:UnR X (unaryOp op) r)(ha:PE X a ta):PE X (.UnaryOp op a pos) (tUn r ta):=by
 intro amx s σ H Q I h;exact UnaryOp_<|Hj (ha amx s σ H _ I h) λv s1 ⟨x,H1,I1,r1,q1⟩=>ho amx s1 σ H1 x v Q I1 r1 q1
theorem opI {f C}{g:Int->Int->Int}
  (rule:∀i j t u s  (Q) (E),C i j->Q (.int (g i j) s.toks) {s with toks:=s.toks+1}->Bb (CG X.prog X.w) X.A (f (.int i t) (.int j u)) Q E s) :
  Kr X f (rI C λi j=>.int (g i j)):=by
 intro amx s σ H x y v u Q I rx ry h;obtain⟨i,j,rfl,rfl,hc,q⟩:=h;obtain⟨t,rfl⟩:=rx;obtain⟨t',rfl⟩:=ry;exact rule i j t t' s _ _ hc ⟨.int _,H,I.tok _,⟨_,rfl⟩,q⟩
theorem afX {f}{g:Int->Int->Int}
  (rule:∀i j t u s  (Q) (E),Q (.int (g i j) s.toks) {s with toks:=s.toks+1}->Bb (CG X.prog X.w) X.A (f (.int i t) (.int j u)) Q E s) :
  Kr X f (Vt λi j=>.int (g i j)):=by
 intro amx s σ H x y v u Q I rx ry h;obtain⟨i,j,rfl,rfl,q⟩:=h;obtain⟨t,rfl⟩:=rx;obtain⟨t',rfl⟩:=ry;exact rule i j t t' s _ _ ⟨.int _,H,I.tok _,⟨_,rfl⟩,q⟩
theorem adD {f}{g:Int->Int->Bool}
  (rule:∀i j t u s  (Q) (E),Q (.bool (g i j)) s->Bb (CG X.prog X.w) X.A (f (.int i t) (.int j u)) Q E s) :
  Kr X f (Vt λi j=>.bl (g i j)):=by
 intro amx s σ H x y v u Q I rx ry h;obtain⟨i,j,rfl,rfl,q⟩:=h;obtain⟨t,rfl⟩:=rx;obtain⟨t',rfl⟩:=ry;exact rule i j t t' s _ _ ⟨.bl _,H,I,rfl,q⟩
def aeC (i j:Int):Prop:=0<=j/\j<=1000000/\i.natAbs<2^64
theorem ajM:Kr X (Q7 .Add) (Vt λi j=>.int (i+j)):=afX λ_ _ _ _ _ _ _ q=>add_int q
theorem Z7:Kr X (Q7 .Sub) (Vt λi j=>.int (i-j)):=afX λ_ _ _ _ _ _ _ q=>sub_int q
theorem ajd:Kr X (Q7 .Mod) (rI (λ_ j=>j≠0) λi j=>.int (i.fmod j)):=opI λ_ _ _ _ _ _ _ hc q=>mod_int' hc q
theorem abK:Kr X (Q7 .Pow) (rI aeC λi j=>.int (i^j.toNat)):=opI λ_ _ _ _ _ _ _ hc q=>pow_int_small hc.1 hc.2.1 hc.2.2 q
theorem unI {f}{g:Int->Int}
  (rule:∀i t s  (Q) (E),Q (.int (g i) s.toks) {s with toks:=s.toks+1}->Bb (CG X.prog X.w) X.A (f (.int i t)) Q E s) :
  UnR X f (rU λi=>.int (g i)):=by
 intro amx s σ H x v Q I rx h;obtain⟨i,rfl,q⟩:=h;obtain⟨t,rfl⟩:=rx;exact rule i t s _ _ ⟨.int<|g i,H,I.tok _,⟨_,rfl⟩,q⟩
theorem abV:UnR X (unaryOp .USub) (rU λi=>.int (-i)):=unI λ_ _ _ _ _ q=>neg_int q
theorem Fz {s Q}{k k'}(I:Aq X amx σ H s)(q:Q (.bl k) H)(e:k=k'):EP X amx σ Q (.bool k') s:=by
 subst e;exact⟨.bl k,H,I,rfl,q⟩
theorem adU:Kr X (ML .Lt) (Vt λi j=>.bl (decide (i<j))):=adD λ_ _ _ _ _ _ _ q=>lt_int q
theorem aes:Kr X (ML .LtE) (Vt λi j=>.bl (decide (i<=j))):=adD λ_ _ _ _ _ _ _ q=>le_int q
theorem adV:Kr X (ML .Gt) (Vt λi j=>.bl (decide (j<i))):=adD λ_ _ _ _ _ _ _ q=>gt_int q
theorem aeX:Kr X (ML .GtE) (Vt λi j=>.bl (decide (j<=i))):=adD λ_ _ _ _ _ _ _ q=>ge_int q
theorem ZQ:Kr X (ML .Is) (λx y H Q=>y=.non/\Q (.bl (decide (x=.non))) H):=by
 intro amx s σ H x y v u Q I rx ry h;obtain⟨rfl,q⟩:=h;cases ry;refine is_none_gen<|Fz I q ?_
 cases x<;>first
  | (obtain⟨t,rfl⟩:=rx;rfl)
theorem Kr.or {f r r'}(h:Kr X f r)(h':Kr X f r'):Kr X f (λx y H Q=>r x y H Q\/r' x y H Q):=by
 intro amx s σ H x y v u Q I rx ry q;rcases q with q|q
 exact h amx s σ H x y v u Q I rx ry q;exact h' amx s σ H x y v u Q I rx ry q
theorem K7 (b){op}(h:op≠.In:=by decide)(h2:op≠.NotIn:=by decide):WY op b=false:=by
 have e1:(op==CmpOp.In)=false:=by cases op<;>first|rfl|exact absurd rfl h
 have e2:(op==CmpOp.NotIn)=false:=by cases op<;>first|rfl|exact absurd rfl h2
 cases b<;>simp[WY,e1,e2]
theorem aln {op r}(ho:Kr X (ML op) r)(ha:PE X a ta)(hb:PE X b tb)(hm:WY op b=false):PE X (.Compare a [op] [b] pos) (tOp r ta tb):=by
 intro amx s σ H Q I h;exact wpAny_Compare1 (ad9 ha hb I h λv u s2 x y H2 I2 rx ry q=>ho amx s2 σ H2 x y v u Q I2 rx ry q) hm
def ab3 (t:TE):TT:=fun σ H Q=>t σ H λx H'=>∃k,x=.bl k/\Q k H'
theorem ajq {op:CmpOp}{r:R2}(ho:Kr X (ML op) r)(ha:PE X a ta)(hb:PE X b tb)(hm:WY op b=false):PT X (.Compare a [op] [b] pos) (ab3 (tOp r ta tb)):=by
 intro amx s σ H Q I h;refine wpAny_isTrue_Compare1 (Hj (ha amx s σ H _ I h) λv s1 ⟨x,H1,I1,r1,q1⟩=>Hj (hb amx s1 σ H1 _ I1 q1) λu s2 ⟨y,H2,I2,r2,q2⟩=>
  Hj (ho amx s2 σ H2 x y v u _ I2 r1 r2 q2) λc s3 d=>?_) hm;obtain⟨z,H3,I3,r3,k,e,q3⟩:=d
 subst e;cases r3;exact W5 ⟨H3,I3,q3⟩
def Us (r r':R2)(ta tb tc:TE):TE:=fun σ H Q=>ta σ H λx H1=>tb σ H1 λy H2=>r x y H2 λz H3=>∃k,z=.bl k /\
 (if k=true then tc σ H3 λw' H4=>r' y w' H4 Q else Q (.bl false) H3)
theorem zbD {op op' r r'}(ho:Kr X (ML op) r)(ho':Kr X (ML op') r')(ha:PE X a ta)(hb:PE X b tb)(hc:PE X c tc)
  (hm:lastMarks [op,op'] [b,c]=false:=by with_unfolding_all rfl):PT X (.Compare a [op,op'] [b,c] pos) (ab3 (Us r r' ta tb tc)):=by
 intro amx s σ H Q I h;refine isTrue_chain (Hj (ha amx s σ H _ I h) λv s1 ⟨x,H1,I1,r1,q1⟩=>test_link (Hj (hb amx s1 σ H1 _ I1 q1) λu s2 ⟨y,H2,I2,r2,q2⟩=>
  Hj (ho amx s2 σ H2 x y v u _ I2 r1 r2 q2) λd s3 f=>?_)) hm;obtain⟨z,H3,I3,r3,k,e,q3⟩:=f
 subst e;cases r3;refine W5 ?_;cases k with
 | false=>
  obtain⟨k',e',q'⟩:=q3;cases e'
  exact ite_ff ⟨H3,I3,q'⟩
 | true=>
  refine ite_tt<|test_last<|Hj (hc amx s3 σ H3 _ I3 q3) λw' s4 ⟨z',H4,I4,r4,q4⟩=>Hj (ho' amx s4 σ H4 y z' u w' _ I4 r2 r4 q4) λd' s5 g=>?_;obtain⟨z2,H5,I5,r5,k2,e2,q5⟩:=g
  subst e2;cases r5;exact W5 ⟨H5,I5,q5⟩
def afm (K:Ax)(x:V)(H:Hp)(k:Bool):Prop:=
 match x with
 | .non=>k=false
 | .bl b=>k=b
 | .int i=>k=(i != 0)
 | .str y=>y.length<=Il/\k=((y.length:Int) != 0)
 | .byt y=>y.size<=Il/\k=((y.size:Int) != 0)
 | .ref p=>(∃xs,Jb K H p xs/\k=!xs.isEmpty)\/(∃xs,Jt K H p xs/\k=!xs.isEmpty)\/∃kvs,H p=Dn (.dK kvs)/\k=!kvs.isEmpty
 | _=>False
theorem ahf {kvs}{vs:List (κ×JI)}(r:KV kvs vs):(!vs.isEmpty)=!kvs.isEmpty:=by
 cases r<;>rfl
theorem uP {its}(r:Cq xs its):(!its.toArray.isEmpty)=!xs.isEmpty:=by
 cases r<;>simp
theorem rE:(Il)<2^63:=by decide
theorem aak:af8 X (λx H Q=>∃k,afm X.K x H k/\Q k H):=by
 intro amx s σ H x v Q I rx h;obtain⟨k,e,q⟩:=h;have hs:Il=16777216:=Wu;cases x with
 | non=>
  cases rx;have e':k=false:=e;subst e';exact truthy_none ⟨H,I,q⟩
 | bl b=>
  cases rx;have e':k=b:=e;subst e';exact W5 ⟨H,I,q⟩
 | int i=>
  obtain⟨t,rfl⟩:=rx;have e':k=(i != 0):=e;subst e';exact PySem.P.truthy_int ⟨H,I,q⟩
 | str y=>
  obtain⟨t,rfl⟩:=rx;obtain⟨hy,e'⟩:y.length<=Il/\k=((y.length:Int) != 0):=e;subst e';exact PySem.P.truthy_str (by lia) ⟨H,I.tok _,q⟩
 | byt y=>
  obtain⟨t,rfl⟩:=rx;obtain⟨hy,e'⟩:y.size<=Il/\k=((y.size:Int) != 0):=e;subst e';exact PySem.W.truthy_bytes (by lia) ⟨H,I.tok _,q⟩
 | ref p=>
  cases rx;have e':(∃xs,Jb X.K H p xs/\k=!xs.isEmpty)\/(∃xs,Jt X.K H p xs/\k=!xs.isEmpty)\/∃kvs,H p=Dn (.dK kvs)/\k=!kvs.isEmpty:=e
  rcases e' with⟨xs,hx,e'⟩|⟨xs,hx,e'⟩|⟨kvs,hx,e'⟩
  subst e';obtain⟨its,r,pl,hz⟩:=I.list hx;have amy:=r.length;exact wpAny_truthy_list pl.isList (by simp only[K8];lia) ⟨H,I.tok _,by rw[uP r];exact q⟩;subst e';obtain⟨its,r,pl,hz⟩:=I.tuple hx;have amy:=r.length;exact truthy_tuple pl (by simp only[K8];lia) ⟨H,I.tok _,by rw[uP r];exact q⟩;subst e';obtain⟨hz,hS,vs,r,m⟩:kvs.length<=Il/\(p==Vw)=false/\∃vs,KV kvs vs/\s.heap.DictOf (fj X.prog X.w) p vs:=I.hok p _ hx
  have amy:kvs.length=vs.length:=Paired.length r;exact wpAny_truthy_dict hS m (by lia) ⟨H,I.tok _,by rw[ahf r];exact q⟩
 | _=>exact(show False from e).elim
theorem zbz (ha:PE X a ta)(he:∀whole,isTrue a X.env whole=(do let v <-whole;standAt a.pos;VB [v] (truthy v))):
  PT X a (fun σ H Q=>ta σ H λx H'=>∃k,afm X.K x H' k/\Q k H'):=by
 intro amx s σ H Q I h;exact isTrue_plain (Hj (ha amx s σ H _ I h) λv s1 ⟨x,H1,I1,r1,q1⟩=>aak amx s1 σ H1 x v Q I1 r1 q1)<|he _
theorem vals1 {x}(r:Cq [x] us):∃u,us=[u]/\RelV x u:=by
 cases r with
 | cons r1 r2=>cases r2;exact⟨_,rfl,r1⟩
theorem vals2 {x y}(r:Cq [x,y] us):∃u w',us=[u,w']/\RelV x u/\RelV y w':=by
 cases r with
 | cons r1 r2=>
  cases r2 with
  | cons r3 r4=>cases r4;exact⟨_,_,rfl,r1,r3⟩
theorem aiw:iV X (.builtin "abs") (λxs H Q=>∃i,xs=[.int i]/\Q (.int (if i<0 then -i else i)) H):=by
 intro amx s σ H xs us Q I r h;obtain⟨i,rfl,q⟩:=h;obtain⟨u,rfl,t,rfl⟩:=vals1 r;exact call_abs_int λu tk=>⟨.int _,H,I.tok _,⟨_,rfl⟩,q⟩
theorem ala (hc:X.calm=true):iV X (.builtin "max") (λxs H Q=>∃i j,xs=[.int i,.int j]/\Q (.int (if j>i then j else i)) H):=by
 intro amx s σ H xs us Q I r h;obtain⟨i,j,rfl,q⟩:=h;obtain⟨u,w',rfl,⟨t,rfl⟩,t',rfl⟩:=vals2 r;refine max_two_ints (I.ok.hd hc) λh' tk k=>⟨_,H,I.kept k,?_,q⟩;by_cases hj:j>i
 rw[if_pos hj,if_pos hj];exact⟨_,rfl⟩;rw[if_neg hj,if_neg hj];exact⟨_,rfl⟩
theorem zbd (hc:X.calm=true):iV X (.builtin "min") (λxs H Q=>∃i j,xs=[.int i,.int j]/\Q (.int (if j<i then j else i)) H):=by
 intro amx s σ H xs us Q I r h;obtain⟨i,j,rfl,q⟩:=h;obtain⟨u,w',rfl,⟨t,rfl⟩,t',rfl⟩:=vals2 r;refine min_two_ints (I.ok.hd hc) λh' tk k=>⟨_,H,I.kept k,?_,q⟩;by_cases hj:j<i
 rw[if_pos hj,if_pos hj];exact⟨_,rfl⟩;rw[if_neg hj,if_neg hj];exact⟨_,rfl⟩
theorem ahZ:iV X (.type "int") (λxs H Q=>(∃i,xs=[.int i]/\Q (.int i) H)\/∃k,xs=[.bl k]/\Q (.int (if k then 1 else 0)) H):=by
 intro amx s σ H xs us Q I r h;rcases h with⟨i,rfl,q⟩|⟨k,rfl,q⟩
 obtain⟨u,rfl,t,rfl⟩:=vals1 r;exact call_int_int ⟨.int i,H,I,⟨_,rfl⟩,q⟩;obtain⟨u,rfl,r1⟩:=vals1 r;cases r1;exact call_int_bool ⟨.int _,H,I.tok _,⟨_,rfl⟩,q⟩
end
structure agW (h:Heap) (x dx C:Addr) (mA:Str->Option JI):Prop where
 obj:h.get? x=Dn (PySem.W.instObj C dx)
 ns:h.Ns1 dx mA
 ne:dx≠x
variable {dx:Addr}{mA:Str->Option JI}
theorem ahp (n:h.Ns1 dx mA):∃od,h.get? dx=Dn od/\∀name,PySem.W.lookIn name od=Dn (mA name):=by
 obtain⟨o,es,ep,ho,hd,hk,_,hm⟩:=n;refine⟨o,ho,λname=>?_⟩;have e:=hm name;unfold nsFind findBy at e;rw[<-Array.find?_toList]at e;unfold PySem.W.lookIn;rw[hd];dsimp only;split
 rename_i y q;simp_all
 rename_i q;rw[q]at e;have a:es.toList.any (·.refKey)=false:=by
  rw[List.any_eq_false];intro y hy;obtain⟨z,t,hkey⟩:=hk y (Array.mem_toList_iff.mp hy);simp[DictEntry.refKey,hkey]
 simp_all
section
variable {s:AP}{x C f:Addr}{name:Str}{v:JI}
end
variable {C f:Addr}{name:Str}
theorem Zq.some_of {v}{o}(r:Zq (Dn v) o):∃u,o=Dn u/\RelV v u:=by
 cases o with
 | none=>cases r
 | some u=>exact⟨u,rfl,r⟩
theorem ahE {v:V}(r:RelV v u):PySem.W.handedIn u=true:=by
 cases v with
 | non|ref a|ty n=>cases r;rfl
 | bl b=>cases r;rfl
 | int i|byt b|flt b=>obtain⟨t,e⟩:=r;cases e;rfl
 | str x=>obtain⟨t,e⟩:=r;cases e;rfl
section
variable {fs fs':List (Str×V)}
end
structure Cls (K:Ax) (C:Addr):Prop where
 pg:PySem.W.plainGet K C Str.empty=true
 hd:PySem.W.hasDictIn K C=true
 po:PySem.W.plainOver K C=true
 sa:Oh K (.ref C) "__setattr__" = Dn (Dn (.builtin "object.__setattr__"))
structure Con (K:Ax) (C:Addr) (f:Str) (v:V) (u:JI):Prop where
 at_:Oh K (.ref C) f=Dn (Dn u)
 rel:RelV v u
 get:PySem.W.specialIn K u "__get__" = Dn Go
 cp:PySem.W.copiedNames.contains f=false
structure Meth (K:Ax) (C:Addr) (m:Str) (f:Addr):Prop where
 at_:Oh K (.ref C) m=Dn (Dn (.ref f))
 fn:Xr K (.ref f)=true
 kp:Qm K (.ref f)=true
section
variable {s:AP}{fs:List (Str×V)}{f:Str}{v:V}
theorem akN {env f s}(hb:X7 e f env (eval e env)=eval e env)
  (h:Bb (CG prog w) A (eval e env) (λo s₁=>Bb (CG prog w) A (getAttr o f true) Q E s₁) E s):Bb (CG prog w) A (eval (.Attribute e f pos) env) Q E s:=
 Attribute_any_ h (by rw[arm_eval_Attribute,hb])
end
section
variable {value:Expr}{f:Str}{tpos:Pos}{tv:TE}
end
section
variable {s:AP}{c:JI}{b:Bool}
inductive MK (K:Ax) (H:Hp):V->JI->Prop where
 | non:MK K H .non (.type "NoneType")
 | bl (x:Bool):MK K H (.bl x) (.type "bool")
 | int (i:Int):MK K H (.int i) (.type "int")
 | str (x:Str):MK K H (.str x) (.type "str")
 | flt (x:UInt64):MK K H (.flt x) (.type "float")
 | lst {a:Addr}{xs:List V}(e:H a=Dn (.lst xs)):MK K H (.ref a) (.type "list")
 | frz {a:Addr}{o:Obj}{xs:List V}(e:H a=Dn (.frz o (.lst xs))):MK K H (.ref a) (.type "list")
 | tup {a:Addr}{xs:List V}(e:H a=Dn (.tup xs)):MK K H (.ref a) (.type "tuple")
 | dK {a:Addr}{kvs:List (Key×V)}(e:H a=Dn (.dK kvs)):MK K H (.ref a) (.type "dict")
 | dT {a:Addr}{kvs:List (List Key×V)}(e:H a=Dn (.dT kvs)):MK K H (.ref a) (.type "dict")
 | ins {a C dx:Addr}{fs:List (Str×V)}(e:H a=Dn (.ins C dx fs)) (cl:Cls K C) (ha:Oh K (.ref C) "__class__" = Dn (Dn (.builtin "object.__class__")))
   (hn:PySem.W.specialIn K (.builtin "object.__class__") "__get__" = Dn (Dn (.builtin "getset_descriptor.__get__"))) (htk:PySem.W.takesIn K (.builtin "object.__class__")=Dn true)
   (hm:Qo K C (.type "object")=Dn true):MK K H (.ref a) (.ref C)
end
structure gq (k:Nat) (A:Hh):Prop where
 hd:9<=k->A.handled=Go
 dp:A.depth+3*k+5<recursionLimit
 un:A.units+16*k+200<Ln
theorem gq.mono (r:gq k A)(h:j<=k):gq j A:=⟨λz=>r.hd (Ja z h),by have:=r.dp;lia,by have:=r.un;lia⟩
theorem gq.deeper {k A}(r:gq (k+1) A)(env):gq k (A.deeper env):=
 ⟨λz=>r.hd (Nat.le_succ_of_le z),by have:=r.dp;show _+1+3*k+5<_;lia,by have:=r.un;show _+3+16*k+200<_;lia⟩
variable {kw:List (Str×JI)}
theorem ahA:(A.under (.builtin "type.__call__" ⟨.ref C::us,kw⟩)).depth=A.depth+1:=by rfl
theorem zat:(A.under (.builtin "type.__call__" ⟨.ref C::us,kw⟩)).units=A.units+1:=rfl
theorem gq.make (r:gq (k+1) A)(C:Addr)(us:List JI)(kw:List (Str×JI)):gq k (A.under (.builtin "type.__call__" ⟨.ref C::us,kw⟩)):=
 ⟨λz=>r.hd (Nat.le_succ_of_le z),by have:=r.dp;rw[ahA];lia,by have:=r.un;rw[zat];lia⟩
theorem gq.calm (r:gq k A)(h:9<=k):A.handled.isNone=true:=by rw[r.hd h];rfl
theorem gq.depth {k A}(r:gq k A):A.depth<recursionLimit:=by have:=r.dp;lia
theorem gq.units {k A}(r:gq k A):A.units+64<Ln:=by have:=r.un;lia
def afZ:TA:=λ_ H Q=>Q [] H
def adN (ta:TE)(tr:TA):TA:=fun σ H Q=>ta σ H λx H1=>tr σ H1 λxs H2=>Q (x::xs) H2
section
variable {te:TE}{t:TA}
theorem tZ:PA X [] afZ:=λ_ _ _ _ H Q I h=>Calls.spliced_nil ⟨[],H,I,.nil,h⟩
theorem gY (ha:PE X e te)(hr:PA X es t)(hs:HJ (e::es) X.env=(false,eval e X.env)::HJ es X.env:=by rfl):PA X (e::es) (adN te t):=by
 intro pos amx s σ H Q I h;exact hs ▸ Calls.spliced_cons (Hj (ha amx s σ H _ I h) λu s1 ⟨x,H1,I1,r1,q1⟩=>(Hj (hr pos amx s1 σ H1 _ I1 q1) λus s2 ⟨xs,H2,I2,r2,q2⟩=>⟨x::xs,H2,I2,.cons r1 r2,q2⟩))
def agp (t:TA):TE:=fun σ H Q=>t σ H λxs H1=>xs.length<=Il/\∀p,H1 p=Go->Q (.ref p) (HW H1 p (.tup xs))
def agt (t:TA):TE:=fun σ H Q=>t σ H λxs H1=>xs.length<=Il/\∀p,H1 p=Go->Q (.ref p) (HW H1 p (.lst xs))
theorem acR {x1}(h:PA X es t):PE X (.Tuple es x1 pos) (agp t):=by
 intro amx s σ H Q I hq;refine wpAny_Tuple_spliced<|Hj (h pos amx s σ H _ I hq) λus s1 ⟨xs,H1,I1,r,z,q⟩=>⟨r.length ▸ z,(⟨.ref _,HW H1 _ _,I1.laid (λb u e=>Iw _ e) (IK _) ?_,rfl,q _<|I1.hok.fresh<|IK _⟩)⟩
 exact⟨z,us,r,_,Kh _ rfl,rfl,⟨_,rfl⟩,rfl⟩
theorem U4 (h:PA X es t):PE X (.List es pos) (agt t):=by
 intro amx s σ H Q I hq;refine wpAny_List_spliced<|Hj (h pos amx s σ H _ I hq) λus s1 ⟨xs,H1,I1,r,z,q⟩=>⟨r.length ▸ z,.ref _,HW H1 _ _,I1.laid (λb u e=>Iw _ e) (IK _) ?_,rfl,q _<|I1.hok.fresh<|IK _⟩
 exact⟨z,us,0,r,Kh _ rfl⟩
end
variable {t:TA}
abbrev Sp:=List V->Hp->VK->XK->Prop
abbrev V8:=Option JI->List Env->Hp->AP->XK->JI->AP->Prop
structure Zm (P:HN) (w:HI) (K:Ax) (mg:Str->Option JI) (base:Heap) (A:Hh) (outer:List Env) (s:AP) (H:Hp):Prop where
 frames:A.frames=Dn outer
 mod:Mod K mg base
 bs:∀b o,base.get? b=Dn o->s.heap.get? b=Dn o/\H b=Go
 bsz:base.objs.size<=s.heap.objs.size
 funs:s.heap.FunFrames base outer
 frf:∀b∈frs outer,H b=Go
 hok:Kv P w H s.heap
 bare:Sy s.gens
 qt:Quiet A H
def CE (outer:List Env)(P:HN)(w:HI)(H:Hp)(s:AP)(Q:VK)(u:JI)(s':AP):Prop:=
 ∃v H',s'.os=s.os/\Sy s'.gens/\Un (frs outer) [] H H' s.heap s'.heap/\Kv P w H' s'.heap/\RelV v u/\Q v H'
def zaj (CX:V8)(hd:Option JI)(outer:List Env)(P:HN)(w:HI)(H:Hp)(s:AP)(Q:VK)(E:XK)(r:Result)(s':AP):Prop:=
 match r with
 | .ok (.ret u)=>CE outer P w H s Q u s'
 | .ok _=>False
 | .error e=>CX hd outer H s E e s'
structure jB (P:HN) (w:HI) (K:Ax) (mg:Str->Option JI) (base:Heap) (CX:V8) (k:Nat) (f:Addr) (fd:Ms) (ps:List Str) (sp:Sp):Prop where
 len:∀vs H Q E,sp vs H Q E->vs.length=ps.length
 run:∀(A:Hh) (outer:List Env) (s:AP) (H:Hp) (args:Args) (us:List JI) (vs:List V) (Q:VK) (E:XK),gq k A->Zm P w K mg base A outer s H->BindsTo s fd args (ps.zip us)->Cq vs us->sp vs H Q E ->
  RJ (CG P w) A (.call (.ref f) args) (zaj CX A.handled outer P w H s Q E) s
variable {CX:V8}{base:Heap}{sp:Sp}{mg:Str->Option JI}{fd:Ms}
theorem jB.mono {P w K}{mg base CX}{j k f fd}{ps sp}(F:jB P w K mg base CX j f fd ps sp)(h:j<=k) :
  jB P w K mg base CX k f fd ps sp:=⟨F.len,λA outer s H args us vs Q E hr=>F.run A outer s H args us vs Q E (hr.mono h)⟩
theorem jB.imp {ps:List Str}{sp':Sp}(F:jB P w K mg base CX k f fd ps sp)
  (h:∀vs H Q E,sp' vs H Q E->sp vs H Q E):jB P w K mg base CX k f fd ps sp':=
 ⟨λvs H Q E q=>F.len vs H Q E (h _ _ _ _ q),λA outer s H args us vs Q E hr he hb hv hs=>F.run A outer s H args us vs Q E hr he hb hv (h _ _ _ _ hs)⟩
variable {outer:List Env}
theorem Zm.make {s}(e:Zm P w K mg base A outer s H)(C)(us)(kw):
  Zm P w K mg base (A.under (.builtin "type.__call__" ⟨.ref C::us,kw⟩)) outer s H:=⟨by first|exact e.frames|(simpa using _),e.mod,e.bs,e.bsz,e.funs,e.frf,e.hok,e.bare,e.qt⟩
section
variable {s:AP}
theorem Aq.env0 (I:Aq X amx σ H s):Zm X.prog X.w X.K X.mg X.base X.A X.stack s H:=
 ⟨I.ok.frames,I.ok.mod,I.bs,Ja I.ok.bsz I.sz,I.stack,I.stkFree,I.hok,I.bare,I.qt0⟩
theorem Aq.after {Q}(I:Aq X amx σ H s)(h:CE X.stack X.prog X.w H s Q u s'):EP X amx σ Q u s':=by
 obtain⟨v,H',os,bare,un,hok,r,q⟩:=h;obtain⟨hh,g,d,t,os'⟩:=s';obtain rfl:os'=s.os:=os;exact⟨v,H',I.call un hok bare nofun,r,q⟩
end
def W6 (sp:Sp)(dvs:List V)(E:XK)(t:TA):TE:=fun σ H Q=>t σ H λvs H1=>sp (vs++dvs) H1 Q E
def Binds (K:Ax)(fd:Ms)(ps:List Str)(ds:List JI):Prop:=
 ∀(s:AP) (us:List JI),K.In s.heap->(us++ds).length=ps.length->BindsTo s fd ⟨us,[]⟩ (ps.zip (us++ds))
theorem Binds.all {ps}(h:∀us,us.length=ps.length->bindArgs fd ⟨us,[]⟩=pure (ps.zip us)):Binds K fd ps []:=λs us _ hl=>by
 rw[Xm]at hl|-
 exact .of_eq<|h us hl
def Passes (CX:V8)(X:Cx)(E:XK):Prop:=∀(amx:List (Addr×Obj)) (σ:St) (H:Hp) (s:AP) (e:JI) (s':AP),Aq X amx σ H s->CX X.A.handled X.stack H s E e s'->X.xe e s'
section
variable {ps:List Str}{dvs:List V}{ds:List JI}{E:XK}{x m:Str}{p apos:Pos}
theorem Vf {s Q}{vs}(F:jB X.prog X.w X.K X.mg X.base CX k f fd ps sp)(hr:gq k X.A)(hb:Binds X.K fd ps ds)(hd:Cq dvs ds)(hx:Passes CX X E)
  (I:Aq X amx σ H s) (r:Cq vs us) (h:sp (vs++dvs) H Q E):Bb (CG X.prog X.w) X.A (call (.ref f) us) (EP X amx σ Q) X.xe s:=by
 have r2:=r.append hd;refine Vx<|Td (F.run _ _ s H ⟨us,[]⟩ _ _ Q E hr I.env0 (hb s us I.kIn<|r2.length ▸ F.len _ _ _ _ h) r2 h) λr s' hq=>?_
 cases r with
 | error e=>exact hx amx σ H s e s' I hq
 | ok fl=>
  cases fl with
  | ret u=>exact I.after hq
  | next|brk|cont=>exact Qy hq
theorem akY (F:jB X.prog X.w X.K X.mg X.base CX k f fd ps sp)(hr:gq k X.A)(hg:Gl X x)(hm:X.mg x=Dn (.ref f))(hk:Qm X.K (.ref f)=true)(hb:Binds X.K fd ps ds)(hd:Cq dvs ds)(hx:Passes CX X E)
  (ha:PA X (e::es) t) (hdb:(x==("__debug__" : Str))=false:=by decide) (he:HJ (e::es) X.env=(false,eval e X.env)::HJ es X.env:=by rfl) (hpl:(Ka pos (HJ es X.env)).any (·.1)=false:=by rfl) :
  PE X (.Call (.Name x p) (e::es) [] pos) (W6 sp dvs E t):=by
 intro amx s σ H Q I h;refine WD<|j9 I hg hm ?_ hdb
 exact PySem.W.callWith_K I.ok.mod.kin hk (Hj (ha pos amx s σ H _ I h) λus s1 ⟨vs,H1,I1,r,q⟩=>⟨I1.kIn,(Vf F hr hb hd hx I1 r q)⟩) he hpl
theorem aiV (F:jB X.prog X.w X.K X.mg X.base CX k f fd ps sp)(hr:gq k X.A)(hg:Gl X x)(hm:X.mg x=Dn (.ref f))(hk:Qm X.K (.ref f)=true)(hb:Binds X.K fd ps ds)(hd:Cq dvs ds)(hx:Passes CX X E)
  (hdb:(x==("__debug__" : Str))=false:=by decide):PE X (.Call (.Name x p) [] [] pos) (W6 sp dvs E afZ):=by
 intro amx s σ H Q I h;exact WD<|j9 I hg hm (PySem.W.callWith_K0 I.kIn hk<|Vf F hr hb hd hx I .nil h) hdb
structure zac (K:Ax) (C f:Addr):Prop where
 makes:PySem.W.makesIn K C=true
 init:Oh K (.ref C) "__init__" = Dn (Dn (.ref f))
 fn:Xr K (.ref f)=true
 kp:Qm K (.ref C)=true
end
variable {apos:Pos}
section
variable {ps ks:List Str}{E:XK}{x m:Str}{p kpos:Pos}{kws:List Ra}{te:TE}{tk:TA}{nm:Option Str}
structure afF (K:Ax) (fd:Ms) (ps ks:List Str) (g:List JI->List JI->List JI) (gV:List V->List V->List V):Prop where
 to:∀(s:AP) (us ws:List JI),K.In s.heap->(g us ws).length=ps.length->BindsTo s fd ⟨us,ks.zip ws⟩ (ps.zip (g us ws))
 rel:∀{vs:List V}{us:List JI}{zs:List V}{ws:List JI},Cq vs us->Cq zs ws->Cq (gV vs zs) (g us ws)
variable {g:List JI->List JI->List JI}{gV:List V->List V->List V}
end
structure fW (N P:List Str) (sc:Scope):Prop where
 kind:sc.kind=.function
 co:sc.isCoroutine=false
 gen:sc.isGenerator=false
 nd:N.Nodup
 pre:N.take P.length=P
 par:∀x∈P,sc.names.lookup x=Dn .local\/sc.names.lookup x=Dn .cell
 nofree:∀y∈sc.names,y.2≠.free
theorem xW {Ql x}:∀{binds m},(∀v,(x,v)∉binds)->bindL Ql binds m x=m x
 | [],_,_=>rfl
 | (n,v)::r,m,h=>by
  unfold bindL;rw[xW λw hw=>h w (Qp _ hw)];split
  grind
  rfl
theorem yO {Ql x}:∀{binds m},(∀v,(x,v)∉binds)->bindC Ql binds m x=m x
 | [],_,_=>rfl
 | (n,v)::r,m,h=>by
  unfold bindC;rw[yO λw hw=>h w (Qp _ hw)];split
  rfl;grind
theorem zy {Ql x v}:∀{P:List Str}{vs}{i:Nat}{m},P.Nodup->P[i]?=Dn x->vs[i]?=Dn v->Ql x=Dn .local ->
  bindL Ql (P.zip vs) m x=Dn v
 | p::P,w::vs,0,m,nd,h1,h2,hk=>by
  simp at h1 h2;subst h1;subst h2;show bindL Ql ((p,w)::P.zip vs) m p=_;unfold bindL;rw[xW λv hv=>(S8.mp nd).1 (List.of_mem_zip hv).1,if_pos hk];simp
 | p::P,w::vs,i+1,m,nd,h1,h2,hk=>by
  unfold bindL;exact zy (S8.mp nd).2 (by simpa using h1) (by simpa using h2) hk
theorem zf {Ql x v}:∀{P:List Str}{vs}{i:Nat}{m},P.Nodup->P[i]?=Dn x->vs[i]?=Dn v->Ql x≠Dn .local ->
  bindC Ql (P.zip vs) m x=Dn v
 | p::P,w::vs,0,m,nd,h1,h2,hk=>by
  simp at h1 h2;subst h1;subst h2;show bindC Ql ((p,w)::P.zip vs) m p=_;unfold bindC;rw[yO λv hv=>(S8.mp nd).1 (List.of_mem_zip hv).1,if_neg hk];simp
 | p::P,w::vs,i+1,m,nd,h1,h2,hk=>by
  unfold bindC;exact zf (S8.mp nd).2 (by simpa using h1) (by simpa using h2) hk
def start (N:List Str)(vs:List V):St:=vs.map Dn++QW (N.length-vs.length) Go
def Ji (CX:V8)(P:HN)(w:HI)(K:Ax)(mg:Str->Option JI)(base:Heap)(N:List Str)(qual:Str)(scope:Scope)(f:Addr)(cd:JI)(A:Hh)(outer:List Env)(s:AP)(H:Hp)(E:XK):Cx where
 prog:=P
 w:=w
 K:=K
 mg:=mg
 base:=base
 A:=A.deeper (RG qual scope s.heap.objs.size f cd)
 N:=N
 s₀:=s
 H₀:=H
 env:=RG qual scope s.heap.objs.size f cd
 outer:=outer
 stack:=RG qual scope s.heap.objs.size f cd::outer
 ex:=[]
 calm:=A.handled.isNone
 fn:=λ_=>true
 pn:=[]
 xe:=λe s'=>Bb (CG P w) (A.deeper (RG qual scope s.heap.objs.size f cd)) (leaving (RG qual scope s.heap.objs.size f cd) e) (λ_ s''=>CX A.handled outer H s E e s'') (λe' s''=>CX A.handled outer H s E e' s'') s'
theorem Fo {sc:Scope}{x:Str}(h:sc.names.lookup x=Dn .cell):∃c,(MJ n sc.names []).lookup x=Dn c:=Option.isSome_iff_exists.mp (PySem.W.cellsFrom_some _ n [] (.inl h))
variable {scope:Scope}{qual:Str}
theorem ahF {N ps cd}{s s1 E}{vs}
  (S:fW N ps scope) (e0:Zm P w K mg base A outer s H) (hl:vs.length=ps.length) (r:Cq vs us)
  (x:InCallC s s.heap.objs.size (bindL (RG qual scope s.heap.objs.size f cd).kindOf (ps.zip us) λ_=>Go) (MJ (s.heap.objs.size+1) scope.names []) (bindC (RG qual scope s.heap.objs.size f cd).kindOf (ps.zip us) λ_=>Go) s1) :
  Aq (Ji CX P w K mg base N qual scope f cd A outer s H E) [] (start N vs) H s1:=by
 have hpl:=by have:=congrArg Tc S.pre;rw[Ti]at this;lia
 obtain⟨h1,tk,rfl,hk⟩:=x.done;have noA:∀b:Addr,b∉(Ji CX P w K mg base N qual scope f cd A outer s H E).ex:=λb z=>absurd (show b∈([]:List Addr)from z) (by simp)
 refine⟨⟨e0.mod,S.kind,rfl,rfl,IK _,λy z c h1 h2=>?_,λy hy=>?_,λy c _ h=>?_,λz=>Option.isNone_iff_eq_none.mp (z),e0.qt,Around.frames_deeper e0.frames,.inr ⟨rfl,rfl⟩,λb z=>absurd z (noA b),e0.bs,e0.bsz,λb _ _=>noA b,λb z=>absurd z (noA b),e0.funs,e0.frf⟩,
  rfl,e0.bare,Un.kept hk,⟨_,x.toInCall.ns,λi y v h1 h2 h3=>?_⟩,λy c h=>⟨_,x.cell y c h⟩,e0.hok.fresh (IK _),λy c h=>?_,λp hp=>absurd (show p∈([]:List _)from hp) (by simp),e0.hok.kept hk,?_⟩
 exact name_of_addr x.apart (Vq h1)<|Vq h2
 rcases hy with hy|hy
 exact Fo hy;exact absurd rfl<|S.nofree _<|Vq hy
 exact W7<|x.above y c<|Vq h
 have hi:i<vs.length:=by
  unfold start at h2;by_cases hi:i<vs.length
  exact hi;rw[SQ (by simpa using hi)]at h2;rw[Ys]at h2;split at h2<;>cases h2
 have ha:vs[i]?=Dn v:=by
  unfold start at h2;rw[Rn (by simpa using hi),Jm]at h2;cases e:vs[i]? with
  | none=>rw[e]at h2;cases h2
  | some a=>rw[e]at h2;cases h2;rfl
 obtain⟨u,hu,rv⟩:=r.get ha;have hp:ps[i]?=Dn y:=by
  rw[<-S.pre,List.getElem?_take_of_lt (by lia)];exact h1
 have ndP:=S.pre ▸ S.nd.sublist (List.take_sublist _ _);refine⟨u,rv,?_⟩;rcases S.par y (RN hp)with k|k
 exact .inl ⟨k,zy ndP hp hu k⟩;obtain⟨c,e⟩:=Fo k;refine .inr ⟨.inl k,c,e,?_⟩;have q:=x.cell y c e;rw[zf ndP hp hu (by show scope.names.lookup y≠_;rw[k];decide)]at q;exact q;exact e0.hok.fresh<|W7<|x.above y c<|Vq h
 unfold start;show _=N.length;rw[KJ,Hi,Ym];lia
variable {od:Option Addr}
theorem acC {params}{dV kV doc pm cdv ct oc an}
  {osl N ps sp}(lk:K.lookup f=Dn ⟨oc,od,.func (W9 name qual params body scope dV kV doc pm an cdv ct),osl⟩) (hcd:Xk K cdv qual=true) (S:fW N ps scope)
  (len:∀vs H Q E,sp vs H Q E->vs.length=ps.length)
  (hbody:∀A  (outer) (s) (H) (vs) (Q) (E),gq k (A.deeper (RG qual scope s.heap.objs.size f cdv))->sp vs H Q E ->
   ∃t,QC (Ji CX P w K mg base N qual scope f cdv A outer s H E) body t/\t {nx:=λ_ H'=>Q .non H',rt:=Q} (start N vs) H) :
  jB P w K mg base CX (k+1) f (W9 name qual params body scope dV kV doc pm an cdv ct) ps sp:=by
 refine⟨len,λA outer s H args us vs Q E hr e0 hb r hsp=>?_⟩;have KX:=e0.mod.kin.keeps λb o e=>(e0.bs b o e).1
 have hkind:∀y∈ps.zip us,scope.names.lookup y.1=Dn .local\/(scope.names.lookup y.1=Dn .cell/\((MJ (s.heap.objs.size+1) _ []).lookup y.1).isSome=true):=λa hy=>by
  obtain⟨n,v⟩:=a;rcases S.par n (List.of_mem_zip hy).1 with q|q
  exact .inl q;exact .inr ⟨q,PySem.W.cellsFrom_some _ _ _<|.inl q⟩
 refine codeAny_call_function hr.depth (KX _ _ lk) rfl S.co S.gen rfl (PySem.W.codeRec_of KX hcd)<|hb _ _ _ _<|wpAny_newFunctionEnv_cells S.kind hkind λenv he s1 x=>?_
 subst he;refine⟨(e0.mod.nolimit.keeps λb o e=>(e0.bs b o e).1).keeps x.toInCall.keep,codeAny_func ?_⟩;obtain⟨t,ht,hq⟩:=hbody A outer s H vs Q E (hr.deeper _) hsp;refine KY (ht [] s1 _ H _ (ahF S e0 (len _ _ _ _ hsp) r x) hq) (λfl s' hs=>?_) λe s' hs=>hs;have fin:∀{σ':St}{H':Hp}{v:V}{u:JI},Aq (Ji CX P w K mg base N qual scope f cdv A outer s H E) [] σ' H' s'->RelV v u->Q v H'->CE outer P w H s Q u s':=
  λ{σ' H' v u} J rv q=>⟨v,H',J.os,J.bare,J.base,J.hok,rv,q⟩
 cases fl with
 | ret u=>
  obtain⟨v,σ',H',J,rv,q⟩:=hs;exact fin J rv q
 | next=>
  obtain⟨σ',H',J,q⟩:=hs;exact fin (v:=V.non) J rfl q
 | brk|cont=>
  obtain⟨_,_,_,q⟩:=hs;exact Qy q
section
variable {x:Str}{p:Pos}{id T:String}{r:List V->Hp->VK->Prop}
def tCB (r:List V->Hp->VK->Prop)(t:TA):TE:=fun σ H Q=>t σ H λvs H1=>r vs H1 Q
theorem pU (hc:iV X (.builtin id) r)(hg:Gl X x)(hm:X.mg x=Go)(hv:VR x=Dn (.builtin id))(ha:PA X (e::es) t)(hn:x ≠ "__name__":=by decide)(hdb:(x==("__debug__" : Str))=false:=by decide)
  (he:HJ (e::es) X.env=(false,eval e X.env)::HJ es X.env:=by rfl) (hpl:(Ka pos (HJ es X.env)).any (·.1)=false:=by rfl):PE X (.Call (.Name x p) (e::es) [] pos) (tCB r t):=by
 intro amx s σ H Q I h;exact WD<|pB I hg hm hv (PyProof.Rows.callWith_builtin1 (Hj (ha pos amx s σ H _ I h) λus s1 ⟨vs,H1,I1,r1,q1⟩=>hc amx s1 σ H1 vs us Q I1 r1 q1) he hpl) hn hdb
theorem qX (hc:iV X (.type T) r)(hg:Gl X x)(hm:X.mg x=Go)(hv:VR x=Dn (.type T))(ha:PA X (e::es) t)(hn:x ≠ "__name__":=by decide)(hdb:(x==("__debug__" : Str))=false:=by decide)
  (he:HJ (e::es) X.env=(false,eval e X.env)::HJ es X.env:=by rfl) (hpl:(Ka pos (HJ es X.env)).any (·.1)=false:=by rfl):PE X (.Call (.Name x p) (e::es) [] pos) (tCB r t):=by
 intro amx s σ H Q I h;exact WD<|pB I hg hm hv (Y9 (Hj (ha pos amx s σ H _ I h) λus s1 ⟨vs,H1,I1,r1,q1⟩=>hc amx s1 σ H1 vs us Q I1 r1 q1) he hpl) hn hdb
end
end L2
namespace HT
open PySem PyProof.Rows
section
open PySem.SeqAt
open PySem.AutoSeq1 (wpAny_loadPart')
open PySem.MeetsSeq PySem.MeetsSeq2 PySem.MeetsSeq3
end
section
variable {prog:HN}{w:HI}{A:Hh}{E:JI->AP->Prop}{s:AP}
theorem YT {t b}{vs ws}{Q}(ht:IsTup s.heap t vs.toArray)(hb:IsTup s.heap b ws.toArray)(hv:vs≠[])
  (h1:ws=[]->Q (.ref t) s) (h2:ws≠[]->Q (.ref s.heap.objs.size) {s with heap:=s.heap.push {cls:=.type "tuple",data:=.seq (vs++ws).toArray} })
  (hsz:vs.length+ws.length<=Il):Bb (CG prog w) A (Q7 .Add (.ref t) (.ref b)) Q E s:=by
 obtain⟨⟨cls,dd,data,sl⟩,ho,hc,n,hd⟩:=ht;obtain⟨⟨cls2,dd2,data2,sl2⟩,ho2,hc2,n2,hd2⟩:=hb;subst hc hd hc2 hd2;have e:vs.toArray++ws.toArray=(vs++ws).toArray:=by simp
 by_cases hw:ws=[]
 exact concat_meets ⟨_,ho,rfl⟩ ⟨_,ho2,rfl⟩ noFill_tuple_add seq_tuple_add PySem.F.slot_tuple_add PySem.F.entry_tuple_add (PySem.F.args_tuple_add_2 _ _)
  (tuple_addW1 t b _ _ n n2 dd dd2 sl sl2 (by simpa using hv) (by simp[hw])) ⟨ho,ho2,h1 hw⟩
 refine concat_meets ⟨_,ho,rfl⟩ ⟨_,ho2,rfl⟩ noFill_tuple_add seq_tuple_add PySem.F.slot_tuple_add PySem.F.entry_tuple_add (PySem.F.args_tuple_add_2 _ _)
  (tuple_addW2 t b _ _ n n2 dd dd2 sl sl2 (by simpa using hv) (by simpa using hw) hsz) ⟨ho,ho2,?_⟩
 simp_all
def sIx (n d:Nat):Option Int->Nat
 | none=>d
 | some v=>if v<0 then(v+(n:Int)).toNat else min v.toNat n
theorem G9 (n d):sIx n d Go=d:=rfl
theorem Cg (n d k:Nat):sIx n d (Dn (k:Int))=min k n:=rfl
theorem Ks (v)(n d:Nat):(if v<0 then max (v+(n:Int)) 0 else min v (n))=((sIx n d (Dn v):Nat):Int):=by
 show _=(((if v<0 then(v+(n:Int)).toNat else min _ n):Nat):Int);grind
theorem zam (lo hi)(n:Nat):Builtin.Slice.sliceAdjust lo hi 1 (n)=(((sIx n 0 lo):Int),((sIx n n hi):Int)):=by
 refine Prod.ext ?_ ?_;cases lo with
 | none=>rfl
 | some v=>exact Ks v n 0
 cases hi with
 | none=>rfl
 | some v=>exact Ks v n n
theorem zaw (i j:Nat):Builtin.Slice.slicePlaces (i) (j) 1=j-i:=by
 unfold Builtin.Slice.slicePlaces;lia
theorem uw {v}{o}{Q}(p:IsPart v o)(h:Q o s):Bb (CG prog w) A (Builtin.Slice.slicePartIndex v) Q E s:=by
 cases p with
 | none=>exact slicePart_none h
 | int i t=>exact slicePart_int h
theorem iM {sl}{vl vu}{lo hi}{n:Nat}{Q}(hs:s.heap.IsSliceOf sl vl vu .none)(pl:IsPart vl lo)(pu:IsPart vu hi)
  (h:Q (((sIx n 0 lo):Int),1,sIx n n hi-sIx n 0 lo) s):Bb (CG prog w) A (Builtin.Slice.sliceApplied (.ref sl) (pure (n))) Q E s:=by
 obtain⟨os,hos,hcs,hds⟩:=hs;refine Al<|Al<|Ls hos hds rfl<|Al<|Ls hos hds rfl<|Al<|Ls hos hds rfl<|HF ?_
 refine Al<|slicePart_none ?_
 rw[if_neg (by decide)];refine Al<|uw pl<|Al<|uw pu<|Al<|HF ?_
 show Bb _ _ (match Builtin.Slice.sliceAdjust lo hi 1 _ with|(lo,hi)=>pure (lo,(1:Int),Builtin.Slice.slicePlaces lo hi 1)) _ _ s;rw[zam lo hi n];show Bb _ _ (pure _) _ _ s;rw[zaw];exact HF h
theorem ais (xs:Array JI)(i k:Nat):((P0 k).filterMap λ(m:Nat)=>xs[((i)+(m:Int)*1).toNat]?).toArray=((xs.toList.drop i).take k).toArray:=by
 have e:(λ(m:Nat)=>xs[((i:Int)+(m:Int)*1).toNat]?)=λm=>xs[i+m]?:=by
  funext m;have:((i:Int)+(m:Int)*1).toNat=i+m:=by lia
  rw[this]
 rw[e];have:=pick_run xs i k
 rw[List.filterMap_map]at this;have e2:((λx=>xs[x]?) ∘λx=>i+x)=λm=>xs[i+m]?:=rfl
 simp_all
theorem oE {t sl}{items vl vu}{lo hi Q}(ht:IsTup s.heap t items)(hs:s.heap.IsSliceOf sl vl vu .none)(pl:IsPart vl lo)(pu:IsPart vu hi)
  (hw:¬(sIx items.size 0 lo=0/\sIx items.size items.size hi=items.size))
  (h:Q (.ref s.heap.objs.size) {s with heap:=s.heap.push {cls:=.type "tuple",data:=.seq ((items.toList.drop (sIx items.size 0 lo)).take (sIx items.size items.size hi-sIx items.size 0 lo)).toArray} })
  (hsz:items.size<=Il):Bb (CG prog w) A (getItem (.ref t) (.ref sl)) Q E s:=by
 have htake:sizeOk (.seq ((items.toList.drop (sIx items.size 0 lo)).take (sIx items.size items.size hi-sIx items.size 0 lo)).toArray):=by
  show((items.toList.drop (sIx items.size 0 lo)).take (sIx items.size items.size hi-sIx items.size 0 lo)).toArray.size<=Il;rw[K8,Ti,List.length_drop,Array.length_toList];omega
 obtain⟨os,hos,hcs,hds⟩:=id hs;have hTs:s.TypeIs (.ref sl) "slice":=⟨os,hos,hcs⟩
 unfold getItem;try with_reducible refine N6 ?_
 refine Al<|wpAny_sequenceKey ht.typeIs (by decide) ?_
 refine Al (WQ (name:=Str.ofString "__getitem__") ht.typeIs Wi
  (Vo Wi ht.typeIs entry_tuple_getitem ?_ (args_tuple_getitem _ _)))
 show Bb _ _ (Builtin.Tuple.tupleItemsOf (.ref t) >>= _) _ _ s;refine Al<|tupleItemsOf_ ht ?_
 refine Al<|wpAny_typeOf hTs ?_
 refine Al<|iM hs pl pu ?_
 have hno:¬((((sIx items.size 0 lo:Nat):Int)==0&&(1:Int)==1&&(sIx items.size items.size hi-sIx items.size 0 lo)==items.size)=true):=by
  intro q;rw[Qn,Qn]at q;have q1:((sIx items.size 0 lo:Nat):Int)=0:=eq_of_beq q.1.1;have q2:sIx items.size items.size hi-sIx items.size 0 lo=items.size:=eq_of_beq q.2;exact hw ⟨by omega,by omega⟩
 show Bb _ _ (if(((sIx items.size 0 lo:Nat):Int)==0&&(1:Int)==1&&(sIx items.size items.size hi-sIx items.size 0 lo)==items.size)=true then _ else _) _ _ s;rw[if_neg hno,ais];first
  | exact Al (m:=Builtin.Tuple.tupleExact _) (W4 (Al (HF (HF ⟨_,rfl,HF h⟩))) htake)
end
end HT
namespace L2
open PySem PySem.Spec PyProof.Rows
abbrev TO:=St->Hp->(Option Int->Hp->Prop)->Prop
def PO (X:Cx)(e:Option Expr)(t:TO):Prop:=
 ∀(amx:List (Addr×Obj)) (s:AP) (σ:St) (H:Hp) (Q:Option Int->Hp->Prop),Aq X amx σ H s->t σ H Q ->
  Bb (CG X.prog X.w) X.A (evalPart e X.env) (λu s'=>∃o H',Aq X amx σ H' s'/\IsPart u o/\Q o H') X.xe s
def akn:TO:=λ_ H Q=>Q Go H
def ad4 (t:TE):TO:=fun σ H Q=>t σ H λx H1=>∃i,x=.int i/\Q (Dn i) H1
section
variable {X:Cx}{e:Expr}{te:TE}{lo hi:Option Expr}{tl th:TO}{pos p2:Pos}
theorem ake:PO X Go akn:=by
 intro amx s σ H Q I h;exact HF ⟨Go,H,I,.none,h⟩
theorem ajA (h:PE X e te):PO X (Dn e) (ad4 te):=by
 intro amx s σ H Q I hw;refine Hj (h amx s σ H _ I hw) λu s1 a=>?_;obtain⟨x,H1,I1,r1,q1⟩:=a;obtain⟨i,rfl,q⟩:=q1;obtain⟨t,rfl⟩:=r1;exact⟨Dn i,H1,I1,.int i t,q⟩
def Tn (X:Cx)(r:V->Option Int->Option Int->Hp->VK->Prop):Prop:=
 ∀(amx:List (Addr×Obj)) (s:AP) (σ:St) (H:Hp) (x:V) (v vl vu:JI) (lo hi:Option Int) (sl:Addr) (Q:VK),Aq X amx σ H s->RelV x v->s.heap.IsSliceOf sl vl vu .none->IsPart vl lo->IsPart vu hi->r x lo hi H Q ->
  ∃T id,Wn (.type T) "__getitem__" = pure (Dn (.builtin id))/\s.TypeIs v T/\Bb (CG X.prog X.w) X.A (getItem v (.ref sl)) (EP X amx σ Q) X.xe s
theorem Tn.or {r r'}(h:Tn X r)(h':Tn X r'):Tn X (λx lo hi H Q=>r x lo hi H Q\/r' x lo hi H Q):=by
 intro amx s σ H x v vl vu lo hi sl Q I rx hs pl pu q;rcases q with q|q
 exact h amx s σ H x v vl vu lo hi sl Q I rx hs pl pu q;exact h' amx s σ H x v vl vu lo hi sl Q I rx hs pl pu q
def tSl (r:V->Option Int->Option Int->Hp->VK->Prop)(te:TE)(tl th:TO):TE:=fun σ H Q=>te σ H λx H1=>tl σ H1 λl H2=>th σ H2 λu H3=>r x l u H3 Q
theorem zbv {r}(hr:Tn X r)(he:PE X e te)(hl:PO X lo tl)(hu:PO X hi th):PE X (.Subscript e (.Slice lo hi Go p2) pos) (tSl r te tl th):=by
 intro amx s σ H Q I h;refine Subscript_<|Hj (he amx s σ H _ I h) λv s1 ⟨x,H1,I1,r1,q1⟩=>(wpAny_Slice<|Hj (hl amx s1 σ H1 _ I1 q1) λvl s2 ⟨l,H2,I2,pl,q2⟩=>Hj (hu amx s2 σ H2 _ I2 q2) λvu s3 ⟨u,H3,I3,pu,q3⟩=>(HF ?_))
 have I4:Aq X amx σ H3 {s3 with heap:=s3.heap.push {cls:=.type "slice",data:=.fields #[vl,vu,.none]} }:=I3.kept λb ob q=>Iw _ q
 obtain⟨T,id,hT,ht,hg⟩:=hr amx {s3 with heap:=s3.heap.push {cls:=.type "slice",data:=.fields #[vl,vu,.none]} } σ H3 x v vl vu l u _ Q I4 r1 (Heap.IsSliceOf.new ..) pl pu q3;exact tail_any ht hT hg<|by with_unfolding_all rfl
def Yo (xs:List V)(lo hi:Option Int):List V:=(xs.drop (HT.sIx xs.length 0 lo)).take (HT.sIx xs.length xs.length hi-HT.sIx xs.length 0 lo)
theorem qg (xs)(lo hi):(Yo xs lo hi).length<=xs.length:=by
 unfold Yo;rw[Ti,List.length_drop];lia
def agD (K:Ax):V->Option Int->Option Int->Hp->VK->Prop:=λx lo hi H Q=>∃a xs,x=.ref a/\Jt K H a xs /\
 ¬(HT.sIx xs.length 0 lo=0/\HT.sIx xs.length xs.length hi=xs.length)/\∀p,H p=Go->Q (.ref p) (HW H p (.tup (Yo xs lo hi)))
theorem aay:Tn X (agD X.K):=by
 intro amx s σ H x v vl vu lo hi sl Q I rx hs pl pu h;obtain⟨a,xs,rfl,hx,hw,q⟩:=h;cases rx;obtain⟨its,r,ht,hz⟩:=I.tuple hx;have amy:its.toArray.size=xs.length:=r.length.symm;refine⟨"tuple",_,Wi.lookup,ht.typeIs,(HT.oE ht hs pl pu (amy ▸ hw) ?_<|by rwa[amy])⟩;rw[amy];refine⟨.ref _,_,I.laid (λb ob q=>Iw _ q) (IK _) ?_,rfl,q _<|I.hok.fresh<|IK _⟩;exact⟨Ja (qg xs lo hi) hz,_,(r.drop _).take _,Te.new _ _⟩
def ae6 (K:Ax):R2:=λx y H Q=>∃a b xs ys,x=.ref a/\y=.ref b/\Jt K H a xs/\Jt K H b ys/\xs≠[]/\xs.length+ys.length<=Il /\
 (ys=[]->Q (.ref a) H)/\(ys≠[]->∀p,H p=Go->Q (.ref p) (HW H p (.tup (xs++ys))))
theorem Cq.nil_iff {xs}{us}(r:Cq xs us):us=[]↔xs=[]:=by
 cases r with
 | nil|cons _ _=>simp
theorem zcb:Kr X (Q7 .Add) (ae6 X.K):=by
 intro amx s σ H x y v u Q I rx ry h;obtain⟨a,b,xs,ys,rfl,rfl,ha,hb,hx,hz,q1,q2⟩:=h;cases rx;cases ry;obtain⟨its,r1,p1,_⟩:=I.tuple ha;obtain⟨its2,r2,p2,_⟩:=I.tuple hb;refine HT.YT p1 p2 (λz=>hx<|r1.nil_iff.mp z) (λz=>⟨.ref a,H,I,rfl,q1<|r2.nil_iff.mp z⟩) (λz=>?_) (by rw[<-r1.length,<-r2.length];exact hz);refine⟨.ref _,_,I.laid (λb ob q=>Iw _ q) (IK _) ?_,rfl,q2 (λw=>z<|r2.nil_iff.mpr w) _<|I.hok.fresh<|IK _⟩;exact⟨KJ ▸ hz,_,r1.append r2,Te.new _ _⟩
end
def Qi (n:Nat)(i:Int):Option Nat:=if 0<=i then(if i<n then Dn i.toNat else Go)else if -(n:Int)<=i then Dn (i+n).toNat else Go
def Mv {α:Type}(xs:List α)(i:Int):Option α:=(Qi xs.length i).bind λj=>xs[j]?
theorem LK {n i j}(h:Qi n i=Dn j):seqIndex? i n=Dn j/\j<n/\-(n)<=i/\i<n:=by
 unfold Qi at h;by_cases h0:0<=i
 rw[if_pos h0]at h;by_cases h1:i<n
 rw[if_pos h1]at h;have e:=Lr h;exact⟨by rw[seqIndex_of h0 h1,e],by lia,by lia,h1⟩;simp_all
 rw[if_neg h0]at h;by_cases h1:-(n:Int)<=i
 rw[if_pos h1]at h;have e:=Lr h;exact⟨by rw[seqIndex_neg (by lia) h1,e],by lia,h1,by lia⟩;simp_all
theorem CQ {α}{xs i}{v:α}(h:Mv xs i=Dn v):∃j,seqIndex? i xs.length=Dn j/\xs[j]?=Dn v/\j<xs.length/\-(xs.length:Int)<=i/\i<xs.length:=by
 unfold Mv at h;cases e:Qi _ i with
 | none=>rw[e]at h;cases h
 | some j=>
  rw[e]at h;obtain⟨h1,h2,h3,h4⟩:=LK e;simp_all
theorem bZ {α}{xs}{j:Nat}{v:α}(h:xs[j]?=Dn v):Mv xs (j)=Dn v:=by
 have hj:=(Ob.mp h).1;have e:Qi xs.length (j:Int)=Dn j:=by
  unfold Qi;simp_all
 unfold Mv;rw[e];exact h
theorem air {α}(xs)(v:α):Mv (xs++[v]) (-1)=Dn v:=by
 have hl:(xs++[v]).length=xs.length+1:=by simp
 have e:Qi (xs++[v]).length (-1)=Dn xs.length:=by
  unfold Qi;rw[if_neg (by decide),if_pos (by lia)];congr 1
  lia
 unfold Mv;rw[e];simp
def Bk (b:Expr):Prop:=∀o i,subscripted b false o i=operate [o,i] (getItem o i)
def Vs (X:Cx)(r:R2):Prop:=
 ∀(value slice:Expr) (amx:List (Addr×Obj)) (s:AP) (σ:St) (H:Hp) (x y:V) (v u:JI) (Q:VK),Aq X amx σ H s->RelV x v->RelV y u->r x y H Q ->
  subscripted slice false v u=operate [v,u] (getItem v u)->Bb (CG X.prog X.w) X.A (subscriptTail value slice v u) (EP X amx σ Q) X.xe s
def MtR (X:Cx)(id:String)(r:V->List V->Hp->VK->Prop):Prop:=
 ∀(amx:List (Addr×Obj)) (s:AP) (σ:St) (H:Hp) (x:V) (xs:List V) (v:JI) (us:List JI) (Q:VK),Aq X amx σ H s->RelV x v->Cq xs us->r x xs H Q ->
  Bb (CG X.prog X.w) X.A (call (.builtin id) (v::us)) (EP X amx σ Q) X.xe s
section
variable {X:Cx}{a b:Expr}{ta tb:TE}{pos:Pos}
theorem Vs.or {r r'}(h:Vs X r)(h':Vs X r'):Vs X (λx y H Q=>r x y H Q\/r' x y H Q):=by
 intro value slice amx s σ H x y v u Q I rx ry q hs;rcases q with q|q
 exact h value slice amx s σ H x y v u Q I rx ry q hs;exact h' value slice amx s σ H x y v u Q I rx ry q hs
theorem afh {r}(hr:Vs X r)(ha:PE X a ta)(hb:PE X b tb)(hs:Bk b):PE X (.Subscript a b pos) (tOp r ta tb):=by
 intro amx s σ H Q I h;exact Subscript_<|ad9 ha hb I h λv u s2 x y H2 I2 rx ry q=>hr a b amx s2 σ H2 x y v u Q I2 rx ry q<|hs _ _
def afs (K:Ax):R2:=λx y H Q=>∃p xs i v,x=.ref p/\y=.int i/\Jb K H p xs/\Mv xs i=Dn v/\Q v H
def afH (K:Ax):R2:=λx y H Q=>∃p xs i v,x=.ref p/\y=.int i/\Jt K H p xs/\Mv xs i=Dn v/\Q v H
def afE:R2:=λx y H Q=>∃z i c,x=.str z/\y=.int i/\z.length<=Il/\Mv z.cps.toList i=Dn c/\Q (.str ⟨#[c]⟩) H
theorem akb:Vs X (afs X.K):=by
 intro value slice amx s σ H x y v u Q I rx ry h hs;obtain⟨p,xs,i,z,rfl,rfl,hq,he,q⟩:=h;cases rx;obtain⟨t,rfl⟩:=ry;obtain⟨its,r,pl,hz⟩:=I.list hq;obtain⟨j,h1,h2,h3,h4,h5⟩:=CQ he;obtain⟨w,ew,rw'⟩:=r.get h2;have hl:=r.length;have hn:=rE;have fin:EP X amx σ Q w s:=⟨z,H,I,rw',q⟩
 by_cases h0:0<=i
 have hj:=by
  rw[seqIndex_of h0 h5]at h1;exact Lr h1
 exact item_listR pl.isList h0 (by lia) (by rw[hj];simpa using ew) fin hs;have hj:(i+(its.toArray.size:Int)).toNat=j:=by
  rw[seqIndex_neg (by lia) h4]at h1;simp_all
 exact subscriptTail_builtinR pl.isList.typeIs slot_list_getitem.lookup
  (wpAny_getItem_list_neg pl.isList (by lia) (by rw[K8]<;>lia) (by lia) (by rw[hj];simpa using ew) ⟨rfl,fin⟩) hs
theorem ab4:Vs X (afH X.K):=by
 intro value slice amx s σ H x y v u Q I rx ry h hs;obtain⟨p,xs,i,z,rfl,rfl,hq,he,q⟩:=h;cases rx;obtain⟨t,rfl⟩:=ry;obtain⟨its,r,pl,hz⟩:=I.tuple hq;obtain⟨j,h1,h2,h3,h4,h5⟩:=CQ he;obtain⟨w,ew,rw'⟩:=r.get h2;have hn:=rE;exact subscriptTail_builtinR pl.typeIs slot_tuple_getitem.lookup
  (getItem_tuple pl (by lia) (by lia) (by rw[K8,<-r.length];exact h1) (by simpa using ew) ⟨rfl,z,H,I,rw',q⟩) hs
theorem abU:Vs X afE:=by
 intro value slice amx s σ H x y v u Q I rx ry h hs;obtain⟨z,i,c,rfl,rfl,hz,he,q⟩:=h;obtain⟨t,rfl⟩:=rx;obtain⟨t',rfl⟩:=ry;obtain⟨j,h1,h2,h3,h4,h5⟩:=CQ he;have hl:z.cps.toList.length=z.length:=by simp[Str.length]
 rw[hl]at h1 h4 h5;have hn:=rE;exact tail_any (typeIs_str s z t) slot_str_getitem.lookup (getItem_str (by
  rw[(decide_eq_false (by lia)),(decide_eq_false (by lia)),Bool.or_false]) (by rw[h1];simpa using h2) ⟨.str ⟨#[c]⟩,H,I.tok _,⟨_,rfl⟩,q⟩) hs
def rIx (K:Ax):R2:=λx y H Q=>afs K x y H Q\/afH K x y H Q\/afE x y H Q
theorem abg:Vs X (rIx X.K):=akb.or (ab4.or abU)
theorem zaz (its:List JI)(n j)(u):Obj.mapSeq (·.setIfInBounds j u) {cls:=.type "list",data:=.seq its.toArray n}={cls:=.type "list",data:=.seq (its.set j u).toArray n}:=by
 simp[Obj.mapSeq]
theorem Aq.lst {amx}{σ:St}{H s}{p}{xs}(I:Aq X amx σ H s)(h:H p=Dn (.lst xs)) :
  ∃(its:List JI) (n:Nat),Cq xs its/\s.heap.get? p=Dn {cls:=.type "list",data:=.seq its.toArray n}/\xs.length<=Il:=by
 obtain⟨z,its,n,r,e⟩:=I.hok p _ h;simp_all
theorem Aq.lstUpd {amx}{σ:St}{H s}{p}{xs ys}{its its':List JI}{n n'}{f}(I:Aq X amx σ H s)(h:H p=Dn (.lst xs))
  (ho:s.heap.get? p=Dn {cls:=.type "list",data:=.seq its.toArray n}) (hf:f {cls:=.type "list",data:=.seq its.toArray n}={cls:=.type "list",data:=.seq its'.toArray n'}) (r:Cq ys its') (hz:ys.length<=Il) (t) :
  Aq X amx σ (HW H p (.lst ys)) {s with heap:=s.heap.update p f,toks:=t}:=by
 have e:(s.heap.update p f).get? p=Dn {cls:=.type "list",data:=.seq its'.toArray n'}:=by
  rw[Qs f ho (by rw[hf]<;>rfl),hf]
 refine I.write (by rw[h];trivial) (.inl rfl) (λb u hb q=>(Qu _ _<|Jc hb).trans q) ⟨_,e⟩ ?_;exact⟨hz,its',n',r,e⟩
def abX:V->V->V->Hp->(Hp->Prop)->Prop:=λo i v H Q=>∃p xs k j,o=.ref p/\i=.int k/\H p=Dn (.lst xs)/\Qi xs.length k=Dn j/\Q (HW H p (.lst (xs.set j v)))
theorem set_list:adq X abX:=by
 intro amx s σ H o i v ov iv u Q I ro ri rv h;obtain⟨p,xs,k,j,rfl,rfl,hp,hj,q⟩:=h;cases ro;obtain⟨t,rfl⟩:=ri;obtain⟨its,n,r,ho,hz⟩:=I.lst hp;obtain⟨h1,h2,h3,h4⟩:=LK hj;have hl:=r.length;have hn:=rE;have I':=
  I.lstUpd hp ho (zaz its n j u) (r.set rv j) (by rwa[Xp]) s.toks
 by_cases h0:0<=k
 have hk:=by
  rw[seqIndex_of h0 h4]at h1;exact Lr h1
 exact PySem.W.ki_setAt ho h0 (by lia) (by rw[K8,<-hl];exact h4)<|hk ▸ ⟨_,I',q⟩
 have hk:(k+(its.toArray.size:Int)).toNat=j:=by
  rw[seqIndex_neg (by lia) h3]at h1;simp_all
 exact PySem.W.ki_setBack ho (by lia) (by rw[K8,<-hl];exact h3) (by lia)<|hk ▸ ⟨_,I',q⟩
theorem yP (lo hi)(n):(Wx lo hi Go n).1=((HT.sIx n 0 lo:Nat):Int)/\(Wx lo hi Go n).2.1=((HT.sIx n n hi:Nat):Int)/\(Wx lo hi Go n).2.2=1:=by
 refine⟨?_,?_,rfl⟩;cases lo with
 | none=>simp[Wx,HT.sIx]
 | some i=>
  simp[Wx,HT.sIx];grind
 cases hi with
 | none=>simp[Wx,HT.sIx]
 | some i=>
  simp[Wx,HT.sIx];grind
theorem vJ (its:List JI)(lo hi):slicePick its.toArray lo hi Go=((its.drop (HT.sIx its.length 0 lo)).take (HT.sIx its.length its.length hi-HT.sIx its.length 0 lo)).toArray:=by
 obtain⟨h1,h2,h3⟩:=yP lo hi _;unfold slicePick;rw[h1,h2,h3];simp only[sliceRange_one,pick_run]<;>rfl
def agS (K:Ax):V->Option Int->Option Int->Hp->VK->Prop:=λx lo hi H Q=>∃a xs,x=.ref a/\Jb K H a xs/\∀p,H p=Go->Q (.ref p) (HW H p (.lst (Yo xs lo hi)))
theorem akQ:Tn X (agS X.K):=by
 intro amx s σ H x v vl vu lo hi sl Q I rx hs pl pu h;obtain⟨a,xs,rfl,hx,q⟩:=h;cases rx;obtain⟨its,r,ht,hz⟩:=I.list hx;have amy:=r.length;refine⟨"list",_,slot_list_getitem.lookup,ht.isList.typeIs,?_⟩;refine wpAny_getItem_list_slice ht.isList hs pl pu .none (by simp) ?_ (by rw[K8]<;>lia);rw[vJ,<-amy];refine⟨.ref _,_,I.laid (λb ob q=>Iw _ q) (IK _) ?_,rfl,q _<|I.hok.fresh<|IK _⟩;exact⟨Ja (qg xs lo hi) hz,_,0,(r.drop _).take _,Kh _ rfl⟩
def O4:V->Bool
 | .non=>true
 | .bl _=>true
 | .int _=>true
 | .str _=>true
 | _=>false
def eqV:V->V->Bool
 | .non,.non=>true
 | .bl a,.bl b=>a==b
 | .bl a,.int b=>(if a then 1 else 0)==b
 | .int a,.bl b=>a==(if b then 1 else 0)
 | .int a,.int b=>a==b
 | .str a,.str b=>a==b
 | _,_=>false
theorem acH {A:Hh}{s:AP}{y x:V}{u v:JI}(ry:RelV y u)(rx:RelV x v)(fy:O4 y=true)(fx:O4 x=true):Wg A s u v (eqV y x):=by
 cases y with
 | non=>
  cases ry;cases x with
  | non=>cases rx;exact SeqAt.EqAt.same _
  | bl b=>cases rx;exact SeqAt.EqAt.none_bool b
  | int b=>obtain⟨t,rfl⟩:=rx;exact SeqAt.EqAt.none_int b t
  | str b=>obtain⟨t,rfl⟩:=rx;exact SeqAt.EqAt.none_str b t
  | _=>exact absurd (show false=true from fx) QL
 | bl a=>
  cases ry;cases x with
  | non=>cases rx;exact SeqAt.EqAt.bool_none a
  | bl b=>cases rx;exact SeqAt.EqAt.bool_bool a b
  | int b=>obtain⟨t,rfl⟩:=rx;exact SeqAt.EqAt.bool_int a b t
  | str b=>obtain⟨t,rfl⟩:=rx;exact SeqAt.EqAt.bool_str a b t
  | _=>exact absurd (show false=true from fx) QL
 | int a=>
  obtain⟨t',rfl⟩:=ry;cases x with
  | non=>cases rx;exact SeqAt.EqAt.int_none a t'
  | bl b=>cases rx;exact SeqAt.EqAt.int_bool a t' b
  | int b=>obtain⟨t,rfl⟩:=rx;exact SeqAt.EqAt.int_int a t' b t
  | str b=>obtain⟨t,rfl⟩:=rx;exact SeqAt.EqAt.int_str a t' b t
  | _=>exact absurd (show false=true from fx) QL
 | str a=>
  obtain⟨t',rfl⟩:=ry;cases x with
  | non=>cases rx;exact SeqAt.EqAt.str_none a t'
  | bl b=>cases rx;exact SeqAt.EqAt.str_bool a t' b
  | int b=>obtain⟨t,rfl⟩:=rx;exact SeqAt.EqAt.str_int a t' b t
  | str b=>obtain⟨t,rfl⟩:=rx;exact SeqAt.EqAt.str_str a t' b t
  | _=>exact absurd (show false=true from fx) QL
 | _=>exact absurd (show false=true from fy) QL
theorem yp:iV X (.builtin "len") (λxs H Q=>∃p ys,xs=[.ref p]/\(Jb X.K H p ys\/Jt X.K H p ys)/\Q (.int ys.length) H):=by
 intro amx s σ H xs us Q I r h;obtain⟨p,ys,rfl,hq,q⟩:=h;obtain⟨u,rfl,rx⟩:=vals1 r;cases rx;have hn:=rE;rcases hq with hq|hq
 obtain⟨its,r',pl,hz⟩:=I.list hq;have amy:=r'.length;exact Calls.call_len_list pl.isList (by simp<;>lia) ⟨.int _,H,I.tok _,⟨s.toks+1,by rw[K8,amy]⟩,q⟩;obtain⟨its,r',pl,hz⟩:=I.tuple hq;have amy:=r'.length;exact len_tuple pl (by simp<;>lia) ⟨.int _,H,I.tok _,⟨s.toks+1,by rw[K8,amy]⟩,q⟩
theorem o8:iV X (.type "list") (λxs H Q=>∃p ys,xs=[.ref p]/\(Jb X.K H p ys\/Jt X.K H p ys)/\∀l,H l=Go->Q (.ref l) (HW H l (.lst ys))):=by
 intro amx s σ H xs us Q I r h;obtain⟨p,ys,rfl,hq,q⟩:=h;obtain⟨u,rfl,rx⟩:=vals1 r;cases rx;have fin:∀(its:List JI),Cq ys its->ys.length<=Il->∀(h':Heap) (c':Nat),(∀b o',s.heap.get? b=Dn o'->h'.get? b=Dn o') ->
   h'.get? s.heap.objs.size=Dn {cls:=.type "list",dict:=Go,data:=.seq _ c',slots:=#[]}->EP X amx σ Q _ {s with heap:=h'}:=λits r' hz h' c' kp e=>
  ⟨.ref _,_,I.laid kp (IK _) (show fD _ _ _ h' _ (.lst ys)from⟨hz,its,c',r',e⟩),rfl,q _ (I.hok.fresh (IK _))⟩
 rcases hq with hq|hq
 obtain⟨its,r',pl,hz⟩:=I.list hq;have amy:=r'.length;obtain⟨o,ho,hc,n,hd⟩:=pl.isList;exact call_list_seq p (.inl rfl) ho hc hd (λh' c' kp e=>fin its r' hz h' c' kp e) (by simp<;>lia);obtain⟨its,r',pl,hz⟩:=I.tuple hq;have amy:=r'.length;obtain⟨o,ho,hc,n,hd⟩:=pl;exact call_list_seq p (.inr rfl) ho hc hd (λh' c' kp e=>fin its r' hz h' c' kp e) (by simp<;>lia)
theorem vo:iV X (.type "tuple") (λxs H Q=>∃p ys,xs=[.ref p]/\((Jb X.K H p ys/\∀l,H l=Go->Q (.ref l) (HW H l (.tup ys)))\/(Jt X.K H p ys/\Q (.ref p) H))):=by
 intro amx s σ H xs us Q I r h;obtain⟨p,ys,rfl,h⟩:=h;obtain⟨u,rfl,rx⟩:=vals1 r;cases rx;rcases h with⟨hq,q⟩|⟨hq,q⟩
 obtain⟨its,r',pl,hz⟩:=I.list hq;have amy:=r'.length;refine call_tuple_list pl.isList (λh' kp=>?_) (by simp<;>lia);have I1:=I.kept (t':=s.toks) kp;have I2:=
  I1.laid (t':=s.toks) (λb o e=>Iw _ e) (IK _) (show fD _ _ _ _ _ (.tup ys)from⟨hz,its,r',Te.new _ _⟩)
 exact⟨.ref _,_,I2,rfl,q _<|I1.hok.fresh<|IK _⟩;obtain⟨its,r',pl,hz⟩:=I.tuple hq;exact call_tuple_same pl ⟨.ref p,H,I,rfl,q⟩
def tyV (K:Ax)(T:String)(x:V)(H:Hp):Prop:=match x with
 | .str _=>T = "str"
 | .int _=>T = "int"
 | .ref p=>(T = "list"/\∃xs,Jb K H p xs)\/(T = "tuple"/\∃o,K.lookup p=Dn o/\o.cls=.type "tuple"/\o.dict=Go) \/
   (T = "dict"/\((∃kvs,H p=Dn (.dK kvs))\/∃kvs,H p=Dn (.dT kvs)))\/(T = "set"/\∃S n,H p=Dn (.set S n))
 | _=>False
theorem abR {amx}{σ:St}{H s}{T x}{v}(I:Aq X amx σ H s)(r:RelV x v)(ty:tyV X.K T x H):
  s.TypeIs v T/\∀a,v=.ref a->∃ob,s.heap.get? a=Dn ob/\ob.dict=Go:=by
 cases x with
 | str z=>
  obtain⟨t,rfl⟩:=r;cases ty;exact⟨typeIs_str s z t,nofun⟩
 | int i=>
  obtain⟨t,rfl⟩:=r;cases ty;exact⟨typeIs_int s i t,nofun⟩
 | ref p=>
  cases r;rcases ty with⟨rfl,xs,hq⟩|⟨rfl,o,hk,hc,hd⟩|⟨rfl,hk⟩|⟨rfl,S,n,hk⟩
  obtain⟨its,_,pl,_⟩:=I.list hq;refine⟨pl.isList.typeIs,λa e=>?_⟩;cases e;obtain⟨o,n,e,c,hd,_⟩:=pl
  simp_all
  refine⟨⟨o,I.kIn p o hk,hc⟩,λa e=>?_⟩;cases e;exact⟨o,I.kIn _ o hk,hd⟩;have z:∃o,s.heap.get? p=Dn o/\o.ExactDict:=by
   rcases hk with⟨kvs,hk⟩|⟨kvs,hk⟩
   obtain⟨_,_,_,_,o,_,_,e,ex,_⟩:=I.hok p _ hk
   simp_all
   obtain⟨_,_,_,_,o,_,_,e,ex,_⟩:=I.hok p _ hk;simp_all
  obtain⟨o,e,ex⟩:=z;refine⟨⟨o,e,ex.1⟩,λa e2=>?_⟩;cases e2;exact⟨o,e,ex.2.1⟩;obtain⟨o,_,_,_,e,ex,_⟩:=I.hok p _ hk;refine⟨⟨o,e,ex.1⟩,λa e2=>?_⟩;cases e2;exact⟨o,e,ex.2.1⟩
 | _=>exact Qy ty
def tBM (K:Ax)(T:String)(r:V->List V->Hp->VK->Prop)(to:TE)(t:TA):TE:=fun σ H Q=>to σ H λx H1=>tyV K T x H1/\t σ H1 λxs H2=>r x xs H2 Q
variable {o e:Expr}{es:List Expr}{to:TE}{t:TA}{name:Str}{apos amA:Pos}{T id:String}{r:V->List V->Hp->VK->Prop}
theorem aeA (pa:PlainAttrs T)(slot:Slot T name id)(hty:typeOf (.builtin id)=pure (.type "method_descriptor"))(hm:MtR X id r)(ho:PE X o to)(ha:PA X (e::es) t)
  (hbase:X7 o name X.env (eval o X.env)=eval o X.env:=by rfl)
  (hfew:((Ka amA (HJ (e::es) X.env)).all (λx=>!x.1)&&(backToKw amA (Xd [] X.env)).all (λx=>x.1.isSome)
   && decide ((e::es).length+([]:List Ra).length+(if([]:List Ra).isEmpty then 0 else 1)<30))=true:=by rfl)
  (hline:(apos.endLine==amA.line)=true:=by rfl) (hs:HJ (e::es) X.env=(false,eval e X.env)::HJ es X.env:=by rfl) (hplain:(Ka amA (HJ es X.env)).any (·.1)=false:=by rfl) :
  PE X (.Call (.Attribute o name apos) (e::es) [] amA) (tBM X.K T r to t):=by
 intro amx s σ H Q I h;refine wpAny_Call_method_late hbase hfew hline rfl<|Hj (ho amx s σ H _ I h) λv s1 b=>?_;obtain⟨x,H1,I1,r1,ty,q1⟩:=b
 obtain⟨h1,h2⟩:=abR I1 r1 ty;refine⟨T,id,pa,slot,hty,h1,h2,?_⟩;have hA:=ha amA amx s1 σ H1 _ I1 q1;rw[hs]at hA|-
 refine Calls.callWith_builtin (by show(false||(Ka amA<|HJ es X.env).any (·.1))=false;rw[hplain]<;>rfl)<|Calls.evalArgs_plain ?_
 exact Hj hA λus s2 ⟨vs,H2,I2,r2,q2⟩=>hm amx s2 σ H2 x vs v us Q I2 r1 r2 q2
end
def MtM (X:Cx)(id:String)(r:V->List V->Hp->VK->Prop):Prop:=
 ∀(amx:List (Addr×Obj)) (s:AP) (σ:St) (H:Hp) (x:V) (xs:List V) (v:JI) (us:List JI) (Q:VK),Aq X amx σ H s->RelV x v->Cq xs us->r x xs H Q ->
  Bb (CG X.prog X.w) X.A (call (.builtin id) (v::us)) (EP X amx σ Q) X.xe s
theorem Cq.one:∀{x}{us},Cq [x] us->∃u,us=[u]/\RelV x u
 | _,_,.cons r .nil=>⟨_,rfl,r⟩
section
variable {X:Cx}{amx:List (Addr×Obj)}{σ:St}{H:Hp}{s:AP}{l b:Addr}{xs ys zs:List V}
theorem Aq.lset {its its':List JI}{n}{f t'}(I:Aq X amx σ H s)(hH:H l=Dn (.lst xs))
  (e:s.heap.get? l=Dn {cls:=.type "list",data:=.seq its.toArray n}) (hf:f its.toArray=its'.toArray) (hv:Cq ys its') (hz:ys.length<=Il) :
  Aq X amx σ (HW H l (.lst ys)) {s with heap:=s.heap.update l (Obj.mapSeq f),toks:=t'}:=by
 have q:=PySem.IsL.update e f;rw[hf]at q;refine I.write (hH ▸ trivial) (.inl rfl) (λb' u hb hu=>(Qu _ _<|Jc hb).trans hu) ⟨_,q⟩ ?_;exact⟨hz,its',_,hv,q⟩
theorem Aq.lnew {its t'}(I:Aq X amx σ H s)(hv:Cq ys its)(hz:ys.length<=Il):
  Aq X amx σ (HW H s.heap.objs.size (.lst ys)) {s with heap:=s.heap.push {cls:=.type "list",data:=.seq its.toArray},toks:=t'}:=
 I.laid (λ_ _ q=>Iw _ q) (IK _) ⟨hz,its,0,hv,Kh _ rfl⟩
theorem Aq.fresh (I:Aq X amx σ H s):H s.heap.objs.size=Go:=I.hok.fresh (IK _)
theorem Aq.lstM (I:Aq X amx σ H s)(hH:H l=Dn (.lst xs)):xs.length<=Il/\∃(its:List JI) (n:Nat),Cq xs its/\xs.length=its.length/\s.heap.get? l=Dn {cls:=.type "list",data:=.seq its.toArray n}:=by
 obtain⟨z,its,n,r,e⟩:=I.hok l _ hH;exact⟨z,its,n,r,r.length,e⟩
theorem aiX {n}(h:n<=Il):Builtin.List.listTooLong n=false:=decide_eq_false (by lia)
end
section
variable {X:Cx}
def Lw:V->List V->Hp->VK->Prop:=λx vs H Q=>∃l xs y,x=.ref l/\vs=[y]/\H l=Dn (.lst xs)/\xs.length<Il/\Q .non (HW H l (.lst (xs++[y])))
theorem xQ:MtM X "list.append" Lw:=by
 intro amx s σ H x vs v us Q I rx rv h;obtain⟨l,xs,y,rfl,rfl,hH,hz,q⟩:=h;cases rx;obtain⟨u,rfl,ru⟩:=rv.one;obtain⟨z,its,n,r,hl,e⟩:=I.lstM hH;refine call_meets F.slot_list_append ⟨_,e,rfl⟩ F.entry_list_append (F.args_list_append_2 _ _) (PySem.list_append l _ n u (by rw[K8];lia)) ⟨e,?_⟩;refine⟨.non,_,I.lset hH e (by simp) (r.append<|.cons ru .nil) ?_,rfl,q⟩;grind
def Mj:V->List V->Hp->VK->Prop:=λx vs H Q=>∃l b xs zs,x=.ref l/\vs=[.ref b]/\H l=Dn (.lst xs)/\H b=Dn (.lst zs)/\xs.length+zs.length<=Il/\Q .non (HW H l (.lst (xs++zs)))
theorem ahI:MtM X "list.extend" Mj:=by
 intro amx s σ H x vs v us Q I rx rv h;obtain⟨l,b,xs,zs,rfl,rfl,hH,hB,hz,q⟩:=h;cases rx;obtain⟨u,rfl,ru⟩:=rv.one;cases ru;obtain⟨z,its,n,r,hl,e⟩:=I.lstM hH;obtain⟨z2,its2,n2,r2,hl2,e2⟩:=I.lstM hB;have hsz:its.toArray.size+its2.toArray.size<=Il:=by rw[K8,K8];lia
 have hlong:¬(!its.toArray.isEmpty&&Builtin.List.listTooLong (its.toArray.size+its2.toArray.size))=true:=by
  rw[aiX hsz,Wo];exact QL
 refine call_meets F.slot_list_extend ⟨_,e,rfl⟩ F.entry_list_extend (F.args_list_extend_2 _ _)
  (AutoSeq1.list_extend_list_list_0 l _ n b _ n2 hlong (by lia) (by lia)) ⟨e,e2,?_⟩
 refine⟨.non,_,I.lset hH e (by simp) (r.append r2) ?_,rfl,q⟩;simp_all
def agU:R2:=λx y H Q=>∃l b xs zs,x=.ref l/\y=.ref b/\H l=Dn (.lst xs)/\H b=Dn (.lst zs)/\xs.length+zs.length<=Il/\∀p,H p=Go->Q (.ref p) (HW H p (.lst (xs++zs)))
theorem abh:Kr X (Q7 .Add) agU:=by
 intro amx s σ H x y v u Q I rx ry h;obtain⟨l,b,xs,zs,rfl,rfl,hH,hB,hz,q⟩:=h;cases rx;cases ry;obtain⟨z,its,n,r,hl,e⟩:=I.lstM hH;obtain⟨z2,its2,n2,r2,hl2,e2⟩:=I.lstM hB;refine PySem.P.add_list e e2 ?_ (by rw[K8,K8];lia);have ea:its.toArray++its2.toArray=(its++its2).toArray:=by simp
 rw[ea];exact⟨.ref _,_,I.lnew (r.append r2) (by rw[KJ];omega),rfl,q _ I.fresh⟩
end
section
variable {prog:HN}{w:HI}{A:Hh}{E:JI->AP->Prop}{s:AP}
end
section
variable {X:Cx}
end
end L2
namespace Att
open PySem PySem.W PySem.Calls PyProof.Rows
theorem rz {P h}:∀ns vs,WellAll P h vs (ns.map WData.int)->IntsAre vs ns:=by
 intro ns;induction ns with
 | nil=>
  intro vs w;cases w;exact .nil
 | cons n ns ih=>
  intro vs w;cases w with
  | cons a b=>
   cases a;exact .cons _ _<|ih _ b
theorem zbe {l:OpenLaw}{n}(hn:l.most=Dn n){P h}{args vals}
  (hpre:l.row.toRowW.claim.pre args=true) (hwl:WellAll P h vals args) :
  ∃a vs ns,vals=[Value.ref a]/\args=[WData.list (ns.map WData.int)]/\h.get? a=Dn {cls:=.type "list",data:=.seq vs.toArray}/\IntsAre vs ns/\ns.length<=n:=by
 obtain⟨d,r,rfl,h1,h2⟩:=hasAllW_cons ((pre_splitW hpre).1);obtain rfl:=hasAllW_nil h2;obtain⟨xs,rfl,h3⟩:=hasW_list h1;obtain⟨ns,rfl⟩:=items_int h3;have amy:=by
  have h4:=by
   have h4:=(holds_andW ((pre_splitW hpre).2)).1
   rwa[hn]at h4
  have h5:=condW_of h4 (w_not (w_lt w_lit (w_len_list (w_arg rfl))));first
   | (simp at h5;lia)
 cases hwl with
 | cons w1 w2=>
  cases w2;cases w1 with
  | list ho hall=>exact⟨_,_,ns,rfl,rfl,ho,rz ns _ hall,amy⟩
theorem ajn (l:OpenLaw)(args:List WData):l.row.toRowW.claim.post args (.bool true) args=true:=
 postW_of
  (show WShape.has [] _ .bool=true by first|rfl|decide|simp)
  (w_eq_bool (w_res rfl) w_lit) rfl
theorem CJ {l:OpenLaw}{n q}{loose}{XP YP d}
  (hn:l.most=Dn n) (hdf:d.params.defaults=[])
  (call:∀w  (s₀ s₁) (mg mb) (fa) (o) (pm cd doc) (a) (vs) (ns),
   Ground q loose [] XP w s₀ mg mb s₁.heap->YP w s₁.heap ->
   s₁.heap.get? fa=Dn o->o.data=.func (docDef d.name d.params d.body d.scope pm cd doc)->s₁.heap.CodeRec cd d.name->mg d.name=Dn (.ref fa) ->
   s₁.heap.get? a=Dn {cls:=.type "list",data:=.seq vs.toArray}->IntsAre vs ns->ns.length<=n->s₁.gens=#[] ->
   RJ (CG l.prog w) callerA (.call (.ref fa) ⟨[.ref a],[]⟩) (λr s'=>r=.ok (.ret (.bool true))/\OldK s₁.heap s'.heap/\s'.os=s₁.os/\Sy s'.gens) s₁) :
  WalkO q loose XP YP l.row.toRowW d [] (λf vs=>PySem.call f vs):=by
 intro w s₀ s₁ mg mb G Y fa o pm cd doc dV kV ho hd hcd hD hmg hg args vals as hpre hlay hrd hwl hlo;obtain rfl:dV=.none:=Dflts.none hD hdf;obtain rfl:kV=.none:=Dflts.noKw hD;obtain⟨a,vs,ns,rfl,rfl,hobj,hints,amy⟩:=zbe hn hpre hwl;refine enter_call<|Td (call w s₀ s₁ mg mb fa o pm cd doc a vs ns G Y ho (fd_plain hd) hcd hmg hobj hints amy hg) λr s' hq=>?_
 obtain⟨rfl,h2,h3,h4⟩:=hq;exact⟨.inl ⟨.bool true,.bool true,[],rfl,λ_=>rfl,.bool true,ajn l _,λ_=>⟨List.Pairwise.nil,λ_ hm=>(nomatch hm)⟩⟩,h2,h3,h4⟩
section
variable {prog:HN}{w:HI}{A:Hh}{E:JI->AP->Prop}{s:AP}{K:Frag}
def ledger (h:Heap)(L d:Addr):List (Addr×Obj):=(P0 h.objs.size).filterMap λa=>if a=L\/a=d then Go else(h.get? a).map λo=>(a,o)
end
end Att
variable {XP:(Str->Option JI)->Heap->Prop}{loose:List Str}{YP:HI->Heap->Prop}
namespace L2
open PySem PySem.Spec PyProof.Rows
theorem yx:∀{vs}{ns},IntsAre vs ns->Cq (ns.map V.int) vs
 | _,_,.nil=>.nil
 | _,_,.cons n t h=>.cons ⟨t,rfl⟩ (yx h)
def Only (H:Hp):Prop:=∀b,H b=Go\/∃o xs,H b=Dn (.frz o (.lst xs))
variable {ns:List Int}
theorem aik {P w K}{mg mb CX k}{fa a fd x sp s₁}{vs}
  (KX:K.In s₁.heap) (hns:s₁.heap.Ns JR mg) (hb:s₁.heap.Ns builtinsNs mb) (hbb:∀x:Str,x ≠ "__name__"->mb x=VR x) (hlim:s₁.heap.NoLimit) (hg:s₁.gens=#[])
  (ha:s₁.heap.get? a=Dn {cls:=.type "list",data:=.seq vs.toArray}) (hi:IntsAre vs ns) (hl:ns.length<=Il) (hr:gq k callerA)
  (F:∀base,K.In base->base.Ns JR mg->jB P w K mg base CX k fa fd [x] sp) (hbind:∀s u,BindsTo s fd ⟨[u],[]⟩ [(x,u)])
  (hsp:∀H,Only H->Jb K H a (ns.map V.int)->sp [.ref a] H (λv _=>v=.bl true) λ_ _ _=>False)
  (hCX:∀H e s',CX Go [] H s₁ (λ_ _ _=>False) e s'->False) :
  RJ (CG P w) callerA (.call (.ref fa) ⟨[.ref a],[]⟩) (λr s'=>r=.ok (.ret (.bool true))/\OldK s₁.heap s'.heap/\s'.os=s₁.os/\Sy s'.gens) s₁:=by
 have rv:=yx hi;have lenV:=hi.length;have core:∀H:Hp,Only H->Jb K H a (ns.map V.int)->Kv P w H s₁.heap->(∀b,H b≠Go->b=a)->(H a≠Go->K.lookup a=Go) ->
   RJ (CG P w) callerA (.call (.ref fa) ⟨[.ref a],[]⟩) (λr s'=>r=.ok (.ret (.bool true))/\OldK s₁.heap s'.heap/\s'.os=s₁.os/\Sy s'.gens) s₁:=by
  intro H hO hS hok hA hK;have base_of:∀{b:Addr}{o:Obj},s₁.heap.get? b=Dn o->H b=Go->(V7 s₁.heap H).get? b=Dn o:=λe n=>ahS e n
  have noA:∀{b:Addr}{o:Obj}{es:Array DictEntry}{ep:Nat},s₁.heap.get? b=Dn o->o.data=.dict es ep->H b=Go:=λ{b o es ep} e d=>by
   cases q:H b with
   | none=>rfl
   | some u=>
    have e':b=a:=hA b (by rw[q];simp);subst e';rw[ha]at e;cases e;cases d
  have nsK:∀{b:Addr}{m:Str->Option JI},s₁.heap.Ns b m->(V7 s₁.heap H).Ns b m:=λ{b m} ⟨o,es,ep,e,d,r⟩=>⟨o,es,ep,base_of e (noA e d),d,r⟩
  have hKb:K.In (V7 s₁.heap H):=λb o e=>base_of (KX b o e) (by
   cases q:H b with
   | none=>rfl
   | some u=>
    have e':b=a:=hA b (by rw[q];simp);subst e';rw[hK (by rw[q];simp)]at e;cases e)
  refine Td ((F _ hKb<|nsK hns).run callerA [] s₁ H ⟨[.ref a],[]⟩ [.ref a] [.ref a] _ _ hr (⟨rfl,(⟨hKb,nsK hns,⟨mb,nsK hb,hbb⟩,let⟨mc,h1,h2⟩:=hlim;⟨mc,nsK h1,h2⟩⟩),λb o e=>ajT e,Nat.le_of_eq<|zaY _ _,trivial,λb hb=>absurd (show b∈([]:List Addr)from hb)<|by simp,hok,.of_eq hg,λv e=>(nomatch e)⟩) (hbind s₁<|.ref a) (.cons rfl .nil) (hsp H hO hS)) λr s' h=>?_;cases r with
  | error e=>exact(hCX H e s' h).elim
  | ok fl=>
   cases fl with
   | next=>exact Qy h
   | brk=>exact Qy h
   | cont=>exact Qy h
   | ret u=>
    obtain⟨v,H',os,bare,un,hok',r',q⟩:=h;cases q;obtain rfl:u=Value.bool true:=r';refine⟨rfl,OldK.of_keep λb o e=>?_,os,bare⟩;cases q:H b with
    | none=>exact un.keep b o e q (by intro z;exact absurd (show b∈([]:List Addr)from z) (by simp)) (by simp)
    | some u=>
     rcases hO b with z|⟨ob,xs,z⟩
     rw[q]at z;cases z;have z2:=un.frzs b ob _ z;obtain⟨e1,_⟩:=hok b _ z;obtain⟨e2,_⟩:=hok' b _ z2;rw[e]at e1;cases e1;exact e2
 cases hk:K.lookup a with
 | some o=>
  have e:=KX a o hk;rw[ha]at e;cases e;refine core (λ_=>Go) (λ_=>.inl rfl) (.inr ⟨_,vs.toArray,_,hk,rfl,rfl,rfl,by rw[K8,lenV];exact hl,by simpa using rv⟩) (λb u z=>by have z':(Go:Option HO)=Dn u:=z;cases z') (λb z=>absurd rfl z) λz=>absurd rfl z
 | none=>
  refine core (λb=>if b=a then Dn _ else Go) (λb=>?_) (.inl<|.inr ⟨{cls:=.type "list",data:=.seq vs.toArray},if_pos rfl⟩) (λb u z=>?_) (λb z=>?_) λ_=>hk;by_cases hb:b=a
  exact .inr ⟨_,_,if_pos hb⟩;exact .inl<|if_neg hb
  by_cases hb:b=a
  have z':=(if_pos hb).symm.trans z;cases z'
  subst hb;exact⟨ha,by rw[Hi];exact hl,vs,_,rv,ha⟩;have z':=(if_neg hb).symm.trans z;cases z'
  by_cases hb:b=a
  exact hb;exact absurd (if_neg hb) z
theorem Ny {l:PySem.W.OpenLaw}{n k q}{d}{K:Params->Ax}{CX:HI->V8}{sp:HI->Sp}{x}
  (hn:l.most=Dn n) (hn2:n<=Il) (hdf:d.params.defaults=[]) (hr:gq k callerA)
  (hY:∀w  (h),YP w h->(K w.params).In h)
  (F:∀w  (mg) (fa) (h),(K w.params).In h->h.Ns JR mg->mg d.name=Dn (.ref fa) ->
   ∃fd,(∀s u,BindsTo s fd ⟨[u],[]⟩ [(x,u)]) /\
    ∀base,(K w.params).In base->base.Ns JR mg->jB l.prog w (K w.params) mg base (CX w) k fa fd [x] (sp w))
  (hsp:∀w H  (a) (ns:List Int),ns.length<=n->Only H->Jb (K w.params) H a (ns.map V.int)->sp w [.ref a] H (λv _=>v=.bl true) λ_ _ _=>False)
  (hCX:∀w H s e  (s'),CX w Go [] H s (λ_ _ _=>False) e s'->False) :
  PySem.W.WalkO q loose XP YP l.row.toRowW d [] (λf vs=>PySem.call f vs):=by
 refine Att.CJ hn hdf λw s₀ s₁ mg mb fa o pm cd doc a vs ns G Y ho hd hcd hmg hobj hints amy hg=>?_;have KX:=hY w _ Y;obtain⟨fd,hb,hF⟩:=F w mg fa _ KX G.T.g hmg;exact aik KX G.T.g G.T.b G.T.builtins G.T.nolimit hg hobj hints (Ja amy hn2) hr hF hb (λH hO hS=>hsp w H a ns amy hO hS) λH e s'=>hCX w H s₁ e s'
end L2
namespace L2
open PySem PySem.Spec PyProof.Rows
def j8 (s:Stmt):Arguments:=match s with
 | .FunctionDef _ a _ _ _ _ _ _ _ _=>a
 | _=>{posonlyargs:=[],args:=[],vararg:=Go,kwonlyargs:=[],kw_defaults:=[],kwarg:=Go,defaults:=[]}
def dG (s:Stmt):List Stmt:=match s with
 | .FunctionDef _ _ b _ _ _ _ _ _ _=>b
 | _=>[]
def bw (s:Stmt):Scope:=match s with
 | .FunctionDef _ _ _ _ _ _ sc _ _ _=>sc
 | _=>{kind:=.function,names:=[],isGenerator:=false,isCoroutine:=false}
abbrev O9:V8:=λ_ _ _ _ _ _ _=>False
abbrev E0:XK:=λ_ _ _=>False
theorem XM {X}:Passes O9 X E0:=λ_ _ _ _ _ _ _ h=>h.elim
structure Sg (K:Ax) (x qual:Str) (st:Stmt) (f:Addr) (fd:Ms):Prop where
 ex:∃(oc:JI) (od:Option Addr) (kV doc pm:JI) (an:Option Addr) (cdv ct:JI) (osl:Array (Option JI)),
  fd=W9 x qual (j8 st) (dG st) (bw st) .none kV doc pm an cdv ct/\K.lookup f=Dn ⟨oc,od,.func fd,osl⟩/\Xk K cdv qual=true
 kp:Qm K (.ref f)=true
section
variable {P:HN}{w:HI}{K:Ax}{mg:Str->Option JI}{base:Heap}
theorem Sg.ok {x qual st f fd}{N ps k sp}(F:Sg K x qual st f fd)(S:fW N ps (bw st))(len:∀vs H Q E,sp vs H Q E->vs.length=ps.length)
  (hbody:∀cdv A  (outer) (s) (H) (vs) (Q) (E),gq k (A.deeper (RG qual (bw st) s.heap.objs.size f cdv))->sp vs H Q E ->
   ∃t,QC (Ji O9 P w K mg base N qual (bw st) f cdv A outer s H E).nox (dG st) t/\t {nx:=λ_ H'=>Q .non H',rt:=Q} (start N vs) H):jB P w K mg base O9 (k+1) f fd ps sp:=by
 obtain⟨oc,od,kV,doc,pm,an,cdv,ct,osl,rfl,lk,hcd⟩:=F.ex;refine acC lk hcd S len λA outer s H vs Q E hr hsp=>?_;obtain⟨t,h,q⟩:=hbody cdv A outer s H vs Q E hr hsp;exact⟨t,h.nox,q⟩
theorem Sg.binds {x qual st f fd}{ps}(F:Sg K x qual st f fd)
  (h:∀kV doc pm  (an) (cdv ct) (us),us.length=ps.length->bindArgs (W9 x qual (j8 st) (dG st) (bw st) .none kV doc pm an cdv ct) ⟨us,[]⟩=pure (ps.zip us)):Binds K fd ps []:=by
 obtain⟨oc,od,kV,doc,pm,an,cdv,ct,osl,rfl,lk,hcd⟩:=F.ex;exact .all<|h kV doc pm an cdv ct
theorem FJ {x qual st f oc}{od an}{osl kV doc pm cdv ct}(l:K.lookup f=Dn ⟨oc,od,.func (W9 x qual (j8 st) (dG st) (bw st) .none kV doc pm an cdv ct),osl⟩)
  (c:Xk K cdv qual=true) (k:Qm K (.ref f)=true):Sg K x qual st f (W9 x qual (j8 st) (dG st) (bw st) .none kV doc pm an cdv ct):=⟨⟨oc,od,kV,doc,pm,an,cdv,ct,osl,rfl,l,c⟩,k⟩
end
section
variable {X:Cx}
theorem pv (i){x}{pos}(hN:X.N[i]?=Dn x:=by rfl)(hv:Vis X.env.scope x:=by first|exact Or.inl rfl|exact Or.inr (Or.inl rfl)|exact Or.inr (Or.inr rfl))(hd:(x==("__debug__" : Str))=false:=by decide)
  (hcd:(x==("__classdict__" : Str))=false:=by decide):PE X (.Name x pos) (ac1 i):=aaJ hN hv hd hcd
end
def XF (env:Env):List (Str×Ow)->List (Str×Addr)->List (Str×Addr)
 | [],cs=>cs
 | (n,k)::r,cs=>XF env r (if(k==NameKind.free)=true then(n,(env.cells.lookup n).getD 0)::cs else cs)
def T6 (scope:Scope)(env:Env):List (Str×Addr):=XF env scope.names []
theorem xu {env}{p}:∀l  (cs),p∈XF env l cs->p∈cs\/((p.1,NameKind.free)∈l/\p.2=(env.cells.lookup p.1).getD 0)
 | [],cs,h=>.inl h
 | (n,k)::r,cs,h=>by
  rcases xu r _ h with h|⟨h1,h2⟩
  grind
  simp_all
theorem Ge {env x}:∀l  (cs),((x,NameKind.free)∈l\/∃c,(x,c)∈cs)->∃c,(x,c)∈XF env l cs
 | [],cs,h=>by
  rcases h with h|h
  simp_all
  exact h
 | (n,k)::r,cs,h=>by
  refine Ge r _ ?_;grind
variable {c:Addr}
theorem gZ {x:Str}{c:Addr}:∀{l:List (Str×Addr)},(x,c)∈l->∃c',l.lookup x=Dn c'
 | (n,d)::r,h=>by
  by_cases e:x=n
  simp_all
  rcases K5.mp h with q|q
  injection q with q1 _
  simp_all
  obtain⟨c',h'⟩:=gZ q;refine⟨c',?_⟩
  rwa[W0,(beq_eq_false_iff_ne.mpr e)]
theorem Jz {scope env}(h:∀y∈scope.names,y.2=NameKind.free->∃c,env.cells.lookup y.1=Dn c):closureFor scope env=pure (T6 scope env):=by
 unfold closureFor T6;have key:∀(l:List _) (cs:List _),(∀y∈l,y.2=NameKind.free->∃c,env.cells.lookup y.1=Dn c) ->
   (forIn l cs (λ(x:Str×Ow) (cs:List _)=>(if(x.2==NameKind.free)=true then cellOf env x.1 >>= λc=>pure (ForInStep.yield ((x.1,c)::cs))else pure (ForInStep.yield cs):Sem _)))=pure (XF env l cs):=by
  intro l;induction l with
  | nil=>intro cs _;rfl
  | cons x r ih=>
   intro cs hl;obtain⟨n,k⟩:=x;rw[List.forIn_cons];have hr:=λy hy=>hl y (Qp _ hy)
   by_cases hk:(k==NameKind.free)=true
   obtain⟨c,hc⟩:=hl _ RM (by simpa using hk);have hc':=hc;have e1:cellOf env n=pure c:=by unfold cellOf;rw[hc']
   simp only[hk,if_true,e1,pure_bind];rw[ih _ hr];simp[XF,hk,hc'];simp only[hk,if_false,pure_bind,Bool.false_eq_true];rw[ih _ hr];simp[XF,hk]
 simpa using(key _ [] h)
theorem jq {y}{c}:∀{names n}{acc},(y,c)∈MJ n names acc↔(y,c)∈acc\/(y,c)∈MJ n names []
 | [],n,acc=>by simp[MJ]
 | (name,kind)::r,n,acc=>by
  unfold MJ;split
  rw[jq,jq (acc:=[(name,n)])];grind
  exact jq
theorem Ck {y}{c}:∀{names n},(y,c)∈MJ n names []->(y,NameKind.cell)∈names
 | (name,kind)::r,n,h=>by
  unfold MJ at h;split at h
  rename_i hk;rcases jq.mp h with q|q
  simp_all
  exact Qp _<|Ck q
  exact Qp _<|Ck h
theorem Mf {y}:∀{names n},(y,NameKind.cell)∈names->∃c,(y,c)∈MJ n names []
 | (name,kind)::r,n,h=>by
  unfold MJ;rcases K5.mp h with q|q
  cases q;exact⟨n,jq.mpr<|.inl RM⟩;split
  obtain⟨c,hc⟩:=Mf q;exact⟨c,jq.mpr<|.inr hc⟩;exact Mf q
variable {names:List (Str×Ow)}
theorem aa1 {h y}(e:(y,c)∈MJ h.objs.size names []):(pushCells h names).IsCell c Go/\h.objs.size<=c:=
 (cellsFrom_ok names h _ [] ⟨λ_ _ z=>by simp at z,List.Pairwise.nil⟩ (IK _)).empty y c e
theorem ahM {n}{y z}(e:(y,c)∈MJ n names [])(e':(z,c)∈MJ n names []):y=z:=by
 have key:∀(k:Nat),∃h:Heap,h.objs.size=k:=λk=>by
  induction k with
  | zero=>exact⟨{(default:Heap)with objs:=#[]},rfl⟩
  | succ k ih=>
   obtain⟨h,e⟩:=ih;exact⟨h.push {cls:=.type "cell",data:=.cell Go},by rw[S7,e]⟩
 obtain⟨h,rfl⟩:=key n;exact name_of_addr (cellsFrom_ok names h _ [] ⟨λ_ _ z=>by simp at z,List.Pairwise.nil⟩<|IK _).apart e e'
variable {closure:List (Str×Addr)}
theorem zaC {M A}{E s}{scope}{globals qual}{func code ar}{builtins}{Q}
  (hQ:Q {scope:=scope,locals:=s.heap.objs.size,globals:=globals,cells:=MJ (s.heap.objs.size+1) scope.names closure,qual:=qual,func:=func,code:=ar.code,frame:=ar.frame,builtins:=ar.builtins} {s with heap:=pushCells (s.heap.push {cls:=.type "dict",data:=.dict #[]}) scope.names}) :
  Bb M A (newFunctionEnv scope globals closure [] qual func code (Dn ar) builtins) Q E s:=by
 simp only[newFunctionEnv];refine Al<|wpAny_alloc ?_
 refine Al<|wpAny_layCells _ (λname kind cells=>by cases hkc:kind==NameKind.cell<;>simp) _ _ _ _ ?_
 exact S7 .. ▸ Al (HF<|HF hQ)
def blk (X:Cx)(scope:Scope)(N':List Str)(C:Addr)(s:AP)(H:Hp)(ex:List Addr):Cx where
 prog:=X.prog
 w:=X.w
 K:=X.K
 mg:=X.mg
 base:=X.base
 A:=X.A
 N:=N'
 s₀:=s
 H₀:=H
 env:=compEnvC scope (MJ (C+1) scope.names (T6 scope X.env)) C X.env
 outer:=X.stack
 stack:=X.stack
 ex:=ex
 fn:=λy=>decide (scope.names.lookup y=Dn .cell)
 calm:=X.calm
 pn:=[]
 xe:=λ_ _=>False
structure jh (X:Cx) (scope:Scope) (x:List Str) (ix:List Nat):Prop where
 kind:scope.kind=.function
 own:∀y∈x,scope.names.lookup y=Dn .local\/scope.names.lookup y=Dn .cell
 names:∀y∈scope.names,scope.names.lookup y.1=Dn y.2
 free:∀y∈scope.names,y.2=.free->X.env.scope.names.lookup y.1=Dn .cell\/X.env.scope.names.lookup y.1=Dn .free
 ixs:∀i∈ix,scope.names.lookup (X.N.getD i "")=Dn .free
 nd:(x++ix.map λi=>X.N.getD i "").Nodup
def Er:List Str->Bool
 | []=>true
 | x::r=>!(r.contains x)&&Er r
def afM (sc:Scope)(N:List Str)(scope:Scope)(x:List Str)(ix:List Nat):Bool:=
 decide (scope.kind=.function)&&x.all (λy=>decide (scope.names.lookup y=Dn .local)||decide (scope.names.lookup y=Dn .cell)) &&
 scope.names.all (λy=>decide (scope.names.lookup y.1=Dn y.2)) &&
 scope.names.all (λy=>!decide (y.2=.free)||decide (sc.names.lookup y.1=Dn .cell)||decide (sc.names.lookup y.1=Dn .free)) &&
 ix.all (λi=>decide (scope.names.lookup (N.getD i "")=Dn .free))&&Er (x++ix.map λi=>N.getD i "")
theorem yh:∀{l},Er l=true->l.Nodup
 | [],_=>List.nodup_nil
 | x::r,h=>by
  unfold Er at h;rw[Qn]at h;refine S8.mpr ⟨λhm=>?_,yh h.2⟩;simp_all
variable {ix:List Nat}
theorem cD {X:Cx}{scope:Scope}{x:List Str}(h:afM X.env.scope X.N scope x ix=true):jh X scope x ix:=by
 unfold afM at h;simp only[Qn,Rm,decide_eq_true_eq,Bool.or_eq_true]at h;obtain⟨⟨⟨⟨⟨h1,h3⟩,h4⟩,h5⟩,h6⟩,h7⟩:=h;exact⟨h1,λy hy=>h3 y hy,λy hy=>h4 y hy,λy hy hk=>(by grind),λi hi=>h6 i hi,yh h7⟩
def MH (ix:List Nat)(σ:St):St:=ix.map λi=>(σ[i]?).getD Go
abbrev jd (X:Cx)(x:List Str)(ix:List Nat):List Str:=x++ix.map λi=>X.N.getD i ""
theorem gk {scope:Scope}{env:Env}{x}:∀{names:List (Str×Ow)}{k},
  (names.map λ(p)=>if(p.2==NameKind.free&&env.scope.kind==.function&&env.kindOf p.1==Dn .cell)=true then(p.1,NameKind.cell)else(p.1,p.2)).lookup x=Dn k ->
  names.lookup x=Dn k\/(k=.cell/\names.lookup x=Dn .free)
 | (n,k')::r,k,h=>by
  rw[Nj]at h;cases hx:x==n with
  | true=>
   grind
  | false=>
   have h':(r.map λ(p:Str×Ow)=>if(p.2==NameKind.free&&env.scope.kind==.function&&env.kindOf p.1==Dn .cell)=true then(p.1,NameKind.cell)else(p.1,p.2)).lookup x=Dn k:=by
    by_cases hc:(k'==NameKind.free&&env.scope.kind==.function&&env.kindOf n==Dn .cell)=true
    rw[if_pos hc]at h;simpa only[W0,hx]using h;rw[if_neg hc]at h;simpa only[W0,hx]using h
   rcases gk (scope:=scope) h' with q|⟨q1,q2⟩
   grind
   exact .inr ⟨q1,by simpa[W0,hx]using q2⟩
theorem oU {env:Env}{x}:∀{names:List (Str×Ow)},names.lookup x=Dn .free ->
  (names.map λ(p)=>if(p.2==NameKind.free&&env.scope.kind==.function&&env.kindOf p.1==Dn .cell)=true then(p.1,NameKind.cell)else(p.1,p.2)).lookup x=Dn .cell \/
  (names.map λ(p)=>if(p.2==NameKind.free&&env.scope.kind==.function&&env.kindOf p.1==Dn .cell)=true then(p.1,NameKind.cell)else(p.1,p.2)).lookup x=Dn .free
 | (n,k')::r,h=>by
  rw[Nj];cases hx:x==n with
  | true=>
   grind
  | false=>
   have ih:=oU (env:=env) (by simpa[W0,hx]using h);grind
theorem oO {env:Env}{x}:∀{names:List (Str×Ow)},names.lookup x=Dn .cell ->
  (names.map λ(p)=>if(p.2==NameKind.free&&env.scope.kind==.function&&env.kindOf p.1==Dn .cell)=true then(p.1,NameKind.cell)else(p.1,p.2)).lookup x=Dn .cell
 | (n,k')::r,h=>by
  rw[Nj];cases hx:x==n with
  | true=>
   simp_all
  | false=>
   have ih:=oO (env:=env) (show r.lookup x=Dn .cell by simpa[W0,hx]using h);grind
section
variable {X:Cx}{amx:List (Addr×Obj)}{σ:St}{H:Hp}{s:AP}{scope:Scope}{x:List Str}{C:Addr}{fp:List Addr}
theorem Lk (B:jh X scope x ix){y:Str}(hy:y∈x):Loc (relabel scope X.env) y/\(decide (scope.names.lookup y=Dn .cell)=true\/(relabel scope X.env).names.lookup y=Dn .local):=by
 rcases B.own y hy with q|q
 have:=lookup_relabel_local (env:=X.env) q
 exact⟨.inl this,.inr this⟩;exact⟨.inr<|oO q,.inl<|decide_eq_true q⟩
theorem vL (I:Aq X amx σ H s)(B:jh X scope x ix):∀y∈scope.names,y.2=NameKind.free->∃c,X.env.cells.lookup y.1=Dn c:=λy hy hk=>I.ok.has _ (B.free y hy hk)
theorem ade (I:Aq X amx σ H s)(B:jh X scope x ix){y}(h:(y,c)∈T6 scope X.env):X.env.cells.lookup y=Dn c:=by
 rcases xu _ [] h with q|⟨q1,q2⟩
 simp_all
 obtain⟨c',e⟩:=vL I B _ q1 rfl;simp_all
theorem oH (I:Aq X amx σ H s)(B:jh X scope x ix){y}(h:(MJ (C+1) scope.names (T6 scope X.env)).lookup y=Dn c):X.env.cells.lookup y=Dn c\/(y,c)∈MJ (C+1) scope.names []:=
 (jq.mp (Vq h)).imp_left (ade I B)
theorem LC {n y}(e:(y,c)∈MJ n names []):n<=c:=by
 have key:∀(names:List _) (n:Nat),(y,c)∈MJ n names []->n<=c:=by
  intro names;induction names with
  | nil=>intro n h;simp[MJ]at h
  | cons a r ih=>
   intro n h;unfold MJ at h;split at h
   rcases jq.mp h with q|q
   simp_all
   grind
   exact ih n h
 exact key names n e
theorem akC (B:jh X scope x ix){y}(hf:scope.names.lookup y=Dn .free)(h:(y,c)∈MJ (C+1) scope.names []):False:=by
 have:=B.names _ (Ck h)
 simp_all
theorem Ep {y}(h:scope.names.lookup y=Dn .free\/scope.names.lookup y=Dn .cell):∃c,(MJ (C+1) scope.names (T6 scope X.env)).lookup y=Dn c:=by
 rcases h with h|h
 obtain⟨c,hc⟩:=Ge _ [] (.inl (Vq h));exact gZ<|jq.mpr<|.inl hc
 obtain⟨c,hc⟩:=Mf (Vq h);exact gZ<|jq.mpr<|.inr hc
theorem acf (I:Aq X amx σ H s)(B:jh X scope x ix)(hC:s.heap.objs.size<=C)(hf:∀b∈fp,Iu X amx H b)(ho:∀b∈fp,∃o,s.heap.get? b=Dn o):
  (blk X scope (jd X x ix) C s H fp).Ok where
 mod:=I.ok.mod
 kind:=B.kind
 glob:=I.ok.glob
 blt:=I.ok.blt
 above:=hC
 inj:=λy z c h1 h2=>by
  have far:∀{y z:Str},X.env.cells.lookup y=Dn c->(z,c)∈MJ _ scope.names []->False:=λ{y z} e q=>by
   obtain⟨v,w⟩:=I.cell y c e;exact absurd (Jq w.lt<|Ja (Ja hC<|Wc C)<|LC q)<|Qf _
  rcases oH I B h1 with q1|q1
  rcases oH I B h2 with q2|q2
  exact I.ok.inj y z c q1 q2;grind
  rcases oH I B h2 with q2|q2
  grind
  exact ahM q1 q2
 has:=λy hy=>by
  rcases hy with q|q
  rcases gk (scope:=scope) q with r|⟨_,r⟩
  exact Ep<|.inr r
  exact Ep<|.inl r
  rcases gk (scope:=scope) q with r|⟨r,_⟩
  exact Ep<|.inl r
  cases r
 cab:=λy c hf h=>by
  rcases jq.mp (Vq h)with q|q
  rcases xu _ [] q with q|⟨q1,_⟩
  exact nomatch q
  have:=B.names _ q1
  rw[(of_decide_eq_true hf)]at this;cases this;exact Ja (Ja hC<|Wc C)<|LC q
 hd:=I.ok.hd
 qt:=I.qt0
 frames:=I.ok.frames
 stk:=.inl rfl
 exf:=λb hb=>by
  obtain⟨o,e⟩:=ho b hb;refine⟨JM<|Jq (Ik e) hC,λy c h=>?_⟩;rcases oH I B h with q|q
  exact(hf b hb).2.2.2.2.1 y c q;intro z;rw[z]at q;exact absurd (Jq (Ik e)<|Ja (Ja hC<|Wc C)<|LC q)<|Qf _
 bs:=I.bs
 bsz:=Ja I.ok.bsz I.sz
 noex:=λb o e hb=>by
  rcases(hf b hb).2.2.2.1 with q|q
  exact I.ok.noex b o e q;exact absurd (Jq (Ik e)<|Ja I.ok.bsz q)<|Qf _
 exfs:=λb hb z=>by
  obtain⟨_,h1,h2,_⟩:=hf b hb;rcases K5.mp (I.stkSub b z)with e|e
  exact h1 e;exact h2 e
 funs:=I.stack
 frf:=I.stkFree
theorem akH {D:Addr}{h1:Heap}{tk:Nat}{m:Str->Option JI}(I:Aq X amx σ H s)(B:jh X scope x ix)(ok:(blk X scope (jd X x ix) C s H fp).Ok)
  (hD:D=s.heap.objs.size) (k:∀b o,s.heap.get? b=Dn o->h1.get? b=Dn o) (hl:h1.get? D=Dn {cls:=.type "list",data:=.seq #[]}) (hns:h1.Ns C m) (hCD:C≠D) (hC:s.heap.objs.size<=C) (hce:∀y c,(y,c)∈MJ (C+1) scope.names []->h1.IsCell c Go) :
  Aq (blk X scope (jd X x ix) C s H fp) [] (QW x.length Go++MH ix σ) (HW H D (.lst [])) {s with heap:=h1,toks:=tk} where
 ok:=ok
 os:=rfl
 bare:=I.bare
 base:=Un.laid k (by rw[hD];exact IK _) (I.hok.fresh (by rw[hD];exact IK _))
 loc:=by
  refine⟨m,hns,λi y v e1 e2 e3=>?_⟩;by_cases hix:i<x.length
  rw[Rn (by simpa using hix),Ys,if_pos hix]at e2;cases e2;rw[SQ (by simpa using hix),Ym]at e2;have e1':=by
   have z:(x++ix.map λi=>X.N.getD i "")[i]?=Dn y:=e1
   rwa[SQ (by simpa using hix)]at z
  generalize i-x.length=j at e1' e2;unfold MH at e2;rw[Jm]at e1' e2;cases hj:ix[j]? with
  | none=>rw[hj]at e2;cases e2
  | some i'=>
   rw[hj]at e1' e2;simp only[Option.map_some,Option.some.injEq]at e1' e2;have hi:σ[i']?=Dn (Dn v):=by
    cases q:σ[i']? with
    | none=>rw[q]at e2;cases e2
    | some z=>rw[q]at e2;exact congrArg Dn e2
   have hlt:i'<X.N.length:=by
    have:=(Ob.mp hi).1
    rw[I.len]at this;exact this
   have hn:X.N[i']?=Dn y:=by
    rw[SJ,N5 hlt,Option.getD_some]at e1';rw[N5 hlt,e1']
   have hfree:=by
    have:=B.ixs i' (RN hj)
    rw[e1']at this;exact this
   have kx:=B.free _ (Vq hfree) rfl;have vis:Vis X.env.scope y:=by
    rcases kx with q|q
    exact .inr<|.inl q
    exact .inr<|.inr q
   obtain⟨m',_,hl'⟩:=I.loc;obtain⟨u,r,lk⟩:=hl' i' y v hn hi vis;refine⟨u,r,?_⟩;rcases lk with⟨q,_⟩|⟨_,c,hc,hcell⟩
   have q':X.env.scope.names.lookup y=Dn .local:=q;rcases kx with z|z<;>(rw[q']at z;cases z)
   obtain⟨c',hc'⟩:=Ep (X:=X) (C:=C) (.inl hfree);have e:=(oH I B hc').resolve_right λz=>akC B hfree z
   rw[hc]at e;cases e;refine .inr ⟨oU (env:=X.env) hfree,c,hc',?_⟩;obtain⟨o,ho,hd⟩:=hcell;exact⟨o,k c o ho,hd⟩
 cell:=λy c h=>by
  rcases oH I B h with q|q
  obtain⟨v,o,ho,hd⟩:=I.cell y c q;exact⟨v,o,k c o ho,hd⟩;exact⟨Go,hce y c q⟩
 free:=by
  show HW H D (.lst []) C=Go;rw[aL hCD];exact I.hok.fresh hC
 freeC:=λy c h=>by
  rcases oH I B h with q|q
  obtain⟨v,o,ho,hd⟩:=I.cell y c q;rw[aL (by rw[hD];exact JM (Ik ho))];exact I.freeC y c q;have g:=Jq (Nat.lt_succ_of_le hC) (LC q);rw[aL (by rw[hD];exact R9 g)];exact I.hok.fresh<|W7 g
 pin:=λp hp=>absurd (show p∈([]:List (Addr×Obj))from hp) (by simp)
 hok:=I.hok.laid k (by rw[hD];exact IK _) ⟨Rb _,[],0,.nil,hl⟩
 len:=by
  show(QW x.length Go++MH ix σ).length=(jd X x ix).length;simp[MH]
theorem Pg {σ':St}{H' s'}{h'}{p'}(I:Aq X amx σ H s)(hC:s.heap.objs.size<=C)(hf:∀b∈fp,Iu X amx H b)(J:Aq (blk X scope (jd X x ix) C s H fp) p' σ' H' s')
  (hs:QJ C s'.heap h'):Aq X amx σ H' {s' with heap:=h'}:=by
 refine(I.call' J.os J.base J.hok J.bare λb hb=>⟨(hf b hb).2.2.2.1,(hf b hb).2.1,(hf b hb).2.2.2.2.1,(hf b hb).2.2.2.2.2⟩).turned (λb o hb e=>(hs.2 b hb).trans e) J.free (R9<|Jq I.lt hC) (.inr<|Ja I.sz hC) (λy c e z=>?_) (λp hp z=>(absurd (Jq (Ik (I.pin p hp).1)<|z ▸ hC)<|Qf _));obtain⟨v,q⟩:=I.cell y c e;exact absurd (Jq q.lt<|z ▸ hC)<|Qf _
end
variable {D:Addr}
def Zv (X:Cx)(ifs:List Expr)(t:TT):Prop:=
 ∀(amx:List (Addr×Obj)) (s:AP) (σ:St) (H:Hp) (Q:Bool->Hp->Prop),Aq X amx σ H s->t σ H Q ->
  Bb (CG X.prog X.w) X.A (forIn ifs true λc r=>if r=true then do let ok <-isTrue c X.env (eval c X.env);pure (ForInStep.yield ok)else pure (ForInStep.yield r)) (TP X amx σ Q) X.xe s
def agy:TT:=λ_ H Q=>Q true H
theorem ajF {X}:Zv X [] agy:=λ_ _ _ H _ I h=>HF ⟨H,I,h⟩
theorem ajQ {X}{c t}(h:PT X c t):Zv X [c] t:=λamx s σ H Q I hq=>Al (Al (Hj (h amx s σ H Q I hq) λb s1 q=>HF (HF q)))
def aeK (n:Nat)(own:V->Hp->List V->Prop)(ix:List Nat)(tt:TT)(te:TE)(σ:St)(Q:VK)(J:It)(H1:Hp)(D:Addr):Prop:=∃W:Nat->Nat->List V->Hp->Prop,(∃m,W 0 m [] (HW H1 D (.lst [])))/\∀i m ys H,W i m ys H->H D=Dn (.lst ys) ->
 (J.stop i H/\Q (.ref D) H)\/(J.go i H/\ys.length<Il/\∀x H',J.yld i H x H'->∃vs,own x H' vs/\vs.length=n/\tt (vs.map Dn++MH ix σ) H' λb H2=>
  if b=true then te (vs.map Dn++MH ix σ) H2 (λv H3=>H3 D=Dn (.lst ys)/\∃m',m'<m/\W (i+1) m' (ys++[v]) (HW H3 D (.lst (ys++[v]))))
  else H2 D=Dn (.lst ys)/\∃m',m'<m/\W (i+1) m' ys H2)
def wLC (n:Nat)(own:V->Hp->List V->Prop)(ix:List Nat)(tt:TT)(te:TE)(σ:St)(Q:VK)(J:It)(H1:Hp):Prop:=∀D,H1 D=Go->aeK n own ix tt te σ Q J H1 D
def tLC (n:Nat)(own:V->Hp->List V->Prop)(ix:List Nat)(wi:TI)(tt:TT)(te:TE):TE:=fun σ H Q=>wi σ H λJ H1=>wLC n own ix tt te σ Q J H1
def YC (n:Nat)(own:V->Hp->List V->Prop):TG:=λv σ H N=>∃vs,own v H vs/\vs.length=n/\N (vs.map Dn++σ.drop n) H
variable {elt:Expr}{ifs:List Expr}
theorem ajk {P w A}{R s}{target iter scope pos}{it acc env}(Iv:Nat->AP->Prop)
  (turn:∀n s,Iv n s->Bb (CG P w) A (pyNext it) (λr s₁=>match r with
   | none=>R (.ok .next) s₁
   | some v=>Bb (CG P w) A (letOwnedTupleGo target it v) (λ_ t₁=>Bb (CG P w) A (assign target env v) (λ_ s₂=>
     Bb (CG P w) A (forIn ifs true λc r=>if r=true then do let ok <-isTrue c env (eval c env);pure (ForInStep.yield ok)else pure (ForInStep.yield r)) (λok s₃=>
      if ok=true then Bb (CG P w) A (eval elt env) (λx s₄=>
       Bb (CG P w) A (call (.builtin "list.append") [acc,x]) (λ_ s₅=>∃m,m<n/\Iv m s₅) (notedBy (CG P w) A env λe s'=>R (.error e) s') s₄) (notedBy (CG P w) A env λe s'=>R (.error e) s') s₃
      else ∃m,m<n/\Iv m s₃) (notedBy (CG P w) A env λe s'=>R (.error e) s') s₂) (notedBy (CG P w) A env λe s'=>R (.error e) s') t₁) (notedBy (CG P w) A env λe s'=>R (.error e) s') s₁) (notedBy (CG P w) A env λe s'=>R (.error e) s') s)
  (n) (h:Iv n s):RJ (CG P w) A (.compLoop (.ListComp elt [⟨target,iter,ifs,0⟩] scope pos) 0 it acc env) R s:=by
 refine codeAny_loop rfl Iv (λn s hI=>?_) n h;show Bb _ A _ _ _ s;refine wpAny_noted ?_;rw[compTurn_list];refine Al<|Wa<|Al<|KY (turn n s hI) (λr s₁ k₁=>?_) λ_ _ z=>z
 cases r with
 | none=>exact HF k₁
 | some v=>
  refine Al<|KY k₁ (λ_ t₁ k₂=>Al<|KY k₂ (λ_ s₂ k₃=>Al<|KY k₃ (λok s₃ k₄=>?_) λ_ _ z=>z) λ_ _ z=>z) λ_ _ z=>z
  cases ok with
  | false=>exact HF ⟨rfl,k₄⟩
  | true=>exact Al (Al (KY k₄ (λx s₄ k₅=>Al (KY k₅ (λ_ s₅ k₆=>HF (HF ⟨rfl,k₆⟩)) λ_ _ z=>z)) λ_ _ z=>z))
section
variable {X:Cx}{scope:Scope}{x:List Str}{iter tg:Expr}{px pos:Pos}{wi:TI}{tt:TT}{te:TE}{own:V->Hp->List V->Prop}
theorem M4 {amx:List (Addr×Obj)}{σ:St}{s₂:AP}{H2:Hp}{it:Addr}{fp:List Addr}{tn:Nat->Heap->Prop}{J:It}{Q:VK}{E:JI->AP->Prop}{RR:JI->Addr->Result->AP->Prop}
  (hc:J.cm=true->X.calm=true) (B:jh X scope x ix) (hg:∀C s H fp,PG (blk X scope (jd X x ix) C s H fp) tg (YC x.length own)) (ht:∀C s H fp,Zv (blk X scope (jd X x ix) C s H fp) ifs tt) (he:∀C s H fp,PE (blk X scope (jd X x ix) C s H fp) elt te)
  (I2:Aq X amx σ H2 s₂) (T:Turn X.prog X.w X.K tg J fp it tn) (st2:tn 0 s₂.heap) (f2:∀b∈fp,Iu X amx H2 b) (hq:wLC x.length own ix tt te σ Q J H2)
  (hRR:∀D C s' σ' H' p',s₂.heap.objs.size<=C->Aq (blk X scope (jd X x ix) C s₂ H2 fp) p' σ' H' s'->Q (.ref D) H'->RR (.ref D) C (.ok .next) s') :
  Bb (CG X.prog X.w) X.A (newList []) (λacc s₃=>Bb (CG X.prog X.w) X.A (newFunctionEnv scope X.env.globals (T6 scope X.env) [] X.env.qual Go .none (Dn X.env)) (λcenv s₄=>
   RJ (CG X.prog X.w) X.A (.compStart (.ListComp elt [⟨tg,iter,ifs,0⟩] scope pos) 0 (.ref it) acc {cenv with scope:=relabel scope X.env}) (RR acc cenv.locals) s₄) E s₃) E s₂:=by
 refine W4<|zaC ?_
 generalize hH2:s₂.heap.push {cls:=.type "list",dict:=Go,data:=.seq ([]:List JI).toArray}=HH;generalize hh1:pushCells (HH.push {cls:=.type "dict",data:=.dict #[]}) scope.names=h₁;have hns₁:h₁.Ns HH.objs.size (λ_=>Go):=by
  obtain⟨o,es,ep,ho,r⟩:=Heap.Ns.new HH (.type "dict");exact⟨o,es,ep,by rw[<-hh1];exact pushCells_keeps _ _ _ _ ho,r⟩
 have hkeep:∀b o,HH.get? b=Dn o->h₁.get? b=Dn o:=λb o e=>by rw[<-hh1];exact pushCells_keeps _ _ _ _ (Iw _ e)
 have hce:∀y c,(y,c)∈MJ (HH.objs.size+1) scope.names []->h₁.IsCell c Go:=λy c e=>by
  rw[<-hh1];exact(aa1 (h:=HH.push {cls:=.type "dict",data:=.dict #[]}) (by rw[S7];exact e)).1
 have hC:HH.objs.size=s₂.heap.objs.size+1:=by rw[<-hH2,S7]
 have hDC:s₂.heap.objs.size≠HH.objs.size:=by rw[hC];exact JM (Nat.lt_succ_self _)
 have hCle:s₂.heap.objs.size<=HH.objs.size:=by rw[hC];exact Wc _
 have old:∀b o,s₂.heap.get? b=Dn o->h₁.get? b=Dn o:=λb o e=>hkeep b o (hH2 ▸ Iw _ e)
 have hacc:h₁.get? s₂.heap.objs.size=Dn {cls:=.type "list",data:=.seq #[]}:=hkeep _ _ (hH2 ▸ Kh _ rfl);have hob:∀b∈fp,∃o,s₂.heap.get? b=Dn o:=λb hb=>let⟨o,e,_⟩:=T.obj 0 _ st2 b hb;⟨o,e⟩
 have ok:=acf (C:=HH.objs.size) I2 B hCle f2 hob;obtain⟨W,⟨m0,w0⟩,turn⟩:=hq s₂.heap.objs.size (I2.hok.fresh (IK _));have stat:∀{H':Hp},(∀b∈fp,H' b=Go)->∀b∈fp,Iu (blk X scope (jd X x ix) HH.objs.size s₂ H2 fp) [] H' b:=λ{H'} hn b hb=>by
  obtain⟨o,e⟩:=hob b hb;obtain⟨_,g1,g2,g3,g4,g5⟩:=f2 b hb;refine⟨hn b hb,JM<|Jq (Ik e) hCle,λz=>?_,.inl hb,λy c h=>?_,λp hp=>absurd (show p∈([]:List (Addr×Obj))from hp)<|by simp⟩;rcases K5.mp (I2.stkSub b z)with q|q
  exact g1 q;exact g2 q;rcases oH I2 B h with q|q
  exact g4 y c q;intro z;rw[z]at q;exact absurd (Jq (Ik e)<|Ja (Ja hCle<|Wc _)<|LC q)<|Qf _
 have loop:∀s₃:AP,s₃={s₂ with heap:=h₁} ->
   RJ (CG X.prog X.w) X.A (.compLoop (.ListComp elt [⟨tg,iter,ifs,0⟩] scope pos) 0 (.ref it) (.ref s₂.heap.objs.size) (compEnvC scope (MJ (HH.objs.size+1) scope.names (T6 scope X.env)) HH.objs.size X.env))
    (RR (.ref s₂.heap.objs.size) HH.objs.size) s₃:=by
  rintro s₃ rfl;have J0:=akH (fp:=fp) (C:=HH.objs.size) (tk:=s₂.toks) I2 B ok rfl old hacc hns₁ (Jc hDC) hCle hce;have fr0:∀b∈fp,HW H2 s₂.heap.objs.size (.lst []) b=Go:=λb hb=>by
   obtain⟨o,e⟩:=hob b hb;rw[aL (JM (Ik e))];exact(f2 b hb).1
  refine ajk (λk s'=>∃i ys H',Aq (blk X scope (jd X x ix) HH.objs.size s₂ H2 fp) [] (QW x.length Go++MH ix σ) H' s'/\tn i s'.heap/\(∀b∈fp,H' b=Go)/\H' s₂.heap.objs.size=Dn (.lst ys)/\W i k ys H') ?_ m0
   ⟨0,[],_,J0,T.keep 0 _ _ st2 (λb _ o e=>old b o e),fr0,aV,w0⟩
  rintro n s₄ ⟨i,ys,H4,I4,st4,fr4,hD4,w4⟩;rcases turn i n ys H4 w4 hD4 with⟨stop,qn⟩|⟨go,hz,step⟩
  ·refine Hj (T.done (blk X scope (jd X x ix) HH.objs.size s₂ H2 fp) rfl rfl rfl hc i [] s₄ _ H4 _ I4 (stat fr4) st4 stop) λr s5 a=>?_;obtain⟨hr,I5⟩:=a;subst hr;exact hRR _ _ s5 _ H4 [] hCle I5 qn
  refine Hj (T.item (blk X scope (jd X x ix) HH.objs.size s₂ H2 fp) rfl rfl rfl hc i [] s₄ _ H4 _ I4 (stat fr4) st4 go) λr s5 f=>?_;obtain⟨u,hr,h5⟩:=f;subst hr;refine KY h5 (λ_ s6 g=>?_) λ_ _ z=>z;obtain⟨xv,H6,I6,r6,y6,st6,fr6⟩:=g;have I6':=I6.pinned (stat fr6) (T.obj _ _ st6);obtain⟨vs,hov,hvl,q7⟩:=step xv H6 y6;have fgt:∀{σ9:St}{H9:Hp}{s9:AP}{p9:List (Addr×Obj)},σ9.length=x.length->Aq (blk X scope (jd X x ix) HH.objs.size s₂ H2 fp) p9 (σ9++MH ix σ) H9 s9->Aq (blk X scope (jd X x ix) HH.objs.size s₂ H2 fp) p9 (QW x.length Go++MH ix σ) H9 s9:=λ{σ9 H9 s9 p9} hl I9=>
   I9.weak (by simp[hl]) λk v e=>by
    by_cases hk:k<x.length
    rw[Rn (by simpa using hk),Ys,if_pos hk]at e;cases e;rw[SQ (by simpa using hk),Ym]at e;rw[SQ (by rw[hl];lia),hl];exact e
  refine KY (hg _ _ _ _ _ s6 _ H6 xv u (fun σ9 H9=>σ9=vs.map Dn++(QW x.length (Go:Option V)++MH ix σ).drop x.length/\H9=H6) I6' r6 ⟨vs,hov,hvl,rfl,rfl⟩) (λ_ s7 j=>?_) λ_ _ z=>z.elim;obtain⟨σ7,H7,I7,e7,e8⟩:=j;subst e7 e8;rw[List.drop_left' (by simp)]at I7;have hml:(vs.map Dn).length=x.length:=by rw[Hi];exact hvl
  refine KY (ht _ _ _ _ _ s7 _ H7 _ I7 q7) (λb s8 l=>?_) λ_ _ z=>z.elim;obtain⟨H8,I8,q8⟩:=l;have pinned:∀{H9:Hp}{s9:AP}{σ9:St},Aq (blk X scope (jd X x ix) HH.objs.size s₂ H2 fp) ([]++Dv fp s6.heap) σ9 H9 s9->tn (i+1) s9.heap/\∀b∈fp,H9 b=Go:=λ{H9 s9 σ9} I9=>by
   refine⟨T.keep _ _ _ st6 λb hb o e=>(I9.pin (b,o)<|Vl _<|Vl _<|jJ hb e).1,λb hb=>?_⟩;obtain⟨o,e,d⟩:=T.obj _ _ st6 b hb;exact(I9.pin (b,o)<|Vl _<|Vl _<|jJ hb e).2.1
  cases b with
  | false=>
   rw[if_neg QL]at q8|-
   obtain⟨hD8,m',hm,w8⟩:=q8;obtain⟨t8,f8⟩:=pinned I8;exact⟨m',hm,i+1,ys,H8,fgt hml I8.unpinned,t8,f8,hD8,w8⟩
  | true=>
   rw[if_pos rfl]at q8|-
   refine KY (he _ _ _ _ _ s8 _ H8 _ I8 q8) (λu9 s9 t=>?_) λ_ _ z=>z.elim;obtain⟨v9,H9,I9,r9,hD9,m',hm,w9⟩:=t;refine KY (xQ (X:=blk X scope (jd X x ix) HH.objs.size s₂ H2 fp) _ s9 _ H9 (.ref s₂.heap.objs.size) [v9] _ [u9] (λ_ H'=>H'=HW H9 s₂.heap.objs.size (.lst<|ys++[v9])) I9 rfl (.cons r9 .nil) ⟨_,ys,v9,rfl,rfl,hD9,hz,rfl⟩) (λ_ s10 F=>?_) λ_ _ z=>z.elim;obtain⟨_,H10,I10,_,e10⟩:=F;subst e10;obtain⟨t10,f10⟩:=pinned I10;exact⟨m',hm,i+1,ys++[v9],_,fgt hml I10.unpinned,t10,f10,aV,w9⟩
 exact codeAny_compStart_list (loop _ rfl)<|T.self _ 0 _ _ _ (T.keep 0 _ _ st2<|λb _ o e=>old b o e)<|loop _ rfl
theorem aeP (ix)(hc:X.calm=true)(B:jh X scope x ix)(hg:∀C s H fp,PG (blk X scope (jd X x ix) C s H fp) tg (YC x.length own))(hi:PI X tg iter wi)(ht:∀C s H fp,Zv (blk X scope (jd X x ix) C s H fp) ifs tt)(he:∀C s H fp,PE (blk X scope (jd X x ix) C s H fp) elt te)
  (hs:∀v,W3 iter X.env v=pure v:=by intro _;rfl):PE X (.ListComp elt [⟨tg,iter,ifs,0⟩] scope pos) (tLC x.length own ix wi tt te):=by
 intro amx s σ H Q I h;refine wpAny_comprehension_free rfl hs (Jz<|vL I B) B.kind (λy hy hk=>by rw[B.names y hy,hk])<|Hj (hi amx s σ H _ I h) λv s1 h1=>Hj h1 λitv s2 h2=>?_
 obtain⟨it,fp,tn,J,H2,e,I2,T,st2,f2,hq⟩:=h2;subst e;refine M4 (λ_=>hc) B hg ht he I2 T st2 f2 hq λD C s' σ' H' p' hC I' q'=>?_;obtain⟨m,hn,_⟩:=I'.loc;exact⟨m,hn,λh' hs'=>⟨.ref D,H',Pg I2 hC f2 I' hs',rfl,q'⟩⟩
theorem aeL (ix){i y}{py spos}(hN:X.N.Nodup)(hi':X.N[i]?=Dn y)(hy:Loc X.env.scope y)(hc:X.calm=true)(B:jh X scope x ix)(hg:∀C s H fp,PG (blk X scope (jd X x ix) C s H fp) tg (YC x.length own))(hi:PI X tg iter wi)
  (ht:∀C s H fp,Zv (blk X scope (jd X x ix) C s H fp) ifs tt) (he:∀C s H fp,PE (blk X scope (jd X x ix) C s H fp) elt te)
  (hsw:Vv (.ListComp elt [⟨tg,iter,ifs,0⟩] scope pos) (Dn (.Name y py)) spos.line X.env=pure true:=by rfl)
  (hf:X.fn y=true\/X.env.scope.names.lookup y=Dn .local:=by first|exact .inl rfl|exact .inr rfl|assumption)
  (hs:∀v,W3 iter X.env v=pure v:=by intro _;rfl):PS X (.Assign [.Name y py] (.ListComp elt [⟨tg,iter,ifs,0⟩] scope pos) spos) (aac (tLC x.length own ix wi tt te) (Lq i)):=by
 intro amx s σ H D I h;rw[exec_Assign_Name_used _ _ _ _ hsw];refine Al<|Wa<|Al ?_
 refine Al<|KY (wpAny_comprehension_free rfl hs (Jz<|vL I B) B.kind (λy hy hk=>by rw[B.names y hy,hk]) ?_) (λ_ s' hq=>HF<|HF hq) λ_ _ e=>e
 refine Hj (hi amx s σ H _ I h) λv s1 h1=>Hj h1 λitv s2 h2=>?_;obtain⟨it,fp,tn,J,H2,e,I2,T,st2,f2,hq⟩:=h2;subst e;refine M4 (λ_=>hc) B hg ht he I2 T st2 f2 hq λD' C s' σ' H' p' hC I' q'=>?_;obtain⟨m,hn,_⟩:=I'.loc;have cneC:∀z c,X.env.cells.lookup z=Dn c->c≠C:=λz c e q=>by
  obtain⟨v,w⟩:=I2.cell z c e;exact absurd (Jq w.lt<|q ▸ hC)<|Qf _
 have lneC:=JM (Jq I2.lt hC);refine wpAny_assign_Name<|yV (v:=.ref D') (Pg I2 hC f2 I'<|.refl ..) hN hi' hy rfl (λs'' I'' hsb=>?_) hf
 obtain⟨a,hsb,ha⟩:=hsb;have haC:C≠a:=by
  rcases ha with rfl|ha
  exact Jc lneC;exact Jc<|cneC _ _ ha
 refine⟨m,hn.sameBut hsb haC,λh' hs'=>⟨_,H',?_,q'⟩⟩;refine I''.turned (it:=C) (λb o hb e=>(hs'.2 b hb).trans e) I'.free (Jc lneC) (.inr<|Ja I2.sz hC) cneC<|λp hp z=>?_
 exact absurd (Jq (Ik (I2.pin p hp).1) (by rw[z];exact hC))<|Qf _
end
def Sm (n:Nat)(i:Int):Prop:=i.natAbs<2^n
theorem Sm.bits {n i}(h:Sm n i):Builtin.Int.intBits i<=n:=by
 unfold Builtin.Int.intBits;by_cases e:i=0
 simp_all
 rw[(beq_eq_false_iff_ne.mpr e)];have:=(Nat.log2_lt (by lia)).mpr h
 simp;lia
variable {m:Nat}
theorem Sm.mono {n i}(h:Sm m i)(hmn:m<=n):Sm n i:=Jq h (Nat.pow_le_pow_right (by decide) hmn)
theorem Sm.mul {n:Nat}{i j:Int}(h:Sm m i)(h':Sm n j):Sm (m+n) (i*j):=by
 unfold Sm at *;rw[Int.natAbs_mul,Nat.pow_add];by_cases e:j.natAbs=0
 exact e ▸ Nat.mul_pos (Nat.pow_pos<|by decide) (Nat.pow_pos<|by decide);exact Jq (Nat.mul_lt_mul_of_pos_right h<|Nat.pos_of_ne_zero e)<|Nat.mul_le_mul_left _<|W7 h'
theorem Sm.add {n}{i j}(h:Sm m i)(h':Sm n j):Sm (max m n+1) (i+j):=by
 have h1:=h.mono (Nat.le_max_left m n);have h2:=h'.mono (Nat.le_max_right m n);unfold Sm at *;omega
theorem Sm.neg {n i}(h:Sm n i):Sm n (-i):=by unfold Sm at *;rw[Int.natAbs_neg];exact h
theorem Sm.sub {n}{i j}(h:Sm m i)(h':Sm n j):Sm (max m n+1) (i-j):=h.add h'.neg
theorem Sm.zero {n}:Sm n 0:=Nat.pow_pos (by decide)
theorem Cr {n i}(h1:-(2^n:Int)<i)(h2:i<(2^n:Int)):Sm n i:=by
 unfold Sm;grind
theorem Sm.le {n}{i j}(h:Sm n i)(hj:j.natAbs<=i.natAbs):Sm n j:=XJ hj h
def fU (i j:Int):Prop:=∃m n,m<=1000000/\n<=1000000/\Sm m i/\Sm n j
theorem fU.ok {i j:Int}(h:fU i j):IntMulOk i j:=by
 obtain⟨m,n,hm,hn,h1,h2⟩:=h;exact .of_bits (by have:=h1.bits;lia) (by have:=h2.bits;lia)
def MP (_ j:Int):Prop:=j≠0/\∃n,n<=8000/\Sm n j
theorem ako {n j}(hn:n<=8000)(h:Sm n j):j.natAbs.log2<9000:=by
 by_cases e:j.natAbs=0
 simp_all
 have:=(Nat.log2_lt e).mpr h
 lia
section
variable {X:Cx}
theorem aiN:Kr X (Q7 .Mult) (rI fU λi j=>.int (i*j)):=opI λ_ _ _ _ _ _ _ hc q=>mul_int q hc.ok
theorem zbc:Kr X (Q7 .FloorDiv) (rI MP λi j=>.int (i.fdiv j)):=opI λi j _ _ _ _ _ hc q=>by
 obtain⟨h1,n,hn,h2⟩:=hc;exact floordiv_int h1 q<|.inl<|PyProof.noPylong_of_log2<|ako hn h2
theorem qw:∀{bs:List Bool}{its}{i:Nat}{v},Cq (bs.map V.bl) its->its[i]?=Dn v->∃b,bs[i]?=Dn b/\v=.bool b
 | [],_,_,_,.nil,e=>by simp at e
 | b::bs,_,0,_,.cons r _,e=>by simp at e;subst e;exact⟨b,rfl,r⟩
 | _::bs,_,i+1,v,.cons _ t,e=>by
  obtain⟨b,h1,h2⟩:=qw t (by simpa using e);simp_all
theorem zap:∀(bs:List Bool),((P0 bs.length).all λi=>(bs[i]?).getD true)=bs.all id:=λbs=>by
 rw[Bool.eq_iff_iff,Rm,Rm];constructor;intro h b hb;obtain⟨i,hi,rfl⟩:=List.mem_iff_getElem.mp hb
 simp_all
 intro h i hi;have hi':=VH.mp hi;have:=h bs[i] (XS hi')
 simpa[hi']using this
theorem zaR (hc:X.calm=true):iV X (.builtin "all") (λxs H Q=>∃(p:Addr) (bs:List Bool),xs=[.ref p]/\Jb X.K H p (bs.map V.bl)/\Q (.bl (bs.all id)) H):=by
 intro amx s σ H xs us Q I r h;obtain⟨p,bs,rfl,hS,q⟩:=h;obtain⟨u,rfl,ru⟩:=vals1 r;cases ru;obtain⟨its,rv,pl,hz⟩:=I.list hS;have amy:its.length=bs.length:=by rw[<-rv.length,Hi]
 have hl:=pl.isList;refine call_all_walk<|X8 hl ?_
 refine⟨s.heap.objs.size,[s.heap.objs.size,p],[s.heap.objs.size],its.toArray.size,_,_,λi=>(bs[i]?).getD true,rfl,Walks.list (A:=X.A.in1) (I.ok.hd hc) _ p (JM (by obtain⟨_,e,_⟩:=hl;exact Ik e)) _,
  ⟨⟨_,Kh _ rfl,rfl,rfl⟩,hl.push _⟩,λi v s' Q' E' hP hQ=>?_,λh' tk hk=>?_⟩
 obtain⟨b,e,rfl⟩:=qw rv (by simpa using hP);simp[e]at hQ;exact W5 hQ;have e:((P0 its.toArray.size).all λi=>(bs[i]?).getD true)=bs.all id:=by
  rw[K8,amy];exact zap bs
 rw[e];refine⟨.bl _,H,I.kept<|λb x e=>?_,rfl,q⟩;exact hk b x (λhm=>by rw[R8.mp hm]at e;exact Qf _ (Ik e))<|Iw _ e
def afL (K:Ax)(H:Hp):V->String->Bool->Prop
 | .int _,T,b=>(T = "int"/\b=true)\/(T = "bool"/\b=false)\/(T = "tuple"/\b=false)\/(T = "list"/\b=false)
 | .bl _,T,b=>(T = "int"/\b=true)\/(T = "bool"/\b=true)\/(T = "tuple"/\b=false)\/(T = "list"/\b=false)
 | .str _,T,b=>(T = "int"/\b=false)\/(T = "bool"/\b=false)\/(T = "tuple"/\b=false)\/(T = "list"/\b=false)
 | .non,T,b=>(T = "int"/\b=false)\/(T = "bool"/\b=false)\/(T = "tuple"/\b=false)\/(T = "list"/\b=false)
 | .ref p,T,b=>(∃xs,Jt K H p xs/\((T = "int"/\b=false)\/(T = "bool"/\b=false)\/(T = "tuple"/\b=true)\/(T = "list"/\b=false))) \/
   (∃xs,Jb K H p xs/\((T = "int"/\b=false)\/(T = "bool"/\b=false)\/(T = "tuple"/\b=false)\/(T = "list"/\b=true)))
 | _,_,_=>False
theorem alm:iV X (.builtin "isinstance") (λxs H Q=>∃x T b,xs=[x,.ty T]/\afL X.K H x T b/\Q (.bl b) H):=by
 intro amx s σ H xs us Q I r h;obtain⟨x,T,b,rfl,hi,q⟩:=h;obtain⟨u,w',rfl,rx,ru⟩:=vals2 r;cases ru;have k0:EP X amx σ Q _ s:=⟨.bl b,H,I,rfl,q⟩
 have k1:EP X amx σ Q _ {s with toks:=s.toks+1}:=⟨.bl b,H,I.tok _,rfl,q⟩
 cases x with
 | int i=>
  obtain⟨t,rfl⟩:=rx;rcases hi with⟨rfl,rfl⟩|⟨rfl,rfl⟩|⟨rfl,rfl⟩|⟨rfl,rfl⟩
  exact IsiPair.int_int k0;exact IsiPair.int_bool k1;exact IsiPair.int_tuple k1;exact IsiPair.int_list k1
 | bl i=>
  cases rx;rcases hi with⟨rfl,rfl⟩|⟨rfl,rfl⟩|⟨rfl,rfl⟩|⟨rfl,rfl⟩
  first|exact IsiPair.bool_int k0|exact _ k1
  first|exact IsiPair.bool_bool k0|exact _ k1
  exact IsiPair.bool_tuple k1;exact IsiPair.bool_list k1
 | str i=>
  obtain⟨t,rfl⟩:=rx;rcases hi with⟨rfl,rfl⟩|⟨rfl,rfl⟩|⟨rfl,rfl⟩|⟨rfl,rfl⟩
  exact IsiPair.str_int k1;exact IsiPair.str_bool k1;exact IsiPair.str_tuple k1;exact IsiPair.str_list k1
 | non=>
  cases rx;rcases hi with⟨rfl,rfl⟩|⟨rfl,rfl⟩|⟨rfl,rfl⟩|⟨rfl,rfl⟩
  exact IsiPair.NoneType_int k1;exact IsiPair.NoneType_bool k1;exact IsiPair.NoneType_tuple k1;exact IsiPair.NoneType_list k1
 | ref p=>
  cases rx;rcases hi with⟨xs,hS,hi⟩|⟨xs,hS,hi⟩
  obtain⟨its,_,⟨o,e,c,_⟩,_⟩:=I.tuple hS;rcases hi with⟨rfl,rfl⟩|⟨rfl,rfl⟩|⟨rfl,rfl⟩|⟨rfl,rfl⟩
  exact IsiPair.tuple_int e c k1;exact IsiPair.tuple_bool e c k1;exact IsiPair.tuple_tuple e c k0;exact IsiPair.tuple_list e c k1;obtain⟨its,_,pl,_⟩:=I.list hS;obtain⟨o,e,c,_⟩:=pl.isList;rcases hi with⟨rfl,rfl⟩|⟨rfl,rfl⟩|⟨rfl,rfl⟩|⟨rfl,rfl⟩
  exact IsiPair.list_int e c k1;exact IsiPair.list_bool e c k1;exact IsiPair.list_tuple e c k1;exact IsiPair.list_list e c k0
 | _=>exact hi.elim
end
inductive W where
 | non|bl (b:Bool)|int (i:Int)|str (x:Str)|ty (n:String)|tup (ws:List W)|lst (ws:List W)|loc (n:Nat)|kls (ws:List W)|exc (n:Str)
 | exa (n:Str) (ws:List W)
 | fnv (f:Addr) (i:Nat)
inductive Cell where
 | lst (ws:List W)|obj (C:Addr) (fs:List (Str×W))|dct (kvs:List (Key×W))
 | dtt (kvs:List (List Int×W))
structure Gh where
 nx:Nat
 c:Nat->Option Cell
structure Mu where
 f:Nat->Option Addr
 hid:Addr->Prop
def agT (K:Ax)(p:Addr)(xs:List V):Prop:=
 ∃(o:Obj) (its:Array JI) (n:Nat),K.lookup p=Dn o/\o.cls=.type "list"/\o.dict=Go/\o.data=.seq its n/\its.size<=Il/\Cq xs its.toList
def Frz (H:Hp)(μ:Mu)(p:Addr)(xs:List V):Prop:=H p=Dn (.lst xs)/\(∀n,μ.f n≠Dn p)/\¬μ.hid p
def Frk (K:Ax)(H:Hp)(p:Addr)(xs:List V):Prop:=(∃o,H p=Dn (.frz o (.lst xs)))\/agT K p xs
variable {μ:Mu}
theorem Frz.sq {K H}{p}{xs}(h:Frz H μ p xs):Jb K H p xs:=.inl (.inl h.1)
theorem Frk.sq {K H}{p}{xs}(h:Frk K H p xs):Jb K H p xs:=by
 rcases h with h|h
 exact .inl<|.inr h
 exact .inr h
def NT:List JI:=[.type "ValueError",.type "Exception",.type "BaseException",.type "object"]
def lM (K:Ax)(C:Addr)(n:Str):Bool:=K1 K JR n==Dn (Dn (.ref C))&&YK K (.ref C)==Dn (.type "type")&&match Vy K C with
 | some cd=>cd.name==n&&cd.mro.contains (.type "BaseException")
 | none=>false
def jV (K:Ax)(C:Addr)(n:Str):Bool:=lM K C n&&(match Vy K C with
 | some cd=>(match cd.mro with
  | [.ref C',.ref R,a,b,c,d]=>C'==C&&[a,b,c,d]==NT&&K1 K JR "EaselError"==Dn (Dn (.ref R))&&(Vy K R).any (λc=>c.name==("EaselError" : Str))
  | _=>false)
 | none=>false)&&Oh K (.ref C) "__getattribute__"==Dn (Dn (.builtin "BaseException.__getattribute__"))&&Oh K (.ref C) "__getattr__"==Dn Go&&Oh K (.ref C) "__class__"==Dn (Dn (.builtin "object.__class__"))&&PySem.W.specialIn K (.builtin "object.__class__") "__get__"==Dn (Dn (.builtin "getset_descriptor.__get__"))
 && PySem.W.takesIn K (.builtin "object.__class__")==Dn true
def Dj (n:Str):List Str:=if n = "Apart" then["word", "places"]else["at"]
def U8 (K:Ax)(C:Addr)(n:Str):Bool:=jV K C n&&PySem.W.hasDictIn K C&&(Dj n).all λf=>Oh K (.ref C) f==Dn Go
def Xoa (K:Ax)(o:Obj)(n:Str)(dd:Addr):Prop:=∃C,o.cls=.ref C/\o.dict=Dn dd/\PySem.W.notCls o=true/\U8 K C n=true
def Xob (K:Ax)(o:Obj)(n:Str):Prop:=∃C,o.cls=.ref C/\o.dict=Go/\PySem.W.notCls o=true/\jV K C n=true
mutual
def CR (K:Ax)(H:Hp)(μ:Mu):W->V->Prop
 | .non,v=>v=.non
 | .bl b,v=>v=.bl b
 | .int i,v=>v=.int i
 | .str x,v=>v=.str x
 | .ty n,v=>v=.ty n
 | .tup ws,v=>∃p xs,v=.ref p/\Jt K H p xs/\aY K H μ ws xs
 | .lst ws,v=>∃p xs,v=.ref p/\Frz H μ p xs/\aY K H μ ws xs
 | .kls ws,v=>∃p xs,v=.ref p/\Frk K H p xs/\aY K H μ ws xs
 | .loc n,v=>∃p,v=.ref p/\μ.f n=Dn p
 | .exc n,v=>∃p o u,v=.ref p/\H p=Dn (.frz o u)/\Xob K o n
 | .exa n ws,v=>∃p o u dd ns xs,v=.ref p/\H p=Dn (.frz o u)/\Xoa K o n dd/\H dd=Dn (.xd (List.zip ns xs))/\ns=Dj n/\ns.length=xs.length/\aY K H μ ws xs
 | .fnv f _,v=>v=.ref f
def aY (K:Ax)(H:Hp)(μ:Mu):List W->List V->Prop
 | [],xs=>xs=[]
 | w::ws,xs=>∃v vs,xs=v::vs/\CR K H μ w v/\aY K H μ ws vs
end
section
variable {K:Ax}{H H' H1 H2:Hp}{μ' μ1 μ2:Mu}{h h':Gh}{w:W}{ws:List W}{v:V}{xs:List V}
theorem aY.len:∀{ws xs},aY K H μ ws xs->ws.length=xs.length
 | [],xs,h=>by
  have e:=h;rw[e];rfl
 | w::ws,xs,h=>by
  obtain⟨v,vs,e,_,h⟩:=h;rw[e,Nq,Nq,aY.len h]
theorem aY.get:∀{ws xs}{i:Nat}{w},aY K H μ ws xs->ws[i]?=Dn w->∃v,xs[i]?=Dn v/\CR K H μ w v
 | a::ws,xs,0,w,h,e=>by
  obtain⟨v,vs,e1,r,_⟩:=h;simp_all
 | a::ws,xs,i+1,w,h,e=>by
  obtain⟨v,vs,e1,_,h⟩:=h;subst e1;obtain⟨u,h1,h2⟩:=aY.get h (by simpa using e)
  simp_all
theorem aY.nil:aY K H μ [] []:=rfl
theorem aY.cons (r:CR K H μ w v)(h:aY K H μ ws xs):aY K H μ (w::ws) (v::xs):=⟨v,xs,rfl,r,h⟩
theorem aY.append:∀{ws xs us ys},aY K H μ ws xs->aY K H μ us ys->aY K H μ (ws++us) (xs++ys)
 | [],xs,us,ys,h,g=>by
  subst h;exact g
 | w::ws,xs,us,ys,h,g=>by
  obtain⟨v,vs,e,r,h⟩:=h;subst e;exact aY.cons r<|aY.append h g
theorem aY.one (r:CR K H μ w v):aY K H μ [w] [v]:=aY.cons r aY.nil
theorem aY.set (r:CR K H μ w v):∀{ws xs}(i),aY K H μ ws xs->aY K H μ (ws.set i w) (xs.set i v)
 | [],xs,i,h=>by subst h;exact aY.nil
 | a::ws,xs,0,h=>by
  obtain⟨u,vs,e,_,h⟩:=h;subst e;exact aY.cons r h
 | a::ws,xs,i+1,h=>by
  obtain⟨u,vs,e,q,h⟩:=h;subst e;exact aY.cons q<|aY.set r i h
theorem aY.take:∀{ws:List W}{xs:List V}(n:Nat),aY K H μ ws xs->aY K H μ (ws.take n) (xs.take n)
 | _,_,0,_=>aY.nil
 | [],xs,n+1,h=>by subst h;exact aY.nil
 | a::ws,xs,n+1,h=>by
  obtain⟨u,vs,e,q,h⟩:=h;subst e;exact aY.cons q<|aY.take n h
theorem aY.drop:∀{ws xs}(n),aY K H μ ws xs->aY K H μ (ws.drop n) (xs.drop n)
 | _,_,0,h=>h
 | [],xs,n+1,h=>by subst h;exact aY.nil
 | a::ws,xs,n+1,h=>by
  obtain⟨u,vs,e,q,h⟩:=h;subst e;exact aY.drop n h
structure Ex0 (K:Ax) (H:Hp) (μ:Mu) (H':Hp) (μ':Mu):Prop where
 t:∀p xs,Jt K H p xs->Jt K H' p xs
 l:∀p xs,Frz H μ p xs->Frz H' μ' p xs
 k:∀p xs,Frk K H p xs->Frk K H' p xs
 m:∀n p,μ.f n=Dn p->μ'.f n=Dn p
 x:∀p o u,H p=Dn (.frz o u)->H' p=Dn (.frz o u)
 y:∀p fs,H p=Dn (.xd fs)->H' p=Dn (.xd fs)
structure Ex (K:Ax) (H:Hp) (μ:Mu) (H':Hp) (μ':Mu):Prop extends Ex0 K H μ H' μ' where
 o:∀p u,μ.hid p->H p=Dn u->μ'.hid p/\H' p=Dn u
mutual
theorem CR.ex (e:Ex0 K H μ H' μ'):∀{w:W}{v:V},CR K H μ w v->CR K H' μ' w v
 | .non,_,h=>by rw[CR]at h|-;exact h
 | .bl _,_,h=>by rw[CR]at h|-;exact h
 | .int _,_,h=>by rw[CR]at h|-;exact h
 | .str _,_,h=>by rw[CR]at h|-;exact h
 | .ty _,_,h=>by rw[CR]at h|-;exact h
 | .tup ws,_,h=>by
  rw[CR]at h|-
  obtain⟨p,xs,e1,hs,hr⟩:=h;exact⟨p,xs,e1,e.t _ _ hs,aY.ex e hr⟩
 | .lst ws,_,h=>by
  rw[CR]at h|-
  obtain⟨p,xs,e1,hs,hr⟩:=h;exact⟨p,xs,e1,e.l _ _ hs,aY.ex e hr⟩
 | .kls ws,_,h=>by
  rw[CR]at h|-
  obtain⟨p,xs,e1,hs,hr⟩:=h;exact⟨p,xs,e1,e.k _ _ hs,aY.ex e hr⟩
 | .loc n,_,h=>by
  rw[CR]at h|-
  obtain⟨p,e1,hm⟩:=h;exact⟨p,e1,e.m _ _ hm⟩
 | .exc n,_,h=>by
  rw[CR]at h|-
  obtain⟨p,o,u,e1,hm,hx⟩:=h;exact⟨p,o,u,e1,e.x _ _ _ hm,hx⟩
 | .exa n ws,_,h=>by
  rw[CR]at h|-
  obtain⟨p,o,u,dd,ns,xs,e1,hm,hx,hd,e2,e3,hr⟩:=h;exact⟨p,o,u,dd,ns,xs,e1,e.x _ _ _ hm,hx,e.y _ _ hd,e2,e3,aY.ex e hr⟩
 | .fnv _ _,_,h=>by rw[CR]at h|-;exact h
theorem aY.ex (e:Ex0 K H μ H' μ'):∀{ws:List W}{xs:List V},aY K H μ ws xs->aY K H' μ' ws xs
 | [],_,h=>by rw[aY]at h|-;exact h
 | w::ws,_,h=>by
  rw[aY]at h|-
  obtain⟨v,vs,e1,r,h⟩:=h;exact⟨v,vs,e1,CR.ex e r,aY.ex e h⟩
end
structure J4 (K:Ax) (H:Hp) (μ:Mu) (H':Hp) (μ':Mu):Prop where
 r:∀w v,CR K H μ w v->CR K H' μ' w v
 o:∀p u,μ.hid p->H p=Dn u->μ'.hid p/\H' p=Dn u
theorem J4.refl:J4 K H μ H μ:=⟨λ_ _ h=>h,λ_ _ h g=>⟨h,g⟩⟩
theorem J4.trans (a:J4 K H μ H1 μ1)(b:J4 K H1 μ1 H2 μ2):J4 K H μ H2 μ2:=
 ⟨λw v h=>b.r w v (a.r w v h),λp u h g=>let⟨h1,g1⟩:=a.o p u h g;b.o p u h1 g1⟩
theorem Ex.ext (e:Ex K H μ H' μ'):J4 K H μ H' μ':=⟨λ_ _ h=>CR.ex e.toEx0 h,e.o⟩
theorem J4.s (e:J4 K H μ H' μ'):∀{ws xs},aY K H μ ws xs->aY K H' μ' ws xs
 | [],_,h=>h
 | w::ws,_,h=>by
  obtain⟨v,vs,e1,r,h⟩:=h;exact⟨v,vs,e1,e.r _ _ r,J4.s e h⟩
def adG:Option HO->Prop
 | some (.lst _)=>True
 | some (.dK _)=>True
 | some (.ins _ _ _)=>True
 | some (.ext _)=>True
 | _=>False
def vW {κ:Type}(K:Ax)(H:Hp)(μ:Mu):List (κ×W)->List (κ×V)->Prop:=VN λ(p:κ×W) (q:κ×V)=>p.1=q.1/\CR K H μ p.2 q.2
def agB (x:List Int×Addr×JI):DictEntry:=⟨reduceHash (Builtin.Tuple.tupleHashOf (x.1.map hashInt)),.ref x.2.1,x.2.2⟩
def agG (a:Addr)(xs:List (List Int×Addr×JI))(h:Heap):Prop:=xs.length<=Il/\(a==Vw)=false/\(xs.map (·.1)).Nodup/\∃o es ep,h.get? a=Dn o/\o.ExactDict/\o.data=.dict es ep/\es.toList=xs.map agB
def tU (K:Ax)(H:Hp)(μ:Mu)(p:Addr):Cell->Prop
 | .lst ws=>∃xs,H p=Dn (.lst xs)/\aY K H μ ws xs
 | .obj C fs=>∃dx fvs,H p=Dn (.ins C dx fvs)/\vW K H μ fs fvs
 | .dct kvs=>∃kvv,H p=Dn (.dK kvv)/\vW K H μ kvs kvv
 | .dtt kvs=>∃xs vs,H p=Dn (.ext (agG p xs))/\kvs.map (·.1)=xs.map (·.1)/\Cq vs (xs.map (·.2.2))/\aY K H μ (kvs.map λx=>W.tup (x.1.map W.int)) (xs.map λx=>V.ref x.2.1)/\aY K H μ (kvs.map (·.2)) vs
structure HS (K:Ax) (μ:Mu) (H:Hp) (h:Gh):Prop where
 inj:∀m n p,μ.f m=Dn p->μ.f n=Dn p->m=n
 dom:∀n p,μ.f n=Dn p->n<h.nx
 trk:∀n p,μ.f n=Dn p->adG (H p)
 cel:∀n c,h.c n=Dn c->∃p,μ.f n=Dn p/\tU K H μ p c
 hd:∀p,μ.hid p->(∃xs,H p=Dn (.lst xs))/\∀n,μ.f n≠Dn p
theorem tU.ext {p:Addr}{c:Cell}(e:J4 K H μ H' μ')(hp:H' p=H p)(x:tU K H μ p c):tU K H' μ' p c:=by
 cases c with
 | lst ws=>obtain⟨xs,a,b⟩:=x;exact⟨xs,hp.trans a,e.s b⟩
 | obj C fs=>obtain⟨dx,fvs,a,b⟩:=x;exact⟨dx,fvs,hp.trans a,Paired.mapP b λ_ _ z=>⟨z.1,e.r _ _ z.2⟩⟩
 | dct kvs=>obtain⟨kvv,a,b⟩:=x;exact⟨kvv,hp.trans a,Paired.mapP b λ_ _ z=>⟨z.1,e.r _ _ z.2⟩⟩
 | dtt kvs=>obtain⟨xs,vs,a,b,c,d,f⟩:=x;exact⟨xs,vs,hp.trans a,b,c,e.s d,e.s f⟩
theorem Rd.laid {p q o u}(hp:H p=Go)(r:Rd H q u):Rd (HW H p o) q u:=by
 have ne:q≠p:=by
  rcases r with r|⟨_,r⟩
  exact aN r hp;exact aN r hp
 unfold Rd
 rwa[aL ne]
theorem Ex.laid {p:Addr}{o:HO}(hp:H p=Go):Ex K H μ (HW H p o) μ where
 t:=λq xs h=>by
  rcases h with h|h
  exact .inl<|h.laid hp
  exact .inr h
 l:=λq xs h=>⟨aL (aN h.1 hp) ▸ h.1,h.2⟩
 k:=λq xs h=>by
  rcases h with⟨o',h⟩|h
  exact .inl ⟨o',aL (aN h hp) ▸ h⟩;exact .inr h
 m:=λ_ _ h=>h
 x:=λq o' u e=>aL (aN e hp) ▸ e
 y:=λq fs e=>aL (aN e hp) ▸ e
 o:=λq u z e=>⟨z,aL (aN e hp) ▸ e⟩
theorem HS.laid {p:Addr}{o:HO}(R:HS K μ H h)(hp:H p=Go):HS K μ (HW H p o) h where
 inj:=R.inj
 dom:=R.dom
 trk:=λn q e=>by
  have:=R.trk n q e
  rw[aL (λz=>by subst z;rw[hp]at this;exact this)];exact this
 cel:=λn c e=>by
  obtain⟨q,e1,x⟩:=R.cel n c e;have:=R.trk n q e1
  exact⟨q,e1,x.ext (Ex.laid hp).ext (aL (λz=>by subst z;rw[hp]at this;exact this))⟩
 hd:=λq z=>by
  obtain⟨⟨xs,e⟩,g⟩:=R.hd q z;exact⟨⟨xs,aL (aN e hp) ▸ e⟩,g⟩
theorem CR.tupNew {p}(hp:H p=Go)(r:aY K H μ ws xs):CR K (HW H p (.tup xs)) μ (.tup ws) (.ref p):=⟨p,xs,rfl,Jt.of aV,(Ex.laid hp).ext.s r⟩
theorem CR.lstNew {p}(R:HS K μ H h)(hp:H p=Go)(r:aY K H μ ws xs):CR K (HW H p (.lst xs)) μ (.lst ws) (.ref p):=by
 refine⟨p,xs,rfl,⟨aV,λn e=>?_,λz=>?_⟩,(Ex.laid hp).ext.s r⟩;have:=R.trk n p e
 rwa[hp]at this
 obtain⟨⟨xs,e⟩,_⟩:=R.hd p z;simp_all
def Mu.put (μ:Mu)(n:Nat)(p:Addr):Mu:=⟨λm=>if m=n then Dn p else μ.f m,μ.hid⟩
theorem Mu.put_same {n}{p}:(μ.put n p).f n=Dn p:=by show(if n=n then Dn p else μ.f n)=_;rw[if_pos rfl]
theorem Mu.put_ne {n:Nat}{p:Addr}(e:m≠n):(μ.put n p).f m=μ.f m:=by show(if m=n then Dn p else μ.f m)=_;rw[if_neg e]
def Gh.new (h:Gh)(c:Cell):Gh:=⟨h.nx+1,λm=>if m=h.nx then Dn c else h.c m⟩
def Gh.set (h:Gh)(n:Nat)(c:Cell):Gh:=⟨h.nx,λm=>if m=n then Dn c else h.c m⟩
theorem HS.dead (R:HS K μ H h){n}(hn:h.nx<=n):μ.f n=Go:=by
 cases e:μ.f n with
 | none=>rfl
 | some p=>exact absurd (R.dom n p e) (by lia)
theorem Ex.newCell {p:Addr}{o:HO}(R:HS K μ H h)(hp:H p=Go):Ex K H μ (HW H p o) (μ.put h.nx p) where
 t:=λq xs z=>(Ex.laid (μ:=μ) hp).t q xs z
 l:=λq xs z=>by
  have nq:=aN z.1 hp;refine⟨aL nq ▸ z.1,λn e=>?_,z.2.2⟩;by_cases hn:n=h.nx
  subst hn;rw[Mu.put_same]at e;simp_all
  rw[Mu.put_ne hn]at e;exact z.2.1 n e
 k:=λq xs z=>(Ex.laid (μ:=μ) hp).k q xs z
 m:=λn q e=>by
  rw[Mu.put_ne (λz=>by subst z;rw[R.dead (IK _)]at e;cases e)];exact e
 x:=λq o' u e=>aL (aN e hp) ▸ e
 y:=λq fs e=>aL (aN e hp) ▸ e
 o:=λq u z e=>⟨z,aL (aN e hp) ▸ e⟩
theorem HS.newCell {p:Addr}{o:HO}{c:Cell}(R:HS K μ H h)(hp:H p=Go)(mo:adG (Dn o))(ck:tU K (HW H p o) (μ.put h.nx p) p c):HS K (μ.put h.nx p) (HW H p o) (h.new c) where
 inj:=λm n q em en=>by
  by_cases hm:m=h.nx
  by_cases hn:n=h.nx
  rw[hm,hn];rw[hm,Mu.put_same]at em;rw[Mu.put_ne hn]at en;cases Lr em
  have:=R.trk n _ en
  rw[hp]at this;cases this;rw[Mu.put_ne hm]at em;by_cases hn:n=h.nx
  rw[hn,Mu.put_same]at en;obtain rfl:=Lr en;have:=R.trk m _ em
  rw[hp]at this;cases this;rw[Mu.put_ne hn]at en;exact R.inj m n q em en
 dom:=λn q e=>by
  show n<h.nx+1;by_cases hn:n=h.nx
  lia;rw[Mu.put_ne hn]at e;have:=R.dom n q e
  lia
 trk:=λn q e=>by
  by_cases hn:n=h.nx
  rw[hn,Mu.put_same]at e;obtain rfl:=Lr e;rw[aV];exact mo;rw[Mu.put_ne hn]at e;have:=R.trk n q e
  have ne:q≠p:=λz=>by subst z;rw[hp]at this;exact this
  rw[aL ne];exact this
 cel:=λn d e=>by
  have e:(if n=h.nx then Dn c else h.c n)=Dn d:=e;by_cases hn:n=h.nx
  rw[if_pos hn]at e;obtain rfl:=Lr e;exact⟨p,by rw[hn,Mu.put_same],ck⟩;rw[if_neg hn]at e;obtain⟨q,e1,x⟩:=R.cel n d e;have:=R.trk n q e1
  have ne:q≠p:=λz=>by subst z;rw[hp]at this;exact this
  exact⟨q,by rwa[Mu.put_ne hn],x.ext (Ex.newCell R hp).ext (aL ne)⟩
 hd:=λq z=>by
  obtain⟨⟨xs,e⟩,g⟩:=R.hd q z;have ne:=aN e hp;refine⟨⟨xs,aL ne ▸ e⟩,λn en=>?_⟩;by_cases hn:n=h.nx
  rw[hn,Mu.put_same]at en;grind
  rw[Mu.put_ne hn]at en;exact g n en
theorem Rd.kept {p q o u}(mo:adG (H p))(r:Rd H q u)(hn:q≠p):Rd (HW H p o) q u:=by
 unfold Rd
 rwa[aL hn]
theorem Ex.write {n:Nat}{p:Addr}{o:HO}(R:HS K μ H h)(hn:μ.f n=Dn p):Ex K H μ (HW H p o) μ where
 t:=λq xs z=>by
  rcases z with z|z
  refine .inl<|z.kept (R.trk n p hn) λe=>?_
  subst e;have:=R.trk n q hn
  rcases z with r|⟨_,r⟩<;>rw[r]at this<;>exact this
  exact .inr z
 l:=λq xs z=>⟨by rw[aL (λe=>z.2.1 n (by rwa[e]))];exact z.1,z.2⟩
 k:=λq xs z=>by
  rcases z with⟨o',z⟩|z
  refine .inl ⟨o',?_⟩;rw[aL (λe=>?_)];exact z;subst e;have:=R.trk n q hn
  rwa[z]at this
  exact .inr z
 m:=λ_ _ e=>e
 x:=λq o' u e=>by
  rw[aL (λy=>?_)];exact e;subst y;have:=R.trk n q hn
  rwa[e]at this
 y:=λq fs e=>by
  rw[aL (λy=>?_)];exact e;subst y;have:=R.trk n q hn
  rwa[e]at this
 o:=λq u z e=>⟨z,by rw[aL (λy=>(R.hd q z).2 n (by rwa[y]))];exact e⟩
theorem HS.write {n:Nat}{p:Addr}{o:HO}{c:Cell}(R:HS K μ H h)(hn:μ.f n=Dn p)(mo:adG (Dn o))(ck:tU K (HW H p o) μ p c):HS K μ (HW H p o) (h.set n c) where
 inj:=R.inj
 dom:=R.dom
 trk:=λm q e=>by
  by_cases z:q=p
  subst z;rw[aV];exact mo;rw[aL z];exact R.trk m q e
 cel:=λm d e=>by
  have e:(if m=n then Dn c else h.c m)=Dn d:=e;by_cases hm:m=n
  simp_all
  rw[if_neg hm]at e;obtain⟨q,e1,x⟩:=R.cel m d e;exact⟨q,e1,x.ext (Ex.write R hn).ext (aL (λz=>by subst z;exact hm (R.inj m n q e1 hn)))⟩
 hd:=λq z=>by
  obtain⟨⟨xs,e⟩,g⟩:=R.hd q z;exact⟨⟨xs,by rw[aL<|λy=>g n<|by rwa[y]];exact e⟩,g⟩
mutual
def Lo (k:Nat):W->Prop
 | .tup ws=>Nv k ws
 | .lst ws=>Nv k ws
 | .kls ws=>Nv k ws
 | .exa _ ws=>Nv k ws
 | .loc n=>n<k
 | _=>True
def Nv (k:Nat):List W->Prop
 | []=>True
 | w::ws=>Lo k w/\Nv k ws
end
mutual
theorem CR.lo {k:Nat}(hd:∀n p,μ.f n=Dn p->n<k):∀{w:W}{v:V},CR K H μ w v->Lo k w
 | .non,_,_=>by rw[Lo]<;>first|trivial|(intros;contradiction)
 | .bl _,_,_=>by rw[Lo]<;>first|trivial|(intros;contradiction)
 | .int _,_,_=>by rw[Lo]<;>first|trivial|(intros;contradiction)
 | .str _,_,_=>by rw[Lo]<;>first|trivial|(intros;contradiction)
 | .ty _,_,_=>by rw[Lo]<;>first|trivial|(intros;contradiction)
 | .exc _,_,_=>by rw[Lo]<;>first|trivial|(intros;contradiction)
 | .fnv _ _,_,_=>by rw[Lo]<;>first|trivial|(intros;contradiction)
 | .exa _ ws,_,h=>by
  rw[CR]at h;obtain⟨_,_,_,_,_,_,_,_,_,_,_,_,hr⟩:=h;rw[Lo];exact aY.lo hd hr
 | .tup ws,_,h=>by
  rw[CR]at h;obtain⟨p,xs,_,_,hr⟩:=h;rw[Lo];exact aY.lo hd hr
 | .lst ws,_,h=>by
  rw[CR]at h;obtain⟨p,xs,_,_,hr⟩:=h;rw[Lo];exact aY.lo hd hr
 | .kls ws,_,h=>by
  rw[CR]at h;obtain⟨p,xs,_,_,hr⟩:=h;rw[Lo];exact aY.lo hd hr
 | .loc n,_,h=>by
  rw[CR]at h;obtain⟨p,_,hm⟩:=h;rw[Lo];exact hd n p hm
theorem aY.lo {k:Nat}(hd:∀n p,μ.f n=Dn p->n<k):∀{ws:List W}{xs:List V},aY K H μ ws xs->Nv k ws
 | [],_,_=>by rw[Nv];trivial
 | w::ws,_,h=>by
  rw[aY]at h;obtain⟨v,vs,_,r,h⟩:=h;rw[Nv];exact⟨CR.lo hd r,aY.lo hd h⟩
end
def Mu.cut (μ:Mu)(k:Nat):Mu:=⟨λn=>if n<k then μ.f n else Go,μ.hid⟩
theorem Mu.cut_some {k n p}(e:(μ.cut k).f n=Dn p):n<k/\μ.f n=Dn p:=by
 have e:(if n<k then μ.f n else Go)=Dn p:=e;simp_all
mutual
theorem CR.cut {k:Nat}:∀{w:W}{v:V},CR K H μ w v->Lo k w->CR K H (μ.cut k) w v
 | .non,_,h,_=>by rw[CR]at h|-;exact h
 | .bl _,_,h,_=>by rw[CR]at h|-;exact h
 | .int _,_,h,_=>by rw[CR]at h|-;exact h
 | .str _,_,h,_=>by rw[CR]at h|-;exact h
 | .ty _,_,h,_=>by rw[CR]at h|-;exact h
 | .exc _,_,h,_=>by rw[CR]at h|-;exact h
 | .fnv _ _,_,h,_=>by rw[CR]at h|-;exact h
 | .exa _ ws,_,h,l=>by
  rw[CR]at h|-
  rw[Lo]at l;obtain⟨p,o,u,dd,ns,xs,e1,hm,hx,hd,e2,e3,hr⟩:=h;exact⟨p,o,u,dd,ns,xs,e1,hm,hx,hd,e2,e3,aY.cut hr l⟩
 | .tup ws,_,h,l=>by
  rw[CR]at h|-
  rw[Lo]at l;obtain⟨p,xs,e1,hs,hr⟩:=h;exact⟨p,xs,e1,hs,aY.cut hr l⟩
 | .lst ws,_,h,l=>by
  rw[CR]at h|-
  rw[Lo]at l;obtain⟨p,xs,e1,hs,hr⟩:=h;exact⟨p,xs,e1,⟨hs.1,λn e=>hs.2.1 n (Mu.cut_some e).2,hs.2.2⟩,aY.cut hr l⟩
 | .kls ws,_,h,l=>by
  rw[CR]at h|-
  rw[Lo]at l;obtain⟨p,xs,e1,hs,hr⟩:=h;exact⟨p,xs,e1,hs,aY.cut hr l⟩
 | .loc n,_,h,l=>by
  rw[CR]at h|-
  rw[Lo]at l;obtain⟨p,e1,hm⟩:=h;refine⟨p,e1,?_⟩;show(if n<k then μ.f n else Go)=Dn p;rw[if_pos l];exact hm
theorem aY.cut {k:Nat}:∀{ws:List W}{xs:List V},aY K H μ ws xs->Nv k ws->aY K H (μ.cut k) ws xs
 | [],_,h,_=>by rw[aY]at h|-;exact h
 | w::ws,_,h,l=>by
  rw[aY]at h|-
  rw[Nv]at l;obtain⟨v,vs,e1,r,h⟩:=h;exact⟨v,vs,e1,CR.cut r l.1,aY.cut h l.2⟩
end
end
variable {ws:List W}{μ' μ1:Mu}
section
variable {K:Ax}{H H' H1 H2:Hp}{μ2:Mu}{h h':Gh}{w:W}{v:V}{xs ys:List V}{p:Addr}
def Mu.hide (μ:Mu)(p:Addr):Mu:=⟨μ.f,λq=>q=p\/μ.hid q⟩
def Mu.unhide (μ:Mu)(p:Addr):Mu:=⟨μ.f,λq=>q≠p/\μ.hid q⟩
structure Zj (p:Addr) (K:Ax) (H:Hp) (μ:Mu) (H':Hp) (μ':Mu):Prop where
 r:∀w v,CR K H μ w v->CR K H' μ' w v
 o:∀q u,q≠p->μ.hid q->H q=Dn u->μ'.hid q/\H' q=Dn u
theorem J4.x (a:J4 K H μ H1 μ1)(hp:¬μ.hid p)(b:Zj p K H1 μ1 H2 μ2):J4 K H μ H2 μ2:=
 ⟨λw v z=>b.r w v (a.r w v z),λq u z e=>let⟨z1,e1⟩:=a.o q u z e;b.o q u (λy=>hp (y ▸ z)) z1 e1⟩
theorem J4.hide {o}(hp:H p=Go):J4 K H μ (HW H p o) (μ.hide p):=Ex.ext {
 t:=λq xs z=>(Ex.laid (μ:=μ) hp).t q xs z
 l:=λq xs z=>by
  have nq:=aN z.1 hp;refine⟨aL nq ▸ z.1,z.2.1,λy=>?_⟩;rcases y with y|y
  exact nq y;exact z.2.2 y
 k:=λq xs z=>(Ex.laid (μ:=μ) hp).k q xs z
 m:=λ_ _ e=>e
 x:=λq o' u e=>aL (aN e hp) ▸ e
 y:=λq fs e=>aL (aN e hp) ▸ e
 o:=λq u z e=>⟨.inr z,aL (aN e hp) ▸ e⟩}
theorem HS.nohid (R:HS K μ H h)(hp:H p=Go):¬μ.hid p:=λz=>by
 obtain⟨⟨xs,e⟩,_⟩:=R.hd p z;simp_all
theorem HS.hide (R:HS K μ H h)(hp:H p=Go):HS K (μ.hide p) (HW H p (.lst xs)) h where
 inj:=R.inj
 dom:=R.dom
 trk:=(R.laid hp).trk
 cel:=λn c e=>by
  obtain⟨q,e1,x⟩:=R.cel n c e;have:=R.trk n q e1
  exact⟨q,e1,x.ext (J4.hide hp)<|aL (λz=>by subst z;rw[hp]at this;exact this)⟩
 hd:=λq z=>by
  rcases z with z|z
  subst z;refine⟨⟨xs,aV⟩,λn e=>?_⟩;have:=R.trk n q e
  rwa[hp]at this
  exact(R.laid hp).hd q z
theorem Ex0.grow (R:HS K μ H h)(hp:μ.hid p):Ex0 K H μ (HW H p (.lst ys)) μ where
 t:=λq xs z=>by
  rcases z with z|z
  refine .inl ?_;unfold Rd;rw[aL (λy=>?_)];exact z;subst y;obtain⟨⟨xs',e⟩,_⟩:=R.hd q hp;rcases z with r|⟨_,r⟩<;>rw[e]at r<;>cases r
  exact .inr z
 l:=λq xs z=>⟨by rw[aL (λy=>z.2.2 (by rwa[y]))];exact z.1,z.2⟩
 k:=λq xs z=>by
  rcases z with⟨o',z⟩|z
  refine .inl ⟨o',?_⟩;rw[aL (λy=>?_)];exact z;subst y;obtain⟨⟨xs',e⟩,_⟩:=R.hd q hp;simp_all
  exact .inr z
 m:=λ_ _ e=>e
 x:=λq o' u e=>by
  rw[aL (λy=>?_)];exact e;subst y;obtain⟨⟨xs',e'⟩,_⟩:=R.hd q hp;simp_all
 y:=λq fs e=>by
  rw[aL (λy=>?_)];exact e;subst y;obtain⟨⟨xs',e'⟩,_⟩:=R.hd q hp;simp_all
theorem Zj.grow (R:HS K μ H h)(hp:μ.hid p):Zj p K H μ (HW H p (.lst ys)) μ:=
 ⟨λ_ _ z=>CR.ex (Ex0.grow R hp) z,λq u ne z e=>⟨z,aL ne ▸ e⟩⟩
theorem HS.grow (R:HS K μ H h)(hp:μ.hid p):HS K μ (HW H p (.lst ys)) h where
 inj:=R.inj
 dom:=R.dom
 trk:=λn q e=>by
  have ne:q≠p:=λz=>(R.hd p hp).2 n (z ▸ e)
  rw[aL ne];exact R.trk n q e
 cel:=λn c e=>by
  obtain⟨q,e1,x⟩:=R.cel n c e;have ne:q≠p:=λz=>(R.hd p hp).2 n (z ▸ e1)
  refine⟨q,e1,?_⟩;cases c with
  | lst ws=>obtain⟨xs,a,b⟩:=x;exact⟨xs,(aL ne).trans a,aY.ex (Ex0.grow R hp) b⟩
  | obj C fs=>obtain⟨dx,fvs,a,b⟩:=x;exact⟨dx,fvs,(aL ne).trans a,Paired.mapP b λ_ _ z=>⟨z.1,CR.ex (Ex0.grow R hp) z.2⟩⟩
  | dct kvs=>obtain⟨kvv,a,b⟩:=x;exact⟨kvv,(aL ne).trans a,Paired.mapP b λ_ _ z=>⟨z.1,CR.ex (Ex0.grow R hp) z.2⟩⟩
  | dtt kvs=>obtain⟨xs,vs,a,b,c,d,f⟩:=x;exact⟨xs,vs,(aL ne).trans a,b,c,aY.ex (Ex0.grow R hp) d,aY.ex (Ex0.grow R hp) f⟩
 hd:=λq z=>by
  by_cases e:q=p
  subst e;exact⟨⟨ys,aV⟩,(R.hd q hp).2⟩;rw[aL e];exact R.hd q z
theorem Ex0.unhide:Ex0 K H μ H (μ.unhide p) where
 t:=λ_ _ z=>z
 l:=λq xs z=>⟨z.1,z.2.1,λy=>z.2.2 y.2⟩
 k:=λ_ _ z=>z
 m:=λ_ _ e=>e
 x:=λ_ _ _ e=>e
 y:=λ_ _ e=>e
theorem Zj.unhide:Zj p K H μ H (μ.unhide p):=⟨λ_ _ z=>CR.ex Ex0.unhide z,λq u ne z e=>⟨⟨ne,z⟩,e⟩⟩
theorem HS.unhide (R:HS K μ H h):HS K (μ.unhide p) H h where
 inj:=R.inj
 dom:=R.dom
 trk:=R.trk
 cel:=λn c e=>by
  obtain⟨q,e1,x⟩:=R.cel n c e;refine⟨q,e1,?_⟩;cases c with
  | lst ws=>obtain⟨xs,a,b⟩:=x;exact⟨xs,a,aY.ex Ex0.unhide b⟩
  | obj C fs=>obtain⟨dx,fvs,a,b⟩:=x;exact⟨dx,fvs,a,Paired.mapP b λ_ _ z=>⟨z.1,CR.ex Ex0.unhide z.2⟩⟩
  | dct kvs=>obtain⟨kvv,a,b⟩:=x;exact⟨kvv,a,Paired.mapP b λ_ _ z=>⟨z.1,CR.ex Ex0.unhide z.2⟩⟩
  | dtt kvs=>obtain⟨xs,vs,a,b,c,d,f⟩:=x;exact⟨xs,vs,a,b,c,aY.ex Ex0.unhide d,aY.ex Ex0.unhide f⟩
 hd:=λq z=>R.hd q z.2
theorem CR.built (R:HS K μ H h)(hp:μ.hid p)(e:H p=Dn (.lst xs))(r:aY K H μ ws xs):CR K H (μ.unhide p) (.lst ws) (.ref p):=⟨p,xs,rfl,⟨e,(R.hd p hp).2,λz=>z.1 rfl⟩,aY.ex Ex0.unhide r⟩
end
abbrev Sw:=List (Option W)
abbrev WK:=W->Gh->Prop
abbrev ME:=Sw->Gh->WK->Prop
abbrev MT:=Sw->Gh->(Bool->Gh->Prop)->Prop
abbrev MA:=Sw->Gh->(List W->Gh->Prop)->Prop
structure bK where
 nx:Sw->Gh->Prop
 rt:WK
 bk:Sw->Gh->Prop:=λ_ _=>False
 ct:Sw->Gh->Prop:=λ_ _=>False
abbrev MS:=bK->Sw->Gh->Prop
abbrev MG:=W->Sw->Gh->(Sw->Gh->Prop)->Prop
abbrev RW:=List W->Sw->Gh->(Sw->Gh->Prop)->Prop
structure Xw where
 cls:Str
 fs:List (Str×W)
abbrev Ce:=Xw->Gh->Prop
abbrev Ah:=List W->Gh->WK->Ce->Prop
def EF:Ce:=λ_ _=>False
structure Slots (K:Ax) (H:Hp) (μ:Mu) (σw:Sw) (σ:St):Prop where
 len:σw.length=σ.length
 get:∀(i:Nat) (w:W),σw[i]?=Dn (Dn w)->∃v,σ[i]?=Dn (Dn v)/\CR K H μ w v
inductive DQ (K:Ax) (H:Hp) (μ:Mu) (Q:WK) (v:V) (H':Hp):Prop where
 | mk (μ':Mu) (w:W) (h':Gh) (e:J4 K H μ H' μ') (R:HS K μ' H' h') (r:CR K H' μ' w v) (q:Q w h'):DQ K H μ Q v H'
inductive DB (K:Ax) (H:Hp) (μ:Mu) (Q:Bool->Gh->Prop) (b:Bool) (H':Hp):Prop where
 | mk (μ':Mu) (h':Gh) (e:J4 K H μ H' μ') (R:HS K μ' H' h') (q:Q b h'):DB K H μ Q b H'
inductive DA (K:Ax) (H:Hp) (μ:Mu) (Q:List W->Gh->Prop) (vs:List V) (H':Hp):Prop where
 | mk (μ':Mu) (ws:List W) (h':Gh) (e:J4 K H μ H' μ') (R:HS K μ' H' h') (r:aY K H' μ' ws vs) (q:Q ws h'):DA K H μ Q vs H'
inductive DN (K:Ax) (H:Hp) (μ:Mu) (N:Sw->Gh->Prop) (σ':St) (H':Hp):Prop where
 | mk (μ':Mu) (σw':Sw) (h':Gh) (e:J4 K H μ H' μ') (R:HS K μ' H' h') (S:Slots K H' μ' σw' σ') (q:N σw' h'):DN K H μ N σ' H'
section
variable {K:Ax}{H H' H1 H2:Hp}{μ2:Mu}{h h' h1:Gh}{w:W}{v:V}{σ:St}{σw:Sw}
theorem Slots.ext (S:Slots K H μ σw σ)(e:J4 K H μ H' μ'):Slots K H' μ' σw σ:=⟨S.len,λi w q=>let⟨v,a,b⟩:=S.get i w q;⟨v,a,e.r _ _ b⟩⟩
theorem Slots.set (S:Slots K H μ σw σ)(r:CR K H μ w v)(i):Slots K H μ (σw.set i (Dn w)) (σ.set i (Dn v)):=by
 refine⟨by rw[Xp,Xp,S.len],λj u q=>?_⟩;rw[List.getElem?_set]at q|-
 by_cases hij:i=j
 rw[if_pos hij]at q|-
 by_cases hl:i < σw.length
 rw[if_pos hl]at q;rw[if_pos (S.len ▸ hl)];simp_all
 simp_all
 rw[if_neg hij]at q|-
 exact S.get j u q
theorem DQ.trans {Q}(e:J4 K H μ H1 μ1)(q:DQ K H1 μ1 Q v H'):DQ K H μ Q v H':=let⟨μ',w,h',a,b,c,d⟩:=q;⟨μ',w,h',e.trans a,b,c,d⟩
theorem DB.trans {Q:Bool->Gh->Prop}{b:Bool}(e:J4 K H μ H1 μ1)(q:DB K H1 μ1 Q b H'):DB K H μ Q b H':=let⟨μ',h',a,b,c⟩:=q;⟨μ',h',e.trans a,b,c⟩
theorem DN.trans {N σ'}(e:J4 K H μ H1 μ1)(q:DN K H1 μ1 N σ' H'):DN K H μ N σ' H':=let⟨μ',w,h',a,b,c,d⟩:=q;⟨μ',w,h',e.trans a,b,c,d⟩
end
variable {σw:Sw}
inductive tD (K:Ax) (m:ME) (σ:St) (H:Hp) (Q:VK):Prop where
 | mk (μ:Mu) (h:Gh) (σw:Sw) (Qw:WK) (R:HS K μ H h) (S:Slots K H μ σw σ) (x:m σw h Qw) (k:∀v H',DQ K H μ Qw v H'->Q v H'):tD K m σ H Q
inductive tDT (K:Ax) (m:MT) (σ:St) (H:Hp) (Q:Bool->Hp->Prop):Prop where
 | mk (μ:Mu) (h:Gh) (σw:Sw) (Qw:Bool->Gh->Prop) (R:HS K μ H h) (S:Slots K H μ σw σ) (x:m σw h Qw) (k:∀b H',DB K H μ Qw b H'->Q b H'):tDT K m σ H Q
inductive tDA (K:Ax) (m:MA) (σ:St) (H:Hp) (Q:List V->Hp->Prop):Prop where
 | mk (μ:Mu) (h:Gh) (σw:Sw) (Qw:List W->Gh->Prop) (R:HS K μ H h) (S:Slots K H μ σw σ) (x:m σw h Qw) (k:∀vs H',DA K H μ Qw vs H'->Q vs H'):tDA K m σ H Q
inductive tDG (K:Ax) (g:MG) (v:V) (σ:St) (H:Hp) (N:St->Hp->Prop):Prop where
 | mk (μ:Mu) (h:Gh) (σw:Sw) (w:W) (Nw:Sw->Gh->Prop) (R:HS K μ H h) (S:Slots K H μ σw σ) (r:CR K H μ w v) (x:g w σw h Nw) (k:∀σ' H',DN K H μ Nw σ' H'->N σ' H'):tDG K g v σ H N
inductive afn (K:Ax) (g:RW) (vs:List V) (σ:St) (H:Hp) (N:St->Hp->Prop):Prop where
 | mk (μ:Mu) (h:Gh) (σw:Sw) (ws:List W) (Nw:Sw->Gh->Prop) (R:HS K μ H h) (S:Slots K H μ σw σ) (r:aY K H μ ws vs) (x:g ws σw h Nw) (k:∀σ' H',DN K H μ Nw σ' H'->N σ' H'):afn K g vs σ H N
structure yU (K:Ax) (H:Hp) (μ:Mu) (Dw:bK) (D:Ends):Prop where
 nx:∀σ' H',DN K H μ Dw.nx σ' H'->D.nx σ' H'
 rt:∀v H',DQ K H μ Dw.rt v H'->D.rt v H'
 bk:∀σ' H',DN K H μ Dw.bk σ' H'->D.bk σ' H'
 ct:∀σ' H',DN K H μ Dw.ct σ' H'->D.ct σ' H'
inductive tDS (K:Ax) (m:MS) (D:Ends) (σ:St) (H:Hp):Prop where
 | mk (μ:Mu) (h:Gh) (σw:Sw) (Dw:bK) (R:HS K μ H h) (S:Slots K H μ σw σ) (x:m Dw σw h) (k:yU K H μ Dw D):tDS K m D σ H
theorem yU.trans {K}{H H1 μ μ1 Dw}{D}(k:yU K H μ Dw D)(e:J4 K H μ H1 μ1):yU K H1 μ1 Dw D:=
 ⟨λ_ _ q=>k.nx _ _ (q.trans e),λ_ _ q=>k.rt _ _ (q.trans e),λ_ _ q=>k.bk _ _ (q.trans e),λ_ _ q=>k.ct _ _ (q.trans e)⟩
section
variable {X:Cx}{e:Expr}{es:List Expr}{st:Stmt}{sts:List Stmt}
theorem PE.of {t t'}(h:PE X e t)(k:∀σ H Q,t' σ H Q->t σ H Q):PE X e t':=λamx s σ H Q I q=>h amx s σ H Q I (k σ H Q q)
theorem PT.of {t t'}(h:PT X e t)(k:∀σ H Q,t' σ H Q->t σ H Q):PT X e t':=λamx s σ H Q I q=>h amx s σ H Q I (k σ H Q q)
theorem PW.of {t t':TT}(h:PW X e t)(k:∀σ H Q,t' σ H Q->t σ H Q):PW X e t':=λwh amx s σ H Q I q=>h wh amx s σ H Q I (k σ H Q q)
theorem PA.of {t t'}(h:PA X es t)(k:∀σ H Q,t' σ H Q->t σ H Q):PA X es t':=λpos amx s σ H Q I q=>h pos amx s σ H Q I (k σ H Q q)
theorem PG.of {t t'}(h:PG X e t)(k:∀v σ H Q,t' v σ H Q->t v σ H Q):PG X e t':=λamx s σ H v u Q I r q=>h amx s σ H v u Q I r (k v σ H Q q)
theorem Vr.of {t t'}(h:Vr X es t)(k:∀v σ H Q,t' v σ H Q->t v σ H Q):Vr X es t':=λamx s σ H v u Q I r q=>h amx s σ H v u Q I r (k v σ H Q q)
theorem PS.of {t t'}(h:PS X st t)(k:∀D σ H,t' D σ H->t D σ H):PS X st t':=λamx s σ H D I q=>h amx s σ H D I (k D σ H q)
theorem QC.of {t t'}(h:QC X sts t)(k:∀D σ H,t' D σ H->t D σ H):QC X sts t':=λamx s σ H D I q=>h amx s σ H D I (k D σ H q)
end
abbrev DE (X:Cx)(e:Expr)(m:ME):Prop:=PE X e (tD X.K m)
abbrev DT (X:Cx)(e:Expr)(m:MT):Prop:=PT X e (tDT X.K m)
abbrev DWt (X:Cx)(e:Expr)(m:MT):Prop:=PW X e (tDT X.K m)
abbrev LQ (X:Cx)(es:List Expr)(m:MA):Prop:=PA X es (tDA X.K m)
abbrev DG (X:Cx)(e:Expr)(m:MG):Prop:=PG X e (tDG X.K m)
abbrev adp (X:Cx)(es:List Expr)(m:RW):Prop:=Vr X es (afn X.K m)
abbrev DS (X:Cx)(st:Stmt)(m:MS):Prop:=PS X st (tDS X.K m)
abbrev Sh (X:Cx)(st:List Stmt)(m:MS):Prop:=QC X st (tDS X.K m)
section
variable {X:Cx}{e a b c:Expr}{ma mb mc:ME}{pos:Pos}
def ao (i:Nat):ME:=fun σ h Q=>match σ[i]? with
 | some (Dn w)=>Q w h
 | _=>False
def mC (w:W):ME:=λ_ h Q=>Q w h
theorem dv (i)(he:PE X e (ac1 i)):DE X e (ao i):=he.of fun σ H Q a=>by
 obtain⟨μ,h,σw,Qw,R,S,m,k⟩:=a;unfold ao at m;cases q:σw[i]? with
 | none=>rw[q]at m;exact m.elim
 | some o=>
  rw[q]at m;cases o with
  | none=>cases m
  | some w=>
   obtain⟨v,h1,h2⟩:=S.get i w q;exact⟨v,h1,k _ _ ⟨μ,w,h,.refl,R,h2,m⟩⟩
theorem dc {w v}(he:PE X e (tC v))(r:∀H μ,CR X.K H μ w v):DE X e (mC w):=he.of fun σ H Q ⟨μ,h,σw,Qw,R,S,m,k⟩=>k _ _ ⟨μ,w,h,.refl,R,r H μ,m⟩
theorem aq {i}{j pos}:DE X (.Constant (.int i) j pos) (mC (.int i)):=dc abq λ_ _=>by rw[CR]
theorem xM {i}{j pos}:DE X (.Constant (.bool i) j pos) (mC (.bl i)):=dc aeQ λ_ _=>by rw[CR]
theorem Yl {j pos}:DE X (.Constant .none j pos) (mC .non):=dc aa5 λ_ _=>by rw[CR]
theorem bC {i:Str}{j pos}:DE X (.Constant (.str i) j pos) (mC (.str i)):=dc T9 λ_ _=>by rw[CR]
abbrev M2:=W->W->Gh->WK->Prop
def Mk (r:M2)(ma mb:ME):ME:=fun σ h Q=>ma σ h λx h1=>mb σ h1 λy h2=>r x y h2 Q
def adl (K:Ax)(r:R2)(mr:M2):Prop:=∀{H:Hp}{μ:Mu}{h:Gh}{x y:V}{wx wy:W}{Qw:WK}{Q:VK},HS K μ H h->CR K H μ wx x->CR K H μ wy y->mr wx wy h Qw ->
 (∀v H',DQ K H μ Qw v H'->Q v H')->r x y H Q
theorem two {K σ H Q}{mr}{R2':V->V->Hp->Prop}(h:tD K (Mk mr ma mb) σ H Q)
  (k:∀{H2 μ2 h2 x y}{wx wy Qw},HS K μ2 H2 h2->CR K H2 μ2 wx x->CR K H2 μ2 wy y->mr wx wy h2 Qw->(∀v H',DQ K H2 μ2 Qw v H'->Q v H')->R2' x y H2) :
  tD K ma σ H λx H1=>tD K mb σ H1 λy H2=>R2' x y H2:=by
 obtain⟨μ,g,σw,Qw,R,S,m,q⟩:=h;exact⟨μ,g,σw,_,R,S,m,λx H1 ⟨μ1,wx,h1,e1,R1,r1,m1⟩=>⟨μ1,h1,σw,_,R1,S.ext e1,m1,λy H2 ⟨μ2,wy,h2,e2,R2,r2,m2⟩=>(k R2 (e2.r _ _ r1) r2 m2 λv H' z=>q _ _<|(z.trans e2).trans e1)⟩⟩
def Nz (X:Cx)(f:JI->JI->Sem JI)(mr:M2):Prop:=∃r,Kr X f r/\adl X.K r mr
theorem bB {op mr}(ho:Nz X (Q7 op) mr)(ha:DE X a ma)(hb:DE X b mb):DE X (.BinOp a op b pos) (Mk mr ma mb):=by
 obtain⟨r,o,s⟩:=ho;exact(adJ o ha hb).of fun σ H Q h=>two h λR r1 r2 m k=>s R r1 r2 m k
theorem adW {op mr}(ho:Nz X (ML op) mr)(ha:DE X a ma)(hb:DE X b mb)(hm:WY op b=false):DE X (.Compare a [op] [b] pos) (Mk mr ma mb):=by
 obtain⟨r,o,s⟩:=ho;exact(aln o ha hb hm).of fun σ H Q h=>two h λR r1 r2 m k=>s R r1 r2 m k
def aR (m:ME):MT:=fun σ h Q=>m σ h λw h1=>match w with
 | .bl c=>Q c h1
 | _=>False
theorem Pn {K σ H m}{Q}(h:tDT K (aR m) σ H Q):tD K m σ H λx H'=>∃k,x=.bl k/\Q k H':=by
 obtain⟨μ,g,σw,Qw,R,S,mm,q⟩:=h;refine⟨μ,g,σw,_,R,S,mm,λv H' a=>?_⟩;obtain⟨μ1,w,h1,e1,R1,r1,m1⟩:=a;cases w with
 | bl c=>rw[CR]at r1;exact⟨c,r1,q _ _ ⟨μ1,h1,e1,R1,m1⟩⟩
 | _=>exact m1.elim
theorem U3 {op mr}(ho:Nz X (ML op) mr)(ha:DE X a ma)(hb:DE X b mb)(hm:WY op b=false):DT X (.Compare a [op] [b] pos) (aR (Mk mr ma mb)):=by
 obtain⟨r,o,s⟩:=ho;exact(ajq o ha hb hm).of fun σ H Q h=>two (Pn h) λR r1 r2 m k=>s R r1 r2 m k
def JQ (c:Bool)(a b:Prop):Prop:=match c with
 | true=>a
 | false=>b
def br (c:Bool)(a b:Prop):Prop:=(c=true->a)/\(c=false->b)
theorem iU {c}{a b}(e:c=true)(x:a):br c a b:=⟨λ_=>x,λz=>by rw[e]at z;cases z⟩
theorem bM {c}{a b}(e:c=false)(x:b):br c a b:=⟨λz=>(by rw[e]at z;cases z),λ_=>x⟩
theorem yr {c}[Decidable c]{a b}(x:c->a)(y:¬c->b):br (decide c) a b:=⟨λe=>x (of_decide_eq_true e),λe=>y (of_decide_eq_false e)⟩
def abZ (t u:MT):MT:=fun σ h Q=>t σ h λc h1=>br c (u σ h1 Q) (Q false h1)
def QG (t u:MT):MT:=fun σ h Q=>t σ h λc h1=>br c (Q true h1) (u σ h1 Q)
def Az (t:MT):MT:=fun σ h Q=>t σ h λc h1=>Q (!c) h1
variable {tA tB':MT}{rest:List Expr}
theorem BK (ha:DT X a tA):DWt X (.BoolOp .And [a] pos) tA:=zbX ha
theorem fP (ha:DT X a tA):DWt X (.BoolOp .Or [a] pos) tA:=acg ha
theorem JD (ha:DT X a tA)(hb:DWt X (.BoolOp .And (b::rest) pos) tB'):DWt X (.BoolOp .And (a::b::rest) pos) (abZ tA tB'):=(acX ha hb).of fun σ H Q e=>by
 obtain⟨μ,g,σw,Qw,R,S,m,q⟩:=e;refine⟨μ,g,σw,_,R,S,m,λc H1 d=>?_⟩;obtain⟨μ1,h1,e1,R1,m1⟩:=d;cases c with
 | true=>
  exact⟨μ1,h1,σw,_,R1,S.ext e1,m1.1 rfl,λb H' z=>q _ _<|z.trans e1⟩
 | false=>
  exact q _ _ ⟨μ1,h1,e1,R1,m1.2 rfl⟩
theorem lG (ha:DT X a tA)(hb:DWt X (.BoolOp .Or (b::rest) pos) tB'):DWt X (.BoolOp .Or (a::b::rest) pos) (QG tA tB'):=(ae8 ha hb).of fun σ H Q e=>by
 obtain⟨μ,g,σw,Qw,R,S,m,q⟩:=e;refine⟨μ,g,σw,_,R,S,m,λc H1 d=>?_⟩;obtain⟨μ1,h1,e1,R1,m1⟩:=d;cases c with
 | true=>
  exact q _ _ ⟨μ1,h1,e1,R1,m1.1 rfl⟩
 | false=>
  exact⟨μ1,h1,σw,_,R1,S.ext e1,m1.2 rfl,λb H' z=>q _ _<|z.trans e1⟩
theorem gK (ha:DT X a tA):DT X (.UnaryOp .Not a pos) (Az tA):=(abB ha).of fun σ H Q ⟨μ,g,σw,Qw,R,S,m,q⟩=>
 ⟨μ,g,σw,_,R,S,m,λc H1 ⟨μ1,h1,e1,R1,m1⟩=>q _ _ ⟨μ1,h1,e1,R1,m1⟩⟩
def Bf (a b:ME):ME:=fun σ h Q=>a σ h λx h1=>match x with
 | .bl true=>b σ h1 Q
 | .bl false=>Q (.bl false) h1
 | _=>False
def adP (a b:ME):ME:=fun σ h Q=>a σ h λx h1=>match x with
 | .bl false=>b σ h1 Q
 | .bl true=>Q (.bl true) h1
 | _=>False
def Qz (a:ME):ME:=fun σ h Q=>a σ h λx h1=>match x with
 | .bl c=>Q (.bl (!c)) h1
 | _=>False
theorem Lg {op}(h:DE X a ma):DE X (.BoolOp op [a] pos) ma:=acS h
theorem R6 (ha:DE X a ma)(hb:DE X (.BoolOp .And (b::rest) pos) mb):DE X (.BoolOp .And (a::b::rest) pos) (Bf ma mb):=(aai ha hb).of fun σ H Q e=>by
 obtain⟨μ,g,σw,Qw,R,S,m,q⟩:=e;refine⟨μ,g,σw,_,R,S,m,λv H1 d=>?_⟩;obtain⟨μ1,w,h1,e1,R1,r1,m1⟩:=d;cases w with
 | bl c=>
  refine⟨c,r1,?_⟩;cases c with
  | true=>rw[if_pos rfl];exact⟨μ1,h1,σw,_,R1,S.ext e1,m1,λb H' z=>q _ _ (z.trans e1)⟩
  | false=>rw[if_neg QL];exact q _ _ ⟨μ1,.bl false,h1,e1,R1,by rw[CR],m1⟩
 | _=>exact m1.elim
theorem agl (ha:DE X a ma)(hb:DE X (.BoolOp .Or (b::rest) pos) mb):DE X (.BoolOp .Or (a::b::rest) pos) (adP ma mb):=(afd ha hb).of fun σ H Q e=>by
 obtain⟨μ,g,σw,Qw,R,S,m,q⟩:=e;refine⟨μ,g,σw,_,R,S,m,λv H1 d=>?_⟩;obtain⟨μ1,w,h1,e1,R1,r1,m1⟩:=d;cases w with
 | bl c=>
  refine⟨c,r1,?_⟩;cases c with
  | true=>rw[if_pos rfl];exact q _ _ ⟨μ1,.bl true,h1,e1,R1,by rw[CR],m1⟩
  | false=>rw[if_neg QL];exact⟨μ1,h1,σw,_,R1,S.ext e1,m1,λb H' z=>q _ _ (z.trans e1)⟩
 | _=>exact m1.elim
theorem abP (ha:DE X a ma):DE X (.UnaryOp .Not a pos) (Qz ma):=(aas ha).of fun σ H Q d=>by
 obtain⟨μ,g,σw,Qw,R,S,m,q⟩:=d;refine⟨μ,g,σw,_,R,S,m,λv H1 b=>?_⟩;obtain⟨μ1,w,h1,e1,R1,r1,m1⟩:=b;cases w with
 | bl c=>rw[CR]at r1;exact⟨c,r1,q _ _ ⟨μ1,.bl (!c),h1,e1,R1,by rw[CR],m1⟩⟩
 | _=>exact m1.elim
def mIf (t:MT)(a b:ME):ME:=fun σ h Q=>t σ h λc h1=>br c (a σ h1 Q) (b σ h1 Q)
theorem afB (hc:DT X c tA)(ha:DE X a ma)(hb:DE X b mb):DE X (.IfExp c a b pos) (mIf tA ma mb):=(aht hc ha hb).of fun σ H Q e=>by
 obtain⟨μ,g,σw,Qw,R,S,m,q⟩:=e;refine⟨μ,g,σw,_,R,S,m,λc H1 d=>?_⟩;obtain⟨μ1,h1,e1,R1,m1⟩:=d;cases c with
 | true=>
  exact⟨μ1,h1,σw,_,R1,S.ext e1,m1.1 rfl,λb H' z=>q _ _<|z.trans e1⟩
 | false=>
  exact⟨μ1,h1,σw,_,R1,S.ext e1,m1.2 rfl,λb H' z=>q _ _<|z.trans e1⟩
def mUn (r:W->Gh->WK->Prop)(a:ME):ME:=fun σ h Q=>a σ h λx h1=>r x h1 Q
def Zz:W->Gh->WK->Prop:=λx h Q=>match x with
 | .int i=>Q (.int (-i)) h
 | _=>False
theorem QK (ha:DE X a ma):DE X (.UnaryOp .USub a pos) (mUn Zz ma):=(aeM abV ha).of fun σ H Q c=>by
 obtain⟨μ,g,σw,Qw,R,S,m,q⟩:=c;refine⟨μ,g,σw,_,R,S,m,λv H1 b=>?_⟩;obtain⟨μ1,w,h1,e1,R1,r1,m1⟩:=b;cases w with
 | int i=>rw[CR]at r1;exact⟨i,r1,q _ _ ⟨μ1,.int (-i),h1,e1,R1,by rw[CR],m1⟩⟩
 | _=>exact m1.elim
def aG:MA:=λ_ h Q=>Q [] h
def aj (a:ME)(r:MA):MA:=fun σ h Q=>a σ h λx h1=>r σ h1 λxs h2=>Q (x::xs) h2
variable {es:List Expr}{mr:MA}
theorem d8:LQ X [] aG:=tZ.of fun σ H Q ⟨μ,g,σw,Qw,R,S,m,q⟩=>q _ _ ⟨μ,[],g,.refl,R,.nil,m⟩
theorem fX (ha:DE X e ma)(hr:LQ X es mr)(hs:HJ (e::es) X.env=(false,eval e X.env)::HJ es X.env:=by rfl):LQ X (e::es) (aj ma mr):=(gY ha hr hs).of fun σ H Q ⟨μ,g,σw,Qw,R,S,m,q⟩=>⟨μ,g,σw,_,R,S,m,λv H1 ⟨μ1,w,h1,e1,R1,r1,m1⟩=>⟨μ1,h1,σw,_,R1,S.ext e1,m1,λvs H2 ⟨μ2,ws,h2,e2,R2,r2,m2⟩=>(q _ _ ⟨μ2,w::ws,h2,e1.trans e2,R2,.cons (e2.r _ _ r1) r2,m2⟩)⟩⟩
def gG (n:Nat)(P:Prop):Prop:=JQ (Nat.ble n 1000) P (n<=Il/\P)
theorem gG.ok {n}{P}(h:gG n P):n<=Il/\P:=by
 unfold gG at h;cases e:Nat.ble n 1000 with
 | true=>rw[e]at h;exact⟨Ja (QB e) (by decide),h⟩
 | false=>rw[e]at h;exact h
theorem gG.mk {n}{P}(hn:n<=Il)(h:P):gG n P:=by
 unfold gG;cases e:Nat.ble n 1000 with
 | true=>exact h
 | false=>exact⟨hn,h⟩
def tX (t:MA):ME:=fun σ h Q=>t σ h λws h1=>gG ws.length (Q (.tup ws) h1)
def pP (t:MA):ME:=fun σ h Q=>t σ h λws h1=>gG ws.length (Q (.lst ws) h1)
def pH (t:MA):ME:=fun σ h Q=>t σ h λws h1=>gG ws.length (Q (.loc h1.nx) (h1.new (.lst ws)))
theorem jM {x1}(h:LQ X es mr):DE X (.Tuple es x1 pos) (tX mr):=(acR h).of fun σ H Q ⟨μ,g,σw,Qw,R,S,m,q⟩=>
 ⟨μ,g,σw,_,R,S,m,λvs H1 ⟨μ1,ws,h1,e1,R1,r1,sz⟩=>⟨r1.len ▸ sz.ok.1,λp hp=>q _ _ ⟨μ1,.tup ws,h1,e1.trans (Ex.laid hp).ext,R1.laid hp,.tupNew hp r1,sz.ok.2⟩⟩⟩
theorem fH (h:LQ X es mr):DE X (.List es pos) (pP mr):=(U4 h).of fun σ H Q ⟨μ,g,σw,Qw,R,S,m,q⟩=>
 ⟨μ,g,σw,_,R,S,m,λvs H1 ⟨μ1,ws,h1,e1,R1,r1,sz⟩=>⟨r1.len ▸ sz.ok.1,λp hp=>q _ _ ⟨μ1,.lst ws,h1,e1.trans (Ex.laid hp).ext,R1.laid hp,.lstNew R1 hp r1,sz.ok.2⟩⟩⟩
theorem Uz {K H h}{p}{xs}(R:HS K μ H h)(hp:H p=Go)(r:aY K H μ ws xs):
  HS K (μ.put h.nx p) (HW H p (.lst xs)) (h.new (.lst ws)):=R.newCell hp trivial ⟨xs,aV,(Ex.newCell R hp).ext.s r⟩
theorem pF (h:LQ X es mr):DE X (.List es pos) (pH mr):=(U4 h).of fun σ H Q ⟨μ,g,σw,Qw,R,S,m,q⟩=>
 ⟨μ,g,σw,_,R,S,m,λvs H1 ⟨μ1,ws,h1,e1,R1,r1,sz⟩=>⟨r1.len ▸ sz.ok.1,λp hp=>q _ _ ⟨μ1.put _ p,.loc _,h1.new _,e1.trans (Ex.newCell R1 hp).ext,Uz R1 hp r1,⟨p,rfl,Mu.put_same⟩,sz.ok.2⟩⟩⟩
inductive lift (K:Ax) (ms:Ah) (vs:List V) (H:Hp) (Q:VK) (E:XK):Prop where
 | mk (μ:Mu) (h:Gh) (ws:List W) (Qw:WK) (R:HS K μ H h) (r:aY K H μ ws vs) (x:ms ws h Qw EF) (k:∀v H',DQ K H μ Qw v H'->Q v H'):lift K ms vs H Q E
def aF (ms:Ah)(E:Ce)(ma:MA):ME:=fun σ h Q=>ma σ h λws h1=>ms ws h1 Q E
theorem call_of {K σ H Q E}{ms ma}(h:tD K (aF ms EF ma) σ H Q):W6 (lift K ms) [] E (tDA K ma) σ H Q:=by
 obtain⟨μ,g,σw,Qw,R,S,m,q⟩:=h;refine⟨μ,g,σw,_,R,S,m,λvs H1 a=>?_⟩;obtain⟨μ1,ws,h1,e1,R1,r1,m1⟩:=a;rw[Xm];exact⟨μ1,h1,ws,Qw,R1,r1,m1,λv H' z=>q _ _<|z.trans e1⟩
theorem abo {k}{f fd}{ps ms x p}(F:jB X.prog X.w X.K X.mg X.base O9 k f fd ps (lift X.K ms))(hr:gq k X.A)(hg:Gl X x)(hm:X.mg x=Dn (.ref f))(hk:Qm X.K (.ref f)=true)
  (hb:Binds X.K fd ps []) (ha:LQ X (e::es) mr) (hdb:(x==("__debug__" : Str))=false:=by decide) (he:HJ (e::es) X.env=(false,eval e X.env)::HJ es X.env:=by rfl) (hpl:(Ka pos (HJ es X.env)).any (·.1)=false:=by rfl) :
  DE X (.Call (.Name x p) (e::es) [] pos) (aF ms EF mr):=(akY F hr hg hm hk hb .nil XM ha hdb he hpl).of λ_ _ _ h=>call_of h
theorem aiz {k:Nat}{f:Addr}{fd:Ms}{ps:List Str}{ms:Ah}{x:Str}{p:Pos}(F:jB X.prog X.w X.K X.mg X.base O9 k f fd ps (lift X.K ms))(hr:gq k X.A)(hg:Gl X x)(hm:X.mg x=Dn (.ref f))(hk:Qm X.K (.ref f)=true)
  (hb:Binds X.K fd ps []) (hdb:(x==("__debug__" : Str))=false:=by decide):DE X (.Call (.Name x p) [] [] pos) (aF ms EF aG):=(aiV F hr hg hm hk hb .nil XM hdb).of fun σ H Q ⟨μ,g,σw,Qw,R,S,m,q⟩=>
 ⟨μ,g,[],Qw,R,.nil,m,q⟩
def adF (h:Gh)(w:W):Option Bool:=match w with
 | .non=>Dn false
 | .bl b=>Dn b
 | .int i=>Dn (i != 0)
 | .tup ws=>Dn (!ws.isEmpty)
 | .lst ws=>Dn (!ws.isEmpty)
 | .kls ws=>Dn (!ws.isEmpty)
 | .loc n=>(match h.c n with
  | some (.lst ws)=>Dn (!ws.isEmpty)
  | _=>Go)
 | _=>Go
def uD (m:ME):MT:=fun σ h Q=>m σ h λw h1=>match adF h1 w with
 | some b=>Q b h1
 | none=>False
theorem aY.emp {K H}{xs}(r:aY K H μ ws xs):ws.isEmpty=xs.isEmpty:=by
 have:=r.len
 cases ws<;>cases xs<;>first|rfl|cases this
theorem dh (he:DE X e ma)(h:∀whole,isTrue e X.env whole=(do let v <-whole;standAt e.pos;VB [v] (truthy v)):=by intro _;rfl):DT X e (uD ma):=(zbz he h).of fun σ H Q d=>by
 obtain⟨μ,g,σw,Qw,R,S,m,q⟩:=d;refine⟨μ,g,σw,_,R,S,m,λv H1 a=>?_⟩;obtain⟨μ1,w,h1,e1,R1,r1,m1⟩:=a;split at m1
 rename_i b eb;refine⟨b,?_,q _ _ ⟨μ1,h1,e1,R1,m1⟩⟩;cases w with
 | non|bl c|int c=>rw[CR]at r1;subst r1;cases eb;rfl
 | tup ws=>
  obtain⟨p,xs,ev,hs,rs⟩:=r1;subst ev;cases eb;exact .inr<|.inl ⟨xs,hs,by rw[rs.emp]⟩
 | lst ws|kls ws=>
  obtain⟨p,xs,ev,hs,rs⟩:=r1;subst ev;cases eb;exact .inl ⟨xs,hs.sq,by rw[rs.emp]⟩
 | loc n=>
  obtain⟨p,ev,hm⟩:=r1;subst ev;unfold adF at eb;dsimp only at eb;cases ec:h1.c n with
  | none=>rw[ec]at eb;cases eb
  | some cl=>
   rw[ec]at eb;cases cl with
   | lst ws=>
    cases eb;obtain⟨p',hm',xs,hx,rs⟩:=R1.cel n _ ec;cases by rw[hm]at hm';exact(Lr hm').symm
    exact .inl ⟨xs,.of hx,by rw[rs.emp]⟩
   | _=>cases eb
 | _=>cases eb
 cases m1
abbrev MC:=List W->Gh->WK->Prop
def Io (r:MC)(ma:MA):ME:=fun σ h Q=>ma σ h λws h1=>r ws h1 Q
def afW (K:Ax)(r:List V->Hp->VK->Prop)(mr:MC):Prop:=∀{H:Hp}{μ:Mu}{h:Gh}{vs:List V}{ws:List W}{Qw:WK}{Q:VK},HS K μ H h->aY K H μ ws vs->mr ws h Qw->(∀v H',DQ K H μ Qw v H'->Q v H')->r vs H Q
def jO (X:Cx)(f:JI)(mr:MC):Prop:=∃r,iV X f r/\afW X.K r mr
theorem acu {K σ H Q}{r mc ma}(s:afW K r mc)(h:tD K (Io mc ma) σ H Q):tCB r (tDA K ma) σ H Q:=by
 obtain⟨μ,g,σw,Qw,R,S,m,q⟩:=h;exact⟨μ,g,σw,_,R,S,m,λvs H1 ⟨μ1,ws,h1,e1,R1,r1,m1⟩=>s R1 r1 m1 λv H' z=>q _ _<|z.trans e1⟩
theorem aiy {x p}{id mc}(hc:jO X (.builtin id) mc)(hg:Gl X x)(hm:X.mg x=Go)(hv:VR x=Dn (.builtin id))(ha:LQ X (e::es) mr)(hn:x ≠ "__name__":=by decide)(hdb:(x==("__debug__" : Str))=false:=by decide)
  (he:HJ (e::es) X.env=(false,eval e X.env)::HJ es X.env:=by rfl) (hpl:(Ka pos (HJ es X.env)).any (·.1)=false:=by rfl):DE X (.Call (.Name x p) (e::es) [] pos) (Io mc mr):=by
 obtain⟨r,c,s⟩:=hc;exact(pU c hg hm hv ha hn hdb he hpl).of λ_ _ _ h=>acu s h
theorem aia {x p}{T mc}(hc:jO X (.type T) mc)(hg:Gl X x)(hm:X.mg x=Go)(hv:VR x=Dn (.type T))(ha:LQ X (e::es) mr)(hn:x ≠ "__name__":=by decide)(hdb:(x==("__debug__" : Str))=false:=by decide)
  (he:HJ (e::es) X.env=(false,eval e X.env)::HJ es X.env:=by rfl) (hpl:(Ka pos (HJ es X.env)).any (·.1)=false:=by rfl):DE X (.Call (.Name x p) (e::es) [] pos) (Io mc mr):=by
 obtain⟨r,c,s⟩:=hc;exact(qX c hg hm hv ha hn hdb he hpl).of λ_ _ _ h=>acu s h
end
variable {mr:MA}{ma:ME}{ms:Ah}
section
variable {X:Cx}{e a b c tg:Expr}{mb mc:ME}{pos:Pos}{es:List Expr}
def kI (i:Nat):MG:=λw σ h N=>N (σ.set i (Dn w)) h
theorem BZ {i}(hg:PG X e (Lq i)):DG X e (kI i):=hg.of λv σ H N ⟨μ,h,σw,w,Nw,R,S,r,m,k⟩=>k _ _ ⟨μ,σw.set i _,h,.refl,R,S.set r i,m⟩
def Zy:RW:=λws σ h N=>match ws with
 | []=>N σ h
 | _=>False
def jK (g:MG)(r:RW):RW:=λws σ h N=>match ws with
 | w::ws'=>g w σ h fun σ1 h1=>r ws' σ1 h1 N
 | []=>False
theorem vG:adp X [] Zy:=J5.of λvs σ H N a=>by
 obtain⟨μ,h,σw,ws,Nw,R,S,r,m,k⟩:=a;cases ws with
 | nil=>rw[aY]at r;exact⟨r,k _ _ ⟨μ,σw,h,.refl,R,S,m⟩⟩
 | cons w ws=>cases m
theorem cB {g u}(h1:DG X e g)(h2:adp X es u)(hs:(OJ (e::es) X.env).map (·.2)=assign e X.env::(OJ es X.env).map (·.2):=by rfl):adp X (e::es) (jK g u):=(vC h1 h2 hs).of λvs σ H N a=>by
 obtain⟨μ,h,σw,ws,Nw,R,S,r,m,k⟩:=a;cases ws with
 | nil=>cases m
 | cons w ws=>
  obtain⟨v,vr,ev,r1,r2⟩:=r;exact⟨v,vr,ev,μ,h,σw,w,_,R,S,r1,m,fun σ1 H1 ⟨μ1,σw1,h1,e1,R1,S1,m1⟩=>⟨μ1,h1,σw1,ws,_,R1,S1,e1.s r2,m1,fun σ2 H2 z=>k _ _<|z.trans e1⟩⟩
def afP (n:Nat)(g:RW):MG:=λw σ h N=>match w with
 | .tup ws=>JQ (Qe ws.length n) (g ws σ h N) False
 | _=>False
abbrev ZC:=W->W->W->Gh->(Gh->Prop)->Prop
def K3 (K:Ax)(t:Zt)(ms:ZC):Prop:=∀{H:Hp}{μ:Mu}{h:Gh}{o i v:V}{wo wi w:W}{Nw:Gh->Prop}{N:Hp->Prop},HS K μ H h->CR K H μ wo o->CR K H μ wi i->CR K H μ w v->ms wo wi w h Nw ->
 (∀H',(∃μ' h',J4 K H μ H' μ'/\HS K μ' H' h'/\Nw h')->N H')->t o i v H N
def Py (mo mi:ME)(ms:ZC):MG:=λw σ h N=>mo σ h λo h1=>mi σ h1 λi h2=>ms o i w h2 λh3=>N σ h3
theorem pD {o i mo mi t}{ms}(ho:DE X o mo)(hi:DE X i mi)(hs:adq X t)(hm:K3 X.K t ms)
  (ha:∀v,assign (.Subscript o i pos) X.env v=(do
   let ov <-VB [v] (eval o X.env)
   let iv <-VB [v,ov] (eval i X.env)
   standAt pos
   VB [v,ov,iv] (setItem ov iv v)
   release [v,ov,iv] []):=by intro _;rfl):DG X (.Subscript o i pos) (Py mo mi ms):=
 (aaf ho hi hs ha).of λv σ H N c=>by
  obtain⟨μ,h,σw,w,Nw,R,S,r,m,k⟩:=c;refine⟨μ,h,σw,_,R,S,m,λo H1 a=>?_⟩;obtain⟨μ1,wo,h1,e1,R1,r1,m1⟩:=a;refine⟨μ1,h1,σw,_,R1,S.ext e1,m1,λi H2 b=>?_⟩;obtain⟨μ2,wi,h2,e2,R2,r2,m2⟩:=b;exact hm R2 (e2.r _ _ r1) r2 (e2.r _ _<|e1.r _ _ r) m2 λH3 ⟨μ3,h3,e3,R3,m3⟩=>(k _ _ ⟨μ3,σw,h3,(e1.trans e2).trans e3,R3,S.ext<|(e1.trans e2).trans e3,m3⟩)
def Ir:ZC:=λo i w h N=>match o,i with
 | .loc n,.int k=>(match h.c n with
  | some (.lst ws)=>(match Qi ws.length k with
   | some j=>N (h.set n (.lst (ws.set j w)))
   | none=>False)
  | _=>False)
 | _,_=>False
theorem HS.lstAt {K H h}{n}(R:HS K μ H h)(e:h.c n=Dn (.lst ws)):∃p xs,μ.f n=Dn p/\H p=Dn (.lst xs)/\aY K H μ ws xs:=by
 obtain⟨p,e1,xs,e2,r⟩:=R.cel n _ e;simp_all
theorem xG {K}:K3 K abX Ir:=by
 intro H μ h o i v wo wi w Nw N R ro ri r m k;cases wo with
 | loc n=>
  cases wi with
  | int z=>
   obtain⟨p,eo,hp⟩:=ro;unfold Ir at m;dsimp only at m;cases ec:h.c n with
   | none=>rw[ec]at m;cases m
   | some cl=>
    rw[ec]at m;cases cl with
    | lst ws=>
     dsimp only at m;obtain⟨p',xs,hp',hx,rs⟩:=R.lstAt ec;obtain rfl:=by rw[hp]at hp';exact(Lr hp').symm
     cases ej:Qi _ z with
     | none=>rw[ej]at m;exact m.elim
     | some j=>
      rw[ej]at m;refine⟨p',xs,z,j,eo,ri,hx,rs.len ▸ ej,k _ ⟨μ,_,(Ex.write R hp).ext,R.write hp trivial ?_,m⟩⟩;exact⟨_,aV,aY.set ((Ex.write R hp).ext.r _ _ r) j<|(Ex.write R hp).ext.s rs⟩
    | _=>cases m
  | _=>exact m.elim
 | _=>exact m.elim
variable {st:Stmt}{rest body:List Stmt}{m1 m2:MS}{t:MT}
def bD:MS:=λD σ h=>D.nx σ h
def aX (m u:MS):MS:=λD σ h=>m {D with nx:=u D} σ h
theorem aU:Sh X [] bD:=ali.of λD σ H ⟨μ,h,σw,Dw,R,S,m,k⟩=>k.nx _ _ ⟨μ,σw,h,.refl,R,S,m⟩
theorem aD (h1:DS X st m1):Sh X [st] m1:=Bm h1
theorem au (h1:DS X st m1)(h2:Sh X rest m2):Sh X (st::rest) (aX m1 m2):=(Ed h1 h2).of λD σ H a=>by
 obtain⟨μ,h,σw,Dw,R,S,m,k⟩:=a;refine⟨μ,h,σw,_,R,S,m,?_,k.rt,k.bk,k.ct⟩;rintro σ' H' ⟨μ1,σw1,h1,e1,R1,S1,m1⟩;exact⟨μ1,h1,σw1,Dw,R1,S1,m1,k.trans e1⟩
def nG (m:ME):MS:=λD σ h=>m σ h λ_ h1=>D.nx σ h1
theorem jg (he:DE X e ma)(hs:Vv e Go pos.line X.env=pure false:=by rfl):DS X (.Expr e pos) (nG ma):=(ajU he hs).of λD σ H ⟨μ,h,σw,Dw,R,S,m,k⟩=>
 ⟨μ,h,σw,_,R,S,m,λv H1 ⟨μ1,w,h1,e1,R1,_,m1⟩=>k.nx _ _ ⟨μ1,σw,h1,e1,R1,S.ext e1,m1⟩⟩
def bJ (m:ME):MS:=λD σ h=>m σ h D.rt
theorem aH (he:DE X e ma):DS X (.Return (Dn e) pos) (bJ ma):=(U0 he).of λD σ H ⟨μ,h,σw,Dw,R,S,m,k⟩=>⟨μ,h,σw,_,R,S,m,k.rt⟩
def cT (t:MT)(a b:MS):MS:=λD σ h=>t σ h λc h1=>br c (a D σ h1) (b D σ h1)
theorem cA {a b}(hc:DT X c t)(ha:Sh X a m1)(hb:Sh X b m2):DS X (.If c a b pos) (cT t m1 m2):=(aaN hc ha hb).of λD σ H e=>by
 obtain⟨μ,h,σw,Dw,R,S,m,k⟩:=e;refine⟨μ,h,σw,_,R,S,m,λb H1 d=>?_⟩;obtain⟨μ1,h1,e1,R1,q⟩:=d;cases b with
 | true=>rw[if_pos rfl];exact⟨μ1,h1,σw,Dw,R1,S.ext e1,q.1 rfl,k.trans e1⟩
 | false=>rw[if_neg QL];exact⟨μ1,h1,σw,Dw,R1,S.ext e1,q.2 rfl,k.trans e1⟩
def jQ (x:Str)(E:Ce):MS:=λ_ _ h=>E ⟨x,[]⟩ h
def bI (m:ME)(g:MG):MS:=λD σ h=>m σ h λw h1=>g w σ h1 D.nx
theorem abN {K σ H}{D m g}(q:tDS K (bI m g) D σ H):aac (tD K m) (tDG K g) D σ H:=by
 obtain⟨μ,h,σw,Dw,R,S,m,k⟩:=q;exact⟨μ,h,σw,_,R,S,m,λv H1 ⟨μ1,w,h1,e1,R1,r1,m1⟩=>⟨μ1,h1,σw,w,_,R1,S.ext e1,r1,m1,fun σ' H' z=>k.nx _ _<|z.trans e1⟩⟩
theorem jr {g}(he:DE X e ma)(hg:DG X tg g)(hs:swapsWithSole [tg] e pos.line X.env=pure false:=by rfl)(hw:swappedStores [tg] e X.env=pure Go:=by rfl)
  (h1:(OJ [tg] X.env).map (·.2)=[assign tg X.env]:=by rfl):DS X (.Assign [tg] e pos) (bI ma g):=(abe he hg hs hw h1).of λ_ _ _ q=>abN q
theorem Ub {K σ H}{D m t}{i}(ht:∀σ H Q,tD K m σ H Q->t σ H Q)(q:tDS K (bI m (kI i)) D σ H):aac t (Lq i) D σ H:=by
 obtain⟨μ,h,σw,Dw,R,S,m,k⟩:=q;exact ht _ _ _ ⟨μ,h,σw,_,R,S,m,λv H1 ⟨μ1,w,h1,e1,R1,r1,m1⟩=>k.nx _ _ ⟨μ1,σw.set i _,h1,e1,R1,(S.ext e1).set r1 i,m1⟩⟩
theorem Lx {i x}{pos'}(hN:X.N.Nodup)(hi:X.N[i]?=Dn x)(hx:Loc X.env.scope x)(he:DE X e ma)(hs:Vv e (Dn (.Name x pos')) pos.line X.env=pure false:=by rfl)
  (hf:X.fn x=true\/X.env.scope.names.lookup x=Dn .local:=by first|exact .inl rfl|exact .inr rfl|assumption) :
  DS X (.Assign [.Name x pos'] e pos) (bI ma (kI i)):=(Vg hN hi hx he hs hf).of λ_ _ _ q=>Ub (λ_ _ _ z=>z) q
def afz (i j:Nat)(ta:MA):MS:=λD σ h=>ta σ h λws h1=>match ws with
 | [v,w]=>D.nx ((σ.set i (Dn v)).set j (Dn w)) h1
 | _=>False
theorem zaU {i j ta}(hp:PS X st (afu i j (tDA X.K ta))):DS X st (afz i j ta):=hp.of λD σ H b=>by
 obtain⟨μ,h,σw,Dw,R,S,m,k⟩:=b;refine⟨μ,h,σw,_,R,S,m,λvs H1 a=>?_⟩;obtain⟨μ1,ws,h1,e1,R1,r1,m1⟩:=a;split at m1
 obtain⟨v,vr,ev,ra,r2⟩:=r1;obtain⟨v',vr',ev',rb,r3⟩:=r2;subst r3 ev' ev;exact⟨v,v',rfl,k.nx _ _ ⟨μ1,_,h1,e1,R1,((S.ext e1).set ra i).set rb j,m1⟩⟩;cases m1
def Eu (t:MT)(b:MS):MS:=λD σ h=>∃Wm:Nat->Sw->Gh->Prop,(∃m,Wm m σ h)/\∀m σ h,Wm m σ h ->
 t σ h λc h1=>br c (b {D with nx:=fun σ' h'=>∃m',m'<m/\Wm m' σ' h',ct:=fun σ' h'=>∃m',m'<m/\Wm m' σ' h',bk:=D.nx} σ h1) (D.nx σ h1)
theorem vd {body pos}(hp:Yb (CG X.prog X.w) X.A X.env X.xe)(hc:DT X c t)(hb:Sh X body m1):DS X (.While c body [] pos) (Eu t m1):=(alh hp hc hb).of λD σ H d=>by
 obtain⟨μ,h,σw,Dw,R,S,m,k⟩:=d;obtain⟨Wm,⟨m0,w0⟩,turn⟩:=m;refine⟨λn σ' H'=>DN _ H μ (Wm n) σ' H',⟨m0,μ,σw,h,.refl,R,S,w0⟩,λn σ1 H1 ⟨μ1,σw1,h1,e1,R1,S1,w1⟩=>⟨μ1,h1,σw1,_,R1,S1,turn n σw1 h1 w1,λb H2 a=>?_⟩⟩;obtain⟨μ2,h2,e2,R2,q⟩:=a;have e12:=e1.trans e2;cases b with
 | true=>
  refine⟨fun σ' H'=>∃m',m'<n/\DN _ H μ _ σ' H',λ_ _ z=>z,μ2,h2,σw1,_,R2,S1.ext e2,q.1 rfl,?_⟩;have again:∀(σ':St) (H':Hp),DN _ H2 μ2 (fun σ' h'=>∃m',m'<n/\Wm m' σ' h') σ' H'->∃m',m'<n/\DN _ H μ _ σ' H':=fun σ' H' ⟨μ3,σw3,h3,e3,R3,S3,m',hm,w3⟩=>
   ⟨m',hm,μ3,σw3,h3,e12.trans e3,R3,S3,w3⟩
  exact⟨again,λv H' z=>k.rt _ _<|z.trans e12,fun σ' H' z=>k.nx _ _<|z.trans e12,again⟩
 | false=>
  exact k.nx _ _ ⟨μ2,σw1,h2,e12,R2,S1.ext e2,q.2 rfl⟩
structure Src where
 ws:List W
 cell:Option (Nat×List W)
def Src.chk (s:Src)(h:Gh):Prop:=match s.cell with
 | none=>True
 | some n=>h.c n.1=Dn (.lst n.2)
abbrev MI:=Sw->Gh->(Src->Gh->Prop)->Prop
def Zu (K:Ax)(J:It)(src:Src)(H:Hp)(μ:Mu):Prop:=∀{H2:Hp}{μ2:Mu}{h2:Gh}{i:Nat},J4 K H μ H2 μ2->HS K μ2 H2 h2->src.chk h2 ->
 (∀w,src.ws[i]?=Dn w->J.go i H2/\∀x H3,J.yld i H2 x H3->∃μ3,J4 K H2 μ2 H3 μ3/\HS K μ3 H3 h2/\CR K H3 μ3 w x)/\(src.ws.length<=i->J.stop i H2)
inductive DI (K:Ax) (H:Hp) (μ:Mu) (Rw:Src->Gh->Prop) (J:It) (H':Hp):Prop where
 | mk (μ':Mu) (src:Src) (h':Gh) (e:J4 K H μ H' μ') (R:HS K μ' H' h') (o:Zu K J src H' μ') (q:Rw src h'):DI K H μ Rw J H'
inductive tDI (K:Ax) (mi:MI) (σ:St) (H:Hp) (R:It->Hp->Prop):Prop where
 | mk (μ:Mu) (h:Gh) (σw:Sw) (Rw:Src->Gh->Prop) (q:HS K μ H h) (S:Slots K H μ σw σ) (x:mi σw h Rw) (k:∀J H',DI K H μ Rw J H'->R J H'):tDI K mi σ H R
abbrev RX (X:Cx)(tg iter:Expr)(mi:MI):Prop:=PI X tg iter (tDI X.K mi)
theorem PI.of {iter t t'}(h:PI X tg iter t)(k:∀σ H R,t' σ H R->t σ H R):PI X tg iter t':=λamx s σ H R I q=>h amx s σ H R I (k σ H R q)
def dU (h:Gh):W->Option (List W)
 | .lst ws=>Dn ws
 | .kls ws=>Dn ws
 | .loc n=>(match h.c n with
  | some (.lst ws)=>Dn ws
  | _=>Go)
 | _=>Go
def view (h:Gh):W->Option (List W)
 | .tup ws=>Dn ws
 | .lst ws=>Dn ws
 | .kls ws=>Dn ws
 | .loc n=>dU h (.loc n)
 | _=>Go
def Ag (h:Gh):W->Option Src
 | .tup ws=>Dn ⟨ws,Go⟩
 | .lst ws=>Dn ⟨ws,Go⟩
 | .kls ws=>Dn ⟨ws,Go⟩
 | .loc n=>(match h.c n with
  | some (.lst ws)=>Dn ⟨ws,Dn (n,ws)⟩
  | _=>Go)
 | _=>Go
theorem aja {K H}{p}(r:CR K H μ (.lst ws) (.ref p)):Zu K (Itl K p) ⟨ws,Go⟩ H μ:=by
 intro H2 μ2 h2 i e R2 _;obtain⟨q,xs,eq,hf,rs⟩:=(e.r _ _ r)
 cases eq;refine⟨λw ew=>?_,λhl=>⟨xs,hf.sq,rs.len ▸ hl⟩⟩;obtain⟨v,ev,rv⟩:=rs.get ew;refine⟨⟨xs,v,hf.sq,ev⟩,λx H3 a=>?_⟩;obtain⟨e3,y⟩:=a;subst e3;have:=y xs hf.sq
 rw[ev]at this;cases this;exact⟨μ2,.refl,R2,rv⟩
theorem aiS {K:Ax}{H:Hp}{p:Addr}(r:CR K H μ (.kls ws) (.ref p)):Zu K (Itl K p) ⟨ws,Go⟩ H μ:=by
 intro H2 μ2 h2 i e R2 _;obtain⟨q,xs,eq,hf,rs⟩:=(e.r _ _ r)
 cases eq;refine⟨λw ew=>?_,λhl=>⟨xs,hf.sq,rs.len ▸ hl⟩⟩;obtain⟨v,ev,rv⟩:=rs.get ew;refine⟨⟨xs,v,hf.sq,ev⟩,λx H3 a=>?_⟩;obtain⟨e3,y⟩:=a;subst e3;have:=y xs hf.sq
 rw[ev]at this;cases this;exact⟨μ2,.refl,R2,rv⟩
theorem aif {K H}{p n}(r:CR K H μ (.loc n) (.ref p)):Zu K (Itl K p) ⟨ws,Dn (n,ws)⟩ H μ:=by
 intro H2 μ2 h2 i e R2 ck;obtain⟨q,eq,hm⟩:=(e.r _ _ r)
 cases eq;obtain⟨p',xs,hm',hx,rs⟩:=R2.lstAt ck;obtain rfl:=by rw[hm]at hm';exact(Lr hm').symm
 refine⟨λw ew=>?_,λhl=>⟨xs,.of hx,rs.len ▸ hl⟩⟩;obtain⟨v,ev,rv⟩:=rs.get ew;refine⟨⟨xs,v,.of hx,ev⟩,λx H3 a=>?_⟩;obtain⟨e3,y⟩:=a;subst e3;have:=y xs (.of hx)
 rw[ev]at this;cases this;exact⟨μ2,.refl,R2,rv⟩
theorem akq {K H}{p}(r:CR K H μ (.tup ws) (.ref p)):Zu K (Itt K p) ⟨ws,Go⟩ H μ:=by
 intro H2 μ2 h2 i e R2 _;obtain⟨q,xs,eq,hf,rs⟩:=(e.r _ _ r)
 cases eq;refine⟨λw ew=>?_,λhl=>⟨xs,hf,rs.len ▸ hl⟩⟩;obtain⟨v,ev,rv⟩:=rs.get ew;refine⟨⟨xs,v,hf,ev⟩,λx H3 a=>?_⟩;obtain⟨e3,y⟩:=a;subst e3;have:=y xs hf
 rw[ev]at this;cases this;exact⟨μ2,.refl,R2,rv⟩
def ags (K:Ax)(tl:TE):TI:=fun σ H R=>tl σ H λx H1=>(∃a,x=.ref a/\(∃xs,Jb K H1 a xs)/\R (Itl K a) H1)\/(∃a,x=.ref a/\(∃xs,Jt K H1 a xs)/\R (Itt K a) H1)
theorem aaD {l tl}(hl:PE X l tl):PI X tg l (ags X.K tl):=by
 intro amx s σ H R I h;refine Hj (hl amx s σ H _ I h) λv s1 c=>?_;obtain⟨x,H1,I1,r1,q1⟩:=c;rcases q1 with⟨a,e,⟨xs,hq⟩,q⟩|⟨a,e,⟨xs,hq⟩,q⟩
 subst e;cases r1;obtain⟨its,rv,p,hz⟩:=I1.list hq;refine X8 p.isList ⟨s1.heap.objs.size,[s1.heap.objs.size],_,_,H1,rfl,I1.kept λb o e=>Iw _ e,zaF a _,⟨_,Kh _ rfl,rfl,rfl⟩,λb hb=>?_,q⟩;obtain rfl:=by simpa using hb
 exact I1.fpOk (IK _)<|I1.hok.fresh<|IK _
 subst e;cases r1;obtain⟨its,rv,p,hz⟩:=I1.tuple hq;refine wpAny_pyIter_tuple p ⟨s1.heap.objs.size,[s1.heap.objs.size],_,_,H1,rfl,I1.kept λb o e=>Iw _ e,zay a _,⟨_,Kh _ rfl,rfl,rfl⟩,λb hb=>?_,q⟩;obtain rfl:=by simpa using hb
 exact I1.fpOk (IK _)<|I1.hok.fresh<|IK _
def JT (m:ME):MI:=fun σ h R=>m σ h λw h1=>match Ag h1 w with
 | some s=>R s h1
 | none=>False
theorem bV {l}(hl:DE X l ma):RX X tg l (JT ma):=PI.of (aaD hl) fun σ H Q b=>by
 obtain⟨μ,h,σw,Rw,R,S,m,k⟩:=b;refine⟨μ,h,σw,_,R,S,m,λv H1 a=>?_⟩;obtain⟨μ1,w,h1,e1,R1,r1,m1⟩:=a;cases w with
 | tup ws=>
  have r1':=r1;obtain⟨p,xs,ev,hs,_⟩:=r1;subst ev;exact .inr ⟨p,rfl,⟨xs,hs⟩,k _ _ ⟨μ1,⟨ws,Go⟩,h1,e1,R1,akq r1',m1⟩⟩
 | lst ws=>
  have r1':=r1;obtain⟨p,xs,ev,hs,_⟩:=r1;subst ev;exact .inl ⟨p,rfl,⟨xs,hs.sq⟩,k _ _ ⟨μ1,⟨ws,Go⟩,h1,e1,R1,aja r1',m1⟩⟩
 | kls ws=>
  have r1':=r1;obtain⟨p,xs,ev,hs,_⟩:=r1;subst ev;exact .inl ⟨p,rfl,⟨xs,hs.sq⟩,k _ _ ⟨μ1,⟨ws,Go⟩,h1,e1,R1,aiS r1',m1⟩⟩
 | loc n=>
  have r1':=r1;obtain⟨p,ev,hm⟩:=r1;subst ev;unfold Ag at m1;dsimp only at m1;cases ec:h1.c n with
  | none=>rw[ec]at m1;cases m1
  | some cl=>
   rw[ec]at m1;cases cl with
   | lst ws=>
    obtain⟨p',xs,hm',hx,rs⟩:=R1.lstAt ec;obtain rfl:=by rw[hm]at hm';exact(Lr hm').symm
    exact .inl ⟨p',rfl,⟨xs,.of hx⟩,k _ _ ⟨μ1,⟨ws,Dn _⟩,h1,e1,R1,aif r1',m1⟩⟩
   | _=>cases m1
 | _=>exact m1.elim
def Ae (lo:Int)(n:Nat):List W:=(P0 n).map λ(k:Nat)=>.int (lo+(k:Int))
theorem Tv {K:Ax}{H:Hp}{lo:Int}{n:Nat}:Zu K (Itr lo n) ⟨Ae lo n,Go⟩ H μ:=by
 intro H2 μ2 h2 i e R2 _;refine⟨λw ew=>?_,λhl=>?_⟩;have hi:=by
  have:=(Ob.mp ew).1
  simpa[Ae]using this
 have ew':=by
  unfold Ae at ew;rw[Jm,List.getElem?_range hi]at ew;exact(Lr ew).symm
 subst ew';refine⟨hi,λx H3 a=>?_⟩;obtain⟨e3,y⟩:=a;subst e3;exact⟨μ2,.refl,R2,by rwa[CR]⟩;have:=by simpa[Ae]using hl
 exact this
def Af (j:Int)(P:Prop):Prop:=JQ (decide (-1000<=j)&&decide (j<=1000)) P ((-(2^62)<=j/\j<2^62)/\P)
theorem Af.ok {j}{P}(h:Af j P):(-(2^62)<=j/\j<2^62)/\P:=by
 unfold Af at h;cases e:(decide (-1000<=j)&&decide (j<=1000))with
 | true=>
  rw[e]at h;rw[Qn,decide_eq_true_iff,decide_eq_true_iff]at e;exact⟨⟨by lia,by omega⟩,h⟩
 | false=>rw[e]at h;exact h
theorem Af.mk {j}{P}(h1:-(2^62)<=j)(h2:j<2^62)(h:P):Af j P:=by
 unfold Af;cases e:(decide (-1000<=j)&&decide (j<=1000))with
 | true=>exact h
 | false=>exact⟨⟨h1,h2⟩,h⟩
def qd (ma:MA):MI:=fun σ h R=>ma σ h λws h1=>match ws with
 | [.int j]=>Af j (R ⟨Ae 0 j.toNat,Go⟩ h1)
 | _=>False
def BP (ma:MA):MI:=fun σ h R=>ma σ h λws h1=>match ws with
 | [.int i,.int j]=>Af i (Af j (R ⟨Ae i (j-i).toNat,Go⟩ h1))
 | _=>False
theorem zbl {a}{p pos}(hg:Gl X "range")(hm:X.mg "range" = Go)(ha:LQ X [a] mr)(hs:HJ [a] X.env=[(false,eval a X.env)]:=by rfl):RX X tg (.Call (.Name "range" p) [a] [] pos) (qd mr):=
 PI.of (zaG hg hm ha hs) fun σ H Q c=>by
  obtain⟨μ,h,σw,Rw,R,S,m,k⟩:=c;refine⟨μ,h,σw,_,R,S,m,λvs H1 b=>?_⟩;obtain⟨μ1,ws,h1,e1,R1,r1,m1⟩:=b;split at m1
  rename_i j;obtain⟨v,vr,ev,ra,r1⟩:=r1;subst ev r1 ra;exact⟨j,rfl,m1.ok.1.1,m1.ok.1.2,k _ _ ⟨μ1,_,h1,e1,R1,Tv,m1.ok.2⟩⟩;exact m1.elim
theorem sG {a b}{p pos}(hg:Gl X "range")(hm:X.mg "range" = Go)(ha:LQ X [a,b] mr)(hs:HJ [a,b] X.env=[(false,eval a X.env),(false,eval b X.env)]:=by rfl)(hs2:HJ [b] X.env=[(false,eval b X.env)]:=by rfl):
  RX X tg (.Call (.Name "range" p) [a,b] [] pos) (BP mr):=
 PI.of (zbg hg hm ha hs hs2) fun σ H Q d=>by
  obtain⟨μ,h,σw,Rw,R,S,m,k⟩:=d;refine⟨μ,h,σw,_,R,S,m,λvs H1 c=>?_⟩;obtain⟨μ1,ws,h1,e1,R1,r1,m1⟩:=c;split at m1
  rename_i i j;obtain⟨v,vr,ev,ra,r1⟩:=r1;obtain⟨v',vr',ev',rb,r1⟩:=r1;subst ev ev' r1 ra rb;exact⟨i,j,rfl,⟨m1.ok.1.1,m1.ok.1.2,m1.ok.2.ok.1.1,m1.ok.2.ok.1.2⟩,k _ _ ⟨μ1,_,h1,e1,R1,Tv,m1.ok.2.ok.2⟩⟩;cases m1
def Src.go (s:Src)(h:Gh)(P:Prop):Prop:=match s.cell with
 | none=>P
 | some n=>h.c n.1=Dn (.lst n.2)/\P
theorem Src.go_ok {s:Src}{h}{P}(x:s.go h P):s.chk h/\P:=by
 unfold Src.go at x;unfold Src.chk;lia
def fC (s:Src)(g:MG)(b:MS)(D:bK):List W->Sw->Gh->Prop
 | [],σ,h=>s.go h (D.nx σ h)
 | w::r,σ,h=>s.go h (g w σ h fun σ1 h1=>b {D with nx:=fC s g b D r,ct:=fC s g b D r,bk:=D.nx} σ1 h1)
def vg (mi:MI)(g:MG)(b:MS):MS:=λD σ h=>mi σ h λs h1=>fC s g b D s.ws σ h1
theorem jX {iter}{body mi g}{mb0}{pos}(hp:Yb (CG X.prog X.w) X.A X.env X.xe)(hc:X.calm=true)(hi:RX X tg iter mi)(hg:DG X tg g)(hb:Sh X body mb0)
  (hs:∀x,W3 iter X.env x=pure x:=by intro _;rfl):DS X (.For tg iter body [] pos) (vg mi g mb0):=(Tw hp hc hi hg hb hs).of λD σ H a=>by
 obtain⟨μ,h,σw,Dw,R,S,m,k⟩:=a;refine⟨μ,h,σw,_,R,S,m,λJ H1 ⟨μ1,src,h1,e1,R1,ok,m1⟩=>⟨λi n σ' H'=>n=src.ws.length-i/\i<=src.ws.length/\DN _ H1 μ1 (fC src g mb0 Dw<|src.ws.drop i) σ' H',⟨src.ws.length,by simp,Rb _,μ1,σw,h1,.refl,R1,S.ext e1,m1⟩,?_⟩⟩;rintro i n σ2 H2 ⟨hn,hle,μ2,σw2,h2,e2,R2,S2,m2⟩;by_cases hlt:i<src.ws.length
 rw[YZ hlt]at m2;obtain⟨ck,m2⟩:=Src.go_ok m2;obtain⟨hgo,hy⟩:=(ok e2 R2 ck).1 src.ws[i] (N5 hlt);refine .inr ⟨hgo,fun σ' H'=>DN _ H2 μ2 _ σ' H',fun σ' H' z=>⟨src.ws.length-(i+1),by lia,rfl,hlt,z.trans e2⟩,λx H3 y=>?_⟩;obtain⟨μ3,e3,R3,rx⟩:=hy x H3 y;refine⟨μ3,h2,σw2,src.ws[i],_,R3,S2.ext e3,rx,m2,fun σ4 H4 ⟨μ4,σw4,h4,e4,R4,S4,m4⟩=>?_⟩;have e24:=e3.trans e4;have e14:=(e1.trans e2).trans e24;exact⟨μ4,h4,σw4,_,R4,S4,m4,fun σ' H' z=>z.trans e24,λv H' z=>k.rt _ _<|z.trans e14,fun σ' H' z=>k.nx _ _<|z.trans e14,fun σ' H' z=>z.trans e24⟩;have ei:i=src.ws.length:=by lia
 subst ei;rw[List.drop_length]at m2;obtain⟨ck,m2⟩:=Src.go_ok m2;exact .inl ⟨(ok e2 R2 ck).2 (IK _),k.nx _ _ ⟨μ2,σw2,h2,e1.trans e2,R2,S2,m2⟩⟩
def sI (ix:List Nat)(σ:Sw):Sw:=ix.map λi=>(σ[i]?).getD Go
theorem Slots.blk {K H σ}(S:Slots K H μ σw σ):∀{ws vs},aY K H μ ws vs->Slots K H μ (ws.map Dn++sI ix σw) (vs.map Dn++MH ix σ):=by
 intro ws vs r;have hl:=r.len;refine⟨by simp[sI,MH,hl],λi u q=>?_⟩;by_cases hi:i<ws.length
 rw[Rn (by simpa using hi),Jm]at q;have q':ws[i]?=Dn u:=by
  simp_all
 obtain⟨v,hv,rv⟩:=r.get q';grind
 rw[SQ (by simpa using hi),Hi]at q;rw[SQ (by rw[Hi];lia),Hi,<-hl];generalize i-ws.length=i at q|-
 unfold sI at q;unfold MH;rw[Jm]at q|-
 cases e:ix[i]? with
 | none=>rw[e]at q;cases q
 | some j=>
  rw[e]at q;cases e2:σw[j]? with
  | none=>simp[e2]at q
  | some o=>
   obtain rfl:=by simpa[e2]using q
   obtain⟨v',h1,h2⟩:=S.get j u e2
   simp_all
def jF:MT:=λ_ h Q=>Q true h
def xO (s:Src)(own:W->Option (List W))(ix:List Nat)(tt:MT)(te:ME)(σ:Sw)(Q:WK):List W->List W->Gh->Prop
 | [],acc,h=>s.go h (Q (.lst acc) h)
 | w::r,acc,h=>s.go h (match own w with
  | some vs=>tt (vs.map Dn++sI ix σ) h λc h1=>JQ c (te (vs.map Dn++sI ix σ) h1 λv h2=>xO s own ix tt te σ Q r (acc++[v]) h2) (xO s own ix tt te σ Q r acc h1)
  | none=>False)
def JB (own:W->Option (List W))(ix:List Nat)(mi:MI)(tt:MT)(te:ME):ME:=fun σ h Q=>mi σ h λs h1=>gG s.ws.length (xO s own ix tt te σ Q s.ws [] h1)
def Nr (K:Ax)(n:Nat)(own:V->Hp->List V->Prop)(ow:W->Option (List W)):Prop:=∀{H:Hp}{μ:Mu}{w:W}{v:V}{ws:List W},CR K H μ w v->ow w=Dn ws->∃vs,own v H vs/\vs.length=n/\aY K H μ ws vs
def JX (w:W):Option (List W):=Dn [w]
def owT (n:Nat)(w:W):Option (List W):=match w with
 | .tup ws=>(match Qe ws.length n with
  | true=>Dn ws
  | false=>Go)
 | _=>Go
def ov1:V->Hp->List V->Prop:=λv _ vs=>vs=[v]
def ovT (K:Ax):V->Hp->List V->Prop:=λv H vs=>∃a,v=.ref a/\Jt K H a vs
theorem tG {K}:Nr K 1 ov1 JX:=by
 intro H μ w v ws r e;cases e;exact⟨[v],rfl,rfl,.one r⟩
theorem ZP {K:Ax}{n:Nat}:Nr K n (ovT K) (owT n):=by
 intro H μ w v ws r e;cases w with
 | tup us=>
  unfold owT at e;dsimp only at e;cases en:Qe _ n with
  | false=>rw[en]at e;cases e
  | true=>
   rw[en]at e;cases e;obtain⟨p,xs,ev,hs,rs⟩:=r;exact⟨xs,⟨p,ev,hs⟩,rs.len ▸ Yh en,rs⟩
 | _=>cases e
abbrev abG (X:Cx)(ifs:List Expr)(m:MT):Prop:=Zv X ifs (tDT X.K m)
theorem jy:abG X [] jF:=λamx s σ H Q I ⟨μ,h,σw,Qw,R,S,m,k⟩=>ajF amx s σ H Q I (k _ _ ⟨μ,h,.refl,R,m⟩)
theorem iu (h:DT X c t):abG X [c] t:=ajQ h
theorem adf {K σ H Q}{n}{own ow mi tt te}(oo:Nr K n own ow)(q:tD K (JB ow ix mi tt te) σ H Q):tLC n own ix (tDI K mi) (tDT K tt) (tD K te) σ H Q:=by
 obtain⟨μ,h,σw,Qw,R,S,m,k⟩:=q;refine⟨μ,h,σw,_,R,S,m,λJ H1 a=>?_⟩;obtain⟨μ1,src,h1,e1,R1,ok,hz0⟩:=a;obtain⟨hz,m1⟩:=hz0.ok;intro D hD;have nD:=R1.nohid hD;refine⟨λi n ys H'=>n=src.ws.length-i/\i<=src.ws.length/\ys.length<=i/\H' D=Dn (.lst ys)/\∃μ' acc h',J4 K H1 μ1 H' μ'/\HS K μ' H' h'/\μ'.hid D/\aY K H' μ' acc ys/\xO src ow ix tt te σw Qw (src.ws.drop i) acc h',
  ⟨src.ws.length,by simp,Rb _,IK _,aV,μ1.hide D,[],h1,(J4.hide hD),R1.hide hD,.inl rfl,.nil,m1⟩,?_⟩
 rintro i n' ys H2 ⟨hn,hle,hys,hH2,μ2,acc,h2,e2,R2,hid2,ra,m2⟩ _;by_cases hlt:i<src.ws.length
 rw[YZ hlt]at m2;obtain⟨ck,m2⟩:=Src.go_ok m2;obtain⟨hgo,hy⟩:=(ok e2 R2 ck).1 src.ws[i] (N5 hlt);refine .inr ⟨hgo,by lia,λx H3 y=>?_⟩;obtain⟨μ3,e3,R3,rx⟩:=hy x H3 y;cases eo:ow src.ws[i]with
 | none=>rw[eo]at m2;exact m2.elim
 | some us=>
  rw[eo]at m2;obtain⟨vs,hov,hvl,rvs⟩:=oo rx eo;have S3:=(S.ext (e1.trans (e2.trans e3))).blk (ix:=ix) rvs;refine⟨vs,hov,hvl,μ3,h2,_,_,R3,S3,m2,λb H4 c=>?_⟩;obtain⟨μ4,h4,e4,R4,m4⟩:=c;have e24:=e3.trans e4;obtain⟨hid4,hH4⟩:=e24.o D _ hid2 hH2;cases b with
  | false=>
   exact⟨hH4,src.ws.length-(i+1),by lia,rfl,hlt,by lia,hH4,μ4,acc,h4,e2.trans e24,R4,hid4,e24.s ra,m4⟩
  | true=>
   refine⟨μ4,h4,_,_,R4,S3.ext e4,m4,λv H5 d=>?_⟩;obtain⟨μ5,w5,h5,e5,R5,r5,m5⟩:=d;have e25:=e24.trans e5;obtain⟨hid5,hH5⟩:=e25.o D _ hid2 hH2;exact⟨hH5,src.ws.length-(i+1),by lia,rfl,hlt,by simp;omega,aV,μ5,acc++[w5],h5,(e2.trans e25).x nD (Zj.grow R5 hid5),R5.grow hid5,hid5,(aY.ex (Ex0.grow R5 hid5)<|aY.append (e25.s ra)<|aY.one r5),m5⟩
 have ei:i=src.ws.length:=by lia
 subst ei;rw[List.drop_length]at m2;obtain⟨ck,m2⟩:=Src.go_ok m2;exact .inl ⟨(ok e2 R2 ck).2 (IK _),k _ _ ⟨μ2.unhide D,.lst acc,h2,e1.trans<|e2.x nD .unhide,R2.unhide,CR.built R2 hid2 hH2 ra,m2⟩⟩
variable {scope:Scope}{x:Str}{xs:List Str}{iter:Expr}{px:Pos}{mi:MI}{tt:MT}{te:ME}
theorem tM (B:jh X scope [x] ix)(C)(s)(H)(fp):PG (blk X scope (jd X [x] ix) C s H fp) (.Name x px) (YC 1 ov1):=by
 obtain⟨o1,o2⟩:=Lk B (y:=x) (by simp);rintro amx s' σ H' v u Q I r ⟨vs,hv,hl,q⟩;cases hv;refine nR (i:=0) B.nd rfl o1 o2 amx s' σ H' v u Q I r ?_;have amy:σ.length=(jd X [x] ix).length:=I.len;cases σ with
 | nil=>simp at amy
 | cons o σ=>exact q
theorem abH {y}{py pt kt}(hc:X.calm=true)(B:jh X scope [x,y] ix)(C)(s)(H)(fp)
  (h1:∀env,(OJ [.Name x px,.Name y py] env).map (·.2)=assign (.Name x px) env::(OJ [.Name y py] env).map (·.2):=by intro _;rfl)
  (h2:∀env,(OJ [.Name y py] env).map (·.2)=assign (.Name y py) env::(OJ [] env).map (·.2):=by intro _;rfl)
  (h3:∀env,(OJ [.Name x px,.Name y py] env).length=2:=by intro _;rfl) (h4:∀env,(OJ [.Name x px,.Name y py] env).findIdx? (·.1)=Go:=by intro _;rfl) :
  PG (blk X scope (jd X [x,y] ix) C s H fp) (.Tuple [.Name x px,.Name y py] kt pt) (YC 2 (ovT X.K)):=by
 obtain⟨o1,u1⟩:=Lk B (y:=x) (by simp);obtain⟨o2,u2⟩:=Lk B (y:=y) (by simp);rintro amx s' σ H' v u Q I r ⟨vs,⟨a,ea,ha⟩,hl,q⟩;refine aaT (X:=blk X scope _ C s H fp) hc (vC (nR (i:=0) B.nd rfl o1 u1) (vC (nR (i:=1) B.nd rfl o2 u2) J5<|h2 _)<|h1 _) (h3 _) (h4 _) amx s' σ H' v u Q I r ⟨a,vs,ea,ha,hl,?_⟩;match vs,hl,q with
 | [v1,v2],_,q=>
  match σ,I.len,q with
  | _::_::σ,_,q=>exact⟨v1,[v2],rfl,v2,[],rfl,rfl,q⟩
theorem aei {own:V->Hp->List V->Prop}{ow:W->Option (List W)}(ix:List Nat)(hc:X.calm=true)(B:jh X scope xs ix)(oo:Nr X.K xs.length own ow)(hg:∀C s H fp,PG (blk X scope (jd X xs ix) C s H fp) tg (YC xs.length own))(hi:RX X tg iter mi)
  (ht:∀C s H fp,abG (blk X scope (jd X xs ix) C s H fp) ifs tt) (he:∀C s H fp,DE (blk X scope (jd X xs ix) C s H fp) elt te)
  (hs:∀v,W3 iter X.env v=pure v:=by intro _;rfl):DE X (.ListComp elt [⟨tg,iter,ifs,0⟩] scope pos) (JB ow ix mi tt te):=(aeP ix hc B hg hi ht he hs).of λ_ _ _ q=>adf oo q
theorem wO {own ow}(ix){i y}{py spos}(hN:X.N.Nodup)(hi':X.N[i]?=Dn y)(hy:Loc X.env.scope y)(hc:X.calm=true)(B:jh X scope xs ix)(oo:Nr X.K xs.length own ow)
  (hg:∀C s H fp,PG (blk X scope (jd X xs ix) C s H fp) tg (YC xs.length own)) (hi:RX X tg iter mi)
  (ht:∀C s H fp,abG (blk X scope (jd X xs ix) C s H fp) ifs tt) (he:∀C s H fp,DE (blk X scope (jd X xs ix) C s H fp) elt te)
  (hsw:Vv (.ListComp elt [⟨tg,iter,ifs,0⟩] scope pos) (Dn (.Name y py)) spos.line X.env=pure true:=by rfl)
  (hf:X.fn y=true\/X.env.scope.names.lookup y=Dn .local:=by first|exact .inl rfl|exact .inr rfl|assumption)
  (hs:∀v,W3 iter X.env v=pure v:=by intro _;rfl):DS X (.Assign [.Name y py] (.ListComp elt [⟨tg,iter,ifs,0⟩] scope pos) spos) (bI (JB ow ix mi tt te) (kI i)):=
 (aeL ix hN hi' hy hc B hg hi ht he hsw hf hs).of λ_ _ _ q=>Ub (λ_ _ _ z=>adf oo z) q
theorem aeF {κ K}{H0 H μ0 μ k}(hd:∀n p,μ0.f n=Dn p->n<k):∀{fs:List (κ×W)}{f0 fv},vW K H0 μ0 fs f0->vW K H μ fs fv->vW K H (μ.cut k) fs fv
 | [],_,_,_,.nil=>.nil
 | _::_,_,_,.cons a b,.cons c d=>.cons ⟨c.1,CR.cut c.2 (CR.lo hd a.2)⟩ (aeF hd b d)
def vH (pure:Bool)(h:Gh)(w:W)(h':Gh)(Q:WK):Prop:=match pure with
 | false=>Q w h'
 | true=>(∀n c,n<h.nx->h.c n=Dn c->h'.c n=Dn c)/\((Lo h.nx w/\Q w h)\/∃n ws,w=.loc n/\h.nx<=n/\h'.c n=Dn (.lst ws)/\Nv h.nx ws/\Q (.lst ws) h)
def IV (n N:Nat)(pure:Bool)(body:Ce->MS):Ah:=λws h Q E=>JQ (Qe ws.length n)
 (body E {nx:=λ_ h'=>vH pure h .non h' Q,rt:=λw h'=>vH pure h w h' Q} (ws.map Dn++QW (N-ws.length) Go) h) False
theorem Fe {n N}{pure}{body h Q E}(x:IV n N pure body ws h Q E):ws.length=n /\
  body E {nx:=λ_ h'=>vH pure h .non h' Q,rt:=λw h'=>vH pure h w h' Q} (ws.map Dn++QW (N-ws.length) Go) h:=by
 unfold IV at x;cases e:Qe _ n with
 | true=>rw[e]at x;exact⟨Yh e,x⟩
 | false=>rw[e]at x;exact x.elim
theorem HS.cut {K:Ax}{H H':Hp}{μ μ':Mu}{h h':Gh}(R:HS K μ H h)(R':HS K μ' H' h')(e:J4 K H μ H' μ')(hc:∀n c,h.c n=Dn c->h'.c n=Dn c):HS K (μ'.cut h.nx) H' h where
 inj:=λm n p a b=>R'.inj m n p (Mu.cut_some a).2 (Mu.cut_some b).2
 dom:=λn p a=>(Mu.cut_some a).1
 trk:=λn p a=>R'.trk n p (Mu.cut_some a).2
 cel:=λn c a=>by
  obtain⟨p0,m0,x0⟩:=R.cel n c a;obtain⟨p,m,x⟩:=R'.cel n c (hc n c a);refine⟨p,by show(if n<h.nx then μ'.f n else Go)=Dn p;rw[if_pos<|R.dom n p0 m0];exact m,?_⟩;cases c with
  | lst ws=>
   obtain⟨xs0,_,r0⟩:=x0;obtain⟨xs,hx,r⟩:=x;exact⟨xs,hx,aY.cut r<|aY.lo R.dom r0⟩
  | obj C fs=>
   obtain⟨dx0,f0,_,r0⟩:=x0;obtain⟨dx,fv,hx,r⟩:=x;exact⟨dx,fv,hx,aeF R.dom r0 r⟩
  | dct kvs=>
   obtain⟨f0,_,r0⟩:=x0;obtain⟨fv,hx,r⟩:=x;exact⟨fv,hx,aeF R.dom r0 r⟩
  | dtt kvs=>
   obtain⟨_,_,_,_,_,d0,f0⟩:=x0;obtain⟨xs,vs,a,b,c,d,f⟩:=x;exact⟨xs,vs,a,b,c,aY.cut d<|aY.lo R.dom d0,aY.cut f<|aY.lo R.dom f0⟩
 hd:=λp z=>⟨(R'.hd p z).1,λn a=>(R'.hd p z).2 n (Mu.cut_some a).2⟩
theorem J4.cut {K}{H H' μ μ' h}(R:HS K μ H h)(e:J4 K H μ H' μ'):J4 K H μ H' (μ'.cut h.nx):=
 ⟨λw v r=>CR.cut (e.r w v r) (CR.lo R.dom r),λp u z a=>e.o p u z a⟩
theorem vP {K:Ax}{H H':Hp}{h h':Gh}{w:W}{v:V}{Q:WK}{pure:Bool}(R:HS K μ H h)(e:J4 K H μ H' μ')(R':HS K μ' H' h')(r:CR K H' μ' w v)(x:vH pure h w h' Q):DQ K H μ Q v H':=by
 cases pure with
 | false=>exact⟨μ',w,h',e,R',r,x⟩
 | true=>
  obtain⟨hc0,⟨lo,q⟩|⟨n,ws,ew,hn,ec,lo,q⟩⟩:=x;all_goals have hc:=λn c a=>hc0 n c (let⟨p,m,_⟩:=R.cel n c a;R.dom n p m) a
  exact⟨μ'.cut _,w,h,e.cut R,R.cut R' e hc,CR.cut r lo,q⟩;subst ew;refine⟨μ'.cut _,.lst ws,h,e.cut R,R.cut R' e hc,?_,q⟩;obtain⟨p,ev,hm⟩:=r;obtain⟨p',xs,hm',hx,rs⟩:=R'.lstAt ec;obtain rfl:=by rw[hm]at hm';exact(Lr hm').symm
  refine⟨p',xs,ev,⟨hx,λm a=>?_,λz=>(R'.hd p' z).2 n hm⟩,aY.cut rs lo⟩;obtain⟨a1,a2⟩:=Mu.cut_some a;have:=R'.inj m n p' a2 hm
  lia
theorem sH {K H}{N}:∀{ws vs},aY K H μ ws vs->Slots K H μ (ws.map Dn++QW (N.length-ws.length) Go) (start N vs):=by
 intro ws vs r;have hl:=r.len;refine⟨by simp[start,hl],λi w q=>?_⟩;by_cases hi:i<ws.length
 rw[Rn (by simpa using hi)]at q;have q':ws[i]?=Dn w:=by
  simp_all
 obtain⟨v,hv,rv⟩:=r.get q';refine⟨v,?_,rv⟩;unfold start;rw[Rn (by rw[Hi];lia),Jm,hv];rfl;rw[SQ (by simpa using hi),Ys]at q;simp_all
theorem afK {P w K}{mg base}{x qual st f fd}{N ps k}{pure}{body}(F:Sg K x qual st f fd)(S:fW N ps (bw st))
  (hb:∀cdv A  (outer) (s) (H) (E),gq k (A.deeper (RG qual (bw st) s.heap.objs.size f cdv)) ->
   Sh (Ji O9 P w K mg base N qual (bw st) f cdv A outer s H E).nox (dG st) (body EF)):jB P w K mg base O9 (k+1) f fd ps (lift K (IV ps.length N.length pure body)):=by
 refine F.ok S (λvs H Q E b=>by obtain⟨μ,h,ws,Qw,R,r,m,k⟩:=b;rw[<-r.len];exact(Fe m).1)<|λcdv A outer s H vs Q E hr a=>?_;obtain⟨μ,h,ws,Qw,R,r,m0,k⟩:=a
 obtain⟨hl,m⟩:=Fe m0;refine⟨_,hb cdv A outer s H E hr,μ,h,_,_,R,sH r,m,?_,?_,?_,?_⟩;rintro σ' H' ⟨μ1,σw1,h1,e1,R1,S1,m1⟩;exact k _ _<|vP R e1 R1 (by rw[CR]) m1
 rintro v H' ⟨μ1,w1,h1,e1,R1,r1,m1⟩;exact k _ _<|vP R e1 R1 r1 m1
 rintro σ' H' ⟨μ1,σw1,h1,e1,R1,S1,m1⟩;exact m1.elim;rintro σ' H' ⟨μ1,σw1,h1,e1,R1,S1,m1⟩;exact m1.elim
end
variable {H0:Hp}{mo te:ME}{mi:MI}{tt:MT}{kt:Nat}
section
variable {X:Cx}{K:Ax}
theorem DQ.int {H μ h}{i Q}(R:HS K μ H h)(q:Q (.int i) h):DQ K H μ Q (.int i) H:=⟨μ,.int i,h,.refl,R,by rw[CR],q⟩
theorem DQ.bl {H:Hp}{μ:Mu}{h:Gh}{i:Bool}{Q:WK}(R:HS K μ H h)(q:Q (.bl i) h):DQ K H μ Q (.bl i) H:=⟨μ,.bl i,h,.refl,R,by rw[CR],q⟩
def zad (C:Int->Int->Prop)(g:Int->Int->Int):M2:=λx y h Q=>match x,y with
 | .int i,.int j=>C i j/\Q (.int (g i j)) h
 | _,_=>False
def xJ:M2:=λx y h Q=>match x,y with
 | .int i,.int j=>Q (.int (i-j)) h
 | _,_=>False
theorem kE:Nz X (Q7 .Sub) xJ:=⟨_,Z7,by
 intro H μ h x y wx wy Qw Q R rx ry m k;unfold xJ at m;split at m
 exact⟨_,_,rx,ry,k _ _<|.int R m⟩;cases m⟩
def cN:M2:=λx y h Q=>match x,y with
 | .int i,.int j=>fU i j/\Q (.int (i*j)) h
 | _,_=>False
theorem bF:Nz X (Q7 .Mult) cN:=⟨_,aiN,by
 intro H μ h x y wx wy Qw Q R rx ry m k;unfold cN at m;split at m
 exact⟨_,_,rx,ry,m.1,k _ _<|.int R m.2⟩;cases m⟩
def Jh:M2:=λx y h Q=>match x,y with
 | .int i,.int j=>MP i j/\Q (.int (i.fdiv j)) h
 | _,_=>False
theorem zY:Nz X (Q7 .FloorDiv) Jh:=⟨_,zbc,by
 intro H μ h x y wx wy Qw Q R rx ry m k;unfold Jh at m;split at m
 exact⟨_,_,rx,ry,m.1,k _ _<|.int R m.2⟩;cases m⟩
def Aj:M2:=λx y h Q=>match x,y with
 | .int i,.int j=>j≠0/\Q (.int (i.fmod j)) h
 | _,_=>False
theorem pG:Nz X (Q7 .Mod) Aj:=⟨_,ajd,by
 intro H μ h x y wx wy Qw Q R rx ry m k;unfold Aj at m;split at m
 exact⟨_,_,rx,ry,m.1,k _ _<|.int R m.2⟩;cases m⟩
def aaX:M2:=λx y h Q=>match x,y with
 | .int i,.int j=>aeC i j/\Q (.int (i^j.toNat)) h
 | _,_=>False
theorem acq:Nz X (Q7 .Pow) aaX:=⟨_,abK,by
 intro H μ h x y wx wy Qw Q R rx ry m k;unfold aaX at m;split at m
 exact⟨_,_,rx,ry,m.1,k _ _<|.int R m.2⟩;cases m⟩
def kLt:M2:=λx y h Q=>match x,y with
 | .int i,.int j=>Q (.bl (decide (i<j))) h
 | _,_=>False
theorem Rq:Nz X (ML .Lt) kLt:=⟨_,adU,by
 intro H μ h x y wx wy Qw Q R rx ry m k;unfold kLt at m;split at m
 exact⟨_,_,rx,ry,k _ _<|.bl R m⟩;cases m⟩
def kLe:M2:=λx y h Q=>match x,y with
 | .int i,.int j=>Q (.bl (decide (i<=j))) h
 | _,_=>False
theorem agR:Nz X (ML .LtE) kLe:=⟨_,aes,by
 intro H μ h x y wx wy Qw Q R rx ry m k;unfold kLe at m;split at m
 exact⟨_,_,rx,ry,k _ _<|.bl R m⟩;cases m⟩
def Sv:M2:=λx y h Q=>match x,y with
 | .int i,.int j=>Q (.bl (decide (j<i))) h
 | _,_=>False
theorem Vj:Nz X (ML .Gt) Sv:=⟨_,adV,by
 intro H μ h x y wx wy Qw Q R rx ry m k;unfold Sv at m;split at m
 exact⟨_,_,rx,ry,k _ _<|.bl R m⟩;cases m⟩
def kGe:M2:=λx y h Q=>match x,y with
 | .int i,.int j=>Q (.bl (decide (j<=i))) h
 | _,_=>False
theorem agF:Nz X (ML .GtE) kGe:=⟨_,aeX,by
 intro H μ h x y wx wy Qw Q R rx ry m k;unfold kGe at m;split at m
 exact⟨_,_,rx,ry,k _ _<|.bl R m⟩;cases m⟩
theorem aY.ne_nil {H}{xs}(r:aY K H μ ws xs):xs=[]↔ws=[]:=by
 have:=r.len
 grind
def Av:M2:=λx y h Q=>match y with
 | .int i=>(match view h x with
  | some ws=>(match Mv ws i with
   | some w=>Q w h
   | none=>False)
  | none=>False)
 | _=>False
theorem aY.at {H μ}{ws xs i w}(r:aY K H μ ws xs)(e:Mv ws i=Dn w):∃v,Mv xs i=Dn v/\CR K H μ w v:=by
 unfold Mv at e|-
 rw[<-r.len];cases q:Qi _ i with
 | none=>rw[q]at e;cases e
 | some j=>rw[q]at e;exact r.get e
theorem dI {H h w v}(R:HS K μ H h)(r:CR K H μ w v)(e:dU h w=Dn ws):∃p xs,v=.ref p/\Jb K H p xs/\aY K H μ ws xs:=by
 cases w with
 | lst us|kls us=>
  obtain⟨p,xs,ev,hs,rs⟩:=r;cases e;exact⟨p,xs,ev,hs.sq,rs⟩
 | loc n=>
  obtain⟨p,ev,hm⟩:=r;unfold dU at e;dsimp only at e;cases ec:h.c n with
  | none=>rw[ec]at e;cases e
  | some cl=>
   rw[ec]at e;cases cl with
   | lst us=>
    cases e;obtain⟨p',xs,hm',hx,rs⟩:=R.lstAt ec;obtain rfl:=by rw[hm]at hm';exact(Lr hm').symm
    exact⟨p',xs,ev,.of hx,rs⟩
   | _=>cases e
 | _=>cases e
theorem wX {H:Hp}{h:Gh}{w:W}{v:V}(R:HS K μ H h)(r:CR K H μ w v)(e:view h w=Dn ws):∃p xs,v=.ref p/\(Jb K H p xs\/Jt K H p xs)/\aY K H μ ws xs:=by
 cases w with
 | tup us=>
  obtain⟨p,xs,ev,hs,rs⟩:=r;cases e;grind
 | lst us|kls us|loc n=>
  obtain⟨p,xs,ev,hs,rs⟩:=dI R r e;grind
 | _=>cases e
theorem acQ:adl K (rIx K) Av:=by
 intro H μ h x y wx wy Qw Q R rx ry m k;unfold Av at m;split at m
 rename_i i;split at m
 rename_i ws ev;split at m
 rename_i w ew;obtain⟨p,xs,ex,hs,rs⟩:=wX R rx ev;obtain⟨v,hv,rv⟩:=rs.at ew;have fin:=k _ _ ⟨μ,w,h,.refl,R,rv,m⟩;rcases hs with hs|hs
 exact .inl ⟨p,xs,i,v,ex,ry,hs,hv,fin⟩;exact .inr<|.inl ⟨p,xs,i,v,ex,ry,hs,hv,fin⟩
 cases m;cases m;cases m
theorem aaK {a b mb}{pos}(ha:DE X a ma)(hb:DE X b mb)(hs:Bk b):DE X (.Subscript a b pos) (Mk Av ma mb):=(afh abg ha hb hs).of fun σ H Q h=>two h λR r1 r2 m k=>acQ R r1 r2 m k
abbrev MO:=Sw->Gh->(Option Int->Gh->Prop)->Prop
def tDO (K:Ax)(m:MO):TO:=fun σ H Q=>∃μ h σw Qw,HS K μ H h/\Slots K H μ σw σ/\m σw h Qw/\∀o H',(∃μ' h',J4 K H μ H' μ'/\HS K μ' H' h'/\Qw o h')->Q o H'
abbrev DO (X:Cx)(e:Option Expr)(m:MO):Prop:=PO X e (tDO X.K m)
theorem PO.of {e t t'}(h:PO X e t)(k:∀σ H Q,t' σ H Q->t σ H Q):PO X e t':=by
 unfold PO at h|-
 intros
 grind
def cM:MO:=λ_ h Q=>Q Go h
def fZ (m:ME):MO:=fun σ h Q=>m σ h λw h1=>match w with
 | .int i=>Q (Dn i) h1
 | _=>False
theorem dF:DO X Go cM:=PO.of ake fun σ H Q ⟨μ,h,σw,Qw,R,S,m,k⟩=>k _ _ ⟨μ,h,.refl,R,m⟩
theorem cj {e}(he:DE X e ma):DO X (Dn e) (fZ ma):=PO.of (ajA he) fun σ H Q b=>by
 obtain⟨μ,h,σw,Qw,R,S,m,k⟩:=b;refine⟨μ,h,σw,_,R,S,m,λv H1 a=>?_⟩;obtain⟨μ1,w,h1,e1,R1,r1,m1⟩:=a;split at m1
 exact⟨_,r1,k _ _ ⟨μ1,h1,e1,R1,m1⟩⟩;cases m1
def Gf (xs:List W)(lo hi:Option Int):List W:=(xs.drop (HT.sIx xs.length 0 lo)).take (HT.sIx xs.length xs.length hi-HT.sIx xs.length 0 lo)
def QF (r:W->Option Int->Option Int->Gh->WK->Prop)(m:ME)(l u:MO):ME:=fun σ h Q=>m σ h λx h1=>l σ h1 λlo h2=>u σ h2 λhi h3=>r x lo hi h3 Q
theorem aY.cutv {H}{xs}(r:aY K H μ ws xs)(lo hi):aY K H μ (Gf ws lo hi) (Yo xs lo hi):=by
 unfold Gf Yo;exact r.len ▸ (r.drop _).take _
end
mutual
def Iz:W->W->Bool
 | .non,.non=>true
 | .bl a,.bl b=>a==b
 | .bl a,.int b=>(if a then 1 else 0)==b
 | .int a,.bl b=>a==(if b then 1 else 0)
 | .int a,.int b=>a==b
 | .str a,.str b=>a==b
 | .tup a,.tup b=>iZ a b
 | .lst a,.lst b=>iZ a b
 | _,_=>false
def iZ:List W->List W->Bool
 | [],[]=>true
 | a::as,b::bs=>Iz a b&&iZ as bs
 | _,_=>false
end
def Hq:Nat->W->Bool
 | _,.non=>true
 | _,.bl _=>true
 | _,.int _=>true
 | _,.str _=>true
 | n+1,.tup ws=>ws.all (Hq n)
 | n+1,.lst ws=>ws.all (Hq n)
 | _,_=>false
mutual
def Dt (K:Ax)(H:Hp):W->V->Prop
 | .non,v=>v=.non
 | .bl b,v=>v=.bl b
 | .int i,v=>v=.int i
 | .str x,v=>v=.str x
 | .tup ws,v=>∃p xs,v=.ref p/\Jt K H p xs/\LI K H ws xs
 | .lst ws,v=>∃p xs,v=.ref p/\Jb K H p xs/\LI K H ws xs
 | .ty _,_=>False
 | .kls _,_=>False
 | .loc _,_=>False
 | .exc _,_=>False
 | .exa _ _,_=>False
 | .fnv _ _,_=>False
def LI (K:Ax)(H:Hp):List W->List V->Prop
 | [],xs=>xs=[]
 | w::ws,xs=>∃v vs,xs=v::vs/\Dt K H w v/\LI K H ws vs
end
section
variable {X:Cx}{K:Ax}{H:Hp}{h:Gh}
theorem LI.len:∀{ws xs},LI K H ws xs->ws.length=xs.length
 | [],xs,h=>by
  have e:=h;rw[e];rfl
 | w::ws,xs,h=>by
  obtain⟨v,vs,e,_,h⟩:=h;rw[e,Nq,Nq,LI.len h]
theorem LI.get:∀{ws xs}{i:Nat}{w},LI K H ws xs->ws[i]?=Dn w->∃v,xs[i]?=Dn v/\Dt K H w v
 | a::ws,xs,0,w,h,e=>by
  obtain⟨v,vs,e1,r,_⟩:=h;simp_all
 | a::ws,xs,i+1,w,h,e=>by
  obtain⟨v,vs,e1,_,h⟩:=h;subst e1;obtain⟨u,h1,h2⟩:=LI.get h (by simpa using e)
  simp_all
theorem yW {n}(one:∀{w v},CR K H μ w v->Hq n w=true->Dt K H w v):∀{ws xs},aY K H μ ws xs->ws.all (Hq n)=true->LI K H ws xs
 | [],_,h,_=>by rwa[LI]
 | w::ws,_,h,p=>by
  obtain⟨v,vs,e,r,h⟩:=h;rw[List.all_cons,Qn]at p;exact⟨v,vs,e,one r p.1,yW one h p.2⟩
theorem Qq:∀n  {w v},CR K H μ w v->Hq n w=true->Dt K H w v:=by
 intro n;induction n with
 | zero=>
  intro w v r p;cases w with
  | non|bl _|int _|str _=>rw[CR]at r;exact r
  | _=>simp[Hq]at p
 | succ n ih=>
  intro w v r p;cases w with
  | non|bl _|int _|str _=>rw[CR]at r;exact r
  | tup ws=>
   obtain⟨p',xs,e,hs,rs⟩:=r;exact⟨p',xs,e,hs,yW ih rs<|by simpa[Hq]using p⟩
  | lst ws=>
   obtain⟨p',xs,e,hs,rs⟩:=r;exact⟨p',xs,e,hs.sq,yW ih rs<|by simpa[Hq]using p⟩
  | _=>simp[Hq]at p
theorem wN:∀{a b:List W},a.length≠b.length->iZ a b=false
 | [],_::_,_|_::_,[],_=>by simp[iZ]
 | a::as,b::bs,h=>by
  rw[iZ,wN (by simpa using h),Wo]
def ZM (a b:List W)(j:Nat):Bool:=Iz (a.getD j .non) (b.getD j .non)
theorem xH:∀{a b},a.length=b.length->(P0 a.length).all (ZM a b)=iZ a b
 | [],[],_=>by simp[iZ]
 | a::as,b::bs,h=>by
  rw[iZ,<-xH (by simpa using h),Nq,List.range_succ_eq_map,List.all_cons,List.all_map];rfl
mutual
theorem Fg {amx:List (Addr×Obj)}{s:AP}{σ:St}(I:Aq X amx σ H s):∀{w u:W}{v:V},Dt X.K H w v->Dt X.K H u v->Iz w u=true
 | .non,u,v,h,g=>by rw[Dt]at h;subst h;cases u<;>rw[Dt]at g<;>first|rfl|exact g.elim|(obtain⟨_,_,g,_⟩:=g;cases g;done)|(cases g;done)
 | .bl b,u,v,h,g=>by rw[Dt]at h;subst h;cases u<;>rw[Dt]at g<;>first|(injection g with g;simp[Iz,g];done)|exact g.elim|(obtain⟨_,_,g,_⟩:=g;cases g;done)|(cases g;done)
 | .int b,u,v,h,g=>by rw[Dt]at h;subst h;cases u<;>rw[Dt]at g<;>first|(injection g with g;simp[Iz,g];done)|exact g.elim|(obtain⟨_,_,g,_⟩:=g;cases g;done)|(cases g;done)
 | .str b,u,v,h,g=>by rw[Dt]at h;subst h;cases u<;>rw[Dt]at g<;>first|(injection g with g;simp[Iz,g];done)|exact g.elim|(obtain⟨_,_,g,_⟩:=g;cases g;done)|(cases g;done)
 | .tup ws,u,v,h,g=>by
  rw[Dt]at h;obtain⟨p,xs,e,hs,ds⟩:=h;subst e;cases u with
  | tup us=>
   rw[Dt]at g;obtain⟨p',xs',e',hs',ds'⟩:=g;cases e'
   have:=I.tuple_inj hs hs'
   subst this;rw[Iz];exact qG I ds ds'
  | lst us=>
   rw[Dt]at g;obtain⟨p',xs',e',hs',ds'⟩:=g;cases e'
   obtain⟨_,_,t,_⟩:=I.tuple hs;obtain⟨_,_,l,_⟩:=I.list hs';exact absurd rfl<|Yq l.isList<|show s.heap.IsTuple _ _ from t
  | ty _=>rw[Dt]at g;exact g.elim
  | loc _=>rw[Dt]at g;exact g.elim
  | kls _=>rw[Dt]at g;exact g.elim
  | _=>rw[Dt]at g;cases g
 | .lst ws,u,v,h,g=>by
  rw[Dt]at h;obtain⟨p,xs,e,hs,ds⟩:=h;subst e;cases u with
  | lst us=>
   rw[Dt]at g;obtain⟨p',xs',e',hs',ds'⟩:=g;cases e'
   have:=I.list_inj hs hs'
   subst this;rw[Iz];exact qG I ds ds'
  | tup us=>
   rw[Dt]at g;obtain⟨p',xs',e',hs',ds'⟩:=g;cases e'
   obtain⟨_,_,t,_⟩:=I.tuple hs';obtain⟨_,_,l,_⟩:=I.list hs;exact absurd rfl<|Yq l.isList<|show s.heap.IsTuple _ _ from t
  | ty _=>rw[Dt]at g;exact g.elim
  | loc _=>rw[Dt]at g;exact g.elim
  | kls _=>rw[Dt]at g;exact g.elim
  | _=>rw[Dt]at g;cases g
 | .ty _,_,_,h,_=>by rw[Dt]at h;exact h.elim
 | .loc _,_,_,h,_=>by rw[Dt]at h;exact h.elim
 | .exc _,_,_,h,_=>by rw[Dt]at h;exact h.elim
 | .exa _ _,_,_,h,_=>by rw[Dt]at h;exact h.elim
 | .kls _,_,_,h,_=>by rw[Dt]at h;exact h.elim
theorem qG {amx:List (Addr×Obj)}{s:AP}{σ:St}(I:Aq X amx σ H s):∀{ws us:List W}{vs:List V},LI X.K H ws vs->LI X.K H us vs->iZ ws us=true
 | [],us,vs,h,g=>by
  rw[LI]at h;subst h;cases us with
  | nil=>rfl
  | cons _ _=>rw[LI]at g;obtain⟨_,_,g,_⟩:=g;cases g
 | w::ws,us,vs,h,g=>by
  rw[LI]at h;obtain⟨v,vs',e,h1,h2⟩:=h;subst e;cases us with
  | nil=>rw[LI]at g;cases g
  | cons u us=>
   rw[LI]at g;obtain⟨v',vs'',e',g1,g2⟩:=g;cases e'
   rw[iZ,Fg I h1 g1,qG I h2 g2];rfl
end
theorem Zd {n}(h:Hq n (.tup ws)=true):∃m,n=m+1/\ws.all (Hq m)=true:=by
 cases n with
 | zero=>simp[Hq]at h
 | succ m=>exact⟨m,rfl,by simpa[Hq]using h⟩
theorem KC {n}(h:Hq n (.lst ws)=true):∃m,n=m+1/\ws.all (Hq m)=true:=by
 cases n with
 | zero=>simp[Hq]at h
 | succ m=>exact⟨m,rfl,by simpa[Hq]using h⟩
theorem CZ {s A}{n}{us}{xs ys}{its jts}(d1:LI K H ws xs)(d2:LI K H us ys)(p1:ws.all (Hq n)=true)(p2:us.all (Hq n)=true)(r1:Cq xs its)(r2:Cq ys jts)
  (one:∀{w u v x}{a b},Dt K H w v->Dt K H u x->Hq n w=true->Hq n u=true->RelV v a->RelV x b->Wg A s a b (Iz w u)) :
  ∀j h1  (h2:j<jts.toArray.size),Wg A s its.toArray[j] jts.toArray[j] (ZM ws us j):=by
 intro j h1 h2;have l1:j<ws.length:=by rw[d1.len,r1.length];simpa using h1
 have l2:j<us.length:=by rw[d2.len,r2.length];simpa using h2
 obtain⟨v,ev,dv⟩:=d1.get (N5 l1);obtain⟨x,ex,dx⟩:=d2.get (N5 l2);obtain⟨a,ea,ra⟩:=r1.get ev;obtain⟨b,eb,rb⟩:=r2.get ex;have ea':its.toArray[j]=a:=by simpa using(Ob.mp ea).2
 have eb':jts.toArray[j]=b:=by simpa using(Ob.mp eb).2
 have e:ZM ws us j=Iz ws[j] us[j]:=by
  unfold ZM
  simp_all
 rw[ea',eb',e];exact one dv dx (Rm.mp p1 _<|XS l1) (Rm.mp p2 _<|XS l2) ra rb
theorem size_of {xs}{its}(d:LI K H ws xs)(r:Cq xs its):its.toArray.size=ws.length:=by
 rw[d.len,r.length];simp
theorem akg {us:List W}:((P0 (min ws.length us.length)).all (ZM ws us)&&ws.length==us.length)=iZ ws us:=by
 by_cases e:ws.length=us.length
 rw[<-e,Nat.min_self,xH e];simp;rw[wN e,(beq_eq_false_iff_ne.mpr e),Wo]
inductive Kd (s:AP):W->JI->Prop where
 | non:Kd s .non .none
 | bl (b:Bool):Kd s (.bl b) (.bool b)
 | int (i:Int) (t:Tok):Kd s (.int i) (.int i t)
 | str (x:Str) (t:Tok):Kd s (.str x) (.str x t)
 | tup (ws:List W) {p:Addr}{its:Array JI}(q:s.heap.IsTuple p its):Kd s (.tup ws) (.ref p)
 | lst (ws:List W) {p:Addr}{its:Array JI}(q:s.heap.IsList p its):Kd s (.lst ws) (.ref p)
theorem yR {amx s}{σ:St}(I:Aq X amx σ H s){w v}{a}(d:Dt X.K H w v)(r:RelV v a):Kd s w a:=by
 cases w with
 | non=>rw[Dt]at d;subst d;cases r;exact .non
 | bl b=>rw[Dt]at d;subst d;cases r;exact .bl b
 | int b=>rw[Dt]at d;subst d;obtain⟨t,rfl⟩:=r;exact .int b t
 | str b=>rw[Dt]at d;subst d;obtain⟨t,rfl⟩:=r;exact .str b t
 | tup ws=>rw[Dt]at d;obtain⟨p,xs,e,hs,_⟩:=d;subst e;cases r;obtain⟨its,_,q,_⟩:=I.tuple hs;exact .tup ws q
 | lst ws=>rw[Dt]at d;obtain⟨p,xs,e,hs,_⟩:=d;subst e;cases r;obtain⟨its,_,q,_⟩:=I.list hs;exact .lst ws q.isList
 | _=>rw[Dt]at d;exact d.elim
def sq1:W->Bool
 | .tup _=>true
 | .lst _=>true
 | _=>false
def qz:W->W->Bool
 | .tup _,.tup _=>true
 | .lst _,.lst _=>true
 | _,_=>false
def adu (w u:W):Bool:=!(sq1 w||sq1 u)
open SeqAt.EqAt in
theorem Uw {s A}{w u}{a b}(hu:A.units<Ln)(k1:Kd s w a)(k2:Kd s u b)(h:qz w u=false)(f:adu w u=false):Wg A s a b (Iz w u):=by
 cases k1<;>cases k2<;>try (first|(cases h;done)|(cases f;done))
 apply none_tuple<;>assumption
 apply none_list<;>assumption
 apply bool_tuple<;>assumption
 apply bool_list<;>assumption
 apply int_tuple<;>assumption
 apply int_list<;>assumption
 apply str_tuple<;>assumption
 apply str_list<;>assumption
 apply tuple_none<;>assumption
 apply tuple_bool<;>assumption
 apply tuple_int<;>assumption
 apply tuple_str<;>assumption
 apply tuple_list<;>assumption
 apply list_none<;>assumption
 apply list_bool<;>assumption
 apply list_int<;>assumption
 apply list_str<;>assumption
 apply list_tuple<;>assumption
open SeqAt.RcAt in
theorem ab0 {s A}{w u}{a b}(hu:A.units<Ln)(k1:Kd s w a)(k2:Kd s u b)(h:qz w u=false):SeqAt.RcAt A s a b (Iz w u):=by
 cases k1<;>cases k2<;>try (first|(cases h;done))
 apply none_none<;>assumption
 apply none_bool<;>assumption
 apply none_int<;>assumption
 apply none_str<;>assumption
 apply none_tuple<;>assumption
 apply none_list<;>assumption
 apply bool_none<;>assumption
 apply bool_bool<;>assumption
 apply bool_int<;>assumption
 apply bool_str<;>assumption
 apply bool_tuple<;>assumption
 apply bool_list<;>assumption
 apply int_none<;>assumption
 apply int_bool<;>assumption
 apply int_int<;>assumption
 apply int_str<;>assumption
 apply int_tuple<;>assumption
 apply int_list<;>assumption
 apply str_none<;>assumption
 apply str_bool<;>assumption
 apply str_int<;>assumption
 apply str_str<;>assumption
 apply str_tuple<;>assumption
 apply str_list<;>assumption
 apply tuple_none<;>assumption
 apply tuple_bool<;>assumption
 apply tuple_int<;>assumption
 apply tuple_str<;>assumption
 apply tuple_list<;>assumption
 apply list_none<;>assumption
 apply list_bool<;>assumption
 apply list_int<;>assumption
 apply list_str<;>assumption
 apply list_tuple<;>assumption
open SeqAt.RcNeAt in
theorem ZW {s:AP}{A:Hh}{w u:W}{a b:JI}(hu:A.units<Ln)(k1:Kd s w a)(k2:Kd s u b)(h:qz w u=false):SeqAt.RcNeAt A s a b (!Iz w u):=by
 cases k1<;>cases k2<;>try (first|(cases h;done))
 apply none_none<;>assumption
 apply none_bool<;>assumption
 apply none_int<;>assumption
 apply none_str<;>assumption
 apply none_tuple<;>assumption
 apply none_list<;>assumption
 apply bool_none<;>assumption
 apply bool_bool<;>assumption
 apply bool_int<;>assumption
 apply bool_str<;>assumption
 apply bool_tuple<;>assumption
 apply bool_list<;>assumption
 apply int_none<;>assumption
 apply int_bool<;>assumption
 apply int_int<;>assumption
 apply int_str<;>assumption
 apply int_tuple<;>assumption
 apply int_list<;>assumption
 apply str_none<;>assumption
 apply str_bool<;>assumption
 apply str_int<;>assumption
 apply str_str<;>assumption
 apply str_tuple<;>assumption
 apply str_list<;>assumption
 apply tuple_none<;>assumption
 apply tuple_bool<;>assumption
 apply tuple_int<;>assumption
 apply tuple_str<;>assumption
 apply tuple_list<;>assumption
 apply list_none<;>assumption
 apply list_bool<;>assumption
 apply list_int<;>assumption
 apply list_str<;>assumption
 apply list_tuple<;>assumption
theorem zT:∀{w u},qz w u=true->(∃ws us,w=.tup ws/\u=.tup us)\/∃ws us,w=.lst ws/\u=.lst us
 | .tup ws,.tup us,_=>.inl ⟨ws,us,rfl,rfl⟩
 | .lst ws,.lst us,_=>.inr ⟨ws,us,rfl,rfl⟩
def wV:V->W
 | .bl b=>.bl b
 | .int b=>.int b
 | .str b=>.str b
 | _=>.non
theorem aej {v x}(h:O4 v=true)(g:O4 x=true):Iz (wV v) (wV x)=eqV v x:=by
 cases v<;>first|(cases h;done)|(cases x<;>first|(cases g;done)|rfl)
theorem TQ {w v}(d:Dt K H w v)(h:sq1 w=false):O4 v=true/\w=wV v:=by
 cases w with
 | tup _|lst _=>cases h
 | non|bl _|int _|str _=>rw[Dt]at d;subst d;exact⟨rfl,rfl⟩
 | _=>rw[Dt]at d;cases d
theorem TF {s A}{w u v x}{a b}(dw:Dt K H w v)(du:Dt K H u x)(hf:adu w u=true)(ra:RelV v a)(rb:RelV x b):Wg A s a b (Iz w u):=by
 have hf:=Bool.or_eq_false_iff.mp (Eq.mp (Bool.not_eq_true' _) hf);have⟨f1,e1⟩:=TQ dw hf.1;have⟨f2,e2⟩:=TQ du hf.2;rw[e1,e2,aej f1 f2];exact acH ra rb f1 f2
theorem Tq {amx s}{σ:St}(I:Aq X amx σ H s){n A}{w u v x}{a b}(ih:∀{w u v x}{a b},Dt X.K H w v->Dt X.K H u x->Hq n w=true->Hq n u=true->RelV v a->RelV x b->Wg A.in1 s a b (Iz w u))(hu:A.units<Ln)(h2:qz w u=true)(dw:Dt X.K H w v)(du:Dt X.K H u x)(pw:Hq (n+1) w=true)(pu:Hq (n+1) u=true)(ra:RelV v a)(rb:RelV x b):∃p q,v=.ref p/\x=.ref q/\a=.ref p/\b=.ref q/\SeqAt.RcAt A s a b (Iz w u)/\SeqAt.RcNeAt A s a b (!Iz w u):=by
 rcases zT h2 with⟨ws,us,rfl,rfl⟩|⟨ws,us,rfl,rfl⟩<;>obtain⟨p,xs1,rfl,hs1,ds1⟩:=dw<;>obtain⟨q,xs2,rfl,hs2,ds2⟩:=du<;>cases ra<;>cases rb<;>refine⟨p,q,rfl,rfl,rfl,rfl,?_⟩<;>rw[Iz]<;>rw[Hq]at pw pu
 obtain⟨its1,rv1,q1,_⟩:=I.tuple hs1;obtain⟨its2,rv2,q2,_⟩:=I.tuple hs2;have it:=CZ ds1 ds2 pw pu rv1 rv2 ih;rw[<-akg,<-size_of ds1 rv1,<-size_of ds2 rv2];exact⟨.tuples q1 q2 hu it,.tuples q1 q2 hu it⟩;obtain⟨its1,rv1,q1,_⟩:=I.list hs1;obtain⟨its2,rv2,q2,_⟩:=I.list hs2;by_cases hl:ws.length=us.length
 have it:=CZ ds1 ds2 pw pu rv1 rv2 ih;have e:its1.toArray.size=its2.toArray.size:=by rw[size_of ds1 rv1,size_of ds2 rv2,hl]
 rw[<-xH hl,<-size_of ds1 rv1];exact⟨.lists q1.isList q2.isList e hu it,.lists q1.isList q2.isList e hu it⟩;rw[wN hl];have e:(its1.toArray.size != its2.toArray.size)=true:=by rw[size_of ds1 rv1,size_of ds2 rv2];exact bne_iff_ne.mpr hl
 exact⟨.lists_lengths q1.isList q2.isList e hu,.lists_lengths q1.isList q2.isList e hu⟩
theorem JF {w u}(h:qz w u=true):∀{n},Hq n w=true->∃m,n=m+1
 | 0,p=>by rcases zT h with⟨_,_,rfl,_⟩|⟨_,_,rfl,_⟩<;>cases p
 | m+1,_=>⟨m,rfl⟩
theorem ab1 {amx:List (Addr×Obj)}{s:AP}{σ:St}(I:Aq X amx σ H s):∀(n:Nat) {A:Hh}{w u:W}{v x:V}{a b:JI},A.units+n<Ln->Dt X.K H w v->Dt X.K H u x->Hq n w=true->Hq n u=true->RelV v a->RelV x b->Wg A s a b (Iz w u):=by
 intro n;induction n with
 | zero=>
  intro A w u v x a b hu dw du pw pu ra rb;by_cases hf:adu w u=true
  exact TF dw du hf ra rb;by_cases h2:qz w u=true
  obtain⟨m,e⟩:=JF h2 pw;cases e;exact Uw hu (yR I dw ra) (yR I du rb) (Xq _ ▸ h2)<|Xq _ ▸ hf
 | succ n ih=>
  intro A w u v x a b hu dw du pw pu ra rb;by_cases hf:adu w u=true
  exact TF dw du hf ra rb;by_cases h2:qz w u=true
  obtain⟨p,q,rfl,rfl,rfl,rfl,z,_⟩:=Tq I (ih (by rw[Nat.add_assoc,Nat.add_comm 1];exact hu)) (XJ (Nat.le_add_right _ _) hu) h2 dw du pw pu ra rb;by_cases hp:p=q
  subst hp;rw[Fg I dw du];exact SeqAt.EqAt.same _;exact SeqAt.EqAt.of_refs hp z;exact Uw (XJ (Nat.le_add_right _ _) hu) (yR I dw ra) (yR I du rb) (Xq _ ▸ h2)<|Xq _ ▸ hf
theorem rcN {amx s}{σ:St}(I:Aq X amx σ H s){A}{w u v x}{a b}{p:Prop}(hu:A.units+(m+1)<Ln)(hu':A.units<Ln)(h2:qz w u=true)(dw:Dt X.K H w v)(du:Dt X.K H u x)(pw:Hq (m+1) w=true)(pu:Hq (m+1) u=true)(ra:RelV v a)(rb:RelV x b)(f:SeqAt.RcAt A s a b (Iz w u)/\SeqAt.RcNeAt A s a b (!Iz w u)->p):p:=by
 obtain⟨_,_,_,_,_,_,z⟩:=Tq I (ab1 I m (by rw[Nat.add_assoc,Nat.add_comm 1];exact hu)) hu' h2 dw du pw pu ra rb;exact f z
theorem ad5 {amx s}{σ:St}(I:Aq X amx σ H s)(n){A}{w u v x}{a b}(hu:A.units+n<Ln)(dw:Dt X.K H w v)(du:Dt X.K H u x)(pw:Hq n w=true)(pu:Hq n u=true)(ra:RelV v a)(rb:RelV x b):SeqAt.RcAt A s a b (Iz w u):=by
 have hu':=XJ (Nat.le_add_right _ _) hu;by_cases h2:qz w u=true
 obtain⟨m,rfl⟩:=JF h2 pw;exact rcN I hu hu' h2 dw du pw pu ra rb (·.1);exact ab0 hu' (yR I dw ra) (yR I du rb)<|Xq _ ▸ h2
theorem akx {amx s}{σ:St}(I:Aq X amx σ H s)(n){A}{w u v x}{a b}(hu:A.units+n<Ln)(dw:Dt X.K H w v)(du:Dt X.K H u x)(pw:Hq n w=true)(pu:Hq n u=true)(ra:RelV v a)(rb:RelV x b):SeqAt.RcNeAt A s a b (!Iz w u):=by
 have hu':=XJ (Nat.le_add_right _ _) hu;by_cases h2:qz w u=true
 obtain⟨m,rfl⟩:=JF h2 pw;exact rcN I hu hu' h2 dw du pw pu ra rb (·.2);exact ZW hu' (yR I dw ra) (yR I du rb)<|Xq _ ▸ h2
def Bu (h:Gh):W->Option W
 | .loc n=>(match h.c n with
  | some (.lst ws)=>Dn (.lst ws)
  | _=>Go)
 | w=>Dn w
theorem nQ {w d v}{n}(R:HS K μ H h)(r:CR K H μ w v)(e:Bu h w=Dn d)(p:Hq n d=true):Dt K H d v:=by
 have other:Bu h w=Dn w->Dt K H d v:=λz=>by
  rw[z]at e;cases e;exact Qq n r p
 cases w with
 | loc m=>
  unfold Bu at e;dsimp only at e;cases ec:h.c m with
  | none=>rw[ec]at e;cases e
  | some cl=>
   rw[ec]at e;cases cl with
   | lst us=>
    cases e;obtain⟨p',xs,hm',hx,rs⟩:=R.lstAt ec;obtain⟨q,ev,hm⟩:=r;cases by rw[hm]at hm';exact(Lr hm').symm
    obtain⟨k,rfl,p⟩:=KC p;exact⟨p',xs,ev,.of hx,yW (Qq k) rs p⟩
   | _=>cases e
 | _=>exact other rfl
def afU (K:Ax)(neg:Bool):R2:=λx y H Q=>∃w u,Dt K H w x/\Dt K H u y/\Hq 30 w=true/\Hq 30 u=true/\Q (.bl (if neg then !Iz w u else Iz w u)) H
theorem adb (hu:X.A.units+30<Ln):Kr X (ML .Eq) (afU X.K false):=by
 rintro amx s σ H x y v u Q I rx ry ⟨w,w',d1,d2,p1,p2,q⟩;exact ad5 I 30 hu d1 d2 p1 p2 rx ry _ _ _ _<|Fz I q rfl
theorem Vi (hu:X.A.units+30<Ln):Kr X (ML .NotEq) (afU X.K true):=by
 rintro amx s σ H x y v u Q I rx ry ⟨w,w',d1,d2,p1,p2,q⟩;exact akx I 30 hu d1 d2 p1 p2 rx ry _ _ _ _<|Fz I q rfl
def Ib:M2:=λx y h Q=>match Bu h x,Bu h y with
 | some a,Dn b=>JQ (Hq 30 a&&Hq 30 b) (Q (.bl (Iz a b)) h) False
 | _,_=>False
def Ju:M2:=λx y h Q=>match Bu h x,Bu h y with
 | some a,Dn b=>JQ (Hq 30 a&&Hq 30 b) (Q (.bl (!Iz a b)) h) False
 | _,_=>False
theorem dY (hu:X.A.units+30<Ln):Nz X (ML .Eq) Ib:=⟨_,adb hu,by
 intro H μ h x y wx wy Qw Q R rx ry m k;unfold Ib at m;split at m
 rename_i a b ea eb;cases hp:(Hq 30 a&&Hq 30 b)with
 | true=>
  rw[hp]at m;rw[Qn]at hp;exact⟨a,b,nQ R rx ea hp.1,nQ R ry eb hp.2,hp.1,hp.2,k _ _<|.bl R m⟩
 | false=>rw[hp]at m;cases m
 cases m⟩
theorem sY (hu:X.A.units+30<Ln):Nz X (ML .NotEq) Ju:=⟨_,Vi hu,by
 intro H μ h x y wx wy Qw Q R rx ry m k;unfold Ju at m;split at m
 rename_i a b ea eb;cases hp:(Hq 30 a&&Hq 30 b)with
 | true=>
  rw[hp]at m;rw[Qn]at hp;exact⟨a,b,nQ R rx ea hp.1,nQ R ry eb hp.2,hp.1,hp.2,k _ _<|.bl R m⟩
 | false=>rw[hp]at m;cases m
 cases m⟩
theorem afQ {A}{k}(hr:gq k A):A.units+30<Ln:=by have:=hr.units;lia
end
section
variable {X:Cx}{K:Ax}
theorem iT {H w}{vs}(r:aY K H μ [w] vs):∃v,vs=[v]/\CR K H μ w v:=by
 obtain⟨v,vr,ev,ra,r⟩:=r;subst r;simp_all
theorem SM {H}{w u}{vs}(r:aY K H μ [w,u] vs):∃v x,vs=[v,x]/\CR K H μ w v/\CR K H μ u x:=by
 obtain⟨v,vr,ev,ra,r⟩:=r;obtain⟨x,e,rb⟩:=iT r;grind
theorem fU.of {i j n}(hi:Sm m i)(hj:Sm n j)(hm:m<=1000000)(hn:n<=1000000):fU i j:=⟨m,n,hm,hn,hi,hj⟩
theorem Sm.lit {i}(h:Nat.ble (i.natAbs+1) (2^64)=true):Sm 64 i:=by
 have:=QB h
 assumption
def JL:MC:=λws h Q=>match ws with
 | [w]=>(match view h w with
  | some xs=>Q (.int (xs.length:Int)) h
  | none=>False)
 | _=>False
theorem iY:jO X (.builtin "len") JL:=⟨_,yp,by
 intro H μ h vs ws Qw Q R r m k;unfold JL at m;split at m
 split at m
 rename_i w _ xs ev;obtain⟨v,e,rv⟩:=iT r;obtain⟨p,ys,ex,hs,rs⟩:=wX R rv ev;subst e ex;exact⟨p,ys,rfl,hs,rs.len ▸ k _ _ (.int R m)⟩;cases m;cases m⟩
def PX:MC:=λws h Q=>match ws with
 | [.int i]=>Q (.int (if i<0 then -i else i)) h
 | _=>False
theorem Ip:jO X (.builtin "abs") PX:=⟨_,aiw,by
 intro H μ h vs ws Qw Q R r m k;unfold PX at m;split at m
 obtain⟨v,e,rv⟩:=iT r;subst e rv;exact⟨_,rfl,k _ _<|.int R m⟩;cases m⟩
def ady:MC:=λws h Q=>match ws with
 | [.int i,.int j]=>Q (.int (if j>i then j else i)) h
 | _=>False
theorem ae4 (hc:X.calm=true):jO X (.builtin "max") ady:=⟨_,ala hc,by
 intro H μ h vs ws Qw Q R r m k;unfold ady at m;split at m
 obtain⟨v,x,e,rv,rx⟩:=SM r;subst e rv rx;exact⟨_,_,rfl,k _ _<|.int R m⟩;cases m⟩
def adA:MC:=λws h Q=>match ws with
 | [.int i,.int j]=>Q (.int (if j<i then j else i)) h
 | _=>False
theorem ad1 (hc:X.calm=true):jO X (.builtin "min") adA:=⟨_,zbd hc,by
 intro H μ h vs ws Qw Q R r m k;unfold adA at m;split at m
 obtain⟨v,x,e,rv,rx⟩:=SM r;subst e rv rx;exact⟨_,_,rfl,k _ _<|.int R m⟩;cases m⟩
def JG:List W->Option (List Bool)
 | []=>Dn []
 | .bl b::ws=>(JG ws).map (b::·)
 | _=>Go
theorem BL {H μ}:∀{ws xs}{bs},aY K H μ ws xs->JG ws=Dn bs->xs=bs.map V.bl
 | [],xs,bs,r,e=>by
  cases e;exact r
 | w::ws,xs,bs,r,e=>by
  obtain⟨v,vr,ev,ra,r⟩:=r;cases w with
  | bl b=>
   rw[JG]at e;cases q:JG ws with
   | none=>rw[q]at e;cases e
   | some cs=>
    rw[q]at e;cases e;rw[ev,ra,BL r q];rfl
  | _=>cases e
def acp:MC:=λws h Q=>match ws with
 | [w]=>(match dU h w with
  | some us=>(match JG us with
   | some bs=>Q (.bl (bs.all id)) h
   | none=>False)
  | none=>False)
 | _=>False
theorem adQ (hc:X.calm=true):jO X (.builtin "all") acp:=⟨_,zaR hc,by
 intro H μ h vs ws Qw Q R r m k;unfold acp at m;split at m
 split at m
 split at m
 rename_i w _ us ev _ bs eb;obtain⟨v,e,rv⟩:=iT r;obtain⟨p,ys,ex,hs,rs⟩:=dI R rv ev;subst e ex;exact⟨p,bs,rfl,BL rs eb ▸ hs,k _ _<|.bl R m⟩;cases m;cases m;cases m⟩
def abA (h:Gh)(w:W)(T:String):Option Bool:=match w with
 | .int _=>if T = "int" then Dn true else if T = "bool"\/T = "tuple"\/T = "list" then Dn false else Go
 | .bl _=>if T = "int"\/T = "bool" then Dn true else if T = "tuple"\/T = "list" then Dn false else Go
 | .str _=>if T = "int"\/T = "bool"\/T = "tuple"\/T = "list" then Dn false else Go
 | .non=>if T = "int"\/T = "bool"\/T = "tuple"\/T = "list" then Dn false else Go
 | .tup _=>if T = "tuple" then Dn true else if T = "int"\/T = "bool"\/T = "list" then Dn false else Go
 | w=>(match dU h w with
  | some _=>if T = "list" then Dn true else if T = "int"\/T = "bool"\/T = "tuple" then Dn false else Go
  | none=>Go)
theorem ajN {H h w v}{T b}(R:HS K μ H h)(r:CR K H μ w v)(e:abA h w T=Dn b):afL K H v T b:=by
 unfold abA at e;split at e
 subst r;split at e
 rename_i t;subst t;cases e;exact .inl ⟨rfl,rfl⟩;split at e
 rename_i t;cases e;rcases t with t|t|t<;>subst t
 exact .inr<|.inl ⟨rfl,rfl⟩
 exact .inr<|.inr<|.inl ⟨rfl,rfl⟩
 exact .inr<|.inr<|.inr ⟨rfl,rfl⟩
 cases e;subst r;split at e
 rename_i t;cases e;rcases t with t|t<;>subst t
 exact .inl ⟨rfl,rfl⟩;exact .inr<|.inl ⟨rfl,rfl⟩
 split at e
 rename_i t;cases e;rcases t with t|t<;>subst t
 exact .inr<|.inr<|.inl ⟨rfl,rfl⟩
 exact .inr<|.inr<|.inr ⟨rfl,rfl⟩
 cases e;subst r;split at e
 rename_i t;cases e;rcases t with t|t|t|t<;>subst t
 exact .inl ⟨rfl,rfl⟩;exact .inr<|.inl ⟨rfl,rfl⟩
 exact .inr<|.inr<|.inl ⟨rfl,rfl⟩
 exact .inr<|.inr<|.inr ⟨rfl,rfl⟩
 cases e;subst r;split at e
 rename_i t;cases e;rcases t with t|t|t|t<;>subst t
 exact .inl ⟨rfl,rfl⟩;exact .inr<|.inl ⟨rfl,rfl⟩
 exact .inr<|.inr<|.inl ⟨rfl,rfl⟩
 exact .inr<|.inr<|.inr ⟨rfl,rfl⟩
 cases e;obtain⟨p,xs,ev,hs,_⟩:=r;subst ev;refine .inl ⟨xs,hs,?_⟩;split at e
 rename_i t;subst t;cases e;exact .inr (.inr (.inl ⟨rfl,rfl⟩));split at e
 rename_i t;cases e;rcases t with t|t|t<;>subst t
 exact .inl ⟨rfl,rfl⟩;exact .inr<|.inl ⟨rfl,rfl⟩
 exact .inr<|.inr<|.inr ⟨rfl,rfl⟩
 cases e;split at e
 rename_i ws ev;obtain⟨p,xs,ex,hs,_⟩:=dI R r ev;subst ex;refine .inr ⟨xs,hs,?_⟩;split at e
 rename_i t;subst t;cases e;exact .inr (.inr (.inr ⟨rfl,rfl⟩));split at e
 rename_i t;cases e;rcases t with t|t|t<;>subst t
 exact .inl ⟨rfl,rfl⟩;exact .inr<|.inl ⟨rfl,rfl⟩
 exact .inr<|.inr<|.inl ⟨rfl,rfl⟩
 cases e;cases e
def PL:MC:=λws h Q=>match ws with
 | [w,.ty T]=>(match abA h w T with
  | some b=>Q (.bl b) h
  | none=>False)
 | _=>False
theorem Ij:jO X (.builtin "isinstance") PL:=⟨_,alm,by
 intro H μ h vs ws Qw Q R r m k;unfold PL at m;split at m
 split at m
 rename_i w T _ b eb;obtain⟨v,x,e,rv,rx⟩:=SM r;subst e rx;exact⟨v,T,b,rfl,(ajN R rv eb),k _ _<|.bl R m⟩;cases m;cases m⟩
def oG:MC:=λws h Q=>match ws with
 | [.tup us]=>Q (.tup us) h
 | [w]=>(match dU h w with
  | some us=>Q (.tup us) h
  | none=>False)
 | _=>False
theorem qY:jO X (.type "tuple") oG:=⟨_,vo,by
 intro H μ h vs ws Qw Q R r m k;unfold oG at m;split at m
 obtain⟨v,e,rv⟩:=iT r;have rv':=rv;obtain⟨p,xs,ex,hs,rs⟩:=rv;subst e ex;exact⟨p,xs,rfl,.inr ⟨hs,k _ _ ⟨μ,_,h,.refl,R,rv',m⟩⟩⟩;split at m
 rename_i w _ _ us ev;obtain⟨v,e,rv⟩:=iT r;obtain⟨p,ys,ex,hs,rs⟩:=dI R rv ev;subst e ex;exact⟨p,ys,rfl,.inl ⟨hs,λl hl=>k _ _ ⟨μ,_,h,(Ex.laid hl).ext,R.laid hl,.tupNew hl rs,m⟩⟩⟩;cases m;cases m⟩
def v8:MC:=λws h Q=>match ws with
 | [w]=>(match view h w with
  | some us=>Q (.lst us) h
  | none=>False)
 | _=>False
def Gm:MC:=λws h Q=>match ws with
 | [w]=>(match view h w with
  | some us=>Q (.loc h.nx) (h.new (.lst us))
  | none=>False)
 | _=>False
theorem uc:jO X (.type "list") v8:=⟨_,o8,by
 intro H μ h vs ws Qw Q R r m k;unfold v8 at m;split at m
 split at m
 rename_i w _ xs ev;obtain⟨v,e,rv⟩:=iT r;obtain⟨p,ys,ex,hs,rs⟩:=wX R rv ev;subst e ex;exact⟨p,ys,rfl,hs,λl hl=>k _ _ ⟨μ,_,h,(Ex.laid hl).ext,R.laid hl,.lstNew R hl rs,m⟩⟩;exact m.elim;cases m⟩
theorem akl:jO X (.type "list") Gm:=⟨_,o8,by
 intro H μ h vs ws Qw Q R r m k;unfold Gm at m;split at m
 split at m
 rename_i w _ xs ev;obtain⟨v,e,rv⟩:=iT r;obtain⟨p,ys,ex,hs,rs⟩:=wX R rv ev;subst e ex;exact⟨p,ys,rfl,hs,λl hl=>k _ _ ⟨μ.put _ l,.loc _,h.new _,(Ex.newCell R hl).ext,Uz R hl rs,⟨l,rfl,Mu.put_same⟩,m⟩⟩;cases m;cases m⟩
abbrev MM:=W->List W->Gh->WK->Prop
def adw (K:Ax)(r:V->List V->Hp->VK->Prop)(mr:MM):Prop:=∀{H:Hp}{μ:Mu}{h:Gh}{x:V}{vs:List V}{wx:W}{ws:List W}{Qw:WK}{Q:VK},HS K μ H h->CR K H μ wx x->aY K H μ ws vs->mr wx ws h Qw->(∀v H',DQ K H μ Qw v H'->Q v H')->r x vs H Q
def IW (h:Gh)(w:W)(P:Prop):Prop:=match w with
 | .loc n=>(match h.c n with
  | some (.lst _)=>P
  | _=>False)
 | _=>False
theorem Dg {H h w v}{P}(R:HS K μ H h)(r:CR K H μ w v)(e:IW h w P):tyV K "list" v H/\P:=by
 unfold IW at e;split at e
 split at e
 rename_i n _ ws ec;obtain⟨p,ev,hm⟩:=r;obtain⟨p',xs,hm',hx,rs⟩:=R.lstAt ec;have ep:=by rw[hm]at hm';exact(Lr hm').symm
 subst ep ev;exact⟨.inl ⟨rfl,xs,.of hx⟩,e⟩;cases e;cases e
def yK (r:MM)(mo:ME)(ma:MA):ME:=fun σ h Q=>mo σ h λx h1=>IW h1 x (ma σ h1 λxs h2=>r x xs h2 Q)
variable {o e:Expr}{es:List Expr}{ma:MA}{name:Str}{apos amA:Pos}{id:String}{r:V->List V->Hp->VK->Prop}{mr:MM}
theorem adR (slot:Slot "list" name id)(hty:typeOf (.builtin id)=pure (.type "method_descriptor"))(hm:MtR X id r)(hs:adw X.K r mr)(ho:DE X o mo)(ha:LQ X (e::es) ma)
  (hbase:X7 o name X.env (eval o X.env)=eval o X.env:=by rfl)
  (hfew:((Ka amA (HJ (e::es) X.env)).all (λx=>!x.1)&&(backToKw amA (Xd [] X.env)).all (λx=>x.1.isSome)
   && decide ((e::es).length+([]:List Ra).length+(if([]:List Ra).isEmpty then 0 else 1)<30))=true:=by rfl)
  (hline:(apos.endLine==amA.line)=true:=by rfl) (hst:HJ (e::es) X.env=(false,eval e X.env)::HJ es X.env:=by rfl) (hplain:(Ka amA (HJ es X.env)).any (·.1)=false:=by rfl) :
  DE X (.Call (.Attribute o name apos) (e::es) [] amA) (yK mr mo ma):=(aeA PySem.F.plainAttrs_list slot hty hm ho ha hbase hfew hline hst hplain).of fun σ H Q a=>by
 obtain⟨μ,h,σw,Qw,R,S,m,k⟩:=a;exact⟨μ,h,σw,_,R,S,m,λv H1 ⟨μ1,w,h1,e1,R1,r1,il⟩=>⟨(Dg R1 r1 il).1,μ1,h1,σw,_,R1,S.ext e1,((Dg R1 r1 il).2),λvs H2 ⟨μ2,ws,h2,e2,R2,r2,m2⟩=>hs R2 (e2.r _ _ r1) r2 m2 λv H' z=>k _ _<|(z.trans e2).trans e1⟩⟩
def cV:MM:=λx ws h Q=>match x,ws with
 | .loc n,[w]=>(match h.c n with
  | some (.lst us)=>us.length<Il/\Q .non (h.set n (.lst (us++[w])))
  | _=>False)
 | _,_=>False
theorem Qt {H h}{n v}{us}(R:HS K μ H h)(r:CR K H μ (.loc n) v)(ec:h.c n=Dn (.lst us)):∃p xs,v=.ref p/\μ.f n=Dn p/\H p=Dn (.lst xs)/\aY K H μ us xs:=by
 obtain⟨p,ev,hm⟩:=r;obtain⟨p',xs,hm',hx,rs⟩:=R.lstAt ec;simp_all
theorem DQ.wrote {H h}{n}{p}{us xs Q w v}(R:HS K μ H h)(hm:μ.f n=Dn p)(rs:aY K H μ us xs)(rw':CR K H μ w v)(q:Q w (h.set n (.lst us))):DQ K H μ Q v (HW H p (.lst xs)):=
 ⟨μ,w,h.set n (.lst us),(Ex.write R hm).ext,R.write hm trivial ⟨xs,aV,(Ex.write R hm).ext.s rs⟩,(Ex.write R hm).ext.r _ _ rw',q⟩
theorem akZ:adw K Lw cV:=by
 intro H μ h x vs wx ws Qw Q R rx rs m k;unfold cV at m;split at m
 split at m
 rename_i n w _ us ec;obtain⟨p,xs,ex,hm,hx,r1⟩:=Qt R rx ec;obtain⟨v,ev,rv⟩:=iT rs;exact⟨p,xs,v,ex,ev,hx,r1.len ▸ m.1,k _ _<|.wrote R hm (r1.append<|.one rv) (by rw[CR]) m.2⟩;cases m;cases m
theorem gU (ho:DE X o mo)(ha:LQ X [e] ma)
  (hbase:X7 o "append" X.env (eval o X.env)=eval o X.env:=by rfl)
  (hfew:((Ka amA (HJ [e] X.env)).all (λx=>!x.1)&&(backToKw amA (Xd [] X.env)).all (λx=>x.1.isSome)
   && decide (([e]:List Expr).length+([]:List Ra).length+(if([]:List Ra).isEmpty then 0 else 1)<30))=true:=by rfl)
  (hline:(apos.endLine==amA.line)=true:=by rfl) (hst:HJ [e] X.env=(false,eval e X.env)::HJ [] X.env:=by rfl) (hplain:(Ka amA (HJ [] X.env)).any (·.1)=false:=by rfl) :
  DE X (.Call (.Attribute o "append" apos) [e] [] amA) (yK cV mo ma):=adR PySem.F.slot_list_append PySem.F.type_list_append xQ akZ ho ha hbase hfew hline hst hplain
end
section
variable {X:Cx}{K:Ax}
theorem ajG:Kr X (ML .Is) (λx y H Q=>∃c b,x=.bl c/\y=.bl b/\Q (.bl (c==b)) H):=by
 rintro amx s σ H x y v u Q I rx ry ⟨c,b,ex,ey,q⟩;subst ex ey;cases rx;cases ry;exact is_bool<|Fz I q rfl
def XC:W->Bool
 | .non=>true
 | _=>false
theorem akf {H w v}(r:CR K H μ w v):decide (v=.non)=XC w:=by
 cases w with
 | non|bl _|int _|str _|ty _|fnv _ _=>rw[CR]at r;subst r;rfl
 | tup _|lst _|kls _=>rw[CR]at r;obtain⟨_,_,e,_⟩:=r;subst e;rfl
 | loc _=>rw[CR]at r;obtain⟨_,e,_⟩:=r;subst e;rfl
 | exc _=>rw[CR]at r;obtain⟨_,_,_,e,_⟩:=r;subst e;rfl
 | exa _ _=>rw[CR]at r;obtain⟨_,_,_,_,_,_,e,_⟩:=r;subst e;rfl
def kIs:M2:=λx y h Q=>match x,y with
 | .bl c,.bl b=>Q (.bl (c==b)) h
 | w,.non=>Q (.bl (XC w)) h
 | _,_=>False
def aeJ:M2:=λx y h Q=>match x,y with
 | .bl c,.bl b=>Q (.bl (!(c==b))) h
 | w,.non=>Q (.bl (!XC w)) h
 | _,_=>False
theorem afT:Nz X (ML .Is) kIs:=⟨_,ajG.or ZQ,by
 intro H μ h x y wx wy Qw Q R rx ry m k;unfold kIs at m;split at m
 exact .inl ⟨_,_,rx,ry,k _ _<|.bl R m⟩;exact akf rx ▸ .inr ⟨ry,k _ _<|.bl R m⟩;cases m⟩
theorem ahh (bs:List Bool):((P0 bs.length).any λi=>(bs[i]?).getD true)=bs.any id:=by
 rw[Bool.eq_iff_iff,YL,YL];constructor;rintro⟨i,hi,e⟩;have hi':=VH.mp hi;exact⟨bs[i],XS hi',by simpa[hi']using e⟩;rintro⟨b,hb,e⟩;obtain⟨i,hi,rfl⟩:=List.mem_iff_getElem.mp hb;exact⟨i,VH.mpr hi,by simpa[hi]using e⟩
theorem zaT (hc:X.calm=true):iV X (.builtin "any") (λxs H Q=>∃(p:Addr) (bs:List Bool),xs=[.ref p]/\Jb X.K H p (bs.map V.bl)/\Q (.bl (bs.any id)) H):=by
 rintro amx s σ H xs us Q I r ⟨p,bs,e,hS,q⟩;subst e;obtain⟨u,rfl,ru⟩:=vals1 r;cases ru;obtain⟨its,rv,pl,hz⟩:=I.list hS;have amy:its.length=bs.length:=by rw[<-rv.length,Hi]
 have hl:=pl.isList;refine call_any_walk<|X8 hl ?_
 refine⟨s.heap.objs.size,[s.heap.objs.size,p],[s.heap.objs.size],its.toArray.size,_,_,λi=>(bs[i]?).getD true,rfl,Walks.list (A:=X.A.in1) (I.ok.hd hc) _ p (JM (by obtain⟨_,e,_⟩:=hl;exact Ik e)) _,
  ⟨⟨_,Kh _ rfl,rfl,rfl⟩,hl.push _⟩,λi v s' Q' E' hP hQ=>?_,λh' tk hk=>?_⟩
 obtain⟨b,e,rfl⟩:=qw rv (by simpa using hP);simp[e]at hQ;exact W5 hQ;have e:((P0 its.toArray.size).any λi=>(bs[i]?).getD true)=bs.any id:=by
  rw[K8,amy];exact ahh bs
 rw[e];refine⟨.bl _,H,I.kept<|λb x e=>?_,rfl,q⟩;exact hk b x (λhm=>by rw[R8.mp hm]at e;exact Qf _ (Ik e))<|Iw _ e
def Ww:MC:=λws h Q=>match ws with
 | [w]=>(match dU h w with
  | some us=>(match JG us with
   | some bs=>Q (.bl (bs.any id)) h
   | none=>False)
  | none=>False)
 | _=>False
theorem acs (hc:X.calm=true):jO X (.builtin "any") Ww:=⟨_,zaT hc,by
 intro H μ h vs ws Qw Q R r m k;unfold Ww at m;split at m
 split at m
 split at m
 rename_i w _ us ev _ bs eb;obtain⟨v,e,rv⟩:=iT r;obtain⟨p,ys,ex,hs,rs⟩:=dI R rv ev;subst e ex;exact⟨p,bs,rfl,BL rs eb ▸ hs,k _ _<|.bl R m⟩;cases m;cases m;cases m⟩
theorem ahO:Kr X (Q7 .Add) (λx y H Q=>∃a b ys,x=.ref a/\y=.ref b/\Jt X.K H a []/\Jt X.K H b ys/\Q (.ref b) H):=by
 rintro amx s σ H x y v u Q I rx ry ⟨a,b,ys,ex,ey,ha,hb,q⟩;subst ex ey;cases rx;cases ry;obtain⟨its,r1,p1,_⟩:=I.tuple ha;obtain⟨jts,r2,p2,_⟩:=I.tuple hb;cases r1;obtain⟨⟨cls,dd,data,sl⟩,ho,hc,n,hd⟩:=p1;obtain⟨⟨cls2,dd2,data2,sl2⟩,ho2,hc2,n2,hd2⟩:=p2;subst hc hd hc2 hd2;exact concat_meets ⟨_,ho,rfl⟩ ⟨_,ho2,rfl⟩ noFill_tuple_add seq_tuple_add PySem.F.slot_tuple_add PySem.F.entry_tuple_add (PySem.F.args_tuple_add_2 _ _)
  (tuple_addW0 a b _ _ n n2 dd dd2 sl sl2 (by simp)) ⟨ho,ho2,.ref b,H,I,rfl,q⟩
def Px (h:Gh):W->Option (List W)
 | .lst ws=>Dn ws
 | .loc n=>(match h.c n with
  | some (.lst ws)=>Dn ws
  | _=>Go)
 | _=>Go
theorem Ci {H h w v}(R:HS K μ H h)(r:CR K H μ w v)(e:Px h w=Dn ws):∃p xs,v=.ref p/\H p=Dn (.lst xs)/\aY K H μ ws xs:=by
 cases w with
 | lst us=>
  obtain⟨p,xs,ev,hs,rs⟩:=r;cases e;exact⟨p,xs,ev,hs.1,rs⟩
 | loc n=>
  unfold Px at e;dsimp only at e;cases ec:h.c n with
  | none=>rw[ec]at e;cases e
  | some cl=>
   rw[ec]at e;cases cl with
   | lst us=>
    cases e;obtain⟨p,xs,ev,_,hx,rs⟩:=Qt R r ec;simp_all
   | _=>cases e
 | _=>cases e
def bR:M2:=λx y h Q=>match x,y with
 | .int i,.int j=>Q (.int (i+j)) h
 | .tup [],.tup b=>Q (.tup b) h
 | .tup (a0::a),.tup b=>gG (a.length+1+b.length) (Q (.tup (a0::a++b)) h)
 | x,y=>(match Px h x,Px h y with
  | some a,Dn b=>gG (a.length+b.length) (Q (.lst (a++b)) h)
  | _,_=>False)
theorem bL:Nz X (Q7 .Add) bR:=⟨_,(ajM.or (ahO.or zcb)).or abh,by
 intro H μ h x y wx wy Qw Q R rx ry m k;unfold bR at m;split at m
 exact .inl<|.inl ⟨_,_,rx,ry,k _ _<|.int R m⟩
 have ry':=ry;obtain⟨p,xs,ex,hx,r1⟩:=rx;obtain⟨q,ys,ey,hy,r2⟩:=ry;subst r1;rw[ey]at ry';exact .inl<|.inr<|.inl ⟨p,q,ys,ex,ey,hx,hy,k _ _ ⟨μ,_,h,.refl,R,ry',m⟩⟩
 rename_i a0 a b;have rx':=rx;obtain⟨p,xs,ex,hx,r1⟩:=rx;obtain⟨q,ys,ey,hy,r2⟩:=ry;refine .inl<|.inr<|.inr ⟨p,q,xs,ys,ex,ey,hx,hy,λz=>(by have:=r1.ne_nil.mp z;cases this),by rw[<-r1.len,<-r2.len];exact m.ok.1,λz=>?_,λz l hl=>?_⟩
 cases r2.ne_nil.mp z
 refine k _ _ ⟨μ,.tup _,h,.refl,R,?_,m.ok.2⟩
 rwa[Xm,<-ex]
 exact k _ _ ⟨μ,_,h,(Ex.laid hl).ext,R.laid hl,.tupNew hl<|r1.append r2,m.ok.2⟩;split at m
 rename_i a b ea eb;obtain⟨p,xs,ex,hx,r1⟩:=Ci R rx ea;obtain⟨q,ys,ey,hy,r2⟩:=Ci R ry eb;exact .inr ⟨p,q,xs,ys,ex,ey,hx,hy,by rw[<-r1.len,<-r2.len];exact m.ok.1,λl hl=>k _ _ ⟨μ,_,h,(Ex.laid hl).ext,R.laid hl,.lstNew R hl<|r1.append r2,m.ok.2⟩⟩;cases m⟩
def jk:MM:=λx ws h Q=>match x,ws with
 | .loc n,[w]=>(match h.c n,Px h w with
  | some (.lst us),Dn zs=>gG (us.length+zs.length) (Q .non (h.set n (.lst (us++zs))))
  | _,_=>False)
 | _,_=>False
theorem aic:adw K Mj jk:=by
 intro H μ h x vs wx ws Qw Q R rx rs m k;unfold jk at m;split at m
 split at m
 rename_i n w _ _ us zs ec ez;obtain⟨p,xs,ex,hm,hx,r1⟩:=Qt R rx ec;obtain⟨v,ev,rv⟩:=iT rs;obtain⟨q,ys,ey,hy,r2⟩:=Ci R rv ez;subst ey;exact⟨p,q,xs,ys,ex,ev,hx,hy,by rw[<-r1.len,<-r2.len];exact m.ok.1,k _ _<|.wrote R hm (r1.append r2) (by rw[CR]) m.ok.2⟩;cases m;cases m
variable {o e:Expr}{ma:MA}{apos amA:Pos}
theorem aie (ho:DE X o mo)(ha:LQ X [e] ma)
  (hbase:X7 o "extend" X.env (eval o X.env)=eval o X.env:=by rfl)
  (hfew:((Ka amA (HJ [e] X.env)).all (λx=>!x.1)&&(backToKw amA (Xd [] X.env)).all (λx=>x.1.isSome)
   && decide (([e]:List Expr).length+([]:List Ra).length+(if([]:List Ra).isEmpty then 0 else 1)<30))=true:=by rfl)
  (hline:(apos.endLine==amA.line)=true:=by rfl) (hst:HJ [e] X.env=(false,eval e X.env)::HJ [] X.env:=by rfl) (hplain:(Ka amA (HJ [] X.env)).any (·.1)=false:=by rfl) :
  DE X (.Call (.Attribute o "extend" apos) [e] [] amA) (yK jk mo ma):=adR PySem.F.slot_list_extend PySem.F.type_list_extend ahI aic ho ha hbase hfew hline hst hplain
end
def VP (K:Ax):Sp:=λvs H Q _=>∃(a:Addr) (ns:List Int),vs=[.ref a]/\Jb K H a (ns.map V.int)/\Only H/\ns.length<=63/\∀H',Q (.bl true) H'
def g0:Gh:=⟨0,λ_=>Go⟩
def μ0:Mu:=⟨λ_=>Go,λ_=>False⟩
theorem agN {K:Ax}{H:Hp}:HS K μ0 H g0 where
 inj:=nofun
 dom:=nofun
 trk:=nofun
 cel:=nofun
 hd:=λp h=>Qy h
theorem zu {K H μ}:∀ns:List Int,aY K H μ (ns.map W.int) (ns.map V.int)
 | []=>.nil
 | n::ns=>.cons (by rw[CR]) (zu ns)
theorem zbY {P w K}{mg base k}{f fd}{ps}
  (hm:∀ns:List Int,ns.length<=63->ms [.kls (ns.map W.int)] g0 (λw _=>w=.bl true) EF) (F:jB P w K mg base O9 k f fd ps (lift K ms)):jB P w K mg base O9 k f fd ps (VP K):=
 F.imp λvs H Q E b=>by
  obtain⟨a,ns,e,hS,hO,hl,q⟩:=b;subst e;refine⟨μ0,g0,[.kls _],_,agN,.one ?_,hm ns hl,λv H' ⟨μ',w',h',_,_,r,e⟩=>?_⟩;refine⟨a,ns.map _,rfl,?_,zu ns⟩;rcases hS with(hS|hS)|hS
  rcases hO a with z|⟨o,xs,z⟩<;>rw[hS]at z<;>cases z
  exact .inl hS;exact .inr hS;subst e r;exact q H'
inductive Sk where
 | l|t
def Sk.sq (k:Sk)(h:Heap)(a:Addr)(its:Array JI):Prop:=match k with
 | .l=>h.IsList a its
 | .t=>h.IsTuple a its
def Sk.it (k:Sk)(h:Heap)(i a:Addr)(n:Nat):Prop:=match k with
 | .l=>h.IsListIter i a n
 | .t=>h.IsTupleIter i a n
def Sk.nm:Sk->String
 | .l => "list_iterator"
 | .t => "tuple_iterator"
section
variable {P:HN}{w:HI}{A:Hh}{E:JI->AP->Prop}{s:AP}{k k1 k2:Sk}
theorem Sk.it_at {h h' i a n}(x:k.it h i a n)(e:∀o,h.get? i=Dn o->h'.get? i=Dn o):k.it h' i a n:=by
 cases k with
 | l|t=>obtain⟨o,ho,r⟩:=x;exact⟨o,e o ho,r⟩
theorem Sk.sq_at {h h' a}{its}(x:k.sq h a its)(e:∀o,h.get? a=Dn o->h'.get? a=Dn o):k.sq h' a its:=by
 cases k with
 | l|t=>obtain⟨o,ho,r⟩:=x;exact⟨o,e o ho,r⟩
theorem Sk.it_obj {h}{i a n}(x:k.it h i a n):∃o,h.get? i=Dn o/\o.cls=.type k.nm/\o.data=.fields #[.ref a,.int n 0]:=by
 cases k with
 | l|t=>exact x
theorem aiF {it t i}{its x}{Q}(hi:s.heap.IsTupleIter it t i)(ht:s.heap.IsTuple t its)(hx:its[i]?=Dn x)
  (q:∀h',h'.IsTupleIter it t (i+1)->QJ it s.heap h'->Q x {s with heap:=h'}):Bb (CG P w) A (Wf (.ref it)) Q E s:=by
 obtain⟨o,go,gc,gd⟩:=id hi;obtain⟨ol,gol,_,nl,gdl⟩:=ht;refine Al (WQ hi.typeIs Yv
  (Vo Yv hi.typeIs PySem.F.entry_tuple_iterator_next ?_ (PySem.F.args_tuple_iterator_next_1 _)))
 show Bb _ _ (field _ 0 >>= _) _ _ s;refine Al<|Ls go gd rfl<|Al<|Ls go gd rfl<|Al<|VG gol gdl ?_
 simp[hx];refine Al<|Wd go gd (by simp)<|HF ⟨x,rfl,HF<|q _ ?_<|WL ..⟩
 exact⟨_,Qs _ go<|Vk<|Rg gd _,(YS ..).trans gc,by rw[Rg gd];simp[Q6]⟩
theorem zO {it t i}{its}{Q}(hh:A.handled=Go)(hi:s.heap.IsTupleIter it t i)(ht:s.heap.IsTuple t its)(hx:its[i]?=Go)
  (q:∀h' e,Xf it s.heap h'->(∃o,h'.get? e=Dn o/\o.cls=.type "StopIteration")->E (.ref e) {s with heap:=h'}):Bb (CG P w) A (Wf (.ref it)) Q E s:=by
 obtain⟨o,go,gc,gd⟩:=id hi;obtain⟨ol,gol,_,nl,gdl⟩:=ht;refine Al (WQ hi.typeIs Yv
  (Vo Yv hi.typeIs PySem.F.entry_tuple_iterator_next ?_ (PySem.F.args_tuple_iterator_next_1 _)))
 show Bb _ _ (field (.ref it) 0 >>= _) _ _ s;refine Al<|Ls go gd rfl ?_
 refine Al<|Ls go gd rfl ?_
 refine Al<|VG gol gdl ?_
 simp only[Int.toNat_natCast,hx];refine Al<|Wb<|Al<|Wd go gd (by simp) ?_
 refine Al ?_;refine Al (m:=firstArgMember _ _)<|Vu (by first|rfl|(rfl)) ?_
 refine W4 ?_<|by size_fits
 refine Al<|wpAny_handled ?_
 first|rw[hh]|rw[hh]
 refine Al<|HF<|Xe ?_
 exact q _ _ (((WL ..).extBut.push _).push _) ⟨_,Kh _ rfl,rfl⟩
theorem Sk.next {it a i}{its x}{Q}(hi:k.it s.heap it a i)(hs:k.sq s.heap a its)(hx:its[i]?=Dn x)
  (q:∀h',k.it h' it a (i+1)->QJ it s.heap h'->Q x {s with heap:=h'}):Bb (CG P w) A (Wf (.ref it)) Q E s:=by
 cases k with
 | l=>exact wpAny_nextOf_list_item hi hs hx q
 | t=>exact aiF hi hs hx q
theorem Sk.stop {it a:Addr}{i:Nat}{its:Array JI}{Q:JI->AP->Prop}(hh:A.handled=Go)(hi:k.it s.heap it a i)(hs:k.sq s.heap a its)(hx:its[i]?=Go)
  (q:∀h' e,Xf it s.heap h'->(∃o,h'.get? e=Dn o/\o.cls=.type "StopIteration")->E (.ref e) {s with heap:=h'}):Bb (CG P w) A (Wf (.ref it)) Q E s:=by
 cases k with
 | l=>exact wpAny_nextOf_list_end hh hi hs hx q
 | t=>exact zO hh hi hs hx q
theorem Sk.iter {a}{its}{Q}(hs:k.sq s.heap a its)
  (q:Q (.ref s.heap.objs.size) {s with heap:=s.heap.push {cls:=.type k.nm,data:=.fields #[.ref a,.int 0 0]} }):Bb (CG P w) A (pyIter (.ref a)) Q E s:=by
 cases k with
 | l=>exact X8 hs q
 | t=>exact wpAny_pyIter_tuple hs q
structure Zap (z TI TO i1 i2:Addr):Prop where
 a1:TI≠z
 a2:TO≠z
 a3:i1≠z
 a4:i2≠z
 a5:TI≠TO
 a6:TI≠i1
 a7:TI≠i2
 a8:TO≠i1
 a9:TO≠i2
 b1:i1≠i2
structure Off (a z TO i1 i2:Addr):Prop where
 z:a≠z
 o:a≠TO
 i:a≠i1
 j:a≠i2
theorem zbR {z TI TO i1 i2 l1 l2 n1 n2}{xs ys x y a b}{Q}(D:Zap z TI TO i1 i2)(o1:Off l1 z TO i1 i2)(o2:Off l2 z TO i1 i2)
  (gz:IsZip s.heap z TI TO .none) (gI:Qk s.heap TI (.ref i1) (.ref i2)) (gO:Qk s.heap TO a b) (g1:k1.it s.heap i1 l1 n1) (g2:k2.it s.heap i2 l2 n2) (gx:k1.sq s.heap l1 xs) (gy:k2.sq s.heap l2 ys)
  (hx:xs[n1]?=Dn x) (hy:ys[n2]?=Dn y)
  (q:∀h',IsZip h' z TI TO (Q6 s.heap.objs.size)->Qk h' TO x y->k1.it h' i1 l1 (n1+1)->k2.it h' i2 l2 (n2+1)->Qk h' s.heap.objs.size x y->h'.objs.size=s.heap.objs.size+1 ->
   (∀c o,c≠z->c≠TO->c≠i1->c≠i2->s.heap.get? c=Dn o->h'.get? c=Dn o)->Q (Dn (.ref s.heap.objs.size)) {s with heap:=h'}) :
  Bb (CG P w) A (pyNext (.ref z)) Q E s:=by
 have gT:s.TypeIs (.ref z) "zip":=⟨_,gz,rfl⟩
 refine Al<|VF<|WQ (name:=Str.ofString "__next__") gT Yp<|Vo Yp gT PySem.F.entry_zip_next ?_<|PySem.F.args_zip_next_1 _
 show Bb _ _ (field (.ref z) 2 >>= _) _ _ _;refine Al<|Ls gz rfl (x:=.bool false) rfl ?_
 refine Al<|Ls gz rfl (x:=.ref TI) rfl ?_
 refine Al<|VG gI rfl ?_
 refine Al ?_;refine Al<|Ls gz rfl (x:=.none) rfl<|HF ?_
 refine Al<|Wb ?_
 refine Al<|Ls gz rfl (x:=.ref TO) rfl ?_
 refine Al<|Y5 gz (by simp) λh₁ z₁ s₁=>?_
 refine Al ?_
 -- the first one
 refine Al<|Al<|wpAny_onRaise ?_
 show Bb _ _ (Wf (.ref i1) >>= _) _ _ _;refine Al<|Sk.next (k:=k1) (s:={s with heap:=h₁}) (Sk.it_at g1 λo e=>s₁.extBut _ o D.a3 e) (Sk.sq_at gx λo e=>s₁.extBut _ o o1.z e) hx λh₂ g1₂ s₂=>HF ?_
 have gO₂:Qk h₂ TO a b:=s₂.extBut _ _ D.a8 (s₁.extBut _ _ D.a2 gO);refine Al<|VG gO₂ rfl ?_
 refine Al<|wpAny_updateSeq_pair gO₂ λh₃ gO₃ s₃=>?_
 replace gO₃:Qk h₃ TO x b:=gO₃;refine Al<|wpAny_letGo<|HF ?_
 -- the second one
 refine Al<|Al<|wpAny_onRaise ?_
 show Bb _ _ (Wf (.ref i2) >>= _) _ _ _;refine Al (Sk.next (k:=k2) (s:={s with heap:=h₃}) (Sk.it_at g2 λo e=>s₃.extBut _ o D.a9.symm (s₂.extBut _ o D.b1.symm (s₁.extBut _ o D.a4 e)))
  (Sk.sq_at gy λo e=>s₃.extBut _ o o2.o (s₂.extBut _ o o2.i (s₁.extBut _ o o2.z e))) hy λh₄ g2₄ s₄=>HF ?_)
 have gO₄:Qk h₄ TO x b:=s₄.extBut _ _ D.a9 gO₃;refine Al<|VG gO₄ rfl ?_
 refine Al<|wpAny_updateSeq_pair gO₄ λh₅ gO₅ s₅=>?_
 replace gO₅:Qk h₅ TO x y:=gO₅;refine Al<|wpAny_letGo<|HF<|HF ?_
 -- the pair is handed out
 refine Al<|VG gO₅ rfl ?_
 refine Al<|wpAny_newTuple ?_
 have size:h₅.objs.size=s.heap.objs.size:=by rw[s₅.1,s₄.1,s₃.1,s₂.1,s₁.1]
 have z₅:IsZip h₅ z TI TO .ellipsis:=s₅.extBut _ _ D.a2.symm (s₄.extBut _ _ D.a4.symm (s₃.extBut _ _ D.a2.symm (s₂.extBut _ _ D.a3.symm z₁)));have all₅:∀c o,c≠z->c≠TO->c≠i1->c≠i2->s.heap.get? c=Dn o->h₅.get? c=Dn o:=λc o c1 c2 c3 c4 e=>s₅.extBut _ _ c2 (s₄.extBut _ _ c4 (s₃.extBut _ _ c2 (s₂.extBut _ _ c3 (s₁.extBut _ _ c1 e))))
 have g1₅:k1.it h₅ i1 l1 (n1+1):=Sk.it_at g1₂ λo e=>s₅.extBut _ o D.a8.symm (s₄.extBut _ o D.b1 (s₃.extBut _ o D.a8.symm e))
 have g2₅:k2.it h₅ i2 l2 (n2+1):=Sk.it_at g2₄ λo e=>s₅.extBut _ o D.a9.symm e
 have zlt:z<h₅.objs.size:=Ik z₅;show Bb _ _ (Builtin.SmallTypes.ownedTupleHandOut (.ref z) (.ref h₅.objs.size) >>= _) _ _ _;refine Al ?_;unfold Builtin.SmallTypes.ownedTupleHandOut;have z₆:IsZip (h₅.push {cls:=.type "tuple",data:=.seq #[x,y]}) z TI TO .ellipsis:=Iw _ z₅;refine Al<|Y5 z₆ (by simp) λh₇ z₇ s₇=>?_
 replace z₇:IsZip h₇ z TI TO (Q6 h₅.objs.size):=z₇;refine Y5 z₇ (by simp) λh₈ z₈ s₈=>?_;replace z₈:IsZip h₈ z TI TO (Q6 h₅.objs.size):=z₈;have up:∀c o,c≠z->h₅.get? c=Dn o->h₈.get? c=Dn o:=λc o c1 e=>s₈.extBut _ _ c1 (s₇.extBut _ _ c1 (Iw _ e))
 have T₈:Qk h₈ h₅.objs.size x y:=s₈.extBut _ _ (R9 zlt) (s₇.extBut _ _ (R9 zlt) (Kh _ rfl));have size8:h₈.objs.size=h₅.objs.size+1:=by rw[s₈.1,s₇.1,S7]
 rw[size]at z₈ T₈ size8;refine HF ⟨_,rfl,HF ?_⟩;show Q (Dn (.ref h₅.objs.size)) _;rw[size];exact q h₈ z₈ (up _ _ D.a2 gO₅) (Sk.it_at g1₅ λo e=>up _ o D.a3 e) (Sk.it_at g2₅ λo e=>up _ o D.a4 e) T₈ size8 λc o c1 c2 c3 c4 e=>up c o c1<|all₅ c o c1 c2 c3 c4 e
theorem aiO {z TI TO i1 i2 l1 l2 n1 n2}{xs ys a b}{Q}(hh:A.handled=Go)(D:Zap z TI TO i1 i2)(o1:Off l1 z TO i1 i2)(o2:Off l2 z TO i1 i2)
  (gz:IsZip s.heap z TI TO .none) (gI:Qk s.heap TI (.ref i1) (.ref i2)) (gO:Qk s.heap TO a b) (g1:k1.it s.heap i1 l1 n1) (g2:k2.it s.heap i2 l2 n2) (gx:k1.sq s.heap l1 xs) (gy:k2.sq s.heap l2 ys)
  (hend:xs[n1]?=Go\/ys[n2]?=Go)
  (q:∀h',(∀c o,c≠z->c≠TO->c≠i1->c≠i2->s.heap.get? c=Dn o->h'.get? c=Dn o)->Q Go {s with heap:=h'}):Bb (CG P w) A (pyNext (.ref z)) Q E s:=by
 have gT:s.TypeIs (.ref z) "zip":=⟨_,gz,rfl⟩
 have fin:∀(h':Heap) (e:Addr),(∀c o,c≠z->c≠TO->c≠i1->c≠i2->s.heap.get? c=Dn o->h'.get? c=Dn o)->(∃o,h'.get? e=Dn o/\o.cls=.type "StopIteration") ->
   Bb (CG P w) A (do if <-Wj (.ref e) (.type "StopIteration")then pure Go else throw (.ref e)) Q E {s with heap:=h'}:=λh' e all ⟨o,ho,hc⟩=>
  Al (wpAny_isInstance (T := "StopIteration") (b:=true) ⟨o,ho,hc⟩ isSubtype_stop (HF (q _ all)))
 refine Al<|VF<|WQ (name:=Str.ofString "__next__") gT Yp<|Vo Yp gT PySem.F.entry_zip_next ?_<|PySem.F.args_zip_next_1 _
 show Bb _ _ (field (.ref z) 2 >>= _) _ _ _;refine Al<|Ls gz rfl (x:=.bool false) rfl ?_
 refine Al<|Ls gz rfl (x:=.ref TI) rfl ?_
 refine Al<|VG gI rfl ?_
 refine Al ?_;refine Al<|Ls gz rfl (x:=.none) rfl<|HF ?_
 refine Al<|Wb ?_
 refine Al<|Ls gz rfl (x:=.ref TO) rfl ?_
 refine Al<|Y5 gz (by simp) λh₁ z₁ s₁=>?_
 refine Al ?_;simp only[List.zipIdx_cons,List.zipIdx_nil,List.forIn_cons,List.forIn_nil];refine Al<|Al<|wpAny_onRaise ?_
 show Bb _ _ (Wf (.ref i1) >>= _) _ _ _;have g1₁:k1.it h₁ i1 l1 n1:=Sk.it_at g1 λo e=>s₁.extBut _ o D.a3 e
 have gx₁:k1.sq h₁ l1 xs:=Sk.sq_at gx λo e=>s₁.extBut _ o o1.z e
 cases hx:xs[n1]? with
 | none=>
  refine Al<|Sk.stop (k:=k1) (s:={s with heap:=h₁}) hh g1₁ gx₁ hx λh₂ e s₂ he=>?_
  obtain⟨oe,hoe,hce⟩:=he;have z₂:IsZip h₂ z TI TO .ellipsis:=s₂ _ _ D.a3.symm z₁;have ez:e≠z:=λy=>by subst y;rw[z₂]at hoe;cases hoe;simp at hce
  refine Y5 z₂ (by simp) λh₃ _ s₃=>fin h₃ e (λc o c1 _ c3 _ y=>s₃.extBut _ _ c1<|s₂ _ _ c3<|s₁.extBut _ _ c1 y) ⟨oe,s₃.extBut _ _ ez hoe,hce⟩
 | some x=>
  have hy:ys[n2]?=Go:=by
   rcases hend with h|h
   rw[hx]at h;cases h;exact h
  refine Al<|Sk.next (k:=k1) (s:={s with heap:=h₁}) g1₁ gx₁ hx λh₂ g1₂ s₂=>HF ?_
  have gO₂:Qk h₂ TO a b:=s₂.extBut _ _ D.a8 (s₁.extBut _ _ D.a2 gO);refine Al<|VG gO₂ rfl ?_
  refine Al<|wpAny_updateSeq_pair gO₂ λh₃ gO₃ s₃=>?_
  refine Al<|wpAny_letGo<|HF ?_
  refine Al<|Al<|wpAny_onRaise ?_
  show Bb _ _ (Wf (.ref i2) >>= _) _ _ _;refine Al (Sk.stop (k:=k2) (s:={s with heap:=h₃}) hh (Sk.it_at g2 λo e=>s₃.extBut _ o D.a9.symm (s₂.extBut _ o D.b1.symm (s₁.extBut _ o D.a4 e)))
   (Sk.sq_at gy λo e=>s₃.extBut _ o o2.o (s₂.extBut _ o o2.i (s₁.extBut _ o o2.z e))) hy λh₄ e s₄ he=>?_)
  obtain⟨oe,hoe,hce⟩:=he;have z₄:IsZip h₄ z TI TO .ellipsis:=s₄ _ _ D.a4.symm (s₃.extBut _ _ D.a2.symm (s₂.extBut _ _ D.a3.symm z₁));have ez:e≠z:=λy=>by subst y;rw[z₄]at hoe;cases hoe;simp at hce
  refine Y5 z₄ (by simp) λh₅ _ s₅=>fin h₅ e (λc o c1 c2 c3 c4 y=>s₅.extBut _ _ c1<|s₄ _ _ c4<|s₃.extBut _ _ c2<|s₂.extBut _ _ c3<|s₁.extBut _ _ c1 y) ⟨oe,s₅.extBut _ _ ez hoe,hce⟩
abbrev zh1 (k1:Sk)(h:Heap)(l1:Addr):Heap:=h.push {cls:=.type k1.nm,data:=.fields #[.ref l1,.int 0 0]}
abbrev zh2 (k1 k2:Sk)(h:Heap)(l1 l2:Addr):Heap:=(zh1 k1 h l1).push {cls:=.type k2.nm,data:=.fields #[.ref l2,.int 0 0]}
abbrev zh3 (k1 k2:Sk)(h:Heap)(l1 l2:Addr):Heap:=(zh2 k1 k2 h l1 l2).push {cls:=.type "tuple",data:=.seq #[.ref h.objs.size,.ref (zh1 k1 h l1).objs.size]}
abbrev zh4 (k1 k2:Sk)(h:Heap)(l1 l2:Addr):Heap:=(zh3 k1 k2 h l1 l2).push {cls:=.type "tuple",data:=.seq #[.none,.none]}
abbrev zh5 (k1 k2:Sk)(h:Heap)(l1 l2:Addr):Heap:=(zh4 k1 k2 h l1 l2).push {cls:=.type "zip",data:=.fields #[.none,.bool false,.bool false,.ref (zh2 k1 k2 h l1 l2).objs.size,.ref (zh3 k1 k2 h l1 l2).objs.size]}
theorem akh (l1 l2)(xs ys):Meets (WM.«zip.__new__» ⟨[.type "zip",.ref l1,.ref l2],[]⟩) (λ_ R s=>k1.sq s.heap l1 xs/\k2.sq s.heap l2 ys /\
   R (.ok (.ret (.ref (zh4 k1 k2 s.heap l1 l2).objs.size))) {s with heap:=zh5 k1 k2 s.heap l1 l2}):=
 .of_wp λprog w A R s h=>by
  obtain⟨hp,g,d,tk,os⟩:=s;obtain⟨gl1,gl2,h⟩:=h;have hsub:=sub_zip;have L1:k1.sq (Shared.heap ⟨hp,g,d,tk,os⟩) l1 xs:=gl1;have L2':k2.sq (Shared.heap ⟨hp.push {cls:=.type k1.nm,data:=.fields #[.ref l1,.int 0 0]},g,d,tk,os⟩) l2 ys:=Sk.sq_at gl2 λo e=>Iw _ e
  wp_walk using Sk.iter L1,Sk.iter L2'
  exact⟨_,rfl,h⟩
theorem zbq {l1 l2}{xs ys Q}(gl1:k1.sq s.heap l1 xs)(gl2:k2.sq s.heap l2 ys)
  (q:∀h',IsZip h' (s.heap.objs.size+4) (s.heap.objs.size+2) (s.heap.objs.size+3) .none->Qk h' (s.heap.objs.size+2) (.ref s.heap.objs.size) (.ref (s.heap.objs.size+1)) ->
   Qk h' (s.heap.objs.size+3) .none .none->k1.it h' s.heap.objs.size l1 0->k2.it h' (s.heap.objs.size+1) l2 0->h'.objs.size=s.heap.objs.size+5 ->
   (∀c o,s.heap.get? c=Dn o->h'.get? c=Dn o)->Q (.ref (s.heap.objs.size+4)) {s with heap:=h'}):Bb (CG P w) A (call (.type "zip") [.ref l1,.ref l2]) Q E s:=by
 refine callType_new PySem.F.called_zip (by decide) (PySem.F.typeCall_zip_2 _ _) (PySem.F.newCall_zip_2 _ _) (λobj=>PySem.F.args_object_init_3 obj _ _) PySem.F.entry_zip_new (akh (k2:=k2) l1 l2 xs ys) ⟨gl1,gl2,?_⟩;have e1:(zh1 k1 s.heap l1).objs.size=s.heap.objs.size+1:=S7 ..;have e2:(zh2 k1 k2 s.heap l1 l2).objs.size=s.heap.objs.size+2:=by rw[S7,e1]
 have e3:(zh3 k1 k2 s.heap l1 l2).objs.size=s.heap.objs.size+3:=by rw[S7,e2]
 have e4:(zh4 k1 k2 s.heap l1 l2).objs.size=s.heap.objs.size+4:=by rw[S7,e3]
 have f5:(zh5 k1 k2 s.heap l1 l2).get? (zh4 k1 k2 s.heap l1 l2).objs.size=Dn _:=Kh _ rfl;have f4:(zh5 k1 k2 s.heap l1 l2).get? (zh3 k1 k2 s.heap l1 l2).objs.size=Dn _:=Iw _ (Kh _ rfl);have f3:(zh5 k1 k2 s.heap l1 l2).get? (zh2 k1 k2 s.heap l1 l2).objs.size=Dn _:=Iw _ (Iw _ (Kh _ rfl));have f2:(zh5 k1 k2 s.heap l1 l2).get? (zh1 k1 s.heap l1).objs.size=Dn _:=Iw _ (Iw _ (Iw _ (Kh _ rfl)));have f1:(zh5 k1 k2 s.heap l1 l2).get? s.heap.objs.size=Dn _:=Iw _ (Iw _ (Iw _ (Iw _ (Kh _ rfl))));rw[e2,e3,e4]at f5;rw[e1,e2]at f3;rw[e3]at f4;rw[e1]at f2;rw[e4];refine⟨⟨_,f5,rfl⟩,q _ f5 f3 f4 ?_ ?_ (by rw[S7,e4]) λc o x=>Iw _<|Iw _<|Iw _<|Iw _<|Iw _ x⟩;cases k1 with
 | l=>exact⟨_,f1,rfl,rfl⟩
 | t=>exact⟨_,f1,rfl,rfl⟩
 cases k2 with
 | l=>exact⟨_,f2,rfl,rfl⟩
 | t=>exact⟨_,f2,rfl,rfl⟩
end
section
variable {X:Cx}{amx:List (Addr×Obj)}{σ:St}{H:Hp}{s:AP}{h':Heap}
theorem Aq.turnedL {t':Nat}{ch:List Addr}(I:Aq X amx σ H s)(k:∀b o,b∉ch->s.heap.get? b=Dn o->h'.get? b=Dn o)(hf:∀b∈ch,Iu X amx H b):Aq X amx σ H {s with heap:=h',toks:=t'}:=by
 have nit:∀b u,H b=Dn u->b∉ch:=λb u e z=>by rw[(hf b z).1]at e;cases e
 refine I.step (λb hb=>?_) (λb o _ _ hc e _=>k b o hc e) (λb o _ _ hc e _=>⟨o.slots,k b o hc e⟩) (λ_ _ _ _ n=>n)
  (λb o hc e=>⟨o,k b o hc e⟩) (λ_ _ e=>e) (λ_ _ _ e=>e) (λb ps e=>⟨#[],by rw[e];simp⟩) (λm hm=>?_) (λb u e=>?_) I.bare
 obtain⟨_,f1,_,f3,f4,f5⟩:=hf b hb;exact⟨f3,f1,f4,f5⟩;obtain⟨o,es,ep,ho,r⟩:=hm;exact⟨o,es,ep,k _ o (λz=>(hf _ z).2.1 rfl) ho,r⟩;refine(I.hok b u e).stay (λc v hc q=>k c v ?_ q) (λ_ q=>q) λ_ _ q=>q;grind
end
def Sk.v (k:Sk)(K:Ax)(H:Hp)(a:Addr)(xs:List V):Prop:=match k with
 | .l=>Jb K H a xs
 | .t=>Jt K H a xs
theorem Aq.sk {X}{amx}{σ:St}{H s}{k:Sk}{a}{xs}(I:Aq X amx σ H s)(h:k.v X.K H a xs):∃its,Cq xs its/\k.sq s.heap a its.toArray:=by
 cases k with
 | l=>obtain⟨its,r,p,_⟩:=I.list h;exact⟨its,r,p.isList⟩
 | t=>obtain⟨its,r,p,_⟩:=I.tuple h;exact⟨its,r,p⟩
theorem Aq.sk_inj {X}{amx}{σ:St}{H s}{k:Sk}{a}{xs ys}(I:Aq X amx σ H s)(h:k.v X.K H a xs)(g:k.v X.K H a ys):xs=ys:=by
 cases k with
 | l=>exact I.list_inj h g
 | t=>exact I.tuple_inj h g
def Itz (K:Ax)(k1 k2:Sk)(l1 l2:Addr):It:=
  ⟨λi H=>∃xs ys x y,k1.v K H l1 xs/\k2.v K H l2 ys/\xs[i]?=Dn x/\ys[i]?=Dn y,
   λi H v H'=>∃p x y,H p=Go/\v=.ref p/\H'=HW H p (.tup [x,y])/\(∀xs,k1.v K H l1 xs->xs[i]?=Dn x)/\∀ys,k2.v K H l2 ys->ys[i]?=Dn y,
   λi H=>∃xs ys,k1.v K H l1 xs/\k2.v K H l2 ys/\(xs.length<=i\/ys.length<=i),true⟩
def adH (k1 k2:Sk)(z TI TO i1 i2 l1 l2:Addr)(n:Nat)(h:Heap):Prop:=IsZip h z TI TO .none/\Qk h TI (.ref i1) (.ref i2)/\(∃a b,Qk h TO a b)/\k1.it h i1 l1 n/\k2.it h i2 l2 n
variable {elts:List Expr}
theorem ahG {P:HN}{w:HI}{K:Ax}{pos:Pos}{k1 k2:Sk}{z TI TO i1 i2 l1 l2:Addr}(D:Zap z TI TO i1 i2)(o1:Off l1 z TO i1 i2)(o2:Off l2 z TO i1 i2):
  Turn P w K (.Tuple elts kt pos) (Itz K k1 k2 l1 l2) [z,TI,TO,i1,i2] z (adH k1 k2 z TI TO i1 i2 l1 l2) where
 mem:=by simp
 obj:=λi h st b hb=>by
  obtain⟨gz,gI,⟨a,b',gO⟩,g1,g2⟩:=st;simp only[K5,Ot,or_false]at hb;rcases hb with rfl|rfl|rfl|rfl|rfl
  exact⟨_,gz,λv y=>by cases y⟩;exact⟨_,gI,λv y=>by cases y⟩;exact⟨_,gO,λv y=>by cases y⟩;obtain⟨o,e,_,d⟩:=Sk.it_obj g1;exact⟨o,e,λv y=>by rw[d]at y;cases y⟩;obtain⟨o,e,_,d⟩:=Sk.it_obj g2;exact⟨o,e,λv y=>by rw[d]at y;cases y⟩
 keep:=λi h h' st k=>by
  obtain⟨gz,gI,⟨a,b,gO⟩,g1,g2⟩:=st;exact⟨k z (by simp) _ gz,k TI (by simp) _ gI,⟨a,b,k TO (by simp) _ gO⟩,Sk.it_at g1 λo e=>k i1 (by simp) o e,Sk.it_at g2 λo e=>k i2 (by simp) o e⟩
 item:=by
  intro X hP hw hK hc i amx s σ H E I hf st hg;subst hP hw hK;obtain⟨gz,gI,⟨a,b,gO⟩,g1,g2⟩:=st;obtain⟨xs,ys,x,y,hx,hy,ex,ey⟩:=hg;obtain⟨its,r1,p1⟩:=I.sk hx;obtain⟨jts,r2,p2⟩:=I.sk hy;obtain⟨u,hu,ru⟩:=r1.get ex;obtain⟨v,hv,rv⟩:=r2.get ey;refine zbR D o1 o2 gz gI gO g1 g2 p1 p2 (x:=u) (y:=v) (by simpa using hu) (by simpa using hv) λh1 z1 O1 g1' g2' T1 size1 all1=>⟨_,rfl,?_⟩;have lt:∀b∈[z,TI,TO,i1,i2],s.heap.objs.size≠b:=λb hb=>by
   simp only[K5,Ot,or_false]at hb;rcases hb with rfl|rfl|rfl|rfl|rfl
   exact(R9<|Ik gz);exact R9<|Ik gI
   exact R9<|Ik gO
   obtain⟨o,e,_⟩:=Sk.it_obj g1;exact R9 (Ik e);obtain⟨o,e,_⟩:=Sk.it_obj g2;exact R9 (Ik e)
  have all:∀c o,c∉[z,TI,TO,i1,i2]->s.heap.get? c=Dn o->h1.get? c=Dn o:=λc o hc e=>
   all1 c o (λq=>hc (by simp[q])) (λq=>hc (by simp[q])) (λq=>hc (by simp[q])) (λq=>hc (by simp[q])) e
  refine wpAny_letOwnedTupleGo_zip (s:={s with heap:=h1}) z1 λh2 z2 sb=>?_;have I1:Aq X amx σ (HW H s.heap.objs.size (.tup [x,y])) {s with heap:=s.heap.push {cls:=.type "tuple",data:=.seq #[u,v]} }:=
   I.laid (t':=s.toks) (λb o e=>Iw _ e) (IK _) ⟨(by show 2<=Il;decide),[u,v],.cons ru (.cons rv .nil),⟨_,Kh _ rfl,rfl,⟨_,rfl⟩,rfl⟩⟩
  have hf1:∀b∈[z,TI,TO,i1,i2],Iu X amx (HW H s.heap.objs.size (.tup [x,y])) b:=λb hb=>⟨by rw[aL (Jc (lt b hb))];exact(hf b hb).1,(hf b hb).2⟩
  have I2:=by
   refine Aq.turnedL (h':=h2) (t':=s.toks) (ch:=[z,TI,TO,i1,i2]) I1 (λb o hb e=>?_) hf1;have bz:b≠z:=λq=>hb (by simp[q])
   rcases Heap.get?_push_cases e with⟨rfl,rfl⟩|e'
   exact sb.extBut _ _ bz T1;exact sb.extBut _ _ bz<|all b o hb e'
  refine⟨.ref s.heap.objs.size,_,I2,rfl,⟨s.heap.objs.size,x,y,(I.hok.fresh<|IK _),rfl,rfl,λxs' q=>by rw[I.sk_inj q hx];exact ex,λys' q=>by rw[I.sk_inj q hy];exact ey⟩,?_,λb hb=>(hf1 b hb).1⟩;exact⟨z2,sb.extBut _ _ D.a1<|all1 _ _ D.a1 D.a5 D.a6 D.a7 gI,⟨u,v,sb.extBut _ _ D.a2 O1⟩,Sk.it_at g1' λo e=>sb.extBut _ o D.a3 e,Sk.it_at g2' λo e=>sb.extBut _ o D.a4 e⟩
 done:=by
  intro X hP hw hK hc i amx s σ H E I hf st hg;subst hP hw hK;obtain⟨gz,gI,⟨a,b,gO⟩,g1,g2⟩:=st;obtain⟨xs,ys,hx,hy,hend⟩:=hg;obtain⟨its,r1,p1⟩:=I.sk hx;obtain⟨jts,r2,p2⟩:=I.sk hy;have l1:=r1.length;have l2:=r2.length;refine aiO (I.ok.hd<|hc rfl) D o1 o2 gz gI gO g1 g2 p1 p2 (hend.imp (λq=>by simp;lia) λq=>by simp;lia) λh1 all1=>⟨rfl,I.turnedL (t':=s.toks) (λc o hc e=>?_) hf⟩;exact all1 c o (λq=>hc<|by simp[q]) (λq=>hc<|by simp[q]) (λq=>hc<|by simp[q]) (λq=>hc<|by simp[q]) e
 self:=λ_ _ _ _ _ st h=>wpAny_pyIter_zip st.1 h
section
variable {X:Cx}{K:Ax}
def sqk (K:Ax)(H:Hp)(x:V)(k:Sk)(a:Addr):Prop:=x=.ref a/\∃xs,k.v K H a xs
def agJ (K:Ax)(ta:TA):TI:=fun σ H R=>ta σ H λvs H1=>∃x y k1 k2 a b,vs=[x,y]/\sqk K H1 x k1 a/\sqk K H1 y k2 b/\R (Itz K k1 k2 a b) H1
theorem Sk.sq_lt {k:Sk}{h a}{its}(x:k.sq h a its):a<h.objs.size:=by
 cases k with
 | l|t=>obtain⟨o,e,_⟩:=x;exact Ik e
theorem kj {a b:Nat}(h:a≠b):(show Addr from a)≠(show Addr from b):=h
theorem aaQ (n:Nat):Zap (n+4) (n+2) (n+3) n (n+1) where
 a1:=kj (show n+2≠n+4 by lia)
 a2:=kj (show n+3≠n+4 by lia)
 a3:=kj (show n≠n+4 by lia)
 a4:=kj (show n+1≠n+4 by lia)
 a5:=kj (show n+2≠n+3 by lia)
 a6:=kj (show n+2≠n by lia)
 a7:=kj (show n+2≠n+1 by lia)
 a8:=kj (show n+3≠n by lia)
 a9:=kj (show n+3≠n+1 by lia)
 b1:=kj (show n≠n+1 by lia)
theorem oV {a n:Nat}(h:a<n):Off a (n+4) (n+3) n (n+1) where
 z:=kj (show a≠n+4 by lia)
 o:=kj (show a≠n+3 by lia)
 i:=kj (show a≠n by lia)
 j:=kj (show a≠n+1 by lia)
theorem aez {n c}(h:c∈([n+4,n+2,n+3,n,n+1]:List Nat)):n<=c:=by grind
theorem abC {e1 e2 ta}{p pos tpos}(hg:Gl X "zip")(hm:X.mg "zip" = Go)(ha:PA X [e1,e2] ta)
  (hs:HJ [e1,e2] X.env=(false,eval e1 X.env)::HJ [e2] X.env:=by rfl) (hpl:(Ka pos (HJ [e2] X.env)).any (·.1)=false:=by rfl) :
  PI X (.Tuple elts kt tpos) (.Call (.Name "zip" p) [e1,e2] [] pos) (agJ X.K ta):=by
 intro amx s σ H R I h;refine WD<|pB I hg hm boot_zip (Y9 (Hj (ha pos amx s σ H _ I h) λus s1 ⟨vs,H1,I1,r1,q1⟩=>?_) hs hpl) (by decide)<|by decide
 obtain⟨x,y,k1,k2,a,b,ev,⟨ex,xs,hx⟩,⟨ey,ys,hy⟩,q⟩:=q1;subst ev ex ey;obtain⟨u1,u2,eu,ru1,ru2⟩:=vals2 r1;subst eu;cases ru1;cases ru2;obtain⟨its,r1,p1⟩:=I1.sk hx;obtain⟨jts,r2,p2⟩:=I1.sk hy;have la:=Sk.sq_lt p1;have lb:=Sk.sq_lt p2;refine zbq p1 p2 λh' gz gI gO g1 g2 size all=>(wpAny_pyIter_zip gz ?_);generalize hn:s1.heap.objs.size=n at gz gI gO g1 g2 size la lb|-
 refine⟨n+4,[n+4,n+2,n+3,n,n+1],_,_,H1,rfl,(I1.kept all),ahG (aaQ n) (oV la)<|oV lb,⟨gz,gI,⟨_,_,gO⟩,g1,g2⟩,λc hc=>?_,q⟩;have hc':=aez hc;exact I1.fpOk (hn ▸ hc')<|I1.hok.fresh<|hn ▸ hc'
def uL:List W->List W->List W
 | a::as,b::bs=>.tup [a,b]::uL as bs
 | _,_=>[]
theorem En:∀{as bs}{i:Nat}{w},(uL as bs)[i]?=Dn w->∃a b,as[i]?=Dn a/\bs[i]?=Dn b/\w=.tup [a,b]
 | a::as,b::bs,0,w,e=>⟨a,b,rfl,rfl,(Lr e).symm⟩
 | a::as,b::bs,i+1,w,e=>by
  obtain⟨x,y,h1,h2,h3⟩:=En (by simpa[uL]using e);simp_all
theorem Fd:∀{as bs},(uL as bs).length=min as.length bs.length
 | [],bs|_::_,[]=>by simp[uL]
 | a::as,b::bs=>by rw[uL,Nq,Fd,Nq,Nq];lia
def rB:W->Option (List W)
 | .tup ws=>Dn ws
 | .lst ws=>Dn ws
 | .kls ws=>Dn ws
 | _=>Go
theorem GX {H w v}(r:CR K H μ w v)(e:rB w=Dn ws):∃k a,v=.ref a/\∀{H2 μ2},J4 K H μ H2 μ2->∃xs,Sk.v k K H2 a xs/\aY K H2 μ2 ws xs:=by
 cases w with
 | tup us=>
  cases e;have r0:=r;obtain⟨p,xs,ev,hs,rs⟩:=r;subst ev;refine⟨.t,p,rfl,λ{H2 μ2} x=>?_⟩;obtain⟨q,ys,ev,hs,rs⟩:=(x.r _ _ r0)
  cases ev;exact⟨ys,hs,rs⟩
 | lst us|kls us=>
  cases e;have r0:=r;obtain⟨p,xs,ev,hs,rs⟩:=r;subst ev;refine⟨.l,p,rfl,λ{H2 μ2} x=>?_⟩;obtain⟨q,ys,ev,hs,rs⟩:=(x.r _ _ r0)
  cases ev;exact⟨ys,hs.sq,rs⟩
 | _=>cases e
def Ur (h:Gh)(x y:W):Option Src:=match rB x,rB y with
 | some as,Dn bs=>Dn ⟨uL as bs,Go⟩
 | none,Dn bs=>(match x with
  | .loc n=>(match h.c n with
   | some (.lst as)=>Dn ⟨uL as bs,Dn (n,as)⟩
   | _=>Go)
  | _=>Go)
 | _,_=>Go
theorem aks {H h w v}{o}(R:HS K μ H h)(r:CR K H μ w v)(e:(rB w=Dn ws/\o=Go)\/∃n,w=.loc n/\h.c n=Dn (.lst ws)/\o=Dn (n,ws)):
  ∃k a,v=.ref a/\∀{H2 μ2 h2},J4 K H μ H2 μ2->HS K μ2 H2 h2->Src.chk ⟨ws,o⟩ h2->∃xs,Sk.v k K H2 a xs/\aY K H2 μ2 ws xs:=by
 rcases e with⟨e,rfl⟩|⟨n,rfl,ec,rfl⟩
 obtain⟨k,a,ev,f⟩:=GX r e;exact⟨k,a,ev,λx _ _=>f x⟩;have r0:=r;obtain⟨p,ev,hm⟩:=r;subst ev;refine⟨.l,p,rfl,λ{H2 μ2 h2} x R2 ck=>?_⟩;obtain⟨q,eq,hm2⟩:=(x.r _ _ r0)
 cases eq;obtain⟨p',xs,hm',hx,rs⟩:=R2.lstAt ck;cases by rw[hm2]at hm';exact(Lr hm').symm
 exact⟨xs,.of hx,rs⟩
theorem akd {h}{x y s}(e:Ur h x y=Dn s):∃as bs o,s=⟨uL as bs,o⟩/\((rB x=Dn as/\o=Go)\/∃n,x=.loc n/\h.c n=Dn (.lst as)/\o=Dn (n,as))/\rB y=Dn bs:=by
 unfold Ur at e;grind
def adv (ma:MA):MI:=fun σ h R=>ma σ h λws h1=>match ws with
 | [x,y]=>(match Ur h1 x y with
  | some s=>R s h1
  | none=>False)
 | _=>False
theorem Uv {e1 e2}{p pos tpos}(hg:Gl X "zip")(hm:X.mg "zip" = Go)(ha:LQ X [e1,e2] mr)
  (hs:HJ [e1,e2] X.env=(false,eval e1 X.env)::HJ [e2] X.env:=by rfl) (hpl:(Ka pos (HJ [e2] X.env)).any (·.1)=false:=by rfl) :
  RX X (.Tuple elts kt tpos) (.Call (.Name "zip" p) [e1,e2] [] pos) (adv mr):=PI.of (abC hg hm ha hs hpl) fun σ H Q e=>by
 obtain⟨μ,h,σw,Rw,R,S,m,k⟩:=e;refine⟨μ,h,σw,_,R,S,m,λvs H1 c=>?_⟩;obtain⟨μ1,ws,h1,e1,R1,r1,m1⟩:=c;split at m1
 split at m1
 rename_i x y _ s es;obtain⟨as,bs,o,rfl,ea,eb⟩:=akd es;obtain⟨v,u,ev,rv,ru⟩:=SM r1;obtain⟨ka,a,e3,fa⟩:=aks R1 rv ea;obtain⟨kb,b,e4,fb⟩:=GX ru eb;have ck1:Src.chk ⟨as,o⟩ h1:=by
  rcases ea with⟨_,rfl⟩|⟨n,_,ec,rfl⟩
  exact trivial;exact ec
 obtain⟨xs,hxs,_⟩:=fa .refl R1 ck1;obtain⟨ys,hys,_⟩:=fb .refl;refine⟨v,u,ka,kb,a,b,ev,⟨e3,xs,hxs⟩,⟨e4,ys,hys⟩,k _ _ ⟨μ1,⟨uL as bs,o⟩,h1,e1,R1,?_,m1⟩⟩;intro H2 μ2 h2 i e2 R2 ck;obtain⟨xs2,hxs2,rxs⟩:=fa e2 R2 ck;obtain⟨ys2,hys2,rys⟩:=fb e2;refine⟨λw ew=>?_,λhl=>⟨xs2,ys2,hxs2,hys2,?_⟩⟩;obtain⟨p1,p2,ep1,ep2,rfl⟩:=En ew;obtain⟨q1,eq1,rq1⟩:=rxs.get ep1;obtain⟨q2,eq2,rq2⟩:=rys.get ep2;refine⟨⟨xs2,ys2,q1,q2,hxs2,hys2,eq1,eq2⟩,λx' H3 d=>?_⟩;obtain⟨pa,x1,x2,hp,ex',eH3,f1,f2⟩:=d;have g1:=f1 xs2 hxs2;have g2:=f2 ys2 hys2;rw[eq1]at g1;rw[eq2]at g2;cases g1;cases g2;subst ex' eH3;exact⟨μ2,(Ex.laid hp).ext,R2.laid hp,.tupNew hp<|.cons rq1<|.one rq2⟩;have l1:=rxs.len;have l2:=rys.len;have:=Fd ▸ hl
 lia;cases m1;cases m1
end
variable {e1 e2:Expr}
section
variable {X:Cx}{K:Ax}
theorem Js:∀{ns:List Int}{its i}{v:JI},Cq (ns.map V.int) its->its[i]?=Dn v->∃t,v=.int (ns.getD i 0) t
 | [],_,_,_,.nil,e=>by simp at e
 | n::ns,_,0,_,.cons r _,e=>by
  simp at e;subst e;exact r
 | _::ns,_,i+1,v,.cons _ t,e=>by
  obtain⟨t',h⟩:=Js t (by simpa using e)
  simp_all
theorem qK (ns:List Int):∀k,k<=ns.length->preSum (λi=>ns.getD i 0) k=(ns.take k).sum
 | 0,_=>by simp[preSum]
 | k+1,h=>by
  rw[preSum,qK ns k (by lia),N7,List.sum_append,N5 _];show _=_+(ns[k]+0);grind
theorem aiK (hc:X.calm=true):iV X (.builtin "sum") (λxs H Q=>∃(p:Addr) (ns:List Int),xs=[.ref p]/\Jb X.K H p (ns.map V.int)/\Q (.int ns.sum) H):=by
 rintro amx s σ H xs us Q I r ⟨p,ns,e,hS,q⟩;subst e;obtain⟨u,rfl,ru⟩:=vals1 r;cases ru;obtain⟨its,rv,pl,hz⟩:=I.list hS;have amy:its.length=ns.length:=by rw[<-rv.length,Hi]
 have hl:=pl.isList;have hlt:p<s.heap.objs.size:=by obtain⟨_,e,_⟩:=hl;exact Ik e
 refine call_sum_walkAnyS<|X8 hl ?_
 refine⟨s.heap.objs.size,[s.heap.objs.size,p],[s.heap.objs.size],_,its.toArray.size,_,_,λi=>ns.getD i 0,rfl,(Walks.list (A:=X.A.in1) (I.ok.hd hc) _ p (JM hlt) _).toS,
  ⟨⟨_,Kh _ rfl,rfl,rfl⟩,hl.push _⟩,λb hb=>?_,λi v hP=>Js rv (by simpa using hP),λs' t' hm=>?_⟩
 rw[S7];grind
 have e:preSum (λi=>ns.getD i 0) its.toArray.size=ns.sum:=by rw[K8,amy,qK ns _ (IK _),Q9]
 rw[e];obtain⟨hh,gg,dd,tt,oo⟩:=s';have hg:=hm.gens;have hd:=hm.drawn;have ho:=hm.os;subst hg hd ho;refine⟨.int _,H,I.kept<|λb x e=>?_,⟨t',rfl⟩,q⟩;exact hm.heap b x (λhm=>by rw[R8.mp hm]at e;exact Qf _ (Ik e))<|Iw _ e
def xR:List W->Option (List Int)
 | []=>Dn []
 | .int i::ws=>(xR ws).map (i::·)
 | _=>Go
theorem Dh {H μ}:∀{ws xs}{ns},aY K H μ ws xs->xR ws=Dn ns->xs=ns.map V.int
 | [],xs,ns,r,e=>by
  cases e;exact r
 | w::ws,xs,ns,r,e=>by
  obtain⟨v,vr,ev,ra,r⟩:=r;cases w with
  | int b=>
   rw[xR]at e;cases q:xR ws with
   | none=>rw[q]at e;cases e
   | some cs=>
    rw[q]at e;cases e;rw[ev,ra,Dh r q];rfl
  | _=>cases e
def Vm:MC:=λws h Q=>match ws with
 | [w]=>(match dU h w with
  | some us=>(match xR us with
   | some ns=>Q (.int ns.sum) h
   | none=>False)
  | none=>False)
 | _=>False
theorem acJ (hc:X.calm=true):jO X (.builtin "sum") Vm:=⟨_,aiK hc,by
 intro H μ h vs ws Qw Q R r m k;unfold Vm at m;split at m
 split at m
 split at m
 rename_i w _ us ev _ ns eb;obtain⟨v,e,rv⟩:=iT r;obtain⟨p,ys,ex,hs,rs⟩:=dI R rv ev;subst e ex;exact⟨p,ns,rfl,Dh rs eb ▸ hs,k _ _<|.int R m⟩;cases m;cases m;cases m⟩
end
theorem FQ:Manifest.owners.lookup (String.ofList ['d','e','s','r','e','v','e','r'].reverse)=Dn Manifest.sig_reversed:=by kernel_rfl
theorem UL:mroOf (.type "reversed")=pure [.type "reversed",.type "object"]:=by
 rw[mroOf_type]
 kernel_rfl
theorem abd:Wn (.type "reversed") "__new__" = pure (Dn (.builtin "reversed.__new__")):=by
 rw[YH,builtinLookup_eq_fast]
 kernel_rfl
theorem dW:Slot "reversed" "__next__" "reversed.__next__":=
  .of (owner := "reversed") (n := "__next__")
    (by rw[YH,builtinLookup_eq_fast]
        kernel_rfl)
    (by decide +kernel) (by decide +kernel)
    (by decide +kernel)
    (by first
        | exact .inl (by decide +kernel)
        | exact .inr _)
    (by rw[Y4]
        kernel_rfl)
theorem mR:entryFor table "reversed.__next__" = Dn WM.«reversed.__next__»:=entryFor_of_tree (by kernel_rfl)
theorem oW (a):argsOk "reversed.__next__" ⟨[a],[]⟩:=by
 unfold argsOk;rw[signature?_of (n:=['_','_','t','x','e','n','_','_']) (by kernel_rfl) FQ]
 kernel_rfl
theorem oR:Slot "reversed" "__iter__" "reversed.__iter__":=
  .of (owner := "reversed") (n := "__iter__")
    (by rw[YH]
        kernel_rfl)
    (by decide +kernel) (by decide +kernel)
    (by decide +kernel)
    (by first
        | exact .inl (by decide +kernel)
        | exact .inr _)
    (by rw[Y4]
        kernel_rfl)
theorem zE (a:JI):argsOk "reversed.__iter__" ⟨[a],[]⟩:=by
 unfold argsOk;rw[signature?_of (n:=['_','_','r','e','t','i','_','_']) (by kernel_rfl) FQ]
 kernel_rfl
theorem wZ:entryFor table "reversed.__iter__" = Dn WM.«dict_keyiterator.__iter__»:=
  entryFor_alias (id' := "dict_keyiterator.__iter__") (by kernel_rfl)
    (by first
        | rfl
        | decide +kernel
        | (unfold String.splitOn;simp +decide [String.splitOnAux]))
    (by decide +kernel) (by kernel_rfl)
theorem ahz (a):checkTypeCall "reversed" ⟨[a],[]⟩=pure ():=by kernel_rfl
theorem zaB (a):checkBuiltinCall "reversed.__new__" ⟨[.type "reversed",a],[]⟩=pure ():=by kernel_rfl
theorem yd:entryFor table "reversed.__new__" = Dn WM.«reversed.__new__»:=entryFor_of_tree (by kernel_rfl)
theorem abm:isSubtype (.type "reversed") (.type "reversed")=pure true:=by
 rw[Y4]
 kernel_rfl
theorem zai:Wn (.type "tuple") "__reversed__" = pure Go:=by
 rw[YH,builtinLookup_eq_fast]
 kernel_rfl
theorem zal:isSubtype (.type "tuple") (.type "dict")=pure false:=by
 rw[Y4]
 kernel_rfl
def Yy (l:Addr)(i:Int):Obj:={cls:=.type "reversed",data:=.fields #[.ref l,Q6 i]}
def Lh (h:Heap)(a l:Addr)(i:Int):Prop:=∃o,h.get? a=Dn o/\o.cls=.type "reversed"/\o.data=.fields #[.ref l,Q6 i]
section
variable {P:HN}{w:HI}{A:Hh}{E:JI->AP->Prop}{s:AP}
theorem Lh.typeIs {a l i}(x:Lh s.heap a l i):s.TypeIs (.ref a) "reversed":=let⟨o,g,c,_⟩:=x;⟨o,g,c⟩
theorem Lh.at {h h' a l i}(x:Lh h a l i)(e:∀o,h.get? a=Dn o->h'.get? a=Dn o):Lh h' a l i:=let⟨o,g,r⟩:=x;⟨o,e _ g,r⟩
theorem akP (a):Builtin.SmallTypes.newClass "reversed" ⟨[.type "reversed",a],[]⟩=pure (.type "reversed",[a]):=by
 unfold Builtin.SmallTypes.newClass;simp[abm];rfl
theorem ajL:Slot "reversed" "__init__" "object.__init__":=
  .of (owner := "object") (n := "__init__")
    (by rw[YH]
        kernel_rfl)
    (by decide +kernel) (by decide +kernel)
    (by decide +kernel)
    (by first
        | exact .inl (by decide +kernel)
        | exact .inr _)
    (by rw[Y4]
        kernel_rfl)
theorem ahl:TypeCalled "reversed" "reversed.__new__" "object.__init__":=
  ⟨by decide +kernel,by decide +kernel,⟨_,_,UL⟩,madeBy_type UL abd (by decide +kernel),by decide +kernel,
    by rw[Y4]
       kernel_rfl,ajL⟩
theorem akz (l)(xs):Meets (WM.«reversed.__new__» ⟨[.type "reversed",.ref l],[]⟩) (λ_ R s=>IsTup s.heap l xs/\(xs.size:Int)<2^63 /\
   R (.ok (.ret (.ref s.heap.objs.size))) {s with heap:=s.heap.push (Yy l ((xs.size:Int)-1)),toks:=s.toks+1+1}):=by
 refine .of_wp λprog w A R s c=>?_;obtain⟨ht,hfit,q⟩:=c;refine Al<|Vu (akP _) ?_
 refine Al<|Vu (a:=()) (by rfl) ?_
 refine Al<|Vu (a:=()) (by rfl) ?_
 refine Al<|Xi ht.typeIs zai ?_
 refine Al ?_;refine Al<|wpAny_isInstance (U := "dict") (b:=false) ht.typeIs zal ?_
 rw[if_neg QL];refine Al<|Xi ht.typeIs Wi.lookup ?_
 show Bb _ _ (if(_:Bool)=true then pure true else _) _ _ _;refine HF ?_;rw[if_neg (by decide)];refine Al<|len_tuple ht hfit ?_
 refine Al<|Vu (a:=Dn (xs.size:Int)) (by rfl) ?_
 try dsimp only
 refine Al ?_;show Bb _ _ (newObj (.type "reversed") (.fields #[.ref l,Q6 ((xs.size:Int)-1)])) _ _ _;exact W4 (HF ⟨_,rfl,q⟩)<|by size_fits
theorem alb {l}{xs}{Q}(ht:IsTup s.heap l xs)(hfit:(xs.size:Int)<2^63)
  (q:Q (.ref s.heap.objs.size) {s with heap:=s.heap.push (Yy l ((xs.size:Int)-1)),toks:=s.toks+1+1}):Bb (CG P w) A (call (.type "reversed") [.ref l]) Q E s:=callType_new ahl (by decide) (ahz _) (zaB _) (λobj=>PySem.F.args_object_init_2 obj _) yd (akz l xs) ⟨ht,hfit,⟨_,Kh _ rfl,rfl⟩,q⟩
theorem zbM {it l}{i:Nat}{xs x}{Q}(hi:Lh s.heap it l (i))(ht:IsTup s.heap l xs)(hfit:(xs.size:Int)<2^63)(hx:xs[i]?=Dn x)
  (q:∀h',Lh h' it l ((i)-1)->QJ it s.heap h'->Q (Dn x) {s with heap:=h',toks:=s.toks+1}):Bb (CG P w) A (pyNext (.ref it)) Q E s:=by
 obtain⟨o,go,gc,gd⟩:=id hi;have hlt:i<xs.size:=(Array.getElem?_eq_some_iff.mp hx).1;refine Al (VF (WQ hi.typeIs dW
  (Vo dW hi.typeIs mR ?_ (oW _))))
 refine Al<|Vu (a:=(Value.ref it,([]:List JI))) (by rfl) ?_
 refine Al<|Ls go gd (x:=.ref l) rfl ?_
 refine Al<|Ls go gd (x:=Q6 (i:Int)) rfl ?_
 show Bb _ _ (if(i:Int)<0 then _ else _) _ _ s;rw[if_neg (by lia)];refine Al<|Xi ht.typeIs Wi.lookup ?_
 rw[if_neg (by decide)];refine Al<|wpAny_mkInt ?_
 refine Al<|VF<|getItem_tuple (s:={s with toks:=s.toks+1}) ht (by lia) (by lia) (j:=i) ?_ hx ?_
 have e:=seqIndex_of (k:=(i:Int)) (n:=xs.size) (by lia) (by lia);exact e;try dsimp only
 refine Al<|Ls go gd (x:=Q6 (i:Int)) rfl ?_
 refine Al<|Wd go gd (by simp) ?_
 refine HF ⟨x,rfl,HF<|q _ ?_<|WL ..⟩;exact⟨_,Qs _ go<|Vk<|Rg gd _,(YS ..).trans gc,by rw[Rg gd];simp⟩
theorem zV {it l}{Q}(hh:A.handled=Go)(hi:Lh s.heap it l (-1))
  (q:∀h',Xf it s.heap h'->Q Go {s with heap:=h'}):Bb (CG P w) A (pyNext (.ref it)) Q E s:=by
 obtain⟨o,go,gc,gd⟩:=id hi;refine Al (VF (WQ (name:=Str.ofString "__next__") hi.typeIs dW
  (Vo dW hi.typeIs mR ?_ (oW _))))
 refine Al<|Vu (a:=(Value.ref it,([]:List JI))) (by rfl) ?_
 refine Al<|Ls go gd (x:=.ref l) rfl ?_
 refine Al<|Ls go gd (x:=Q6 (-1)) rfl ?_
 refine Al<|Wb ?_
 refine Al ?_;refine Al<|Wd go gd (by simp) ?_
 have g1:=Qs (λo=>o.mapFields λx=>x.setIfInBounds 1 (Q6 (-1))) go (Vk (Rg gd _));refine Wd g1 (Rg gd _) (by simp) ?_;refine Al ?_;refine Al ?_;refine Al (W4 (by
  refine Al (m:=firstArgMember _ _)<|Vu (a:=Value.none) (by rfl)<|W4 ?_<|by size_fits
  refine Al (wpAny_handled (by
   first
    | rw[hh]
   refine Al<|HF<|Xe ?_
   refine Al<|wpAny_isInstance (T := "StopIteration") (b:=true) ⟨_,Kh _ rfl,rfl⟩ isSubtype_stop<|HF<|q _ ?_
   intro b ob hb eb;exact Iw _ (Iw _ ((WL ..).extBut b ob hb ((WL ..).extBut b ob hb eb))))) ) (by size_fits))
theorem Gi {it l i}{Q}(hi:Lh s.heap it l i)(q:Q (.ref it) s):Bb (CG P w) A (pyIter (.ref it)) Q E s:=wpAny_pyIter_slot hi.typeIs oR (Vo oR hi.typeIs wZ (HF ⟨_,rfl, "reversed",_,hi.typeIs,dW.lookup,q⟩) (zE _))
end
def Itv (K:Ax)(n:Nat)(l:Addr):It:=
  ⟨λi H=>i<n/\∃xs x,Jt K H l xs/\xs.length=n/\xs[n-1-i]?=Dn x,
   λi H v H'=>H'=H/\∀xs,Jt K H l xs->xs[n-1-i]?=Dn v,
   λi _=>n<=i,true⟩
def agO (n:Nat)(it l:Addr)(i:Nat)(h:Heap):Prop:=i<=n/\Lh h it l ((n:Int)-1-(i:Int))
theorem aiA {P:HN}{w:HI}{K:Ax}{tg:Expr}{n:Nat}{it l:Addr}(hne:l≠it):Turn P w K tg (Itv K n l) [it] it (agO n it l) where
 mem:=by simp
 obj:=λi h st b hb=>by
  obtain⟨_,o,g,_,d⟩:=st;rw[R8]at hb;subst hb;exact⟨o,g,λv y=>by rw[d]at y;cases y⟩
 keep:=λi h h' st k=>⟨st.1,st.2.at λo e=>k it (by simp) o e⟩
 item:=by
  intro X hP hw hK hc i amx s σ H E I hf st hg;subst hP hw hK;obtain⟨hin,xs,x,hx,amy,ex⟩:=hg;obtain⟨its,r,pl,hz⟩:=I.tuple hx;obtain⟨u,hu,ru⟩:=r.get ex;have hl:=r.length;have e1:(n:Int)-1-(i:Int)=((n-1-i:Nat):Int):=by lia
  have hi:=st.2;rw[e1]at hi;have hn:=rE;refine zbM hi pl (by simp only[K8];lia) (x:=u) (by simpa using hu) λh1 g1 sb=>⟨u,rfl,?_⟩;have e2:((n-1-i:Nat):Int)-1=(n:Int)-1-((i+1:Nat):Int):=by lia
  rw[e2]at g1;obtain⟨o,go,gc,gd⟩:=id g1;refine La go gc gd (by decide) ⟨x,H,I.turnedL (ch:=[it]) (λb o hb e=>sb.extBut b o (λq=>hb<|by simp[q]) e) hf,ru,⟨rfl,λys hy=>?_⟩,⟨hin,g1⟩,λb hb=>(hf b hb).1⟩;rw[I.tuple_inj hy hx];exact ex
 done:=by
  intro X hP hw hK hc i amx s σ H E I hf st hg;have hi:=st.2;have e1:(n:Int)-1-(i:Int)=-1:=by
   have:=st.1
   have:n<=i:=hg
   lia
  rw[e1]at hi;exact zV (I.ok.hd<|hc rfl) hi λh1 eb=>⟨rfl,I.turnedL (λb o hb e=>eb b o (λq=>hb<|by simp[q]) e) hf⟩
 self:=λ_ _ _ _ _ st h=>Gi st.2 h
section
variable {X:Cx}{K:Ax}
end
section
variable {X:Cx}
def aek (i j k:Nat)(ta:MA):MS:=λD σ h=>ta σ h λws h1=>match ws with
 | [a,b,c]=>D.nx (((σ.set i (Dn a)).set j (Dn b)).set k (Dn c)) h1
 | _=>False
end
def Itw (K:Ax)(n:Nat)(l:Addr):It:=
  ⟨λi H=>i<n/\∃xs x,Jb K H l xs/\xs.length=n/\xs[n-1-i]?=Dn x,
   λi H v H'=>H'=H/\∀xs,Jb K H l xs->xs[n-1-i]?=Dn v,
   λi _=>n<=i,true⟩
def agc (n:Nat)(it l:Addr)(i:Nat)(h:Heap):Prop:=i<=n/\h.IsRevIter it l ((n:Int)-1-(i:Int))
theorem ahy {P:HN}{w:HI}{K:Ax}{tg:Expr}{n:Nat}{it l:Addr}(hne:l≠it):Turn P w K tg (Itw K n l) [it] it (agc n it l) where
 mem:=by simp
 obj:=λi h st b hb=>by
  obtain⟨_,o,g,_,d⟩:=st;rw[R8]at hb;subst hb;exact⟨o,g,λv y=>by rw[d]at y;cases y⟩
 keep:=λi h h' st k=>⟨st.1,st.2.at λo e=>k it (by simp) o e⟩
 item:=by
  intro X hP hw hK hc i amx s σ H E I hf st hg;subst hP hw hK;obtain⟨hin,xs,x,hx,amy,ex⟩:=hg;obtain⟨its,r,pl,hz⟩:=I.list hx;obtain⟨u,hu,ru⟩:=r.get ex;have e1:(n:Int)-1-(i:Int)=((n-1-i:Nat):Int):=by lia
  have hi:=st.2;rw[e1]at hi;refine wpAny_pyNext_rev_item hi pl.isList (x:=u) (by simpa using hu) λh1 g1 sb=>⟨u,rfl,?_⟩;have e2:((n-1-i:Nat):Int)-1=(n:Int)-1-((i+1:Nat):Int):=by lia
  rw[e2]at g1;obtain⟨o,go,gc,gd⟩:=id g1;refine La go gc gd (by decide) ⟨x,H,I.turnedL (t':=s.toks) (λb o hb e=>sb.extBut b o (λq=>hb<|by simp[q]) e) hf,ru,⟨rfl,λys hy=>?_⟩,⟨hin,g1⟩,λb hb=>(hf b hb).1⟩;rw[I.list_inj hy hx];exact ex
 done:=by
  intro X hP hw hK hc i amx s σ H E I hf st hg;have hi:=st.2;have e1:(n:Int)-1-(i:Int)=-1:=by
   have:=st.1
   have:n<=i:=hg
   lia
  rw[e1]at hi;exact wpAny_pyNext_rev_end (I.ok.hd<|hc rfl) hi λh1 eb=>⟨rfl,I.turnedL (λb o hb e=>eb b o (λq=>hb<|by simp[q]) e) hf⟩
 self:=λ_ _ _ _ _ st h=>wpAny_pyIter_revIter st.2 h
section
variable {X:Cx}{K:Ax}
def aeD (K:Ax)(ta:TA):TI:=fun σ H R=>ta σ H λvs H1=>∃a xs,vs=[.ref a]/\((Jt K H1 a xs/\R (Itv K xs.length a) H1)\/(Jb K H1 a xs/\R (Itw K xs.length a) H1))
theorem aiv {tg ta}{p pos}(hg:Gl X "reversed")(hm:X.mg "reversed" = Go)(ha:PA X [e1] ta)
  (hs:HJ [e1] X.env=(false,eval e1 X.env)::HJ [] X.env:=by rfl) (hpl:(Ka pos (HJ [] X.env)).any (·.1)=false:=by rfl) :
  PI X tg (.Call (.Name "reversed" p) [e1] [] pos) (aeD X.K ta):=by
 intro amx s σ H R I h;refine WD<|pB I hg hm boot_reversed ?_ (by decide)<|by decide
 refine Y9 (Hj (ha pos amx s σ H _ I h) λus s1 d=>?_) hs hpl;obtain⟨vs,H1,I1,r1,q1⟩:=d;obtain⟨a,xs,ev,hx⟩:=q1;subst ev;obtain⟨u1,eu,ru1⟩:=vals1 r1;subst eu;cases ru1;rcases hx with⟨hx,q⟩|⟨hx,q⟩
 obtain⟨its,r,pl,hz⟩:=I1.tuple hx;have hl:=r.length;have hn:=rE;refine alb pl (by simp only[K8];lia) ?_;have gi:Lh (s1.heap.push (Yy a ((its.toArray.size:Int)-1))) s1.heap.objs.size a ((xs.length:Int)-1-((0:Nat):Int)):=by
  refine⟨_,Kh _ rfl,rfl,?_⟩;show Data.fields #[.ref a,Q6 _]=_;rw[K8,<-hl];simp
 refine Gi gi ?_;refine⟨_,[s1.heap.objs.size],_,_,H1,rfl,I1.kept<|λb o e=>Iw _ e,aiA<|JM (by obtain⟨_,e,_⟩:=pl;exact Ik e),⟨Rb _,gi⟩,λc hc=>?_,q⟩;rw[R8]at hc;subst hc;exact I1.fpOk (IK _)<|I1.hok.fresh<|IK _
 obtain⟨its,r,pl,hz⟩:=I1.list hx;refine call_reversed_list pl.isList ?_;have gi:(s1.heap.push (revObj a ((its.toArray.size:Int)-1))).IsRevIter s1.heap.objs.size a ((xs.length:Int)-1-((0:Nat):Int)):=by
  refine⟨_,Kh _ rfl,rfl,?_⟩;show Data.fields #[.ref a,Q6 _]=_;rw[K8,<-r.length];simp
 refine wpAny_pyIter_revIter gi ?_;refine⟨_,[s1.heap.objs.size],_,_,H1,rfl,I1.kept (t':=s1.toks)<|λb o e=>Iw _ e,ahy<|JM (by obtain⟨_,e,_⟩:=pl.isList;exact Ik e),⟨Rb _,gi⟩,λc hc=>?_,q⟩;rw[R8]at hc;subst hc;exact I1.fpOk (IK _)<|I1.hok.fresh<|IK _
def abr (ma:MA):MI:=fun σ h R=>ma σ h λws h1=>match ws with
 | [.tup us]=>R ⟨us.reverse,Go⟩ h1
 | [.lst us]=>R ⟨us.reverse,Go⟩ h1
 | _=>False
theorem akS {tg}{p pos}(hg:Gl X "reversed")(hm:X.mg "reversed" = Go)(ha:LQ X [e1] mr)
  (hs:HJ [e1] X.env=(false,eval e1 X.env)::HJ [] X.env:=by rfl) (hpl:(Ka pos (HJ [] X.env)).any (·.1)=false:=by rfl) :
  RX X tg (.Call (.Name "reversed" p) [e1] [] pos) (abr mr):=PI.of (aiv hg hm ha hs hpl) fun σ H Q f=>by
 obtain⟨μ,h,σw,Rw,R,S,m,k⟩:=f;refine⟨μ,h,σw,_,R,S,m,λvs H1 c=>?_⟩;obtain⟨μ1,ws,h1,e1,R1,r1,m1⟩:=c;split at m1
 rename_i us;obtain⟨v,ev,rv⟩:=iT r1;have rv0:=rv;obtain⟨a,xs,ea,hx,rs⟩:=rv;subst ev ea;have hl:=rs.len;refine⟨a,xs,rfl,.inl ⟨hx,k _ _ ⟨μ1,⟨us.reverse,Go⟩,h1,e1,R1,?_,m1⟩⟩⟩;intro H2 μ2 h2 i e2 R2 _;have r2:=e2.r _ _ rv0;obtain⟨b,ys,eb,hy,ry⟩:=r2;cases eb;have hl2:=ry.len;refine⟨λw ew=>?_,λhle=>?_⟩;have hi:i<us.length:=by
  have:=(Ob.mp ew).1
  simpa using this
 rw[List.getElem?_reverse hi]at ew;obtain⟨v,hv,rv⟩:=ry.get ew;refine⟨⟨by lia,ys,v,hy,by lia,by rw[show xs.length-1-i=us.length-1-i by lia];exact hv⟩,λx H3 d=>?_⟩;obtain⟨e3,y⟩:=d;subst e3;have:=y ys hy
 rw[show xs.length-1-i=us.length-1-i by lia,hv]at this;cases this;exact⟨μ2,.refl,R2,rv⟩;have:us.length<=i:=by simpa using hle
 show xs.length<=i;lia;rename_i us;obtain⟨v,ev,rv⟩:=iT r1;have rv0:=rv;obtain⟨a,xs,ea,hx,rs⟩:=rv;subst ev ea;have hl:=rs.len;refine⟨a,xs,rfl,.inr ⟨hx.sq,k _ _ ⟨μ1,⟨us.reverse,Go⟩,h1,e1,R1,?_,m1⟩⟩⟩;intro H2 μ2 h2 i e2 R2 _;have r2:=e2.r _ _ rv0;obtain⟨b,ys,eb,hy,ry⟩:=r2;cases eb;have hl2:=ry.len;refine⟨λw ew=>?_,λhle=>?_⟩;have hi:i<us.length:=by
  have:=(Ob.mp ew).1
  simpa using this
 rw[List.getElem?_reverse hi]at ew;obtain⟨v,hv,rv⟩:=ry.get ew;refine⟨⟨by lia,ys,v,hy.sq,by lia,by rw[show xs.length-1-i=us.length-1-i by lia];exact hv⟩,λx H3 e=>?_⟩;obtain⟨e3,y⟩:=e;subst e3;have:=y ys hy.sq
 rw[show xs.length-1-i=us.length-1-i by lia,hv]at this;cases this;exact⟨μ2,.refl,R2,rv⟩;have:us.length<=i:=by simpa using hle
 show xs.length<=i;lia;exact m1.elim
end
theorem Jl {K H}:aY K H μ [] []:=rfl
theorem jN {K H w v}{vs}(h:CR K H μ w v)(t:aY K H μ ws vs):aY K H μ (w::ws) (v::vs):=⟨v,vs,rfl,h,t⟩
theorem Jj {K H}{i}:CR K H μ (.int i) (.int i):=rfl
variable {sl:Array (Option JI)}
theorem mK {K}{a}{its n}{xs}(h:K.lookup a=Dn ⟨.type "tuple",Go,.seq its n,sl⟩)(hz:its.size<=Il)(hv:Cq xs its.toList)(hr:∀H μ,aY K H μ ws xs):∀H μ,CR K H μ (.tup ws) (.ref a):=by
 intro H μ;exact⟨a,xs,rfl,.inr ⟨_,its,n,h,rfl,rfl,hz,hv,rfl⟩,hr H μ⟩
theorem Jg {i:Int}{t}:RelV (.int i) (.int i t):=⟨t,rfl⟩
theorem adE {a}:RelV (.ref a) (.ref a):=rfl
section
variable {prog:HN}{w:HI}{A:Hh}{E:JI->AP->Prop}{s:AP}
theorem xZ {it t}{items}(hne:t≠it):∀n i s  (Q),s.heap.IsListIter it t i->s.heap.IsList t items->i+n<=items.size ->
  (∀h',h'.IsListIter it t (i+n)->QJ it s.heap h'->Q ((items.toList.drop i).take n) {s with heap:=h'})->Bb (CG prog w) A (draw (.ref it) n) Q E s
 | 0,i,s,Q,hit,_,_,hQ=>HF (by simpa using hQ _ hit (Heap.SameBut.refl ..))
 | n+1,i,s,Q,hit,ht,hle,hQ=>by
  have hlt:i<items.size:=by lia
  refine Al<|wpAny_pyNext_list_item hit ht (x:=items[i]) (by simp) λh1 hit1 hs1=>(Al<|N6<|xZ hne n _ _ _ hit1 (ht.at λo e=>hs1.extBut _ o hne e) (by lia) λh2 hit2 hs2=>HF ?_)
  have hd:items.toList.drop i=items[i]::items.toList.drop (i+1):=by simp[YZ,hlt]
  have:=hQ h2 (show i+(n+1)=i+1+n by lia ▸ hit2) (hs1.trans hs2)
  rwa[hd]at this
theorem pI {t}{items}{Q}(hh:A.handled=Go)(ht:s.heap.IsList t items)
  (hQ:∀h',Xf s.heap.objs.size s.heap h'->Q items.toList {s with heap:=h'}):Bb (CG prog w) A (unpackItems (.ref t) items.size Go) Q E s:=by
 have hlt:t≠s.heap.objs.size:=by obtain⟨o,ho,_⟩:=ht;exact JM (Ik ho)
 refine Al ?_;refine Al<|Xi ht.typeIs slot_list_iter.lookup<|HF<|Al<|N6<|X8 ht<|Al<|N6<|xZ hlt _ 0 _ _ ⟨_,Kh _ rfl,rfl,rfl⟩ (ht.at λo e=>Iw _ e) (by lia) λh1 hit1 hs1=>?_
 rw[(List.take_of_length_le (by simp)),if_neg (by simp)];refine Al<|N6<|wpAny_pyNext_list_end hh hit1 (ht.at λo e=>hs1.extBut _ o hlt<|Iw _ e) (by simp) λh2 he2=>?_
 refine HF<|hQ h2 λb o hb e=>he2 b o hb<|hs1.extBut b o hb<|Iw _ e
theorem ou {env}{x1 pos t}{items}{Q}(hh:A.handled=Go)(ht:s.heap.IsList t items)
  (hn:(OJ elts env).length=items.size) (hstar:(OJ elts env).findIdx? (·.1)=Go)
  (h:∀h',Xf s.heap.objs.size s.heap h'->Bb (CG prog w) A (assignInOrder ((OJ elts env).map (·.2)) items.toList) Q E {s with heap:=h'}) :
  Bb (CG prog w) A (assign (.Tuple elts x1 pos) env (.ref t)) Q E s:=by
 refine Al<|Wa ?_
 unfold unpack;rw[hn,hstar];exact Al<|N6<|pI hh ht h
end
section
variable {X:Cx}{pos:Pos}
def ad6 (K:Ax)(n:Nat)(t:Tj):TG:=λv σ H Q=>∃a xs,v=.ref a/\(Jt K H a xs\/Jb K H a xs)/\xs.length=n/\t xs σ H Q
theorem akA {es k t}{n}(hc:X.calm=true)(h:Vr X es t)
  (hn:(OJ es X.env).length=n:=by rfl) (hst:(OJ es X.env).findIdx? (·.1)=Go:=by rfl):PG X (.Tuple es k pos) (ad6 X.K n t):=by
 intro amx s σ H v u Q I r hw;obtain⟨a,xs,e1,hq,hl,hw⟩:=hw;subst e1;cases r;rcases hq with hq|hq
 obtain⟨its,rv,ht,hz⟩:=I.tuple hq;exact assign_Tuple_tuple (I.ok.hd hc) ht (by simp[hn,<-hl,rv.length]) hst λh' hx=>(h amx _ σ H xs _ Q (I.kept λb o e=>hx b o (JM<|Ik e) e) (by simpa using rv) hw);obtain⟨its,rv,ht,hz⟩:=I.list hq;exact ou (I.ok.hd hc) ht.isList (by simp[hn,<-hl,rv.length]) hst λh' hx=>(h amx _ σ H xs _ Q (I.kept λb o e=>hx b o (JM<|Ik e) e) (by simpa using rv) hw)
def xr (n:Nat)(g:RW):MG:=λw σ h N=>match w with
 | .tup ws=>JQ (Qe ws.length n) (g ws σ h N) False
 | .lst ws=>JQ (Qe ws.length n) (g ws σ h N) False
 | .loc j=>(match h.c j with
  | some (.lst ws)=>JQ (Qe ws.length n) (g ws σ h N) False
  | _=>False)
 | _=>False
theorem v7 {es k g}{n}(hc:X.calm=true)(h:adp X es g)(hn:(OJ es X.env).length=n:=by rfl)(hst:(OJ es X.env).findIdx? (·.1)=Go:=by rfl):DG X (.Tuple es k pos) (xr n g):=
 (akA (n:=n) hc h hn hst).of λv σ H N a=>by
  obtain⟨μ,h,σw,w,Nw,R,S,r,m,k⟩:=a;cases w with
  | tup ws=>
   obtain⟨p,xs,e1,hs,hr⟩:=r;have m:JQ _ _ False:=m;cases en:Qe ws.length n with
   | true=>rw[en]at m;exact⟨p,xs,e1,.inl hs,hr.len ▸ Yh en,μ,h,σw,ws,Nw,R,S,hr,m,k⟩
   | false=>rw[en]at m;exact(m).elim
  | lst ws=>
   obtain⟨p,xs,e1,hs,hr⟩:=r;have m:JQ _ _ False:=m;cases en:Qe ws.length n with
   | true=>rw[en]at m;exact⟨p,xs,e1,.inr hs.sq,hr.len ▸ Yh en,μ,h,σw,ws,Nw,R,S,hr,m,k⟩
   | false=>rw[en]at m;exact(m).elim
  | loc j=>
   have m:(match h.c j with
    | some (.lst ws)=>JQ _ _ False
    | _=>False):=m
   split at m
   rename_i ws ec;obtain⟨p,xs,e1,hs,hr⟩:=dI R r (show dU h (.loc j)=Dn ws by simp only[dU,ec]);cases en:Qe ws.length n with
   | true=>rw[en]at m;exact⟨p,xs,e1,.inr hs,hr.len ▸ Yh en,μ,h,σw,ws,Nw,R,S,hr,m,k⟩
   | false=>rw[en]at m;exact(m).elim
   exact m.elim
  | _=>exact m.elim
end
section
variable {K:Ax}{H:Hp}{h:Gh}{p:Addr}{xs:List V}
end
def afD (Q:WK):WK:=λw h=>match w with
 | .lst ws=>Q (.loc h.nx) (h.new (.lst ws))
 | _=>False
def agj (own:W->Option (List W))(ix:List Nat)(mi:MI)(tt:MT)(te:ME):ME:=fun σ h Q=>JB own ix mi tt te σ h (afD Q)
section
variable {X:Cx}{tg iter:Expr}{pos:Pos}{scope:Scope}{xs:List Str}
end
def Ie:Expr->Bool
 | .Starred _ _=>true
 | _=>false
theorem aO {e:Expr}{es:List Expr}{env:Env}(h:Ie e=false):HJ (e::es) env=(false,eval e env)::HJ es env:=by
 cases e<;>first|rfl|cases h
theorem Uy {e}{env}(h:Ie e=false):HJ [e] env=[(false,eval e env)]:=(aO h).trans rfl
def noStar:List Expr->Bool
 | []=>true
 | e::r=>!Ie e&&noStar r
theorem cC {pos env}:∀{es},noStar es=true->(Ka pos (HJ es env)).any (·.1)=false
 | [],_=>rfl
 | e::r,h=>by
  rw[noStar,Qn,Bool.not_eq_true']at h;rw[aO h.1];show(false||(Ka pos _).any _)=false;rw[cC h.2];rfl
theorem vU {amA e}{env}(h:Ie e=false):((Ka amA (HJ [e] env)).all (λx=>!x.1)&&(backToKw amA (Xd [] env)).all (λx=>x.1.isSome)
   && decide (([e]:List Expr).length+([]:List Ra).length+(if([]:List Ra).isEmpty then 0 else 1)<30))=true:=by
 rw[Uy h];rfl
section
variable {prog:HN}{w:HI}{A:Hh}{E:JI->AP->Prop}{s:AP}
open HT in
theorem kJ {t sl}{items vl vu}{lo hi Q}(ht:IsTup s.heap t items)(hs:s.heap.IsSliceOf sl vl vu .none)(pl:IsPart vl lo)(pu:IsPart vu hi)
  (h0:sIx items.size 0 lo=0) (h1:sIx items.size items.size hi=items.size) (h:Q (.ref t) s):Bb (CG prog w) A (getItem (.ref t) (.ref sl)) Q E s:=by
 obtain⟨os,hos,hcs,hds⟩:=id hs;unfold getItem;try with_reducible refine N6 ?_
 refine Al<|wpAny_sequenceKey ht.typeIs (by decide) ?_
 refine Al (WQ ht.typeIs Wi
  (Vo Wi ht.typeIs entry_tuple_getitem ?_ (args_tuple_getitem _ _)))
 show Bb _ _ (Builtin.Tuple.tupleItemsOf _ >>= _) _ _ s;refine Al<|tupleItemsOf_ ht ?_
 refine Al<|wpAny_typeOf ⟨os,hos,hcs⟩ ?_
 refine Al<|iM hs pl pu ?_
 have hyes:((((sIx items.size 0 lo:Nat):Int)==0&&(1:Int)==1&&(sIx items.size items.size hi-sIx items.size 0 lo)==items.size)=true):=by
  rw[h0,h1];simp
 show Bb _ _ (if _=true then _ else _) _ _ s;rw[if_pos hyes];refine Al<|Al<|wpAny_typeOf ht.typeIs<|HF ?_
 refine Al<|Wb ?_
 first
  | exact Al (HF (HF ⟨_,rfl,HF h⟩))
end
section
variable {X:Cx}
def agI (K:Ax):V->Option Int->Option Int->Hp->VK->Prop:=λx lo hi H Q=>∃a xs,x=.ref a/\Jt K H a xs /\
 HT.sIx xs.length 0 lo=0/\HT.sIx xs.length xs.length hi=xs.length/\Q x H
theorem zbN:Tn X (agI X.K):=by
 intro amx s σ H x v vl vu lo hi sl Q I rx hs pl pu h;obtain⟨a,xs,rfl,hx,h0,h1,q⟩:=h;cases rx;obtain⟨its,r,ht,hz⟩:=I.tuple hx;have amy:its.toArray.size=xs.length:=r.length.symm;exact⟨"tuple",_,Wi.lookup,ht.typeIs,(kJ ht hs pl pu (amy ▸ h0) (amy ▸ h1) ⟨.ref a,H,I,rfl,q⟩)⟩
def uN (x:W)(lo hi:Option Int)(h:Gh)(Q:WK):Prop:=match x with
 | .tup ws=>Q (.tup (Gf ws lo hi)) h
 | x=>(match dU h x with
  | some ws=>Q (.lst (Gf ws lo hi)) h
  | none=>False)
theorem jL {e}{lo hi ml mh}{p2 pos}(he:DE X e ma)(hl:DO X lo ml)(hu:DO X hi mh):DE X (.Subscript e (.Slice lo hi Go p2) pos) (QF uN ma ml mh):=
 (zbv (Tn.or (Tn.or akQ aay) zbN) he hl hu).of fun σ H Q b=>by
  obtain⟨μ,h,σw,Qw,R,S,m,k⟩:=b;refine⟨μ,h,σw,_,R,S,m,λx H1 ⟨μ1,wx,h1,e1,R1,r1,m1⟩=>(⟨μ1,h1,σw,_,R1,S.ext e1,m1,λlo H2 ⟨μ2,h2,e2,R2,m2⟩=>(⟨μ2,h2,σw,_,R2,(S.ext e1).ext e2,m2,λhi H3 a=>?_⟩)⟩)⟩;obtain⟨μ3,h3,e3,R3,m3⟩:=a;have e13:=(e1.trans e2).trans e3;have r3:=e3.r _ _ (e2.r _ _ r1);have oth:∀wy,CR X.K H3 μ3 wy x->(match dU h3 wy with
    | some ws=>Qw (.lst (Gf ws lo hi)) h3
    | none=>False)->∃p xs,x=.ref p/\Jb X.K H3 p xs/\∀l,H3 l=Go->Q (.ref l) (HW H3 l (.lst (Yo xs lo hi))):=by
   intro wy ry my;split at my
   rename_i ws ev;obtain⟨p,xs,ex,hs,rs⟩:=dI R3 ry ev;exact⟨p,xs,ex,hs,λl hl=>k _ _ ⟨μ3,_,h3,e13.trans (Ex.laid hl).ext,R3.laid hl,.lstNew R3 hl<|rs.cutv lo hi,my⟩⟩;cases my
  cases wx with
  | tup ws=>
   have m3:Qw _ h3:=m3;have r30:=r3;obtain⟨p,xs,ex,hx,rs⟩:=r3;have hl:=rs.len;by_cases hw:HT.sIx xs.length 0 lo=0/\HT.sIx xs.length xs.length hi=xs.length
   have ec:Gf ws lo hi=ws:=by
    unfold Gf;grind
   rw[ec]at m3;exact .inr ⟨p,xs,ex,hx,hw.1,hw.2,k _ _ ⟨μ3,.tup ws,h3,e13,R3,r30,m3⟩⟩;exact .inl<|.inr ⟨p,xs,ex,hx,hw,λq hq=>k _ _ ⟨μ3,.tup _,h3,e13.trans (Ex.laid hq).ext,R3.laid hq,.tupNew hq<|rs.cutv lo hi,m3⟩⟩
  | _=>exact .inl (.inl (oth _ r3 m3))
def PN:MC:=λws h Q=>match ws with
 | [.int i]=>Q (.int i) h
 | [.bl b]=>Q (.int (if b then 1 else 0)) h
 | _=>False
theorem Hs:jO X (.type "int") PN:=⟨_,ahZ,by
 intro H μ h vs ws Qw Q R r m k;unfold PN at m;split at m
 obtain⟨v,e,rv⟩:=iT r;subst e rv;exact .inl ⟨_,rfl,k _ _<|.int R m⟩;obtain⟨v,e,rv⟩:=iT r;subst e rv;exact .inr ⟨_,rfl,k _ _<|.int R m⟩;cases m⟩
def Kl (i j:Int):Prop:=fU i j\/Sm 64 i\/Sm 64 j
theorem Kl.ok {i j}(h:Kl i j):IntMulOk i j:=by
 rcases h with h|h|h
 exact h.ok;exact .of_left h.bits;exact .of_right h.bits
theorem ajB:Kr X (Q7 .Mult) (rI Kl λi j=>.int (i*j)):=opI λ_ _ _ _ _ _ _ hc q=>mul_int q hc.ok
def zq:M2:=λx y h Q=>match x,y with
 | .int i,.int j=>Kl i j/\Q (.int (i*j)) h
 | _,_=>False
theorem GQ:Nz X (Q7 .Mult) zq:=⟨_,ajB,by
 intro H μ h x y wx wy Qw Q R rx ry m k;unfold zq at m;split at m
 exact⟨_,_,rx,ry,m.1,k _ _<|.int R m.2⟩;cases m⟩
end
def Cz (Z:JI->Prop)(vs:Array JI):Prop:=∃z,vs[2]?=Dn z/\Z z
variable {Z:JI->Prop}
theorem Cz.size {Z}{vs}(c:Cz Z vs):2<vs.size:=let⟨_,e,_⟩:=c;(Array.getElem?_eq_some_iff.mp e).1
variable {Z':JI->Prop}
theorem Cz.mono {vs}(c:Cz Z vs)(k:∀z,Z z->Z' z):Cz Z' vs:=let⟨z,e,h⟩:=c;⟨z,e,k z h⟩
def XO (h:Heap)(P:Addr->Prop)(Z:JI->Prop)(e C:Addr)(od:Option Addr):Prop:=P e/\∃(oe:Obj) (vs:Array JI),h.get? e=Dn oe/\oe.cls=.ref C/\oe.dict=od/\oe.data=.fields vs/\vs.size<=1000/\Cz Z vs /\
 (vs[1]?=Dn .none\/∃(T:Addr) (oT:Obj) (ts:Array JI),vs[1]?=Dn (.ref T)/\T≠e/\P T/\h.get? T=Dn oT/\oT.data=.fields ts/\3<ts.size)
def XN (h:Heap)(P:Addr->Prop)(Z:JI->Prop)(e C:Addr)(od:Option Addr):Prop:=P e/\∃(oe:Obj) (vs:Array JI),h.get? e=Dn oe/\oe.cls=.ref C/\oe.dict=od/\oe.data=.fields vs/\vs.size<=1000/\Cz Z vs /\
 ∃(T:Addr) (oT:Obj) (ts:Array JI),vs[1]?=Dn (.ref T)/\T≠e/\P T/\h.get? T=Dn oT/\oT.data=.fields ts/\3<ts.size
theorem XN.xo {h}{P e C}{od}(x:XN h P Z e C od):XO h P Z e C od:=by
 obtain⟨p,oe,vs,a,b,c,d,f,g,k⟩:=x;exact⟨p,oe,vs,a,b,c,d,f,g,.inr k⟩
theorem XO.mono {h}{P P' Z Z' e C}{od}(x:XO h P Z e C od)(k:∀b,P b->P' b)(kz:∀z,Z z->Z' z):XO h P' Z' e C od:=by
 obtain⟨p,oe,vs,a,b,c,d,f,g,z⟩:=x;refine⟨k _ p,oe,vs,a,b,c,d,f,g.mono kz,?_⟩;rcases z with z|⟨T,oT,ts,z1,z2,z3,z4⟩
 exact .inl z;exact .inr ⟨T,oT,ts,z1,z2,k _ z3,z4⟩
theorem XN.mono {h:Heap}{P P':Addr->Prop}{Z Z':JI->Prop}{e C:Addr}{od:Option Addr}(x:XN h P Z e C od)(k:∀b,P b->P' b)(kz:∀z,Z z->Z' z):XN h P' Z' e C od:=by
 obtain⟨p,oe,vs,a,b,c,d,f,g,T,oT,ts,z1,z2,z3,z4⟩:=x;exact⟨k _ p,oe,vs,a,b,c,d,f,g.mono kz,T,oT,ts,z1,z2,k _ z3,z4⟩
structure Rp (P:Addr->Prop) (fs:List Addr) (h h':Heap):Prop where
 keep:∀b o,¬P b->b∉fs->h.get? b=Dn o->h'.get? b=Dn o
 slot:∀b o,¬P b->h.get? b=Dn o->∃sl,h'.get? b=Dn {o with slots:=sl}
 there:∀b o,h.get? b=Dn o->∃o',h'.get? b=Dn o'
theorem Rp.refl {P fs h}:Rp P fs h h:=⟨λ_ _ _ _ e=>e,λ_ o _ e=>⟨o.slots,e⟩,λ_ o e=>⟨o,e⟩⟩
theorem Rp.trans {P fs h h1 h2}(a:Rp P fs h h1)(b:Rp P fs h1 h2):Rp P fs h h2:=
 ⟨λc o n m e=>b.keep c o n m (a.keep c o n m e),λc o n e=>let⟨_,e1⟩:=a.slot c o n e;let⟨sl,e2⟩:=b.slot c _ n e1;⟨sl,e2⟩,λc o e=>let⟨o1,e1⟩:=a.there c o e;b.there c o1 e1⟩
section
variable {M:Model}{A:Hh}{E:JI->AP->Prop}{s:AP}{P:Addr->Prop}{e C:Addr}{od:Option Addr}
theorem zaN {fl fs}{Q}(x:XN s.heap P Z e C od)(h:∀h',XN h' P Z e C od->Rp P fs s.heap h'->Q () {s with heap:=h'}):Bb M A (setFlight (.ref e) fl) Q E s:=by
 obtain⟨p,oe,vs,he,hc,hdd,hd,hz,h2,T,oT,ts,h1,hne,pT,hT,hdT,h3⟩:=x;refine Al<|Ls he hd h1<|Wd hT hdT h3<|h _ ?_ ?_
 have hd3:=Rg hdT (·.setIfInBounds 3 (fl.elim Value.none λf=>Q6 f));refine⟨p,oe,vs,?_,hc,hdd,hd,hz,h2,T,_,_,h1,hne,pT,Qs _ hT<|Vk hd3,hd3,by simpa using h3⟩;rw[Qu _ _ hne];exact he;have ne:∀b,¬P b->T≠b:=λb n q=>n (q ▸ pT)
 refine⟨λb o n _ q=>by rwa[Qu _ _<|ne b n],λb o n q=>⟨o.slots,by rwa[Qu _ _<|ne b n]⟩,λb o q=>?_⟩;by_cases hb:T=b
 subst hb;exact⟨_,Qs _ hT<|Vk<|Rg hdT _⟩;exact⟨o,by rwa[Qu _ _ hb]⟩
theorem GZ {base env}{outer L oe}{vs head}{hadNext}{Q}
  (hfr:A.frames=Dn (env::outer)) (hl:s.heap.FunFrames base (env::outer)) (hf:env.frame=Dn L) (pe:P e) (he:s.heap.get? e=Dn oe) (hc:oe.cls=.ref C) (hdd:oe.dict=od) (hd:oe.data=.fields vs) (hz:vs.size<=1000) (h2:Cz Z vs)
  (pn:∀b,s.heap.get? b=Go->P b) (h:∀h',XN h' P Z e C od->Rp P (frs (env::outer)) s.heap h'->Q () {s with heap:=h'}) :
  Bb M A (do let a <-frameOf env;let pl <-entryPlaceOf L hadNext;let b <-EntryCells.newEntry head a .none (Q6 L) .none pl;setField (.ref e) 1 b) Q E s:=by
 have hsz:1<vs.size:=Nat.lt_trans (by decide) h2.size;have hene:e∉(env::outer).filterMap (·.frame):=λhm=>by
  obtain⟨_,o,ho,hnf⟩:=hl.mem hm;rw[he]at ho;injection ho with ho;subst ho;exact hnf vs hd
 refine Al<|wpAny_frameOf_fun hfr hl hf λh₁ hs₁=>?_
 refine Al<|wpAny_entryPlaceOf λpl hpl=>?_
 unfold EntryCells.newEntry newFields;refine Al<|W4 ?_<|hpl.sizeOk5 _ _ _ _ _
 have he₁:=(hs₁.2.1 e hene).trans he;have he₂:=Iw (h:=h₁) {cls:=.type "traceback",dict:=Go,data:=.fields ([head,.ref L,.none,Q6 L,.none]++(if pl.isEmpty then QW 6 Value.none else pl)).toArray} he₁;refine Wd he₂ hd hsz<|h _ ?_ ?_
 have hTe:=R9 (Ik he₁);have hd₃:=Rg hd (·.setIfInBounds 1 (Value.ref h₁.objs.size));refine⟨pe,_,_,Qs _ he₂ (Vk hd₃),by rw[YS];exact hc,?_,hd₃,by simpa using hz,(let⟨z,e2,hz2⟩:=h2;⟨z,by rw[Array.getElem?_setIfInBounds_ne (by decide)];exact e2,hz2⟩),h₁.objs.size,_,_,by simp[hsz],hTe,
  pn _ (Yc (hs₁.1 ▸ IK _)),(Qu _ _ (Jc hTe)).trans (Kh h₁ rfl),rfl,by simp<;>lia⟩
 obtain⟨c,dd,dt,sl⟩:=oe;cases hd;exact hdd;have ne:∀b,¬P b->e≠b:=λb n q=>n (q ▸ pe)
 refine⟨λb o n m q=>?_,λb o n q=>?_,λb o q=>?_⟩;rw[Qu _ _ (ne b n)];exact Iw _<|(hs₁.2.1 b m).trans q
 obtain⟨sl,e1⟩:=hs₁.2.2 b o q;exact⟨sl,by rw[Qu _ _<|ne b n];exact Iw _ e1⟩;obtain⟨sl,e1⟩:=hs₁.2.2 b o q;by_cases hb:e=b
 subst hb;exact⟨_,Qs _ he₂<|Vk<|Rg hd _⟩;exact⟨_,by rw[Qu _ _ hb];exact Iw _ e1⟩
theorem ajH {base:Heap}{env:Env}{outer:List Env}{L:Addr}{Q:Unit->AP->Prop}(hfr:A.frames=Dn (env::outer))(hl:s.heap.FunFrames base (env::outer))(hf:env.frame=Dn L)(x:XO s.heap P Z e C od)
  (pn:∀b,s.heap.get? b=Go->P b) (pf:∀b∈frs (env::outer),¬P b) (h:∀h',XN h' P Z e C od->Rp P (frs (env::outer)) s.heap h'->Q () {s with heap:=h'}):Bb M A (noteFrame (.ref e) env) Q E s:=by
 obtain⟨p,oe,vs,he,hc,hdd,hd,hz,h2,z⟩:=x;unfold noteFrame;simp only[hf];rcases z with h1|⟨T,oT,ts,h1,hne,pT,hT,hdT,h3⟩
 refine Al<|Ls he hd h1 ?_
 exact GZ hfr hl hf p he hc hdd hd hz h2 pn h;refine Al<|Ls he hd h1 ?_
 refine Al<|Ls hT hdT (x:=ts[3]) (by simp) ?_
 by_cases q:(ts[3]==Q6 L)=true
 rw[if_pos q];exact HF<|h _ ⟨p,oe,vs,he,hc,hdd,hd,hz,h2,T,oT,ts,h1,hne,pT,hT,hdT,h3⟩ .refl
 rw[if_neg q];refine Al<|Wd hT hdT h3 ?_
 have other:∀b,b≠T->(s.heap.update T (Obj.mapFields (·.setIfInBounds 3 Value.none))).get? b=s.heap.get? b:=λb hb=>Qu _ _ (Jc hb)
 have nT:∀b,¬P b->b≠T:=λb n q=>n (q ▸ pT)
 have st:Rp P (frs (env::outer)) s.heap (s.heap.update T (Obj.mapFields (·.setIfInBounds 3 Value.none))):=by
  refine⟨λb o n _ q=>(other b<|nT b n).trans q,λb o n q=>⟨o.slots,(other b<|nT b n).trans q⟩,λb o q=>?_⟩;by_cases hb:T=b
  subst hb;exact⟨_,Qs _ hT<|Vk<|Rg hdT _⟩;exact⟨o,(other b<|Jc hb).trans q⟩
 refine GZ hfr (hl.of_keeps λb o hb hnf=>⟨o,(other b λq=>?_).trans hb,rfl⟩) hf p ((other e<|Jc hne).trans he) hc hdd hd hz h2 (λb q=>?_) λh' x1 x2=>h h' x1<|st.trans x2
 rw[q,hT]at hb;injection hb with hb;subst hb;exact hnf ts hdT
 by_cases hb:b=T
 rw[hb];exact pT;exact pn b<|(other b hb).symm.trans q
end
variable {L:Addr}{fl:Option Addr}
theorem fD.obj {P w H}{h a o}(x:fD P w H h a o):∃ob,h.get? a=Dn ob:=by
 cases o with
 | lst xs=>obtain⟨_,_,_,_,e⟩:=x;exact⟨_,e⟩
 | tup xs=>obtain⟨_,_,_,ob,e,_⟩:=x;exact⟨_,e⟩
 | dK kvs|dT kvs=>obtain⟨_,_,_,_,o,_,_,e,_⟩:=x;exact⟨_,e⟩
 | set S n=>obtain⟨o,_,_,_,e,_⟩:=x;exact⟨_,e⟩
 | ins C dx fs=>obtain⟨_,_,_,e,_⟩:=x;exact⟨_,e⟩
 | own y=>obtain⟨_,e⟩:=x;exact⟨_,e⟩
 | xd fs=>obtain⟨_,⟨_,_,_,e,_⟩,_⟩:=x;exact⟨_,e⟩
 | rng lo hi=>obtain⟨_,_,_,e⟩:=x;exact⟨_,e⟩
 | frz ob u=>obtain⟨e,_⟩:=x;exact⟨_,e⟩
 | tbl ps|met f y=>exact⟨_,x⟩
 | ext φ=>obtain⟨_,⟨_,e⟩,_⟩:=x;exact⟨_,e⟩
section
variable {X:Cx}{amx:List (Addr×Obj)}{σ:St}{H H':Hp}{s s':AP}{b e C:Addr}{od:Option Addr}
structure New (X:Cx) (amx:List (Addr×Obj)) (H:Hp) (b:Addr):Prop where
 h:H b=Go
 s:b∈X.ex\/X.s₀.heap.get? b=Go
 l:b≠X.env.locals
 c:∀x c,X.env.cells.lookup x=Dn c->c≠b
 p:∀p∈X.pn++amx,p.1≠b
 f:b∉X.fs
theorem Aq.newOf (I:Aq X amx σ H s)(hb:s.heap.get? b=Go):New X amx H b where
 h:=by
  cases q:H b with
  | none=>rfl
  | some u=>obtain⟨ob,e⟩:=(I.hok b u q).obj;rw[hb]at e;cases e
 s:=by
  by_cases hx:b∈X.ex
  exact .inl hx;cases q:X.s₀.heap.get? b with
  | none=>exact .inr rfl
  | some o=>obtain⟨o',e⟩:=I.base.there b o q hx;rw[hb]at e;cases e
 l:=λz=>by obtain⟨m,⟨o,_,_,ho,_⟩,_⟩:=I.loc;rw[<-z,hb]at ho;cases ho
 c:=λx c e z=>by obtain⟨v,o,ho,_⟩:=I.cell x c e;rw[z,hb]at ho;cases ho
 p:=λp hp z=>by have ho:=(I.pin p hp).1;rw[z,hb]at ho;cases ho
 f:=λhm=>by obtain⟨_,o,ho,_⟩:=I.funs.mem hm;rw[hb]at ho;cases ho
open Classical in
theorem Aq.stp {h':Heap}(I:Aq X amx σ H s)(st:Rp (New X amx H) (frs X.stack) s.heap h'):Aq X amx σ H {s with heap:=h'}:=by
 have inCh:∀b o,s.heap.get? b=Dn o->b∉(P0 _).filter (λb=>decide _)->¬New X amx H b:=λb o e n z=>
  n (Vn.mpr ⟨VH.mpr (Ik e),decide_eq_true z⟩)
 refine I.stepG (λb hb=>?_) (λb o hL hf hc e n=>?_) (λb o _ _ hc e _=>st.slot b o (inCh b o e hc) e) (λ_ _ _ _ n=>n)
  (λb o _ e=>st.there b o e) (λ_ _ q=>q) (λ_ _ _ q=>q) (λ_ ps q=>⟨#[],by rw[q];simp⟩) (λm hm=>?_) (λb u q=>?_) I.bare
 have z:=of_decide_eq_true (Vn.mp hb).2;exact⟨z.s,z.l,z.c,z.p⟩;exact st.keep b o (inCh b o e hc) (λz=>(K5.mp<|I.stkSub b z).elim hL hf) e;obtain⟨o,es,ep,ho,r⟩:=hm;obtain⟨sl,q⟩:=st.slot _ o (λz=>z.l rfl) ho;exact⟨_,es,ep,q,r⟩;refine(I.hok b u q).stay (λc v hc r=>?_) (λ_ q=>q) λ_ _ q=>q;have hH:H c≠Go:=by
  lia
 exact st.keep c v (λz=>hH z.h) (λz=>hH<|I.stkFree c z) r
inductive Pb (N:Addr->Prop) (H:Hp):JI->Prop
 | nil:Pb N H .none
 | cons {c:Addr}{o:Obj}{u:HO}{vs:Array JI}{z:JI}(n:N c) (h1:H c=Dn (.frz o u)) (h2:o.data=.fields vs) (h3:vs[2]?=Dn z) (t:Pb N H z):Pb N H (.ref c)
theorem Pb.mono {N N' H H' z}(c:Pb N H z)(k:∀a,N a->N' a)(kh:∀a o u,H a=Dn (.frz o u)->H' a=Dn (.frz o u)):Pb N' H' z:=by
 induction c with
 | nil=>exact .nil
 | cons n h1 h2 h3 _ ih=>exact .cons (k _ n) (kh _ _ _ h1) h2 h3 ih
inductive Rc (H:Hp):JI->Addr->Prop
 | here {c:Addr}{o:Obj}{u:HO}(h1:H c=Dn (.frz o u)):Rc H (.ref c) c
 | next {c b:Addr}{o:Obj}{u:HO}{vs:Array JI}{z:JI}(h1:H c=Dn (.frz o u)) (h2:o.data=.fields vs) (h3:vs[2]?=Dn z) (t:Rc H z b):Rc H (.ref c) b
theorem Rc.frz {H v}{b}(r:Rc H v b):∃o u,H b=Dn (.frz o u):=by
 induction r with
 | here h1=>exact⟨_,_,h1⟩
 | next _ _ _ _ ih=>exact ih
theorem Qg.rc {H v}(c:Qg H0 v)(k:∀a o u,H0 a=Dn (.frz o u)->H a=Dn (.frz o u)):∀{b},Rc H v b->Rc H0 v b:=by
 induction c with
 | nil=>intro b r;cases r
 | cons h1 h2 h3 _ ih=>
  intro b r;cases r with
  | here _=>exact .here h1
  | next g1 g2 g3 t=>
   rw[(k _ _ _ h1)]at g1;cases g1;rw[h2]at g2;cases g2;rw[h3]at g3;cases g3;exact .next h1 h2 h3<|ih t
theorem Qg.chx {N H v}(c:Qg H v)(k:∀b,Rc H v b->N b):Pb N H v:=by
 induction c with
 | nil=>exact .nil
 | cons h1 h2 h3 _ ih=>exact .cons (k _ (.here h1)) h1 h2 h3 (ih λb r=>k b (.next h1 h2 h3 r))
theorem Pb.rc {N H v}(c:Pb N H v):∀{b},Rc H v b->N b:=by
 induction c with
 | nil=>intro b r;cases r
 | cons n h1 h2 h3 _ ih=>
  intro b r;cases r with
  | here _=>exact n
  | next g1 g2 g3 t=>
   simp_all
def RcO (H:Hp)(hd:Option JI)(b:Addr):Prop:=∃v,hd=Dn v/\Rc H v b
def Sd (X:Cx)(c:Addr):Prop:=(c∈X.ex\/X.s₀.heap.get? c=Go)\/RcO X.H₀ X.A.handled c
structure FX (X:Cx) (amx:List (Addr×Obj)) (σ:St) (H:Hp) (s:AP) (e C:Addr) (od:Option Addr):Prop where
 inv:Aq X amx σ H s
 xo:XO s.heap (New X amx H) (Pb (Sd X) H) e C od
structure FN (X:Cx) (amx:List (Addr×Obj)) (σ:St) (H:Hp) (s:AP) (e C:Addr) (od:Option Addr):Prop where
 inv:Aq X amx σ H s
 xn:XN s.heap (New X amx H) (Pb (Sd X) H) e C od
theorem FN.fx (F:FN X amx σ H s e C od):FX X amx σ H s e C od:=⟨F.inv,F.xn.xo⟩
def Top (X:Cx):Prop:=X.stack=X.env::X.outer/\X.env.frame=Dn X.env.locals
theorem FX.note {M A}{E}{Q}(F:FX X amx σ H s e C od)(ht:Top X)(hA:A.frames=Dn X.stack)(h:∀h',FN X amx σ H {s with heap:=h'} e C od->Q () {s with heap:=h'}):
  Bb M A (noteFrame (.ref e) X.env) Q E s:=by
 have hst:=F.inv.stack;rw[ht.1]at hst hA;refine ajH hA hst ht.2 F.xo (λb hb=>F.inv.newOf hb) (λb hb z=>?_) λh' x st=>h h' ⟨F.inv.stp<|ht.1 ▸ st,x⟩;rcases K5.mp (F.inv.stkSub b (ht.1 ▸ hb))with q|q
 exact z.l q;exact z.f q
theorem FN.flight {M A}{E}{Q}(F:FN X amx σ H s e C od)(h:∀h',FN X amx σ H {s with heap:=h'} e C od->Q () {s with heap:=h'}):
  Bb M A (setFlight (.ref e) fl) Q E s:=zaN F.xn λh' x st=>h h' ⟨F.inv.stp st,x⟩
def V5 (P:HN)(w:HI):V8:=λhd outer H s E e s'=>∃(a C:Addr) (od:Option Addr) (H':Hp),e=.ref a/\s'.os=s.os/\Sy s'.gens/\Un (frs outer) [] H H' s.heap s'.heap/\Kv P w H' s'.heap /\
 XN s'.heap (λb=>H' b=Go/\s.heap.get? b=Go) (Pb (λb=>s.heap.get? b=Go\/RcO H hd b) H') a C od/\E (.ref C) od H'
theorem FX.leave {M}{E' E}(F:FX X amx σ H s e C od)(ht:Top X)(hx:X.ex=[])(he:E (.ref C) od H):
  Bb M X.A (leaving X.env (.ref e)) (λ_ s3=>V5 X.prog X.w X.A.handled X.outer X.H₀ X.s₀ E (.ref e) s3) E' s:=by
 refine Al<|F.note ht F.inv.ok.frames λh1 F1=>F1.flight λh2 F2=>?_
 have I:=F2.inv;refine⟨e,C,od,H,rfl,I.os,I.bare,by have:=I.base;rw[hx]at this;exact this,I.hok,F2.xn.mono (λb z=>⟨z.h,?_⟩)<|λz c=>c.mono (λb q=>?_) λ_ _ _ q=>q,he⟩;rcases z.s with q|q
 simp_all
 exact q;rcases q with(q|q)|q
 simp_all
 exact .inl q;exact .inr q
theorem Aq.cxx {E}{ev}(I:Aq X amx σ H s)(h:V5 X.prog X.w X.A.handled X.stack H s E ev s'):∃(a C:Addr) (od:Option Addr) (H':Hp),ev=.ref a/\FN X amx σ H' s' a C od/\E (.ref C) od H':=by
 obtain⟨a,C,od,H',e1,os,bare,un,hok,x,he⟩:=h;refine⟨a,C,od,H',e1,⟨I.call' os un hok bare nofun,x.mono (λb z=>?_) λz c=>c.mono (λb q=>q.elim (λq=>.inl (I.newOf q).s) λ⟨v,e,r⟩=>.inr ⟨v,e,(I.ok.qt v e).2.rc I.base.frzs r⟩) λ_ _ _ q=>q⟩,he⟩;have n:=I.newOf z.2;exact⟨z.1,n.s,n.l,n.c,n.p,n.f⟩
end
variable {N:Addr->Prop}{bm:List JI}{newId:String}
theorem ajz {K}{h C}(X:K.In h)(q:QV K C bm newId=true):
  ∃(tl:List JI) (N:Addr) (nm qn:Str) (bs:List JI) (hd:Bool) (sn:List Str) (sub:List JI) (ab:Bool) (col:Option Bool) (dd:Option Addr) (k0 k1 k2 k3 k5:Option JI) (mN:Str->Option JI),
   K.lookup C=Dn (Ws nm qn C N bs tl hd sn sub ab col dd k0 k1 k2 k3 k5 newId)/\h.Ns N mN/\mN "__init__" = Go/\OwnTail h bm tl:=by
 unfold QV at q;split at q
 rename_i dd cd sl ho;split at q
 rename_i C' bm' k0 k1 k2 k3 n k5 hm hs;simp at q;obtain⟨⟨⟨⟨⟨rfl,rfl⟩,hdel⟩,ht⟩,hok⟩,hni⟩:=q;obtain⟨nm,bs,mro,ns,qn,hd,sn,sub,ab,col,del⟩:=cd;dsimp only at hm hdel hok hni;subst hm hdel;have hsl:sl=#[k0,k1,k2,k3,Dn (.builtin n),k5]:=by
  grind
 subst hsl;exact⟨bm',ns,nm,qn,bs,hd,sn,sub,ab,col,dd,k0,k1,k2,k3,k5,_,ho,.of_isNs<|PySem.W.isNs_of_in X hok,PySem.W.nsMap_none_of_in X hok hni,PySem.W.tail_of_in X ht⟩;cases q;cases q
section
variable {X:Cx}{amx:List (Addr×Obj)}{σ:St}{H:Hp}{s:AP}{C:Addr}{x:Str}{np amA pos:Pos}{e:Expr}{es:List Expr}{t:TA}
theorem zau {Q:Flow->AP->Prop}{R:Hp->Prop}(hc:X.calm=true)(hg:Gl X x)(hm:X.mg x=Dn (.ref C))(hq:QV X.K C NT "ValueError.__new__" = true)(ha:PA X (e::es) t)
  (I:Aq X amx σ H s) (h:t σ H λvs H1=>vs.length<=Il/\R H1) (hx:∀a H1 s',FX X amx σ H1 s' a C Go->R H1->X.xe (.ref a) s')
  (hdb:(x==("__debug__" : Str))=false:=by decide) (he:HJ (e::es) X.env=(false,eval e X.env)::HJ es X.env:=by rfl) (hpl:(Ka amA (HJ es X.env)).any (·.1)=false:=by rfl) :
  Bb (CG X.prog X.w) X.A (exec (.Raise (Dn (.Call (.Name x np) (e::es) [] amA)) Go pos) X.env) Q X.xe s:=by
 obtain⟨tl,N,nm,qn,bs,hd,sn,sub,ab,col,dd,k0,k1,k2,k3,k5,mN,hC,hN,hni,T⟩:=ajz I.mod.kin hq;refine wpAny_Raise_call_subT (nm:=nm) (q:=qn) (N:=N) (bs:=bs) (hdct:=hd) (sn:=sn) (sub:=sub) (ab:=ab) (col:=col) (dd:=dd) (k0:=k0) (k1:=k1) (k2:=k2) (k3:=k3) (k5:=k5)
  Z0 (T.hasType Z0.hasBase) (I.ok.hd hc) (by rw[he];show(false||(Ka amA _).any (·.1))=false;rw[hpl];rfl) hni (j9 I hg hm ⟨rfl,?_⟩ hdb)
 have g:=ha amA amx s σ H _ I h;rw[he]at g|-
 refine Calls.evalArgs_plain<|Hj g λus s2 ⟨vs,H2,I2,r,z,k⟩=>⟨rfl,?_,I2.kIn _ _ hC,hN.keeps I2.bk,T.keeps I2.bk,λh' a M=>hx a H2 _ ⟨I2.kept M.keeps,?_⟩ k⟩
 rw[<-r.length];exact z;obtain⟨tt,h1,h2,h3⟩:=M.there;exact⟨I2.newOf M.new,_,_,h1,rfl,rfl,rfl,by simp,⟨.none,rfl,.nil⟩,.inl rfl⟩
end
variable {np:Pos}
def Zn (K:Ax)(H:Hp)(μ:Mu)(C:Addr)(n:Str)(od:Option Addr)(fs:List (Str×W)):Prop:=
 (od=Go/\fs=[])\/∃dd ws xs,od=Dn dd/\U8 K C n=true/\fs=(Dj n).zip ws/\ws.length=(Dj n).length/\(Dj n).length=xs.length/\H dd=Dn (.xd ((Dj n).zip xs))/\aY K H μ ws xs
def XT (X:Cx)(H:Hp)(μ:Mu)(Γ:St->Prop)(E:Ce):JI->AP->Prop:=λev s=>∃(a C:Addr) (n:Str) (od:Option Addr) (fs:List (Str×W)) (amx:List (Addr×Obj)) (σ:St) (H':Hp) (μ':Mu) (h':Gh),ev=.ref a/\FX X amx σ H' s a C od/\jV X.K C n=true/\Γ σ /\
 J4 X.K H μ H' μ'/\HS X.K μ' H' h'/\Zn X.K H' μ' C n od fs/\E ⟨n,fs⟩ h'
variable {Γ:St->Prop}
theorem XT.trans {X}{H H1 μ μ1}{Γ E}{ev s}(x:XT X H1 μ1 Γ E ev s)(e:J4 X.K H μ H1 μ1):XT X H μ Γ E ev s:=by
 obtain⟨a,C,n,od,fs,amx,σ,H',μ',h',h1,h2,h3,h4,h5,h6⟩:=x;exact⟨a,C,n,od,fs,amx,σ,H',μ',h',h1,h2,h3,h4,e.trans h5,h6⟩
def tDX (X:Cx)(Γ:St->Prop)(m:Ce->ME):TE:=fun σ H Q=>Γ σ/\∃μ h σw Qw E,HS X.K μ H h/\Slots X.K H μ σw σ/\m E σw h Qw/\(∀v H',DQ X.K H μ Qw v H'->Q v H')/\∀ev s',XT X H μ Γ E ev s'->X.xe ev s'
def afx (X:Cx)(Γ:St->Prop)(m:Ce->MS):TS:=λD σ H=>Γ σ/\∃μ h σw Dw E,HS X.K μ H h/\Slots X.K H μ σw σ/\m E Dw σw h/\yU X.K H μ Dw D/\∀ev s',XT X H μ Γ E ev s'->X.xe ev s'
abbrev DEx (X:Cx)(Γ:St->Prop)(e:Expr)(m:Ce->ME):Prop:=PE X e (tDX X Γ m)
abbrev V4 (X:Cx)(Γ:St->Prop)(st:Stmt)(m:Ce->MS):Prop:=PS X st (afx X Γ m)
abbrev Jk (X:Cx)(Γ:St->Prop)(st:List Stmt)(m:Ce->MS):Prop:=QC X st (afx X Γ m)
def yu (K:Ax)(ms:Ah):Sp:=λvs H Q E=>∃μ h ws Qw Ew,HS K μ H h/\aY K H μ ws vs/\ms ws h Qw Ew/\(∀v H',DQ K H μ Qw v H'->Q v H') /\
 ∀(C:Addr) (n:Str) (od:Option Addr) (fs:List (Str×W)) (H':Hp),jV K C n=true->(∃μ' h',J4 K H μ H' μ'/\HS K μ' H' h'/\Zn K H' μ' C n od fs/\Ew ⟨n,fs⟩ h')->E (.ref C) od H'
theorem jB.tame {P w K}{mg base k}{f fd}{ps}(F:jB P w K mg base (V5 P w) k f fd ps (yu K ms)):jB P w K mg base O9 k f fd ps (lift K ms):=by
 have up:∀vs H Q E,lift K ms vs H Q E->yu K ms vs H Q E0:=λvs H Q E ⟨μ,h,ws,Qw,R,r,m,q⟩=>⟨μ,h,ws,Qw,EF,R,r,m,q,λ_ _ _ _ _ _ ⟨_,_,_,_,_,z⟩=>z⟩
 refine⟨λvs H Q E q=>F.len vs H Q E0<|up _ _ _ _ q,λA outer s H args us vs Q E hr e0 hb hv hs=>Td (F.run A outer s H args us vs Q E0 hr e0 hb hv<|up _ _ _ _ hs) λr s' h=>?_⟩;cases r with
 | error e=>obtain⟨_,_,_,_,_,_,_,_,_,_,z⟩:=h;exact z
 | ok fl=>cases fl<;>exact h
section
variable {X:Cx}{e c:Expr}{es:List Expr}{pos:Pos}{st:Stmt}{rest:List Stmt}
theorem Ai {k:Nat}{f:Addr}{fd:Ms}{ps:List Str}{x:Str}{p:Pos}(F:jB X.prog X.w X.K X.mg X.base (V5 X.prog X.w) k f fd ps (yu X.K ms))(hr:gq k X.A)(hg:Gl X x)(hm:X.mg x=Dn (.ref f))(hk:Qm X.K (.ref f)=true)
  (hb:Binds X.K fd ps []) (ha:LQ X (e::es) mr) (hdb:(x==("__debug__" : Str))=false:=by decide) (he:HJ (e::es) X.env=(false,eval e X.env)::HJ es X.env:=by rfl) (hpl:(Ka pos (HJ es X.env)).any (·.1)=false:=by rfl) :
  DEx X Γ (.Call (.Name x p) (e::es) [] pos) (λE=>aF ms E mr):=by
 rintro amx s σ H Q I ⟨hσ,μ,h,σw,Qw,E,R,S,m,q,kx⟩;refine WD<|j9 I hg hm ?_ hdb
 refine PySem.W.callWith_K I.ok.mod.kin hk (Hj (ha pos amx s σ H _ I ⟨μ,h,σw,_,R,S,m,λ_ _ z=>z⟩) λus s1 ⟨vs,H1,I1,r,μ1,ws,h1,e1,R1,r1,m1⟩=>⟨I1.kIn,?_⟩) he hpl;have sp:yu X.K ms (vs++[]) H1 Q (λCv od H'=>∃(C:Addr) (n:Str) (fs:List _) (μ':Mu) (h':Gh),Cv=.ref C/\jV X.K C n=true/\J4 X.K H1 μ1 H' μ'/\HS X.K μ' H' h'/\Zn X.K H' μ' C n od fs/\E ⟨n,fs⟩ h'):=by
  rw[Xm];exact⟨μ1,h1,ws,Qw,E,R1,r1,m1,λv H' z=>q _ _<|z.trans e1,λC n od fs H' hx ⟨μ',h',z⟩=>⟨C,n,fs,μ',h',rfl,hx,z⟩⟩
 have r2:=r.append .nil;refine Vx<|Td (F.run X.A _ s1 H1 ⟨us,[]⟩ _ _ Q _ hr I1.env0 (hb s1 us I1.kIn<|r2.length ▸ F.len _ _ _ _ sp) r2 sp) λr s' hq=>?_
 cases r with
 | error ev=>
  obtain⟨a,C,od,H',e2,F2,C',n,fs,μ',h',e3,hx,e4,R4,k4⟩:=I1.cxx (E:=λCv od H'=>∃(C:Addr) (n:Str) (fs:List _) (μ':Mu) (h':Gh),Cv=.ref C/\jV X.K C n=true/\J4 X.K H1 μ1 H' μ'/\HS X.K μ' H' h'/\Zn _ H' μ' C n od fs/\E ⟨n,fs⟩ h') hq;cases e3;exact kx ev s' ⟨a,C,n,od,fs,amx,σ,H',μ',h',e2,F2.fx,hx,hσ,e1.trans e4,R4,k4⟩
 | ok fl=>
  cases fl with
  | ret u=>exact I1.after hq
  | next=>exact Qy hq
  | brk=>exact Qy hq
  | cont=>exact Qy hq
theorem dj {m}(h:DS X st m):V4 X Γ st (λ_=>m):=h.of λD σ H ⟨_,μ,h,σw,Dw,_,R,S,m,k,_⟩=>⟨μ,h,σw,Dw,R,S,m,k⟩
theorem cH:Jk X Γ [] (λ_=>bD):=aU.of λD σ H ⟨_,μ,h,σw,Dw,_,R,S,m,k,_⟩=>⟨μ,h,σw,Dw,R,S,m,k⟩
theorem aZ {m}(h:V4 X Γ st m):Jk X Γ [st] m:=Bm h
theorem aQ {m1 m2}(hΓ:∀σ,Γ σ)(h1:V4 X Γ st m1)(h2:Jk X Γ rest m2):Jk X Γ (st::rest) (λE=>aX (m1 E) (m2 E)):=(Ed h1 h2).of λD σ H a=>by
 obtain⟨g,μ,h,σw,Dw,E,R,S,m,k,kx⟩:=a;refine⟨g,μ,h,σw,_,E,R,S,m,⟨?_,k.rt,k.bk,k.ct⟩,kx⟩;rintro σ' H' ⟨μ1,σw1,h1,e1,R1,S1,m1⟩;exact⟨hΓ _,μ1,h1,σw1,Dw,E,R1,S1,m1,k.trans e1,λev s' z=>kx ev s'<|z.trans e1⟩
theorem fu {ma}(he:DEx X Γ e ma):V4 X Γ (.Return (Dn e) pos) (λE=>bJ (ma E)):=(U0 he).of λD σ H ⟨g,μ,h,σw,Dw,E,R,S,m,k,kx⟩=>⟨g,μ,h,σw,_,E,R,S,m,k.rt,kx⟩
theorem fL {a b t}{m1 m2}(hc:DT X c t)(ha:Jk X Γ a m1)(hb:Jk X Γ b m2):V4 X Γ (.If c a b pos) (λE=>cT t (m1 E) (m2 E)):=(aaN hc ha hb).of λD σ H e=>by
 obtain⟨g,μ,h,σw,Dw,E,R,S,m,k,kx⟩:=e;refine⟨μ,h,σw,_,R,S,m,λb H1 d=>?_⟩;obtain⟨μ1,h1,e1,R1,q⟩:=d;cases b with
 | true=>rw[if_pos rfl];exact⟨g,μ1,h1,σw,Dw,E,R1,S.ext e1,q.1 rfl,k.trans e1,λev s' z=>kx ev s' (z.trans e1)⟩
 | false=>rw[if_neg QL];exact⟨g,μ1,h1,σw,Dw,E,R1,S.ext e1,q.2 rfl,k.trans e1,λev s' z=>kx ev s' (z.trans e1)⟩
theorem Ly {ma i x}{pos'}(hN:X.N.Nodup)(hi:X.N[i]?=Dn x)(hx:Loc X.env.scope x)(he:DEx X Γ e ma)(hs:Vv e (Dn (.Name x pos')) pos.line X.env=pure false:=by rfl)
  (hf:X.fn x=true\/X.env.scope.names.lookup x=Dn .local:=by first|exact .inl rfl|exact .inr rfl|assumption):V4 X Γ (.Assign [.Name x pos'] e pos) (λE=>bI (ma E) (kI i)):=
 (Vg hN hi hx he hs hf).of λD σ H ⟨g,μ,h,σw,Dw,E,R,S,m,k,kx⟩=>
  ⟨g,μ,h,σw,_,E,R,S,m,λv H1 ⟨μ1,w,h1,e1,R1,r1,m1⟩=>k.nx _ _ ⟨μ1,σw.set i _,h1,e1,R1,(S.ext e1).set r1 i,m1⟩,kx⟩
theorem dO {C:Addr}{x v:Str}{j}{amA p1:Pos}(hc:X.calm=true)(hg:Gl X x)(hm:X.mg x=Dn (.ref C))(hq:QV X.K C NT "ValueError.__new__" = true)(hx:jV X.K C x=true)(hdb:(x==("__debug__" : Str))=false:=by decide):
  V4 X Γ (.Raise (Dn (.Call (.Name x np) [.Constant (.str v) j p1] [] amA)) Go pos) (λE=>jQ x E):=by
 rintro amx s σ H D I ⟨g,μ,h,σw,Dw,E,R,S,m,k,kx⟩;refine zau (R:=λH1=>∃μ1 h1,J4 _ H μ H1 μ1/\HS _ μ1 H1 h1/\E ⟨x,[]⟩ h1) hc hg hm hq (fX bC d8 rfl) I ⟨μ,h,σw,λws h1=>ws.length=1/\E ⟨x,[]⟩ h1,R,S,⟨rfl,m⟩,λvs H' ⟨μ1,ws,h1,e1,R1,r1,l1,m1⟩=>⟨by rw[<-r1.len,l1];decide,μ1,h1,e1,R1,m1⟩⟩ (λa H1 s' F b=>?_) hdb rfl rfl;obtain⟨μ1,h1,e1,R1,m1⟩:=b;exact kx _ s' ⟨a,C,x,Go,[],amx,σ,H1,μ1,h1,rfl,F,hx,g,e1,R1,.inl ⟨rfl,rfl⟩,m1⟩
end
theorem aeg {P w K}{mg base}{x qual st f fd}{N ps k}{pure}{body}(F:Sg K x qual st f fd)(S:fW N ps (bw st))
  (hb:∀cdv A  (outer) (s) (H) (E),gq k (A.deeper (RG qual (bw st) s.heap.objs.size f cdv)) ->
   Jk (Ji (V5 P w) P w K mg base N qual (bw st) f cdv A outer s H E) (λ_=>True) (dG st) body):jB P w K mg base (V5 P w) (k+1) f fd ps (yu K (IV ps.length N.length pure body)):=by
 obtain⟨oc,od,kV,doc,pm,an,cdv,ct,osl,rfl,lk,hcd⟩:=F.ex;refine acC lk hcd S (λvs H Q E c=>by obtain⟨μ,h,ws,Qw,Ew,R,r,m,_,_⟩:=c;rw[<-r.len];exact(Fe m).1) λA outer s H vs Q E hr b=>?_;obtain⟨μ,h,ws,Qw,Ew,R,r,m0,k,kx⟩:=b;obtain⟨hl,m⟩:=Fe m0;refine⟨_,hb cdv A outer s H E hr,trivial,μ,h,_,_,Ew,R,sH r,m,⟨?_,?_,?_,?_⟩,?_⟩;rintro σ' H' ⟨μ1,σw1,h1,e1,R1,S1,m1⟩;exact k _ _<|vP R e1 R1 (by rw[CR]) m1
 rintro v H' ⟨μ1,w1,h1,e1,R1,r1,m1⟩;exact k _ _<|vP R e1 R1 r1 m1
 rintro σ' H' ⟨μ1,σw1,h1,e1,R1,S1,m1⟩;exact m1.elim;rintro σ' H' ⟨μ1,σw1,h1,e1,R1,S1,m1⟩;exact m1.elim;rintro ev s' ⟨a,C,n,od,fs,amx,σ',H',μ',h',rfl,F',hx,_,e1,R1,m1⟩;exact F'.leave ⟨rfl,rfl⟩ rfl<|kx C n od fs H' hx ⟨μ',h',e1,R1,m1⟩
abbrev Cx.tr (X:Cx)(amx:List (Addr×Obj))(xe:JI->AP->Prop):Cx:={X with pn:=X.pn++amx,xe:=xe}
abbrev Cx.hnd (X:Cx)(a:Addr)(H0:Hp):Cx:={X with A:=X.A.mark (Dn (.ref a)),H₀:=H0,calm:=false}
def uE (a:Addr)(o:Obj):HO:=.ext λh=>h.get? a=Dn o
section
variable {X:Cx}{amx pins':List (Addr×Obj)}{σ:St}{H:Hp}{s:AP}{xe:JI->AP->Prop}{a C:Addr}{o:Obj}{u:HO}
theorem Cx.Ok.tr (ok:X.Ok)(amx:List (Addr×Obj))(xe:JI->AP->Prop):(X.tr amx xe).Ok:=
 ⟨ok.mod,ok.kind,ok.glob,ok.blt,ok.above,ok.inj,ok.has,ok.cab,ok.hd,ok.qt,ok.frames,ok.stk,ok.exf,ok.bs,ok.bsz,ok.noex,ok.exfs,ok.funs,ok.frf⟩
theorem Cx.Ok.untr (ok:(X.tr amx xe).Ok):X.Ok:=
 ⟨ok.mod,ok.kind,ok.glob,ok.blt,ok.above,ok.inj,ok.has,ok.cab,ok.hd,ok.qt,ok.frames,ok.stk,ok.exf,ok.bs,ok.bsz,ok.noex,ok.exfs,ok.funs,ok.frf⟩
theorem Aq.tr (I:Aq X amx σ H s):Aq (X.tr amx xe) [] σ H s:=⟨I.ok.tr amx xe,I.os,I.bare,I.base,I.loc,I.cell,I.free,I.freeC,λp hp=>I.pin p (by
 have hp':=hp;rw[Xm]at hp';exact hp'),I.hok,I.len⟩
theorem Aq.untr (I:Aq (X.tr amx xe) pins' σ H s):Aq X amx σ H s:=⟨I.ok.untr,I.os,I.bare,I.base,I.loc,I.cell,I.free,I.freeC,λp hp=>I.pin p (Yg _ hp),I.hok,I.len⟩
theorem New.untr {b}(n:New (X.tr amx xe) pins' H b):New X amx H b:=⟨n.h,n.s,n.l,n.c,λp hp=>n.p p (Yg _ hp),n.f⟩
theorem FX.untr {e}{od}(F:FX (X.tr amx xe) pins' σ H s e C od):FX X amx σ H s e C od:=⟨F.inv.untr,F.xo.mono (λ_ n=>n.untr) λ_ z=>z⟩
theorem SP.untr {D f s'}(h:SP (X.tr amx xe) [] D f s'):SP X amx D f s':=by
 cases f with
 | next|brk|cont=>obtain⟨σ',H',I,q⟩:=h;exact⟨σ',H',I.untr,q⟩
 | ret v=>obtain⟨v,σ',H',I,r,q⟩:=h;exact⟨v,σ',H',I.untr,r,q⟩
structure RP (X:Cx) (H0:Hp):Prop where
 s0:∀b ob,X.s₀.heap.get? b=Dn ob->H0 b=X.H₀ b
 tups:∀b xs,X.H₀ b=Dn (.tup xs)->H0 b=Dn (.tup xs)
 frzs:∀b ob v,X.H₀ b=Dn (.frz ob v)->H0 b=Dn (.frz ob v)
 tbls:∀b ps,X.H₀ b=Dn (.tbl ps)->H0 b=Dn (.tbl ps)
def acy (X:Cx):Prop:=∀v,X.A.handled=Dn v->Pb (Sd X) X.H₀ v
theorem acy.ok (ok:X.Ok):acy X:=λv e=>(ok.qt v e).2.chx λb r=>.inr ⟨v,e,r⟩
theorem Pb.lst {H z}(c:Pb N H z):∃l:List Addr,(∀b∈l,N b/\∃o u,H b=Dn (.frz o u))/\∀H0,(∀b∈l,H0 b=H b)->Pb N H0 z:=by
 induction c with
 | nil=>exact⟨[],λb hb=>absurd hb (by simp),λ_ _=>.nil⟩
 | @cons c o u vs z n h1 h2 h3 _ ih=>
  obtain⟨l,p,q⟩:=ih;refine⟨c::l,λb hb=>?_,λH0 k=>.cons n ((k c<|by simp).trans h1) h2 h3<|q H0 λb hb=>k b<|by simp[hb]⟩;rcases K5.mp hb with rfl|hb
  simp_all
  exact p b hb
theorem Pb.chn {H z}(c:Pb N H z):Qg H z:=by
 induction c with
 | nil=>exact .nil
 | cons _ h1 h2 h3 _ ih=>exact .cons h1 h2 h3 ih
open Classical in
theorem Aq.hnd {vs z}(I:Aq X amx σ H s)(n:New X amx H a)(hx:X.ex=[])(ho:s.heap.get? a=Dn o)(hd:o.data=.fields vs)(h2:vs[2]?=Dn z)(ch:Pb (Sd X) H z) :
  ∃H0,RP X H0/\(∀b,Sd (X.hnd a H0) b->Sd X b)/\Aq (X.hnd a H0) amx σ (HW H a (.frz o (uE a o))) s:=by
 obtain⟨l1,lp1,lq⟩:=ch.lst;have s0:X.s₀.heap.get? a=Go:=by
  rcases n.s with q|q
  rw[hx]at q;cases q;exact q
 let l:List Addr:=l1.filter λb=>decide (X.s₀.heap.get? b=Go)
 have l0:∀b∈l,X.s₀.heap.get? b=Go:=λb hb=>of_decide_eq_true (Vn.mp hb).2
 have lp:∀b∈l,True/\∃o u,H b=Dn (.frz o u):=λb hb=>⟨trivial,(lp1 b (Vn.mp hb).1).2⟩
 have la:∀b∈l,b≠a:=λb hb q=>by
  obtain⟨_,_,_,e⟩:=lp b hb;rw[q,n.h]at e;cases e
 let H0:Hp:=λb=>if b=a then Dn (.frz o (uE a o))else if b∈l then H b else X.H₀ b
 have hA:H0 a=Dn (.frz o (uE a o)):=if_pos rfl;have hL:∀b∈l,H0 b=H b:=λb hb=>(if_neg (la b hb)).trans (if_pos hb)
 have hO:∀b,b≠a->b∉l->H0 b=X.H₀ b:=λb h1 h3=>(if_neg h1).trans (if_neg h3)
 have ne:∀b ob,X.s₀.heap.get? b=Dn ob->b≠a:=λb ob e z=>by rw[z,s0]at e;cases e
 have nl:∀b ob,X.s₀.heap.get? b=Dn ob->b∉l:=λb ob e z=>by rw[l0 b z]at e;cases e
 have eq0:∀b ob,X.s₀.heap.get? b=Dn ob->H0 b=X.H₀ b:=λb ob e=>hO b (ne b ob e) (nl b ob e)
 have nf:∀b∈X.fs,b≠a:=λb hb z=>n.f (by rw[<-z];exact hb)
 have nfl:∀b∈X.fs,b∉l:=λb hb z=>by
  obtain⟨_,ob,ho,_⟩:=I.ok.funs.mem hb;exact nl b ob ho z
 have kf:∀b ob v,X.H₀ b=Dn (.frz ob v)->H0 b=Dn (.frz ob v):=λb ob v e=>by
  have e1:=I.base.frzs b ob v e;by_cases hb:b=a
  rw[hb,n.h]at e1;cases e1;by_cases hl:b∈l
  rw[hL b hl];exact e1;rw[hO b hb hl];exact e
 have kt:∀b xs,X.H₀ b=Dn (.tup xs)->H0 b=Dn (.tup xs):=λb xs e=>by
  have e1:=I.base.tups b xs e;by_cases hb:b=a
  rw[hb,n.h]at e1;cases e1;by_cases hl:b∈l
  rw[hL b hl];exact e1;rw[hO b hb hl];exact e
 have kb:∀b ps,X.H₀ b=Dn (.tbl ps)->H0 b=Dn (.tbl ps):=λb ps e=>by
  obtain⟨_,e1⟩:=I.base.tbls b ps e;by_cases hb:b=a
  rw[hb,n.h]at e1;cases e1;by_cases hl:b∈l
  obtain⟨_,_,_,e2⟩:=lp b hl;rw[e1]at e2;cases e2;rw[hO b hb hl];exact e
 have hL1:∀b∈l1,H0 b=H b:=λb hb=>by
  by_cases q:X.s₀.heap.get? b=Go
  exact hL b<|Vn.mpr ⟨hb,decide_eq_true q⟩
  have nb:b≠a:=λz=>q (by rw[z];exact s0)
  rw[hO b nb (λz=>q (l0 b z))];rcases(lp1 b hb).1 with(z|z)|⟨v,_,r⟩
  rw[hx]at z;cases z;exact absurd z q;obtain⟨o',u',e⟩:=r.frz;rw[e];exact(I.base.frzs b o' u' e).symm
 have ch1:Pb (Sd X) H0 (.ref a):=.cons (.inl n.s) hA hd h2 (lq H0 hL1);have nw:∀b,Sd (X.hnd a H0) b->Sd X b:=λb q=>by
  rcases q with q|⟨v,e,r⟩
  exact .inl q;cases e;exact ch1.rc r
 have ok:(X.hnd a H0).Ok:=by
  have k:=I.ok;refine⟨k.mod,k.kind,k.glob,k.blt,k.above,k.inj,k.has,k.cab,λz=>(nomatch z),λv e=>?_,k.frames,k.stk,k.exf,λb ob e=>?_,k.bsz,k.noex,k.exfs,k.funs,λb hb=>?_⟩;cases e;exact⟨⟨a,rfl⟩,ch1.chn⟩;obtain⟨e1,e2⟩:=k.bs b ob e;exact⟨e1,(eq0 b ob e1).trans e2⟩;exact(hO b (nf b hb)<|nfl b hb).trans (k.frf b hb)
 refine⟨H0,⟨eq0,kt,kf,kb⟩,nw,ok,I.os,I.bare,⟨λb ob e z hf hx=>I.base.keep b ob e ((eq0 b ob e).symm.trans z) hf hx,λb ob e z hf hx=>I.base.slot b ob e ((eq0 b ob e).symm.trans z) hf hx,λb ob e z hx=>?_,I.base.there,λb xs z=>?_,λb ob v z=>?_,λb ps z=>?_⟩,I.loc,I.cell,?_,λx c e=>?_,λp hp=>?_,λb v z=>?_,I.len⟩;rw[aL (ne b ob e)];exact I.base.free b ob e ((eq0 b ob e).symm.trans z) hx;have z:H0 b=Dn (.tup xs):=z;by_cases hb:b=a
 rw[hb,hA]at z;cases z;rw[aL hb];by_cases hl:b∈l
 rw[hL b hl]at z;exact z;rw[hO b hb hl]at z;exact I.base.tups b xs z;have z:H0 b=Dn (.frz ob v):=z;by_cases hb:b=a
 rw[hb,hA]at z;rw[hb,aV];exact z;rw[aL hb];by_cases hl:b∈l
 rw[hL b hl]at z;exact z;rw[hO b hb hl]at z;exact I.base.frzs b ob v z;have z:H0 b=Dn (.tbl ps):=z;by_cases hb:b=a
 rw[hb,hA]at z;cases z;rw[aL hb];by_cases hl:b∈l
 obtain⟨_,_,_,e2⟩:=lp b hl;rw[hL b hl,e2]at z;cases z;rw[hO b hb hl]at z;exact I.base.tbls b ps z;rw[aL (Jc n.l)];exact I.free;rw[aL (n.c x c e)];exact I.freeC x c e;obtain⟨h1,h3,h4⟩:=I.pin p hp;exact⟨h1,(aL<|n.p p hp).trans h3,h4⟩;by_cases hb:b=a
 subst hb;rw[aV]at z;cases z;exact⟨ho,ho,⟨o,ho⟩,λh1 h2 q k=>k o q⟩;rw[aL hb]at z;exact(I.hok b v z).stay (λ_ _ _ q=>q) (λc q=>by rw[aL (aN q n.h)];exact q) λc xs q=>by rw[aL (aN q n.h)];exact q
theorem Aq.unhnd (ok:X.Ok)(k:RP X H0)(I:Aq (X.hnd a H0) pins' σ H s):Aq X pins' σ H s:=by
 have up:∀b ob,X.s₀.heap.get? b=Dn ob->X.H₀ b=Go->(X.hnd a H0).H₀ b=Go:=λb ob e z=>(k.s0 b ob e).trans z
 exact⟨ok,I.os,I.bare,⟨λb ob e z hf hx=>I.base.keep b ob e (up b ob e z) hf hx,λb ob e z hf hx=>I.base.slot b ob e (up b ob e z) hf hx,λb ob e z hx=>I.base.free b ob e (up b ob e z) hx,I.base.there,λb xs z=>I.base.tups b xs<|k.tups b xs z,λb ob v z=>I.base.frzs b ob v<|k.frzs b ob v z,λb ps z=>I.base.tbls b ps<|k.tbls b ps z⟩,I.loc,I.cell,I.free,I.freeC,I.pin,I.hok,I.len⟩
def Yz (σ:St):St:=σ.map λ_=>Go
theorem Aq.lost {m' h' t'}(I:Aq X amx σ H s)(hn:h'.Ns X.env.locals m')(sb:QJ X.env.locals s.heap h'):Aq X amx (Yz σ) H {s with heap:=h',toks:=t'}:=by
 have neL:∀b o,X.s₀.heap.get? b=Dn o->b≠X.env.locals:=λb o e=>JM (Jq (Ik e) I.ok.above)
 have k:∀b o,b≠X.env.locals->s.heap.get? b=Dn o->h'.get? b=Dn o:=λb o hb e=>(sb.2 b hb).trans e
 refine⟨I.ok,I.os,I.bare,⟨λb o e z hf hx=>k b o (neL b o e)<|I.base.keep b o e z hf hx,λb o e z hf hx=>?_,I.base.free,λb o e hx=>?_,I.base.tups,I.base.frzs,I.base.tbls⟩,⟨m',hn,λi x v _ e2 _=>?_⟩,λx c e=>?_,I.free,I.freeC,λp hp=>?_,λb v z=>?_,?_⟩;obtain⟨sl,e1⟩:=I.base.slot b o e z hf hx;simp_all
 obtain⟨o',e1⟩:=I.base.there b o e hx;exact⟨o',k b _ (neL b o e) e1⟩;unfold Yz at e2;rw[Jm]at e2;cases q:σ[i]? with
 | none|some w=>rw[q]at e2;cases e2
 obtain⟨v,oc,ho,hd⟩:=I.cell x c e;exact⟨v,oc,k c oc (I.cne x c e) ho,hd⟩;obtain⟨h1,h2,h3,h4⟩:=I.pin p hp;simp_all
 have nL:∀c w,H c=Dn w->c≠X.env.locals:=λc w e q=>by rw[q,I.free]at e;cases e
 refine(I.hok b v z).stay (λc w hc q=>k c w ?_ q) (λ_ q=>q) λ_ _ q=>q;grind
 unfold Yz;rw[Hi];exact I.len
end
variable {xe:JI->AP->Prop}
section
variable {prog:HN}{w:HI}{A:Hh}{E:JI->AP->Prop}{s:AP}{K:Ax}{x:Addr}{ox:Obj}
theorem aii {Q od}(X:K.In s.heap)(I:Xj s.heap x ox D od)(hga:Oh K (.ref D) "__getattribute__" = Dn (Dn (.builtin "BaseException.__getattribute__")))(hk:Oh K (.ref D) "__getattr__" = Dn Go)
  (hf:PySem.W.findObj K D od "__class__" = Dn (.bind (.builtin "getset_descriptor.__get__") (.builtin "object.__class__"))) (hm:Qo K D (.type "object")=Dn true) (hB:Qo K D (.type "BaseException")=Dn true)
  (h:Q (Dn (.ref D)) {s with toks:=s.toks+1}):Bb (CG prog w) A (getAttr? (.ref x) "__class__") Q E s:=by
 obtain⟨hh,g,d,t,os⟩:=s;have L0:=I.type (M:=CG prog w);have L1:=Yk (M:=CG prog w) X hga;have L2:=Yk (M:=CG prog w) X hk;have L3:=PySem.W.looks_find (M:=CG prog w) X I hf;have L4:=YF (M:=CG prog w) X hB;unfold getAttr? getAttrBy? getAttrBy;refine Al<|wpAny_mkText<|Al<|VF<|N6<|Al<|PySem.W.Looks.at L0<|Al<|PySem.W.Looks.at L1 ?_
 show Bb _ _ (if(onTheHeap (Value.ref D)&&(Value.builtin "BaseException.__getattribute__"==Value.builtin "object.__getattribute__"))=true then _ else getAttrByItsOwn _ _ _ _ _ _) _ _ _;have hx2:(Value.builtin "BaseException.__getattribute__"==Value.builtin "object.__getattribute__")=false:=by decide +kernel
 rw[hx2,Wo,if_neg QL];unfold getAttrByItsOwn;refine Al<|show Bb _ _ (Wn (Value.ref D) "__getattr__") _ _ _ from PySem.W.Looks.at L2 ?_
 refine Al<|VF<|N6 ?_
 show Bb _ _ (boundAndCalled _ _ _) _ _ _;unfold boundAndCalled;rw[Z1.ga.bind (.ref x)];refine Al<|HF ?_
 dsimp only;refine Vx<|YD Z1.ga.plain F.entry_bexc_ga ?_
 have hk:builtinKind "BaseException.__getattribute__" = Dn .slot:=by decide +kernel
 have hsplit:splitId "BaseException.__getattribute__" = Dn ("BaseException", "__getattribute__"):=by decide +kernel
 have ha:=F.args_bexc_ga (.ref x) (.str "__class__" t);simp only[checkBuiltinCall,hk,hsplit];show Bb (CG prog w) A.in1 (Wj (Value.ref x) (Value.type "BaseException") >>= _) _ _ _;refine Al ?_;unfold Wj;refine Al<|PySem.W.Looks.at L0<|PySem.W.Looks.at L4 ?_
 rw[if_neg (by decide)];change Bb (CG prog w) A.in1 (match Manifest.signature? "BaseException.__getattribute__" with
  | some sig=>Bind.checkArgs "BaseException.__getattribute__" sig ⟨[Value.ref x,Value.str (Str.ofString "__class__") t],[]⟩
  | x=>pure ()) _ _ _
 repeat(any_goals(first|assumption|(with_reducible refine Xa I.at_ ?_;rw[I.cls])|with_reducible refine PySem.W.Looks.at L3 ?_|wp_step))
 refine PySem.W.class_get (s:=⟨hh,g,d,t+1,os⟩) (ox:=ox) (od:=od) X I hm ?_;refine HF ?_;exact PySem.W.handed_on rfl<|HF h
end
def KZ (n d:Str):Bool:=n==d||d == "EaselError"
section
variable {K:Ax}{C:Addr}{n d:Str}
theorem Jd (h:lM K D d=true):K1 K JR d=Dn (Dn (.ref D))/\YK K (.ref D)=Dn (.type "type")/\∃cd,Vy K D=Dn cd/\cd.name=d/\cd.mro.contains (.type "BaseException")=true:=by
 unfold lM at h;grind
theorem Oz (h:jV K C n=true):lM K C n=true/\(∃cd R,Vy K C=Dn cd/\cd.mro=.ref C::.ref R::NT/\K1 K JR "EaselError" = Dn (Dn (.ref R))/\∃cr,Vy K R=Dn cr/\cr.name = "EaselError") /\
  Oh K (.ref C) "__getattribute__" = Dn (Dn (.builtin "BaseException.__getattribute__"))/\Oh K (.ref C) "__getattr__" = Dn Go/\Oh K (.ref C) "__class__" = Dn (Dn (.builtin "object.__class__"))/\PySem.W.specialIn K (.builtin "object.__class__") "__get__" = Dn (Dn (.builtin "getset_descriptor.__get__"))/\PySem.W.takesIn K (.builtin "object.__class__")=Dn true:=by
 unfold jV at h;simp at h;obtain⟨⟨⟨⟨⟨⟨h1,h2⟩,h3⟩,h3'⟩,h4⟩,h5⟩,h6⟩:=h;refine⟨h1,?_,h3,h3',h4,h5,h6⟩;split at h2
 rename_i cd hc;split at h2
 rename_i C' R a b c d hm;simp at h2;obtain⟨⟨⟨e1,e2⟩,e3⟩,e4⟩:=h2;obtain⟨cr,e5,e6⟩:=PySem.W.any_some e4;simp_all
 cases h2;cases h2
theorem Ul (h:jV K C n=true)(hd:lM K D d=true):Qo K C (.ref D)=Dn (KZ n d):=by
 obtain⟨hx,⟨cd,R,hc,hm,hR,cr,hcr,hnr⟩,_⟩:=Oz h;obtain⟨n1,_,cd',hc',nm,_⟩:=Jd hx;obtain⟨d1,_,dd,hdd,dm,_⟩:=Jd hd;rw[hc]at hc';cases hc';unfold Qo;rw[hc,W2,hm];show Dn _=Dn _;unfold KZ;have e1:(Value.ref C::Value.ref R::NT).contains (.ref D)=((Value.ref D==Value.ref C)||((Value.ref D==Value.ref R)||false)):=by
  rfl
 rw[e1,Bool.or_false];have a1:(Value.ref D==Value.ref C)=(n==d):=by
  grind
 have a2:(Value.ref D==Value.ref R)=(d == "EaselError"):=by
  grind
 rw[a1,a2]
def Pu (K:Ax)(v:V)(f:Str->Bool):Prop:=∀(u:JI),RelV v u->∀(C:Addr) (n:Str),jV K C n=true->PySem.W.kitOne K (.ref C) u=Dn (f n)
theorem Pu.own (hd:lM K D d=true):Pu K (.ref D) (λn=>KZ n d):=by
 intro u r C n h;cases r;obtain⟨_,ht,dd,hdd,_⟩:=Jd hd;unfold PySem.W.kitOne;by_cases q:(Value.ref C==Value.ref D)=true
 rw[if_pos q];cases beq_iff_eq.mp q
 obtain⟨n1,_,cd,hc,nm,_⟩:=Jd (Oz h).1;obtain⟨_,_,cd',hc',dm,_⟩:=Jd hd;rw[hc]at hc';unfold KZ;simp_all
 rw[if_neg q];unfold PySem.W.kitCls;dsimp only;rw[if_pos (by rw[hdd,ht];rfl)];exact(Ul h hd)
theorem Pu.val:Pu K (.ty "ValueError") (λ_=>true):=by
 intro u r C n h;cases(show u=Value.type "ValueError" from r)
 obtain⟨_,⟨cd,R,hc,hm,_⟩,_⟩:=Oz h;unfold PySem.W.kitOne;rw[if_neg (by intro q;cases beq_iff_eq.mp q)];unfold PySem.W.kitCls;dsimp only;show Qo K C (.type "ValueError")=Dn true;unfold Qo;rw[hc,W2,hm];rfl
theorem zbp {x ox}(h:jV K D n=true):PySem.W.KitX K (.ref x) (.ref D) (λh=>∃od,Xj h x ox D od):=by
 obtain⟨hx,⟨cd,R,hc,hm,_⟩,hg,hg',ha,hn,htk⟩:=Oz h;have hmo:Qo K D (.type "object")=Dn true:=by
  unfold Qo;rw[hc,W2,hm];rfl
 have hf:∀od,PySem.W.findObj K D od "__class__" = Dn (.bind (.builtin "getset_descriptor.__get__") (.builtin "object.__class__")):=by
  intro od;unfold PySem.W.findObj;rw[hc,W2,ha,W2];simp[hn,htk]
 have hcl:∃c' d' sl',K.lookup D=Dn ⟨c',d',.cls cd,sl'⟩:=by
  unfold Vy at hc;split at hc
  rename_i c' d' cd' sl' ho;cases hc;exact⟨c',d',sl',ho⟩;cases hc
 obtain⟨c',d',sl',ho⟩:=hcl;refine⟨λ_ _ _ ⟨_,I⟩=>I.type,λ_ _ X _=>?_,λh tp dd its n sl X htp=>?_,λ{prog w A E Q s} X ⟨od,I⟩ k=>?_⟩;intro A' Q' E' s' k q;exact Al<|wpAny_loadPart (k _ _<|X _ _ ho)<|HF q
 refine Bool.eq_false_iff.mpr λq=>?_;cases Value.ref.inj (beq_iff_eq.mp q)
 cases(X _ _ ho).symm.trans htp
 refine aii X I hg hg' (hf od) hmo ?_ k;unfold Qo;rw[hc,W2,hm];rfl
theorem pX {M:Model}{A:Hh}{E:JI->AP->Prop}{s:AP}{e:Addr}{oe:Obj}{Q:Bool->AP->Prop}(X:K.In s.heap)(he:s.heap.get? e=Dn oe)(hcls:oe.cls=.ref C)(h:jV K C n=true)(hd:lM K D d=true)(hq:Q (KZ n d) s):
  Bb M A (excMatches (.ref e) (.ref D)) Q E s:=by
 obtain⟨_,ht,dd,hdd,_,hB⟩:=Jd hd;have L1:Xb M s.heap (typeOf (.ref D)) (.type "type"):=PySem.W.looks_typeIn X ht;have L2:Xb M s.heap (isSubtype (.ref C) (.ref D)) (KZ n d):=YF X (Ul h hd);have L3:Xb M s.heap (isSubtype (.ref D) (.type "BaseException")) true:=YF X (by
  unfold Qo;rw[hdd,W2,hB,if_neg];intro q;rw[List.isEmpty_iff]at q;rw[q]at hB;cases hB)
 have hcl:∃c' d' sl',K.lookup D=Dn ⟨c',d',.cls dd,sl'⟩:=by
  unfold Vy at hdd;split at hdd
  rename_i c' d' cd' sl' ho;cases hdd;exact⟨c',d',sl',ho⟩;cases hdd
 obtain⟨c',d',sl',ho⟩:=hcl;have L4:Xb M s.heap (isType (.ref D)) true:=by
  intro A' Q' E' s' k q;exact Al<|wpAny_loadPart (k _ _<|X _ _ ho)<|HF q
 have L5:Xb M s.heap (typeOf (.ref e)) (.ref C):=hcls ▸ (PySem.W.Looks.ld he).andThen .now;have f:=tc_notTuple;refine Al ?_;refine Al<|PySem.W.Looks.at L1 ?_
 rw[f];refine HF ?_;refine Al<|HF ?_
 dsimp only;rw[List.forIn_cons];refine Al<|Al ?_
 refine Al<|Al<|PySem.W.Looks.at L4 ?_
 rw[if_pos rfl];refine PySem.W.Looks.at L3 ?_;rw[if_neg (by decide)];refine HF ?_;dsimp only;rw[List.forIn_nil];refine HF ?_;refine Al<|PySem.W.Looks.at L5 ?_
 rw[List.forIn_cons];refine Al<|Al<|Al<|PySem.W.Looks.at L2 ?_
 cases hb:KZ n d with
 | true=>
  rw[hb]at hq;rw[if_pos rfl];exact HF<|HF<|HF hq
 | false=>
  rw[hb]at hq;rw[if_neg QL];refine HF ?_;dsimp only;rw[List.forIn_nil];exact HF<|HF hq
end
variable {suite:List Stmt}{b₀:Stmt}{d:Str}
theorem ahm {prog w A}{E s}{env K}{e C n y t}{pos}{rest Q}
  (hx:jV K C n=true) (hd:lM K D d=true) (hi:KZ n d=true)
  (h:Bb (CG prog w) (A.mark (Dn (.ref e))) (eval t env) (λc s₁=>c=.ref D/\K.In s₁.heap/\(∃oe,s₁.heap.get? e=Dn oe/\oe.cls=.ref C) /\
   Bb (CG prog w) (A.mark (Dn (.ref e))) (setFlight (.ref e) Go) (λ_ s₂=>
     Bb (CG prog w) (A.mark (Dn (.ref e))) (storeName env y (.ref e)) (λ_ s₃=>
      Bb (CG prog w) (A.mark (Dn (.ref e))) (execs (b₀::suite) env)
       (λf s₄=>Bb (CG prog w) A (do bindName env y .none;unbindBehindTheSuite env y pos) (λ_ s₅=>Q f s₅) E s₄) (λ_ _=>False) s₃) (λ_ _=>False) s₂) (λ_ _=>False) s₁) (λ_ _=>False) s) :
  Bb (CG prog w) A (handleBy (.ref e) env (.ExceptHandler (Dn t) (Dn y) (b₀::suite) pos::rest)) Q E s:=by
 refine wpAny_handleBy_cons (codeAny_handlers_test<|KY h (λc s₁ h₁=>?_) λ_ _ z=>z.elim) (by intro q;cases q);obtain⟨rfl,X,⟨oe,he,hcls⟩,hk⟩:=h₁;refine pX X he hcls hx hd ?_;rw[hi];exact codeAny_handlers_suite_as<|KY hk (λ_ s₂ h₂=>KY h₂ (λ_ s₃ h₃=>KY h₃ (λ_ _ z=>z) λ_ _ z=>z.elim) λ_ _ z=>z.elim) λ_ _ z=>z.elim
def bK.lost (D:bK):bK:={D with nx:=fun σ h=>D.nx (σ.map λ_=>Go) h,bk:=fun σ h=>D.bk (σ.map λ_=>Go) h,ct:=fun σ h=>D.ct (σ.map λ_=>Go) h}
def PJ (x:Xw):W:=match x.fs with
 | []=>.exc x.cls
 | f::fs=>.exa x.cls ((f::fs).map (·.2))
theorem Oi {α β:Type}:∀{l:List α}{m:List β},m.length=l.length->(l.zip m).map (·.2)=m
 | [],[],_=>rfl
 | a::l,b::m,h=>by rw[List.zip_cons_cons,Nj,Oi (by simpa using h)]
theorem ab9 {n}(h:ws.length=(Dj n).length):PJ ⟨n,(Dj n).zip ws⟩=.exa n ws:=by
 have e:=Oi h;unfold PJ;cases q:(Dj n).zip ws with
 | nil=>
  rw[q]at e;cases ws with
  | nil=>exact absurd (List.eq_nil_of_length_eq_zero h.symm) (by unfold Dj;split<;>simp)
  | cons _ _=>cases e
 | cons f fs=>
  simp_all
def aga (i:Nat)(d:Str)(mb:Ce->MS)(mh:MS):MS:=λD σ h=>mb (λx h'=>JQ (KZ x.cls d) (mh D.lost (σ.set i (Dn (PJ x))) h') False) D σ h
section
variable {X:Cx}{body:List Stmt}{y:Str}{hpos pos:Pos}{i:Nat}{mb:Ce->MS}{mh:MS}
end
variable {mh:MS}{hpos:Pos}{mb:Ce->MS}
theorem Dc {k A}{a}(r:gq k A)(h:8<=k):gq 8 (A.mark (Dn (.ref a))):=⟨nofun,by have:=r.dp;show A.depth+_<_;lia,by have:=r.un;show A.units+_<_;lia⟩
section
variable {X:Cx}{a:Expr}{pos p:Pos}
def adz (f:Str->Bool)(m:ME):ME:=fun σ h Q=>m σ h λw h1=>match w with
 | .exc n=>Q (.bl (f n)) h1
 | .exa n _=>Q (.bl (f n)) h1
 | _=>False
def aaE (K:Ax)(H:Hp)(o:Obj)(n:Str):Prop:=Xob K o n\/∃dd fs,Xoa K o n dd/\H dd=Dn (.xd fs)
theorem ajY {amx}{σ:St}{H s}{q o u}{n}(I:Aq X amx σ H s)(e:H q=Dn (.frz o u))(x:aaE X.K H o n):∃C,jV X.K C n=true/\∃od,Xj s.heap q o C od:=by
 rcases x with⟨C,hc,hd,hn,hx⟩|⟨dd,fs,⟨C,hc,hd,hn,hx⟩,hdd⟩
 exact⟨C,hx,Go,(I.hok q _ e).1,hc,hn,by rw[hd];trivial⟩;obtain⟨ob,ho⟩:=(I.hok dd _ hdd).obj;unfold U8 at hx;simp only[Qn]at hx;exact⟨C,hx.1.1,Dn ob,(I.hok q _ e).1,hc,hn,hd ▸ ho⟩
theorem zbC {v}{f}(hf:Pu X.K v f):iV X (.builtin "isinstance") (λxs H Q=>∃q o u n,xs=[.ref q,v]/\H q=Dn (.frz o u)/\aaE X.K H o n/\Q (.bl (f n)) H):=by
 rintro amx s σ H xs us Q I r ⟨q,o,u,n,ex,eq,xo,hQ⟩;subst ex;obtain⟨C,hx,J⟩:=ajY I eq xo;cases r with
 | cons r1 r2=>
  cases r2 with
  | cons r2 r3=>
   cases r3;rename_i u1 u2;cases r1;exact PySem.W.kia_one (zbp hx) I.kIn J (hf u2 r2 C n hx) nofun λtk=>⟨.bl _,H,I.kept λ_ _ e=>e,rfl,hQ⟩
theorem Tp {b v}{f}(hg:Gl X "isinstance")(hm:X.mg "isinstance" = Go)(ha:DE X a ma)(hb:PE X b (tC v))(hf:Pu X.K v f)(h1:HJ [a,b] X.env=(false,eval a X.env)::HJ [b] X.env:=by rfl)(h2:HJ [b] X.env=(false,eval b X.env)::HJ [] X.env:=by rfl)
  (hpl:(Ka pos (HJ [b] X.env)).any (·.1)=false:=by rfl):DE X (.Call (.Name "isinstance" p) [a,b] [] pos) (adz f ma):=
 (pU (zbC hf) hg hm Wq (gY ha (gY hb tZ h2) h1) (by decide) (by decide) h1 hpl).of fun σ H Q d=>by
  obtain⟨μ,h,σw,Qw,R,S,m,k⟩:=d;refine⟨μ,h,σw,_,R,S,m,λx H1 c=>?_⟩;obtain⟨μ1,w,h1,e1,R1,r1,m1⟩:=c;cases w with
  | exc n=>
   obtain⟨q,o,u,ev,eq,hx⟩:=r1;subst ev;exact⟨q,o,u,n,rfl,eq,.inl hx,k _ _ ⟨μ1,.bl _,h1,e1,R1,by rw[CR],m1⟩⟩
  | exa n ws=>
   obtain⟨q,o,u,dd,ns,xs,ev,eq,hx,hdd,_⟩:=r1;subst ev;exact⟨q,o,u,n,rfl,eq,.inr ⟨dd,_,hx,hdd⟩,k _ _ ⟨μ1,.bl _,h1,e1,R1,by rw[CR],m1⟩⟩
  | _=>exact m1.elim
inductive PCs (X:Cx):List Expr->List V->(Str->Bool)->Prop
 | nil:PCs X [] [] (λ_=>false)
 | cons {e:Expr}{es:List Expr}{v:V}{vs:List V}{f g:Str->Bool}:PE X e (tC v)->Pu X.K v f->PCs X es vs g->HJ (e::es) X.env=(false,eval e X.env)::HJ es X.env->PCs X (e::es) (v::vs) (λn=>f n||g n)
end
section
variable {X:Cx}{tg:Expr}{scope:Scope}{xs:List Str}{pos p ppos:Pos}
end
section
variable {prog:HN}{w:HI}{A:Hh}{E:JI->AP->Prop}{s:AP}
end
section
variable {X:Cx}
end
section
variable {X:Cx}{K:Ax}{o e:Expr}{ma:MA}{apos amA:Pos}
variable {H:Hp}{amx:List (Addr×Obj)}{s:AP}{σ:St}
mutual
theorem Nk (I:Aq X amx σ H s):∀{w u:W}{v:V},Dt X.K H w v->Dt X.K H u v->w=u
 | .non,u,v,h,g=>by rw[Dt]at h;subst h;cases u<;>rw[Dt]at g<;>first|rfl|exact g.elim|(obtain⟨_,_,g,_⟩:=g;cases g;done)|(cases g;done)
 | .bl b,u,v,h,g=>by rw[Dt]at h;subst h;cases u<;>rw[Dt]at g<;>first|(injection g with g;rw[g];done)|exact g.elim|(obtain⟨_,_,g,_⟩:=g;cases g;done)|(cases g;done)
 | .int b,u,v,h,g=>by rw[Dt]at h;subst h;cases u<;>rw[Dt]at g<;>first|(injection g with g;rw[g];done)|exact g.elim|(obtain⟨_,_,g,_⟩:=g;cases g;done)|(cases g;done)
 | .str b,u,v,h,g=>by rw[Dt]at h;subst h;cases u<;>rw[Dt]at g<;>first|(injection g with g;rw[g];done)|exact g.elim|(obtain⟨_,_,g,_⟩:=g;cases g;done)|(cases g;done)
 | .tup ws,u,v,h,g=>by
  rw[Dt]at h;obtain⟨p,xs,e,hs,ds⟩:=h;subst e;cases u with
  | tup us=>
   rw[Dt]at g;obtain⟨p',xs',e',hs',ds'⟩:=g;cases e'
   have:=I.tuple_inj hs hs'
   subst this;rw[vY I ds ds']
  | lst us=>
   rw[Dt]at g;obtain⟨p',xs',e',hs',ds'⟩:=g;cases e'
   obtain⟨_,_,t,_⟩:=I.tuple hs;obtain⟨_,_,l,_⟩:=I.list hs';exact absurd rfl<|Yq l.isList<|show s.heap.IsTuple _ _ from t
  | ty _=>rw[Dt]at g;exact g.elim
  | loc _=>rw[Dt]at g;exact g.elim
  | kls _=>rw[Dt]at g;exact g.elim
  | exc _=>rw[Dt]at g;exact g.elim
  | exa _ _=>rw[Dt]at g;exact g.elim
  | _=>rw[Dt]at g;cases g
 | .lst ws,u,v,h,g=>by
  rw[Dt]at h;obtain⟨p,xs,e,hs,ds⟩:=h;subst e;cases u with
  | lst us=>
   rw[Dt]at g;obtain⟨p',xs',e',hs',ds'⟩:=g;cases e'
   have:=I.list_inj hs hs'
   subst this;rw[vY I ds ds']
  | tup us=>
   rw[Dt]at g;obtain⟨p',xs',e',hs',ds'⟩:=g;cases e'
   obtain⟨_,_,t,_⟩:=I.tuple hs';obtain⟨_,_,l,_⟩:=I.list hs;exact absurd rfl<|Yq l.isList<|show s.heap.IsTuple _ _ from t
  | ty _=>rw[Dt]at g;exact g.elim
  | loc _=>rw[Dt]at g;exact g.elim
  | kls _=>rw[Dt]at g;exact g.elim
  | exc _=>rw[Dt]at g;exact g.elim
  | exa _ _=>rw[Dt]at g;exact g.elim
  | _=>rw[Dt]at g;cases g
 | .ty _,_,_,h,_=>by rw[Dt]at h;exact h.elim
 | .kls _,_,_,h,_=>by rw[Dt]at h;exact h.elim
 | .loc _,_,_,h,_=>by rw[Dt]at h;exact h.elim
 | .exc _,_,_,h,_=>by rw[Dt]at h;exact h.elim
 | .exa _ _,_,_,h,_=>by rw[Dt]at h;exact h.elim
theorem vY (I:Aq X amx σ H s):∀{ws us:List W}{vs:List V},LI X.K H ws vs->LI X.K H us vs->ws=us
 | [],us,vs,h,g=>by
  have e:vs=[]:=by rw[LI]at h;exact h
  subst e;cases us with
  | nil=>rfl
  | cons u us=>rw[LI]at g;obtain⟨_,_,e,_⟩:=g;cases e
 | w::ws,us,vs,h,g=>by
  rw[LI]at h;obtain⟨v,vs',e,d,ds⟩:=h;subst e;cases us with
  | nil=>
   have e:v::vs'=[]:=by rw[LI]at g;exact g
   cases e
  | cons u us=>
   rw[LI]at g;obtain⟨v2,vs2,e2,d2,ds2⟩:=g;cases e2;rw[Nk I d d2,vY I ds ds2]
end
theorem Ey:∀{us xs}{its},LI X.K H us xs->Cq xs its->∀a u,(a,u)∈its.zip us->∃v,RelV v a/\Dt X.K H u v/\u∈us
 | [],_,its,_,_,a,u,m=>absurd m (by simp)
 | w::us,xs,its,d,r,a,u,m=>by
  obtain⟨v,vs,e,d1,ds⟩:=d;subst e;cases r with
  | cons r1 rs=>
   rcases K5.mp m with m|m
   grind
   obtain⟨v',q1,q2,q3⟩:=Ey ds rs a u m;grind
theorem uH {α β:Type}:∀{xs:List α}{ys:List β},xs.length=ys.length->∀a∈xs,∃b,(a,b)∈xs.zip ys
 | x::xs,y::ys,h,a,m=>by
  rcases K5.mp m with rfl|m
  simp_all
  obtain⟨b,q⟩:=uH (Nat.succ.inj h) a m;exact⟨b,Qp _ q⟩
def afq:MM:=λx ws h Q=>match ws with
 | [w]=>(match dU h x with
  | some us=>JQ (Hq 20 w&&us.all (Hq 20)) (Q (.int (us.countP λu=>Iz u w)) h) False
  | none=>False)
 | _=>False
end
section
variable {X:Cx}{iter tg:Expr}{scope:Scope}{pos:Pos}{xs:List Str}
end
section
variable {X:Cx}{e:Expr}{es:List Expr}{pos:Pos}
def aar (X:Cx)(Γ:St->Prop)(m:Ce->MA):TA:=fun σ H Q=>Γ σ/\∃μ h σw Qw E,HS X.K μ H h/\Slots X.K H μ σw σ/\m E σw h Qw/\(∀vs H',DA X.K H μ Qw vs H'->Q vs H')/\∀ev s',XT X H μ Γ E ev s'->X.xe ev s'
theorem aiu {me}(ha:DEx X Γ e me)(hr:LQ X es mr)(hs:HJ (e::es) X.env=(false,eval e X.env)::HJ es X.env:=by rfl):PA X (e::es) (aar X Γ λE=>aj (me E) mr):=(gY ha hr hs).of fun σ H Q ⟨g,μ,h,σw,Qw,E,R,S,m,q,kx⟩=>⟨g,μ,h,σw,_,E,R,S,m,λv H1 ⟨μ1,w,h1,e1,R1,r1,m1⟩=>⟨μ1,h1,σw,_,R1,S.ext e1,m1,λvs H2 ⟨μ2,ws,h2,e2,R2,r2,m2⟩=>q _ _ ⟨μ2,w::ws,h2,e1.trans e2,R2,⟨v,vs,rfl,e2.r _ _ r1,r2⟩,m2⟩⟩,kx⟩
variable {mr:Ce->MA}
end
section
variable {X:Cx}{K:Ax}{H:Hp}{amx:List (Addr×Obj)}{s:AP}{σ:St}
theorem Pj {α β:Type}{p q}:∀{xs:List α}{ys:List β},xs.length=ys.length->(∀a b,(a,b)∈xs.zip ys->p a=q b)->xs.any p=ys.any q
 | [],[],_,_=>rfl
 | a::xs,b::ys,h,e=>by
  rw[Xz,Xz,Pj (Nat.succ.inj h) λa' b' m=>e a' b' (Qp _ m),e a b RM]
theorem akK (I:Aq X amx σ H s){us xs}{its w y}{b}(hd:LI X.K H us xs)(r:Cq xs its)(hw:Dt X.K H w y)(rb:RelV y b)(pl1:us.all (Hq 20)=true)(pl2:Hq 20 w=true){A}(hu:A.units+20<Ln):
  ∃ev,(∀a,a∈its->Wg A s a b (ev a))/\its.any ev=us.any (λu=>Iz u w):=by
 have hl:its.length=us.length:=by rw[<-r.length,hd.len]
 let ev:JI->Bool:=λa=>@decide (∃u,(a,u)∈its.zip us/\Iz u w=true) (Classical.propDecidable _)
 have hev:∀a u,(a,u)∈its.zip us->ev a=Iz u w:=by
  intro a u m;cases c:Iz u w with
  | true=>exact(@decide_eq_true_iff _ (Classical.propDecidable _)).mpr ⟨u,m,c⟩
  | false=>
   refine(@decide_eq_false_iff_not _ _).mpr λd=>?_;obtain⟨u2,m2,c2⟩:=d;obtain⟨v1,r1,d1,_⟩:=Ey hd r a u m;obtain⟨v2,r2,d2,_⟩:=Ey hd r a u2 m2;obtain rfl:=r1.inj r2;rw[Nk I d1 d2,c2]at c;cases c
 refine⟨ev,λa ha=>?_,Pj hl hev⟩;obtain⟨u,m⟩:=uH hl a ha;obtain⟨v,r1,d1,mu⟩:=Ey hd r a u m;exact hev a u m ▸ ab1 I 20 hu d1 hw (Rm.mp pl1 u mu) pl2 r1 rb
def agh (K:Ax)(neg:Bool):R2:=λx y H Q=>∃p xs us w,y=.ref p/\Jb K H p xs/\LI K H us xs/\Dt K H w x/\us.all (Hq 20)=true/\Hq 20 w=true/\Q (.bl (if neg then !(us.any λu=>Iz u w)else us.any λu=>Iz u w)) H
theorem akB (hu:X.A.units+30<Ln):Kr X (ML .NotIn) (agh X.K true):=by
 intro amx s σ H x y v u Q I rx ry h;obtain⟨p,xs,us,w,rfl,hq,hd,hw,p1,p2,q⟩:=h;cases ry;obtain⟨its,r,pl,hz⟩:=I.list hq;obtain⟨ev,he,ea⟩:=akK I hd r hw rx p1 p2 (A:=X.A.in1) (by show _+1+20<Ln;lia);refine SeqAt.notIn_listAt ev pl.isList (λw hw=>he w<|by simpa using hw) ⟨.bl _,H,I,rfl,?_⟩
 rwa[show its.toArray.any ev=its.any ev by simp,ea]
def HX:M2:=λx y h Q=>match dU h y with
 | some us=>JQ (Hq 20 x&&us.all (Hq 20)) (Q (.bl (!(us.any λu=>Iz u x))) h) False
 | none=>False
theorem aax (hu:X.A.units+30<Ln):Nz X (ML .NotIn) HX:=⟨_,akB hu,by
 intro H μ h x y wx wy Qw Q R rx ry m k;unfold HX at m;split at m
 rename_i us eu;obtain⟨p,xs,ex,hs,rr⟩:=dI R ry eu;cases c:(Hq 20 wx&&us.all _)with
 | true=>
  rw[c]at m;rw[Qn]at c;exact⟨p,xs,us,wx,ex,hs,yW (Qq 20) rr c.2,Qq 20 rx c.1,c.2,c.1,k _ _<|.bl R m⟩
 | false=>rw[c]at m;cases m
 cases m⟩
end
section
variable {X:Cx}{K:Ax}{H:Hp}{h:Gh}
def xU (h:Gh):List W->Option (List W)
 | []=>Dn []
 | w::ws=>match Bu h w,xU h ws with
  | some d,Dn ds=>Dn (d::ds)
  | _,_=>Go
def Xc (h:Gh)(w:W):Option W:=match w with
 | .tup ws=>(match xU h ws with
  | some ds=>Dn (.tup ds)
  | none=>Go)
 | w=>Bu h w
theorem xq {n}(R:HS K μ H h):∀{ws ds vs},aY K H μ ws vs->xU h ws=Dn ds->ds.all (Hq n)=true->LI K H ds vs
 | [],ds,vs,r,e,_=>by
  cases e;assumption
 | w::ws,ds,vs,r,e,p=>by
  rw[xU]at e;cases e1:Bu h w with
  | none=>rw[e1]at e;cases e
  | some d=>
   cases e2:xU h ws with
   | none=>rw[e1,e2]at e;cases e
   | some ds'=>
    rw[e1,e2]at e;cases e;rw[List.all_cons,Qn]at p;obtain⟨v,vs',ev,r1,r2⟩:=r;subst ev;exact⟨v,vs',rfl,nQ R r1 e1 p.1,xq R r2 e2 p.2⟩
theorem ahQ {w d v}{n}(R:HS K μ H h)(r:CR K H μ w v)(e:Xc h w=Dn d)(p:Hq n d=true):Dt K H d v:=by
 cases w with
 | tup ws=>
  unfold Xc at e;dsimp only at e;cases e1:xU h ws with
  | none=>rw[e1]at e;cases e
  | some ds=>
   rw[e1]at e;cases e;obtain⟨q,xs,ev,hs,rs⟩:=r;obtain⟨m,rfl,p⟩:=Zd p;exact⟨q,xs,ev,hs,xq R rs e1 p⟩
 | _=>exact nQ R r e p
end
section
variable {X:Cx}{K:Ax}{o e e':Expr}{ma:MA}{apos amA:Pos}
end
def Im (m:Nat):List Nat:=(P0 8).filter λj=>m.testBit j
def rk (m j:Nat):Nat:=((P0 j).filter λi=>m.testBit i).length
theorem pO:∀m:Fin 256,∀j:Fin 8,SetTable.below (Im m).toArray j=rk m j/\(Im m)[rk m j]?=(if m.val.testBit j then Dn j.val else(Im m)[rk m j]?)/\(m.val.testBit j=false->(Im m)[rk m j]?≠Dn j.val):=by decide +kernel
theorem wC:∀m:Fin 256,∀j:Fin 8,m.val.testBit j=false->(Im m).take (rk m j)++j.val::(Im m).drop (rk m j)=Im (m.val ||| 2^j.val)/\m.val ||| 2^j.val<256:=by decide +kernel
theorem gJ {j:Nat}:j∈Im m↔j<8/\m.testBit j=true:=by unfold Im;simp
theorem Ak {t:RV}{j}(hp:t.place=(Im m).toArray)(hd:t.dummies=#[])(hm:m<256)(hj:j<8):t.slot j=if m.testBit j then .live (rk m j)else .empty:=by
 obtain⟨a,b,c⟩:=pO ⟨m,hm⟩ ⟨j,hj⟩;unfold SetTable.slot;rw[hp,hd,a];cases e:m.testBit j with
 | true=>
  simp_all
 | false=>
  rw[if_neg QL,if_neg (by simpa using c e),if_neg (by simp[SetTable.has])]
theorem aeV {j}(hm:m<256)(h:j∈Im m):(Im m)[rk m j]?=Dn j:=by
 obtain⟨hj,e⟩:=gJ.mp h;have b:=(pO ⟨m,hm⟩ ⟨j,hj⟩).2.1
 rwa[e]at b
def pq (h:Int):Nat->Nat×Nat
 | 0=>(RT h % 8,RT h)
 | n+1=>SetTable.leap 7 (pq h n).1 (pq h n).2
def pb (h:Int)(n:Nat):SetTable.Probe:=⟨(pq h n).1,0,(pq h n).1,(pq h n).2,Go⟩
theorem wM (h):∀n,(pq h n).1<8
 | 0|n+1=>Nat.mod_lt _ (by decide)
theorem Lp (i):YQ 7 i-i=0:=by
 unfold YQ;simp_all
theorem DX {t:RV}(hm:t.mask=7)(h):t.probeStart h=pb h 0:=by
 unfold SetTable.probeStart pb pq;rw[hm];simp[Lp]
theorem Nh {t:RV}(hm:t.mask=7)(h:Int)(n:Nat):t.advance (pb h n)=pb h (n+1):=by
 unfold SetTable.advance pb;rw[hm];simp only[Lp];rfl
theorem NQ (h):∀n,(pq h n).2=RT h / 32^n
 | 0=>by simp[pq]
 | n+1=>by
  show(pq h n).2 / 32=_;rw[NQ h n,Nat.div_div_eq_div_mul,Nat.pow_succ]
theorem akV (h)(n)(hn:13<=n):(pq h n).2=0:=by
 rw[NQ];apply Nat.div_eq_of_lt;have h1:RT h<2^64:=by
  unfold RT;lia
 have h2:32^13<=32^n:=Nat.pow_le_pow_right (by decide) hn;lia
def lcg:Nat->Nat->Nat
 | i,0=>i
 | i,k+1=>(lcg i k*5+1) % 8
theorem Ut (h):∀k,(pq h (13+k)).1=lcg (pq h 13).1 k
 | 0=>rfl
 | k+1=>by
  show((pq h (13+k)).1*5+1+(pq h (13+k)).2 / 32) % (7+1)=_;rw[akV h _ (by lia),Ut h k];rfl
theorem ajO:∀i:Fin 8,∀j:Fin 8,∃k:Fin 8,lcg i k=j.val:=by decide +kernel
theorem acU (h){j}(hj:j<8):∃n,n<21/\(pq h n).1=j:=by
 obtain⟨k,e⟩:=ajO ⟨(pq h 13).1,wM h 13⟩ ⟨j,hj⟩;exact⟨13+k.val,by lia,by rwa[Ut]⟩
theorem least {P:Nat->Bool}:∀B,(∃n,n<B/\P n=true)->∃N,N<B/\P N=true/\∀n,n<N->P n=false
 | B+1,⟨n,h,e⟩=>by
  by_cases q:∃n,n<B/\P n=true
  obtain⟨N,a,b,c⟩:=least B q;grind
  grind
theorem road (h:Int)(hf:∃j,j<8/\m.testBit j=false):∃N,N<21/\m.testBit (pq h N).1=false/\∀n,n<N->m.testBit (pq h n).1=true:=by
 obtain⟨j,hj,e⟩:=hf;obtain⟨n,hn,en⟩:=acU h hj;obtain⟨N,a,b,c⟩:=least (P:=λn=>!m.testBit (pq h n).1) 21 ⟨n,hn,by simp[en,e]⟩;grind
theorem GK:∀m:Fin 256,(Im m).length<8->∃j:Fin 8,m.val.testBit j=false:=by decide +kernel
theorem uV:∀m:Fin 256,∀j:Fin 8,m.val.testBit j=false->(Im (m.val ||| 2^j.val)).length=(Im m).length+1:=by decide +kernel
theorem Fq:∀m:Fin 256,∀j i:Fin 8,(m.val ||| 2^j.val).testBit i=(m.val.testBit i||decide (i.val=j.val)):=by grind
theorem Gv {t}{m}(hm:t.mask=7)(hp:t.place=(Im m).toArray)(hd:t.dummies=#[])(h8:m<256)(hashAt)(h):∀d n fuel,d<fuel->m.testBit (pq h (n+d)).1=false->(∀i,i<d->m.testBit (pq h (n+i)).1=true) ->
  ((∀i,i<d->hashAt (rk m (pq h (n+i)).1)≠h)/\Xl.go t hashAt h fuel (pb h n)=Dn (.empty (pq h (n+d)).1 Go)) \/
  ∃i,i<d/\hashAt (rk m (pq h (n+i)).1)=h/\(∀j,j<i->hashAt (rk m (pq h (n+j)).1)≠h)/\Xl.go t hashAt h fuel (pb h n)=Dn (.candidate (pq h (n+i)).1 (rk m (pq h (n+i)).1) (pb h (n+i+1)))
 | 0,n,fuel+1,_,e,_=>by
  refine .inl ⟨λi hi=>absurd hi<|VL _,?_⟩;unfold Xl.go;have:t.slot (pb h n).j=.empty:=by
   show t.slot (pq h n).1=_;rw[Ak hp hd h8 (wM h n),show m.testBit (pq h n).1=false from e];rfl
  rw[this];rfl
 | d+1,n,fuel+1,hf,e,l=>by
  have e0:m.testBit (pq h n).1=true:=l 0 (by lia);have hs:t.slot (pb h n).j=.live (rk m (pq h n).1):=by
   show t.slot (pq h n).1=_;rw[Ak hp hd h8 (wM h n),e0];rfl
  unfold Xl.go;rw[hs];dsimp only;by_cases q:hashAt (rk m (pq h n).1)=h
  refine .inr ⟨0,by lia,q,λj hj=>absurd hj<|VL _,?_⟩;rw[if_pos (by simp[q]),Nh hm];rfl;rw[if_neg (by simp[q]),Nh hm];have hsh:∀i,n+1+i=n+(i+1):=λi=>by lia
  rcases Gv hm hp hd h8 hashAt h d _ fuel (by lia) (by rwa[hsh]) (λi hi=>by rw[hsh];exact l (i+1) (by lia))with⟨a,b⟩|⟨i,hi,a,b,c⟩
  refine .inl ⟨λi hi=>?_,by rw[b,hsh]⟩;cases i with
  | zero=>exact q
  | succ i=>have:=a i (by lia);rw[hsh]at this;exact this
  refine .inr ⟨i+1,by lia,by rwa[<-hsh],λj hj=>?_,by rw[c,hsh]⟩;cases j with
  | zero=>exact q
  | succ j=>have:=b j (by lia);rw[hsh]at this;exact this
section
variable {prog:HN}{w:HI}{A:Hh}{E:JI->AP->Prop}{s:AP}{ka:Nat->List Int}{ad:Nat->Addr}{t:RV}{a b:Addr}{k:List Int}
abbrev TK (prog:HN)(w:HI)(h:Heap)(k:List Int)(a:Addr):Prop:=IsTupleKey (Mx prog w) h k a
def hT (prog:HN)(w:HI)(k:List Int):Int:=QX (Mx prog w) k
def elL (prog:HN)(w:HI)(m:Nat)(ka:Nat->List Int)(ad:Nat->Addr):List (Int×JI):=(Im m).map λj=>(hT prog w (ka j),Value.ref (ad j))
structure Vh (prog:HN) (w:HI) (h:Heap) (m:Nat) (ka:Nat->List Int) (ad:Nat->Addr) (t:RV):Prop where
 mask:t.mask=7
 place:t.place=(Im m).toArray
 dum:t.dummies=#[]
 m8:m<256
 few:(Im m).length<=4
 key:∀j,j∈Im m->TK prog w h (ka j) (ad j)
 way:∀j,j∈Im m->∃n,(pq (hT prog w (ka j)) n).1=j/\∀i,i<n->m.testBit (pq (hT prog w (ka j)) i).1=true
theorem Vh.fits {h}(T:Vh prog w h m ka ad t):t.fits (elL prog w m ka ad).toArray.size=true:=by
 unfold SetTable.fits SetTable.fill elL;rw[T.place,T.dum,T.mask];have:=T.few
 simp;lia
theorem Vh.at {h}(T:Vh prog w h m ka ad t){j}(hj:j∈Im m):(elL prog w m ka ad).toArray[rk m j]?=Dn (hT prog w (ka j),Value.ref (ad j)):=by
 have:=aeV T.m8 hj
 simp[elL,this]
theorem zJ {d}{Q}(hk:TK prog w s.heap k b)(h:Q false s):Bb (CG prog w) A (ofAClassStatement (d+1) (.ref b)) Q E s:=by
 have hTy:=hk.typeIs;obtain⟨o,items,n,ho,_,hd,hi⟩:=hk;unfold ofAClassStatement;refine Al<|wpAny_typeOf hTy<|Al<|HF<|Al<|VG ho hd<|Al ?_
 rw[<-Array.forIn_toList];refine wpAny_forIn_list _ (λrest r s'=>r.1=Go/\s'=s/\∀v∈rest,carriedByValue v=true) _ ?_ ?_ _ _ ⟨rfl,rfl,hi.byValue⟩;rintro v rest r s' ⟨hr,rfl,hall⟩;have hv:=hall v RM;have e:ofAClassStatement d v=pure false:=by
  cases v with
  | ref a=>simp[carriedByValue]at hv
  | _=>unfold ofAClassStatement;rfl
 rw[e];exact HF ⟨rfl,rfl,λu hu'=>hall u<|Qp _ hu'⟩;rintro⟨r1,r2⟩ s' ⟨hr,rfl,_⟩;subst hr;exact HF h
theorem yH {d}{Q}(hk:TK prog w s.heap k b)(h:Q true s):Bb (CG prog w) A (hashByValue (d+1) (.ref b)) Q E s:=by
 have hTy:=hk.typeIs;obtain⟨o,items,n,ho,_,hd,hi⟩:=hk;refine Al<|Xi hTy F.slot_tuple_hash.lookup<|Al<|VG ho hd<|Al ?_
 rw[<-Array.forIn_toList];refine wpAny_forIn_list _ (λrest r s'=>r.1=Go/\s'=s/\∃ks,ItemsAre (Mx prog w) ks rest) _ ?_ ?_ _ _ ⟨rfl,rfl,k,hi⟩;rintro v rest r s' ⟨hr,rfl,ks,hall⟩;cases hall with
 | @cons k0 _ ks' _ h1 h2=>
  have e:hashByValue d v=pure true:=by
   obtain⟨tk,rfl⟩:=Value.isInt_shape h1;cases d<;>rfl
  rw[e];exact HF ⟨rfl,rfl,ks',h2⟩
 rintro⟨r1,r2⟩ s' ⟨hr,rfl,_⟩;simp only at hr;subst hr;exact HF h
theorem zao {l}{Q}(hk:TK prog w s.heap k b)(hl:∀y∈l,∃c k',y=.ref c/\TK prog w s.heap k' c)(h:Q false s):Bb (CG prog w) A (searchCouldBeSeen (.ref b) l) Q E s:=by
 refine Al<|wpAny_forIn_list _ (λrest r s'=>r.1=Go/\s'=s/\∀y∈rest,∃c k',y=.ref c/\TK prog w _ k' c) _ ?_ ?_ _ _ ⟨rfl,rfl,hl⟩
 rintro v rest r s' ⟨hr,rfl,hall⟩;obtain⟨c,k',rfl,hc⟩:=hall v RM;have tl:=λu hu'=>hall u (Qp _ hu')
 dsimp only;split
 exact HF ⟨rfl,rfl,tl⟩;exact Al<|wpAny_eqIsQuiet_tuple hk<|Al<|wpAny_eqIsQuiet_tuple hc<|Al<|zJ hk<|Al<|zJ hc<|HF ⟨rfl,rfl,tl⟩
 rintro⟨r1,r2⟩ s' ⟨hr,rfl,_⟩;subst hr;exact HF h
theorem jw {o:Obj}{ep:Nat}{h:Int}{Q:SetFound->AP->Prop}(hh:h=hT prog w k)(hu:A.units<Ln)(ho:s.heap.get? a=Dn o)(hd:o.data=.set (elL prog w m ka ad).toArray ep t)(T:Vh prog w s.heap m ka ad t)(hk:TK prog w s.heap k b){N:Nat}(hN:m.testBit (pq h N).1=false)(hl:∀n,n<N->m.testBit (pq h n).1=true)
  (yes:(∃j,j∈Im m/\ka j=k)->Q (.there Go) s) (no:(∀n,n<N->ka (pq h n).1≠k)->Q (.free (pq h N).1 false) s) :
  ∀(fuel n:Nat) (st:Option SetTable.Probe),st.getD (t.probeStart h)=pb h n->n<=N->N-n<fuel->N<200->(∀i,i<n->ka (pq h i).1≠k)->Bb (CG prog w) A (setSearchFrom a (.ref b) h true fuel st) Q E s
 | fuel+1,n,st,es,hn,hf,h2,hb=>by
  refine Al<|XD ho hd T.fits ?_
  dsimp only;have hg:t.gaveWay=false:=by unfold SetTable.gaveWay;rw[T.mask];rfl
  rw[hg];simp only[Bool.false_eq_true,if_false];rw[es];have hm:∀i,i<N->(pq h i).1∈Im m:=λi hi=>gJ.mpr ⟨wM h i,hl i hi⟩
  have hx:∀i,i<N->((((elL prog w m ka ad).toArray[rk m (pq h i).1]?).map (·.1)).getD 0)=hT prog w (ka (pq h i).1):=λi hi=>by rw[T.at (hm i hi)];rfl
  have e200:10*SetTable.turns t.mask=220:=by rw[T.mask];rfl
  have go:=Gv T.mask T.place T.dum T.m8 (λi=>(((elL prog w m ka ad).toArray[i]?).map (·.1)).getD 0) h (N-n) n 220 (by lia) (by rw[show n+(N-n)=N by lia];exact hN) (λi hi=>hl _ (by lia));generalize hP:t.probe _ h (pb h n)=P;rcases go with⟨hno,e⟩|⟨i,hi,hc,hbef,e⟩
  have e':t.probe (λi=>(((elL prog w m ka ad).toArray[i]?).map (·.1)).getD 0) h (pb h n)=Dn (.empty (pq h N).1 Go):=by
   unfold Xl;rw[e200,e,show n+(N-n)=N by lia]
  have eP:P=Dn (.empty (pq h N).1 Go):=hP.symm.trans e';subst eP;refine HF<|no λi hi z=>?_
  by_cases q:i<n
  exact hb i q z;refine hno (i-n) (by lia) ?_;rw[show n+(i-n)=i by lia,hx i hi,z,hh]
  ·have e':t.probe (λi=>(((elL prog w m ka ad).toArray[i]?).map (·.1)).getD 0) h (pb h n)=Dn (.candidate (pq h (n+i)).1 (rk m (pq h (n+i)).1) (pb h (n+i+1))):=by
    unfold Xl;rw[e200,e]
   have eP:P=_:=hP.symm.trans e';subst eP;have hj:=hm (n+i) (by lia);have hkj:=T.key _ hj;dsimp only;rw[T.at hj];dsimp only;have hsl:t.slot (pq h (n+i)).1=.live (rk m (pq h (n+i)).1):=by rw[Ak T.place T.dum T.m8 (wM h _),(gJ.mp hj).2,if_pos rfl]
   have hsame:t.sameMemory t.moves t.mask=Dn true:=by unfold SetTable.sameMemory;rw[if_pos (by simp)]
   have hel:∀y∈List.map (λx=>x.snd) (Array.filter (λx=>x.fst==h) (elL prog w m ka ad).toArray).toList,∃c k',y=.ref c/\TK prog w s.heap k' c:=by
    intro y hy;obtain⟨p,hp,rfl⟩:=Ni.mp hy;have hp':p∈elL prog w m ka ad:=by
     have:=(Array.mem_filter.mp (Array.mem_toList_iff.mp hp)).1
     simpa using this
    obtain⟨j,hj',rfl⟩:=Ni.mp hp';exact⟨_,_,rfl,T.key j hj'⟩
   split
   all_goals try (refine Al (zao hk hel ?_);simp only[Bool.false_eq_true,if_false])
   all_goals
    refine Al<|N6<|wpAny_eqBool_tuple hu hkj hk ?_
    refine Al<|XD ho hd T.fits ?_
    dsimp only;rw[Bool.true_and];by_cases q:ka (pq h (n+i)).1=k
    rw[if_pos (decide_eq_true q)];exact HF<|yes ⟨_,hj,q⟩
    rw[if_neg (by rw[decide_eq_false q];exact QL),hsame];dsimp only;rw[if_pos rfl,hsl];dsimp only;rw[T.at hj];dsimp only;refine Al<|wpAny_isSame_ref_self ?_
    rw[if_pos rfl];refine Al<|HF ?_
    dsimp only;rw[if_neg (by rw[decide_eq_false q];exact QL)];refine jw hh hu ho hd T hk hN hl yes no fuel (n+i+1) _ rfl (by lia) (by lia) h2 λj hj' z=>?_;by_cases r:j<n
    exact hb j r z;by_cases r2:j=n+i
    rw[r2]at z;exact q z;refine hbef (j-n) (by lia) ?_;rw[show n+(j-n)=j by lia,hx j (by lia),z,hh]
def J2 (es:Array (Int×JI))(ep:Nat)(t:RV):Obj:={cls:=.type "set",dict:=Go,data:=.set es ep t}
def qj (prog:HN)(w:HI)(h:Heap)(a:Addr)(m:Nat)(ka:Nat->List Int)(ad:Nat->Addr):Prop:=∃ep t,h.get? a=Dn (J2 (elL prog w m ka ad).toArray ep t)/\Vh prog w h m ka ad t
theorem TK.ne {h}{es ep}(hk:TK prog w h k b)(ho:h.get? a=Dn (J2 es ep t)):b≠a:=by
 rintro rfl;obtain⟨o,_,_,e,hc,_⟩:=hk;rw[ho]at e;cases e;exact absurd (show Value.type "set" = Value.type "tuple" from hc)<|by decide
theorem TK.same {h h'}{es ep}(hk:TK prog w h k b)(ho:h.get? a=Dn (J2 es ep t))(hs:QJ a h h'):TK prog w h' k b:=by
 have ne:=TK.ne hk ho;obtain⟨o,i,n,e,r⟩:=hk;exact⟨o,i,n,(hs.2 b ne).trans e,r⟩
theorem TV {j}(m8:m<256)(hj:j<8)(hb:m.testBit j=false):Vp (elL prog w m ka ad).toArray (rk m j) (hT prog w k,Value.ref b)=(elL prog w (m ||| 2^j) (λi=>if i=j then k else ka i) (λi=>if i=j then b else ad i)).toArray:=by
 apply Array.ext';rw[SetTable.toList_insertAt];unfold elL;rw[<-((wC ⟨m,m8⟩ ⟨j,hj⟩ hb).1)];simp;have hne:∀i∈Im m,i≠j:=λi hi z=>by rw[z]at hi;rw[(gJ.mp hi).2]at hb;cases hb
 have em:(Im m).map (λi=>(hT prog w (if i=j then k else ka i),Value.ref (if i=j then b else ad i)))=(Im m).map λi=>(hT prog w _,Value.ref (ad i)):=Ry λi hi=>by rw[if_neg (hne i hi),if_neg (hne i hi)]
 rw[em]
theorem zaq {Q}(hu:A.units<Ln)(S:qj prog w s.heap a m ka ad)(hk:TK prog w s.heap k b)(h3:(Im m).length<=3)
  (yes:(∃j,j∈Im m/\ka j=k)->∀tk,Q false {s with toks:=tk})
  (no:(∀j,j∈Im m->ka j≠k)->∀h' j tk,QJ a s.heap h'->j<8->m.testBit j=false->qj prog w h' a (m ||| 2^j) (λi=>if i=j then k else ka i) (λi=>if i=j then b else ad i)->Q true {s with heap:=h',toks:=tk}) :
  Bb (CG prog w) A (setAdd a (.ref b)) Q E s:=by
 obtain⟨ep,t,ho,T⟩:=S;refine N6<|Al<|wpAny_pyHash_tuple hu hk ?_
 refine N6 ?_;generalize hs1:({s with toks:=s.toks+(k.length+1)}:AP)=s1;have eh:s1.heap=s.heap:=by rw[<-hs1]
 have ho1:s1.heap.get? a=Dn (J2 (elL prog w m ka ad).toArray ep t):=by rw[eh];exact ho
 have T1:Vh prog w s1.heap m ka ad t:=by rw[eh];exact T
 have hk1:TK prog w s1.heap k b:=by rw[eh];exact hk
 refine Al<|XD ho1 rfl T1.fits ?_
 obtain⟨j0,hj0⟩:=GK ⟨m,T.m8⟩ (by show(Im m).length<8;lia);obtain⟨N,hN,hN0,hN1⟩:=road (m:=m) (QX (Mx prog w) k) ⟨j0.val,j0.isLt,hj0⟩;refine Al<|jw (h:=QX (Mx prog w) k) rfl hu ho1 rfl T1 hk1 hN0 hN1 (λy=>?_) (λn=>?_) 100000 0 Go (by rw[Option.getD_none];exact DX T.mask _) (by lia) (by lia) (by lia) λi hi=>absurd hi<|VL _
 rw[<-hs1];exact HF<|yes y _
 dsimp only;have hnew:∀j,j∈Im m->ka j≠k:=λj hj z=>by
  obtain⟨i,e,l⟩:=T.way j hj;have eh:hT prog w (ka j)=QX (Mx prog w) k:=by rw[z];rfl
  rw[eh]at e l;rcases Nat.lt_trichotomy i N with q|q|q
  exact n i q (by rw[e];exact z);rw[q]at e;rw[e,(gJ.mp hj).2]at hN0;cases hN0;rw[l N q]at hN0;cases hN0
 refine Al<|XD ho1 rfl T1.fits ?_
 have hj8:=wM (QX (Mx prog w) k) N;generalize hjj:(pq (QX (Mx prog w) k) N).fst=j at hN0 hj8|-
 have hput:t.put j=({t with place:=(Im (m ||| 2^j)).toArray},rk m j):=by
  unfold SetTable.put;have e1:=(pO ⟨m,T.m8⟩ ⟨j,hj8⟩).1;have e2:=(wC ⟨m,T.m8⟩ ⟨j,hj8⟩ hN0).1;dsimp only at e1 e2;have e3:Vp (Im m).toArray (rk m j) j=(Im (m ||| 2^j)).toArray:=by
   apply Array.ext';rw[SetTable.toList_insertAt,e2]
  rw[T.place,T.dum,e1];dsimp only;rw[e3,if_neg (by simp[SetTable.has])]
 have hfull:({t with place:=(Im (m ||| 2^j)).toArray}:RV).tooFull=false:=by
  have e:=uV ⟨m,T.m8⟩ ⟨j,hj8⟩ hN0;dsimp only at e;unfold SetTable.tooFull SetTable.fill;rw[T.mask,T.dum];simp only[K8,e];simp;lia
 rw[hput];dsimp only;have key:∀{R:Unit->AP->Prop},(∀h',QJ a s.heap h'->qj prog w h' a (m ||| 2^j) (λi=>if i=j then k else ka i) (λi=>if i=j then b else ad i)->R () {s1 with heap:=h'})->Bb (CG prog w) A (storeSet a (Vp (elL prog w m ka ad).toArray (rk m j) (QX (Mx prog w) k,Value.ref b)) {t with place:=(Im (m ||| 2^j)).toArray}) R E s1:=by
  intro R hR;have e:=uV ⟨m,T.m8⟩ ⟨j,hj8⟩ hN0;dsimp only at e;have ee:=TV (prog:=prog) (w:=w) (ka:=ka) (ad:=ad) (k:=k) (b:=b) T.m8 hj8 hN0;unfold hT at ee;rw[ee];refine wpAny_storeSet_of ho1 rfl (hR _ ?_ ?_) ?_;rw[eh];exact WL ..;have hsb:QJ a s1.heap (s1.heap.update a (Obj.putSet (elL prog w (m ||| 2^j) (λi=>if i=j then k else ka i) (λi=>if i=j then b else ad i)).toArray {t with place:=(Im (m ||| 2^j)).toArray})):=WL ..;refine⟨ep+1,{t with place:=(Im (m ||| 2^j)).toArray},?_,⟨T.mask,rfl,T.dum,(wC ⟨m,T.m8⟩ ⟨j,hj8⟩ hN0).2,by rw[e];lia,λi hi=>?_,λi hi=>?_⟩⟩;have:=Qs (Obj.putSet (elL prog w (m ||| 2^j) (λi=>if i=j then k else ka i) (λi=>if i=j then b else ad i)).toArray {t with place:=(Im (m ||| 2^j)).toArray}) ho1 (by rw[putSet_of _ _ rfl];rfl)
  rw[putSet_of _ _ rfl]at this;exact this;obtain⟨hi8,hib⟩:=gJ.mp hi;have o:=Fq ⟨m,T.m8⟩ ⟨j,hj8⟩ ⟨i,hi8⟩;dsimp only at o;by_cases z:i=j
  simp only[if_pos z];exact TK.same hk1 ho1 hsb;simp only[if_neg z];refine TK.same (T1.key i<|gJ.mpr ⟨hi8,?_⟩) ho1 hsb;rw[hib,decide_eq_false z,Bool.or_false]at o;exact o.symm;obtain⟨hi8,hib⟩:=gJ.mp hi;have up:∀n,n<8->m.testBit n=true->(m ||| 2^j).testBit n=true:=λn hn hb=>by
   have:=Fq ⟨m,T.m8⟩ ⟨j,hj8⟩ ⟨n,hn⟩
   dsimp only at this;rw[this,hb];rfl
  have o:=Fq ⟨m,T.m8⟩ ⟨j,hj8⟩ ⟨i,hi8⟩;dsimp only at o;by_cases z:i=j
  simp only[if_pos z];exact⟨N,by rw[z];exact hjj,λn hn=>up _ (wM _ _)<|hN1 n hn⟩;simp only[if_neg z];rw[hib,decide_eq_false z,Bool.or_false]at o;obtain⟨n,e1,e2⟩:=T.way i (gJ.mpr ⟨hi8,o.symm⟩);exact⟨n,e1,λi hi=>up _ (wM _ _)<|e2 i hi⟩;have e9:(elL prog w (m ||| 2^j) (λi=>if i=j then k else ka i) (λi=>if i=j then b else ad i)).toArray.size=(Im m).length+1:=by
   unfold elL;rw[K8,Hi,e]
  rw[e9,Wu];lia
 have fin:∀h',QJ a s.heap h'->qj prog w h' a (m ||| 2^j) (λi=>if i=j then k else ka i) (λi=>if i=j then b else ad i)->Q true {s1 with heap:=h'}:=λh' hsb hS=>by
  rw[<-hs1];exact no hnew h' j _ hsb hj8 hN0 hS
 split
 refine Al<|yH hk1 ?_
 rw[if_pos rfl,hfull];refine Al<|key λh' hsb hS=>?_
 exact HF<|fin h' hsb hS
 refine Al<|HF ?_
 rw[if_pos rfl,hfull];refine Al<|key λh' hsb hS=>?_
 exact HF<|fin h' hsb hS
end
variable {ep:Nat}{ad:Nat->Addr}{ka:Nat->List Int}
def Q0 (acc:List (List Int))(k:List Int):List (List Int):=if k∈acc then acc else acc++[k]
def Qc (l:List (List Int)):List (List Int):=l.foldl Q0 []
theorem gA:∀(l acc:List (List Int)),(l.foldl Q0 acc).length<=acc.length+l.length
 | [],acc=>by simp
 | k::r,acc=>by
  have:=gA r (Q0 acc k)
  unfold Q0 at this|-
  grind
section
variable {prog:HN}{w:HI}{A:Hh}{E:JI->AP->Prop}{R:Result->AP->Prop}
structure Hz (prog:HN) (w:HI) (z:Nat) (h:Heap) (S:Addr) (seen:List (List Int)) (m:Nat) (ka:Nat->List Int) (ad:Nat->Addr):Prop where
 set:qj prog w h S m ka ad
 low:∀j,j∈Im m->ad j<z
 mem:∀k,k∈seen↔∃j,j∈Im m/\ka j=k
 len:(Im m).length=seen.length
theorem Hz.keep {z}{h h' S}{seen}(B:Hz prog w z h S seen m ka ad)(hS:∀o,h.get? S=Dn o->h'.get? S=Dn o)(hl:∀b o,b<z->h.get? b=Dn o->h'.get? b=Dn o):Hz prog w z h' S seen m ka ad:=by
 obtain⟨⟨ep,t,ho,T⟩,low,mem,len⟩:=B;refine⟨⟨ep,t,hS _ ho,T.mask,T.place,T.dum,T.m8,T.few,λj hj=>?_,T.way⟩,low,mem,len⟩;obtain⟨o,i,n,e,r⟩:=T.key j hj;exact⟨o,i,n,hl _ _ (low j hj) e,r⟩
end
variable {S:Addr}{seen:List (List Int)}
section
variable {prog:HN}{w:HI}{A:Hh}{E:JI->AP->Prop}{s:AP}
abbrev EY (led:Bool):Obj:={cls:=.type "set",dict:=Go,data:=.set #[] 0 (.fresh 0 0 led)}
theorem zbB {h a}{led}(ho:h.get? a=Dn (EY led)):qj prog w h a 0 (λ_=>[]) (λ_=>0):=
 ⟨0,.fresh 0 0 led,ho,rfl,rfl,rfl,by decide,by decide,λj hj=>absurd hj (by simp[Im]),nofun⟩
end
variable {led:Bool}
section
variable {X:Cx}{K:Ax}
def acW (K:Ax)(H:Hp):List V->List (List Int)->Prop:=VN λv k=>∃b,v=.ref b/\Jt K H b (k.map V.int)
def aaq (a:Addr)(n:Nat):HO:=.ext λh=>∃es ep t,h.get? a=Dn (J2 es ep t)/\t.fits es.size=true/\es.size=n
theorem Dm {prog w}:∀{k us},Cq (k.map V.int) us->ItemsAre (Mx prog w) k us
 | [],_,.nil=>.nil
 | i::k,_,.cons r t=>by
  obtain⟨tk,rfl⟩:=r;exact .cons (intKind_is _ _ _ _)<|Dm t
theorem z8 {α β}{F}:∀{l}{k:List β}{j:Nat}{x:α},VN F l k->l[j]?=Dn x->∃y,k[j]?=Dn y/\F x y
 | _,_,0,_,.cons r _,e=>by simp at e;subst e;exact⟨_,rfl,r⟩
 | _,_,j+1,x,.cons _ t,e=>by
  obtain⟨y,a,b⟩:=z8 t (by simpa using e);exact⟨y,by simpa using a,b⟩
theorem zaI {xs}{us}(r:Cq xs us){j:Nat}{u}(e:us[j]?=Dn u):∃x,xs[j]?=Dn x/\RelV x u:=by
 have hl:=r.length;have hj:=(Ob.mp e).1;have hj':j<xs.length:=by lia
 obtain⟨y,a,b⟩:=Cq.get r (N5 hj');simp_all
theorem zZ:iV X (.builtin "len") (λxs H Q=>∃(a:Addr) (n:Nat),xs=[.ref a]/\H a=Dn (aaq a n)/\n<=1000/\Q (.int n) H):=by
 intro amx s σ H xs us Q I r h;obtain⟨a,n,rfl,hq,hn,q⟩:=h;obtain⟨u,rfl,rx⟩:=vals1 r;cases rx;obtain⟨⟨es,ep,t,ho,hf,e⟩,_⟩:=I.hok a _ hq;exact call_len_set ho ⟨rfl,rfl,rfl⟩ rfl hf (by lia) ⟨.int n,H,I.tok _,⟨_,by rw[e]⟩,q⟩
def tH:List W->Option (List Int)
 | []=>Dn []
 | .int i::r=>(tH r).map (i::·)
 | _=>Go
def Ab:List W->Option (List (List Int))
 | []=>Dn []
 | .tup ws::r=>(match tH ws,Ab r with
  | some k,Dn l=>Dn (k::l)
  | _,_=>Go)
 | _=>Go
theorem wB {H μ}:∀{ws xs}{k},aY K H μ ws xs->tH ws=Dn k->xs=k.map V.int
 | [],xs,k,r,e=>by
  cases e;exact r
 | w::ws,xs,k,r,e=>by
  obtain⟨v,vr,ev,ra,r⟩:=r;cases w with
  | int b=>
   rw[tH]at e;cases q:tH ws with
   | none=>rw[q]at e;cases e
   | some cs=>
    rw[q]at e;cases e;rw[ev,ra,wB r q];rfl
  | _=>cases e
theorem DW {H μ}:∀{ws xs}{kss},aY K H μ ws xs->Ab ws=Dn kss->acW K H xs kss
 | [],xs,k,r,e=>by
  cases e;exact r ▸ .nil
 | w::ws,xs,kss,r,e=>by
  obtain⟨v,vr,ev,ra,r⟩:=r;cases w with
  | tup us=>
   obtain⟨p,ys,e1,hs,rs⟩:=ra;rw[Ab]at e;cases q:tH us with
   | none=>rw[q]at e;cases e
   | some k=>
    cases q2:Ab ws with
    | none=>rw[q,q2]at e;cases e
    | some l=>
     rw[q,q2]at e;cases e;exact ev ▸ .cons ⟨p,e1,wB rs q ▸ hs⟩ (DW r q2)
  | _=>cases e
end
section
variable {κ:Type}[DecidableEq κ]
def T4 (kvs:List (κ×V))(k:κ):Option V:=(kvs.find? λkv=>decide (kv.1=k)).map (·.2)
def OD (kvs:List (κ×V))(k:κ)(v:V):List (κ×V):=
 if(kvs.any λkv=>decide (kv.1=k))=true then kvs.map (λkv=>if kv.1=k then(kv.1,v)else kv)else kvs++[(k,v)]
theorem Fw {p}{r}{k:κ}(e:p.1=k):T4 (p::r) k=Dn p.2:=by simp[T4,e]
theorem G7 {p}{r}{k:κ}(e:¬p.1=k):T4 (p::r) k=T4 r k:=by simp[T4,e]
theorem rQ (kvs)(k:κ)(v):(OD kvs k v).length<=kvs.length+1:=by
 unfold OD;grind
theorem KV.val {kvs vs}(r:KV kvs vs)(k:κ):Zq (T4 kvs k) (valueAt vs k):=by
 induction r with
 | nil=>exact True.intro
 | @cons p q ps qs h t ih=>
  obtain⟨h1,h2⟩:=h;by_cases e:p.1=k
  have e':=h1.symm.trans e;have b:valueAt (q::qs) k=Dn q.2:=by simp[valueAt,e']
  rw[Fw e,b];exact h2;have e':¬q.1=k:=λz=>e (h1.trans z)
  have b:valueAt (q::qs) k=valueAt qs k:=by simp[valueAt,e']
  rw[G7 e,b];exact ih
theorem KV.any {kvs vs}(r:KV kvs vs)(k:κ):(kvs.any λkv=>decide (kv.1=k))=vs.any λkv=>decide (kv.1=k):=by
 induction r with
 | nil=>rfl
 | cons h t ih=>rw[Xz,Xz,ih,h.1]
theorem KV.repl {kvs vs}(r:KV kvs vs)(k:κ){y}{u}(ry:RelV y u):
  KV (kvs.map λkv=>if kv.1=k then(kv.1,y)else kv) (vs.map λkv=>if kv.1=k then(kv.1,u)else kv):=by
 induction r with
 | nil=>exact .nil
 | @cons p q ps qs h t ih=>
  rw[Nj];refine .cons ?_ ih;lia
theorem KV.put {kvs vs}(r:KV kvs vs)(k:κ){y}{u}(ry:RelV y u):KV (OD kvs k y) (stored vs k u):=by
 unfold OD stored;rw[r.any k];by_cases e:(vs.any λkv=>decide (kv.1=k))=true
 rw[if_pos e,if_pos e];exact r.repl k ry;rw[if_neg e,if_neg e];exact Paired.snoc r ⟨rfl,ry⟩
theorem KV.length {kvs:List (κ×V)}{vs:List (κ×JI)}(r:KV kvs vs):kvs.length=vs.length:=Paired.length r
end
theorem Zb {P w}{k u}(r:RelV (kV k) u):(fj P w).is k u=true:=by
 cases k with
 | inl i=>obtain⟨t,e⟩:=r;subst e;exact aha P w i t
 | inr x=>obtain⟨t,e⟩:=r;subst e;exact zaf P w x t
section
variable {P:HN}{w:HI}{H:Hp}{h:Heap}{a:Addr}
theorem afj {u}(ok:Kv P w H h)(e:Rd H a u):fD P w H h a u:=e.ok ok
theorem ach {kvs}(ok:Kv P w H h)(e:Rd H a (.dK kvs)):kvs.length<=Il/\(a==Vw)=false/\∃vs,KV kvs vs/\h.DictOf (fj P w) a vs:=
 afj ok e
theorem acO {kvs}(ok:Kv P w H h)(e:H a=Dn (.dK kvs)):kvs.length<=Il/\(a==Vw)=false/\∃vs,KV kvs vs/\h.DictOf (fj P w) a vs:=ach ok (.inl e)
end
section
variable {X:Cx}{amx:List (Addr×Obj)}{σ:St}{H:Hp}{s:AP}{a:Addr}{y v:V}{u r:JI}{o:Option V}{A:Hh}{E:JI->AP->Prop}
theorem Aq.big (I:Aq X amx σ H s):Vw<s.heap.objs.size:=Nat.lt_trans (by decide) ((I.mod.glob.keeps I.bk).lt)
theorem Ke {h' t' ob}(I:Aq X amx σ H s)(mu:Mut (H a))(hs:QJ a s.heap h')(he:∃q,h'.get? a=Dn q)(new:fD X.prog X.w (HW H a ob) h' a ob):
  Aq X amx σ (HW H a ob) {s with heap:=h',toks:=t'}:=
 I.write mu (.inl rfl) (λb q hb z=>(hs.2 b hb).trans z) he new
theorem UJ {P w}{H'}{h'}{kvs vs}(z:kvs.length<=Il)(hd:(a==Vw)=false)(rel:KV kvs vs)(dd:h'.DictOf (fj P w) a vs):
  fD P w H' h' a (.dK kvs):=⟨z,hd,vs,rel,dd⟩
end
section
variable {X:Cx}{amx:List (Addr×Obj)}{σ:St}{H:Hp}{s:AP}{a:Addr}{kvs:List (Key×V)}{k:Key}{u:JI}{A:Hh}{E:JI->AP->Prop}
end
def aeW (i:Expr):Prop:=∀ov iv,subscripted i false ov iv=operate [ov,iv] (getItem ov iv)
theorem ajW {prog w A}{E s}{env}{value slice pos}{T id}{Q}
  (hl:Wn (.type T) "__getitem__" = pure (Dn (.builtin id))) (hs:aeW slice)
  (h:Bb (CG prog w) A (eval value env) (λo s₁=>Bb (CG prog w) A (eval slice env) (λi s₂=>s₂.TypeIs o T/\Bb (CG prog w) A (getItem o i) Q E s₂) E s₁) E s) :
  Bb (CG prog w) A (eval (.Subscript value slice pos) env) Q E s:=by
 refine Subscript_<|KY h (λo s₁ h₁=>KY h₁ (λi s₂ h₂=>?_) λ_ _ x=>x) λ_ _ x=>x
 obtain⟨hT,h₂⟩:=h₂;refine Al<|Al<|Xi hT hl ?_
 have fin:Bb (CG prog w) A (subscripted slice false o i) (λr s₃=>Bb (CG prog w) A (letTemporaryGo value o r >>= λ_=>pure r) Q E s₃) E s₂:=hs o i ▸ wpAny_operating (KY h₂ (λr s₃ h₃=>Al (wpAny_letTemporaryGo (HF h₃))) λ_ _ x=>x);first
  | exact HF (Al fin)
  | exact Al fin
section
variable {X:Cx}{o i e value:Expr}{pos pos' tpos:Pos}{td ty tv:TE}
end
theorem Gu {P w H}(h:Heap)(hb:Vw<h.objs.size):fD P w H (h.push {cls:=.type "dict",data:=.dict #[]}) h.objs.size (.dK []):=
 ⟨Rb _,beq_eq_false_iff_ne.mpr (Jc (JM hb)),[],.nil,Heap.DictOf.new h⟩
def aan:TE:=λ_ H Q=>∀p,H p=Go->Q (.ref p) (HW H p (.dK []))
section
variable {X:Cx}{pos:Pos}
theorem aiL:PE X (.Dict [] [] pos) aan:=λamx s σ H Q I h=>
 wpAny_Dict_empty ⟨.ref _,_,I.laid (λ_ _ q=>Iw _ q) (IK _) (Gu _ I.big),rfl,h _ (I.hok.fresh (IK _))⟩
end
def Ea:List (TE×TE)->St->Hp->(List (V×V)->Hp->Prop)->Prop
 | [],_,H,Q=>Q [] H
 | (tk,tv)::r,σ,H,Q=>tk σ H λx H1=>tv σ H1 λy H2=>Ea r σ H2 λps H3=>Q ((x,y)::ps) H3
abbrev VV:List (V×V)->List (JI×JI)->Prop:=VN λp q=>RelV p.1 q.1/\RelV p.2 q.2
def PPs (X:Cx)(pos:Pos)(keys:List (Option Expr))(values:List Expr)(trs:List (TE×TE)):Prop:=
 ∀(amx:List (Addr×Obj)) (s:AP) (σ:St) (H:Hp) (Q:List (V×V)->Hp->Prop),Aq X amx σ H s->Ea trs σ H Q ->
  Bb (CG X.prog X.w) X.A (evalPairs (pairTrees keys values X.env pos)) (λvs s'=>∃ps H',Aq X amx σ H' s'/\VV ps vs/\Q ps H') X.xe s
theorem ajr {X:Cx}{pos:Pos}:PPs X pos [] [] []:=λamx s σ H Q I h=>pairTrees_nil_walk ⟨[],H,I,.nil,h⟩
variable {ks:List (Option Expr)}{trs:List (TE×TE)}
theorem zbQ {X}{pos}{k v}{vs tk tv}(hk:PE X k tk)(hv:PE X v tv)(hr:PPs X pos ks vs trs):
  PPs X pos (Dn k::ks) (v::vs) ((tk,tv)::trs):=λamx s σ H Q I h=>
 pairTrees_cons_walk (Hj (hk amx s σ H _ I h) λu s1 ⟨x,H1,I1,rx,q1⟩=>Hj (hv amx s1 σ H1 _ I1 q1) λw2 s2 ⟨y,H2,I2,ry,q2⟩=>
  Hj (hr amx s2 σ H2 _ I2 q2) λws s3 ⟨ps,H3,I3,rel,q3⟩=>⟨(x,y)::ps,H3,I3,.cons ⟨rx,ry⟩ rel,q3⟩)
def qD (kvs more:List (Key×V)):List (Key×V):=more.foldl (λacc kv=>OD acc kv.1 kv.2) kvs
theorem KV.merge:∀{more rs kvs vs},KV more rs->KV kvs vs->KV (qD kvs more) (merged vs rs):=by
 intro more rs kvs vs r;induction r generalizing kvs vs with
 | nil=>intro q;exact q
 | @cons p q ps qs h t ih=>
  intro r0;have e:KV (OD kvs p.1 p.2) (stored vs q.1 q.2):=by
   have:=r0.put p.1 h.2
   simp_all
  exact ih e
theorem lW:∀more kvs,(qD kvs more).length<=kvs.length+more.length
 | [],kvs=>by show kvs.length<=kvs.length+0;lia
 | p::r,kvs=>by
  have h1:=lW r (OD kvs p.1 p.2);have h2:=rQ kvs p.1 p.2;show(qD _ r).length<=_;grind
theorem tY {P w}:∀{kvs ws},VV (kvs.map λkv=>(kV kv.1,kv.2)) ws->∃rs,Carries (fj P w) ws rs/\KV kvs rs
 | [],_,r=>by cases r;exact⟨[],True.intro,.nil⟩
 | p::kvs,_,r=>by
  cases r with
  | @cons a b as bs h t=>
   obtain⟨rs,c,q⟩:=tY t;obtain⟨b1,b2⟩:=b;exact⟨(p.1,b2)::rs,⟨Zb h.1,rfl,c⟩,.cons ⟨rfl,h.2⟩ q⟩
def adY (trs:List (TE×TE)):TE:=fun σ H Q=>∀p,H p=Go->Ea trs σ (HW H p (.dK [])) λps H2=>H2 p=Dn (.dK [])/\∃kvs:List (Key×V),ps=kvs.map (λkv=>(kV kv.1,kv.2))/\kvs.length<=15/\Q (.ref p) (HW H2 p (.dK (qD [] kvs)))
variable {keys:List (Option Expr)}
theorem akt {X}{pos}{values}(h:PPs X pos keys values trs)(hall:keys.all (·.isSome)=true)(hl:keys.length=values.length)(h0:keys≠[])
  (h15:keys.length<=15):PE X (.Dict keys values pos) (adY trs):=by
 intro amx s σ H Q I q;refine wpAny_Dict_walk (knd:=fj _ _) hall hl h0 h15<|Hj (h amx _ σ _ _ (I.laid (λ_ _ q=>Iw _ q) (IK _)<|Gu _ I.big)<|q _<|I.hok.fresh<|IK _) λws s2 a=>?_;obtain⟨ps,H2,I2,rel,e,kvs,ep,lk,q2⟩:=a
 subst ep;obtain⟨rs,c,rk⟩:=tY rel;obtain⟨z,hd,vs0,r0,dd⟩:=acO I2.hok e;cases r0;refine⟨rs,c,dd,λh' dd' hs=>⟨.ref _,_,?_,rfl,q2⟩⟩;have hz:(qD [] kvs).length<=Il:=by
  have h1:=lW kvs [];rw[List.length_nil]at h1;rw[Wu];lia
 exact Ke I2 (e ▸ True.intro) hs (let⟨q,_,_,hq,_⟩:=dd';⟨q,hq⟩)<|UJ hz hd (rk.merge .nil) dd'
def aev:W->Option Key
 | .int i=>Dn (.inl i)
 | .str x=>Dn (.inr x)
 | _=>Go
def pJ (kvs:List (Key×W))(k:Key):Option W:=(kvs.find? λkv=>decide (kv.1=k)).map (·.2)
def Zk (kvs:List (Key×W))(k:Key)(w:W):List (Key×W):=
 if(kvs.any λkv=>decide (kv.1=k))=true then kvs.map (λkv=>if kv.1=k then(kv.1,w)else kv)else kvs++[(k,w)]
section
variable {K:Ax}{H:Hp}{kvs:List (Key×W)}{kvv:List (Key×V)}{k:Key}{w:W}{v:V}
theorem Dp (r:CR K H μ w v)(e:aev w=Dn k):v=kV k:=by
 cases w with
 | int i|str x=>rw[CR]at r;cases e;exact r
 | _=>cases e
theorem vW.val (r:vW K H μ kvs kvv)(e:pJ kvs k=Dn w):∃v,T4 kvv k=Dn v/\CR K H μ w v:=by
 induction r with
 | nil=>cases e
 | @cons p q ps qs h t ih=>
  by_cases z:p.1=k
  have e1:pJ (p::ps) k=Dn p.2:=by simp[pJ,z]
  rw[e1]at e;cases e;exact⟨q.2,Fw<|h.1.symm.trans z,h.2⟩;have e1:pJ (p::ps) k=pJ ps k:=by simp[pJ,z]
  rw[e1]at e;obtain⟨v,a,b⟩:=ih e;exact⟨v,by rwa[G7<|λy=>z<|h.1.trans y],b⟩
theorem vW.any (r:vW K H μ kvs kvv)(k):(kvs.any λkv=>decide (kv.1=k))=(kvv.any λkv=>decide (kv.1=k)):=by
 induction r with
 | nil=>rfl
 | @cons p q ps qs h t ih=>rw[Xz,Xz,ih,h.1]
theorem vW.repl (r:vW K H μ kvs kvv)(rv:CR K H μ w v)(k):vW K H μ (kvs.map λkv=>if kv.1=k then(kv.1,w)else kv) (kvv.map λkv=>if kv.1=k then(kv.1,v)else kv):=by
 induction r with
 | nil=>exact .nil
 | @cons p q ps qs h t ih=>
  rw[Nj];refine .cons ?_ ih;grind
theorem vW.put (r:vW K H μ kvs kvv)(rv:CR K H μ w v)(k):vW K H μ (Zk kvs k w) (OD kvv k v):=by
 unfold Zk OD;rw[<-r.any k];by_cases e:(kvs.any λkv=>decide (kv.1=k))=true
 rw[if_pos e,if_pos e];exact r.repl rv k;rw[if_neg e,if_neg e];exact Paired.snoc r ⟨rfl,rv⟩
theorem HS.dctAt {h}{n}(R:HS K μ H h)(e:h.c n=Dn (.dct kvs)):∃p kvv,μ.f n=Dn p/\H p=Dn (.dK kvv)/\vW K H μ kvs kvv:=by
 obtain⟨p,e1,xs,e2,r⟩:=R.cel n _ e;simp_all
end
section
variable {X:Cx}{a b:Expr}{mb:ME}{pos:Pos}
def Zi:M2:=λx y h Q=>match x,aev y with
 | .loc n,Dn k=>(match h.c n with
  | some (.dct kvs)=>(match pJ kvs k with
   | some w=>Q w h
   | none=>False)
  | _=>False)
 | _,_=>False
theorem akj {o i td ty}(ho:PE X o td)(hi:PE X i ty)(hs:aeW i):PE X (.Subscript o i pos) (fun σ H Q=>td σ H λx H1=>ty σ H1 λy H2=>∃a kvs k v,x=.ref a/\Rd H2 a (.dK kvs)/\y=kV k/\T4 kvs k=Dn v/\Q v H2):=by
 intro amx s σ H Q I h;refine ajW PySem.F.slot_dict_getitem.lookup hs<|Hj (ho amx s σ H _ I h) λu s1 ⟨x,H1,I1,rx,q1⟩=>Hj (hi amx s1 σ H1 _ I1 q1) λiv s2 b=>?_;obtain⟨y,H2,I2,ry,a,kvs,k,v,ex,e,ey,l,q2⟩:=b
 subst ex ey;obtain rfl:u=Value.ref a:=rx;obtain⟨z,hd,vs,rel,dd⟩:=ach I2.hok e;obtain⟨w',hw,rw'⟩:=Zq.some_of (l ▸ rel.val k);exact⟨dd.typeIs,wpAny_getItem_of (Zb ry) dd.mapOf hw ⟨v,H2,I2.tok _,rw',q2⟩⟩
theorem abv (ha:DE X a ma)(hb:DE X b mb)(hs:aeW b):DE X (.Subscript a b pos) (Mk Zi ma mb):=(akj ha hb hs).of fun σ H Q h=>two h λ{H2 μ2 h2 x y wx wy Qw} R r1 r2 m k=>by
 unfold Zi at m;split at m
 rename_i n kk e;split at m
 rename_i kvs ec;split at m
 rename_i w ev;obtain⟨p,kvv,hp,hx,rf⟩:=R.dctAt ec;obtain⟨p',e1,hp'⟩:=r1;obtain rfl:=by rw[hp]at hp';exact(Lr hp').symm
 obtain⟨v,e2,rv⟩:=rf.val ev;exact⟨p',kvv,kk,v,e1,.inl hx,Dp r2 e,e2,k _ _ ⟨μ2,w,h2,.refl,R,rv,m⟩⟩;cases m;cases m;cases m
def ab7:Zt:=λo i v H N=>∃a kvs k,o=.ref a/\H a=Dn (.dK kvs)/\i=kV k/\kvs.length<Il/\N (HW H a (.dK (OD kvs k v)))
theorem set_dict:adq X ab7:=by
 rintro amx s σ H o i v ov iv u Q I ro ri rv ⟨a,kvs,k,eo,e,ei,l,q⟩;subst eo ei;obtain rfl:ov=Value.ref a:=ro;obtain⟨z,hd,vs,rel,dd⟩:=acO I.hok e;refine wpAny_setItem_pairs (hsz:=(rel.length ▸ z)) (Zb ri) dd λh' dd' hs=>⟨_,?_,q⟩;exact Ke I (e ▸ True.intro) hs (let⟨q,_,_,hq,_⟩:=dd';⟨q,hq⟩)<|UJ (by have:=rQ kvs k v;lia) hd (rel.put k rv) dd'
def zx:ZC:=λo i w h N=>match o,aev i with
 | .loc n,Dn k=>(match h.c n with
  | some (.dct kvs)=>gG (kvs.length+1) (N (h.set n (.dct (Zk kvs k w))))
  | _=>False)
 | _,_=>False
theorem lY {K}:K3 K ab7 zx:=by
 intro H μ h o i v wo wi w Nw N R ro ri r m k;unfold zx at m;split at m
 rename_i n kk e;split at m
 rename_i kvs ec;obtain⟨p,kvv,hp,hx,rf⟩:=R.dctAt ec;obtain⟨p',e1,hp'⟩:=ro;obtain rfl:=by rw[hp]at hp';exact(Lr hp').symm
 refine⟨p',kvv,kk,e1,hx,Dp ri e,?_,k _ ⟨μ,_,(Ex.write R hp).ext,R.write (c:=.dct _) hp trivial ⟨_,aV,(vW.put (Paired.mapP rf λ_ _ z=>⟨z.1,(Ex.write R hp).ext.r _ _ z.2⟩) ((Ex.write R hp).ext.r _ _ r) kk)⟩,m.ok.2⟩⟩;have:=m.ok.1
 rw[Paired.length rf]at this;lia;cases m;cases m
def mDs:List (Key×ME)->MA
 | [],_,h,Q=>Q [] h
 | p::r,σ,h,Q=>p.2 σ h λw h1=>mDs r σ h1 λws h2=>Q (w::ws) h2
def mkD:List (Key×ME)->List W->List (Key×W)->List (Key×W)
 | p::r,w::ws,acc=>mkD r ws (Zk acc p.1 w)
 | _,_,acc=>acc
def acr (r:List (Key×ME)):ME:=fun σ h Q=>mDs r σ (h.new (.dct [])) λws h2=>match h2.c h.nx with
 | some (.dct [])=>Q (.loc h.nx) (h2.set h.nx (.dct (mkD r ws [])))
 | _=>False
inductive RZ (X:Cx):List (Option Expr)->List Expr->List (Key×ME)->Prop
 | nil:RZ X [] [] []
 | cons {x:Str} {j pos} {v:Expr}{m:ME}{ks:List (Option Expr)}{vs:List Expr}{r:List (Key×ME)}(h:DE X v m) (t:RZ X ks vs r):RZ X (Dn (.Constant (.str x) j pos)::ks) (v::vs) ((.inr x,m)::r)
def trD (K:Ax)(r:List (Key×ME)):List (TE×TE):=r.map λp=>(tC (kV p.1),tD K p.2)
theorem RZ.pps {vs}{r}(h:RZ X ks vs r):PPs X pos ks vs (trD X.K r):=by
 induction h with
 | nil=>exact ajr
 | cons h t ih=>exact zbQ T9 h ih
theorem RZ.all {ks vs}{r}(h:RZ X ks vs r):ks.all (·.isSome)=true/\ks.length=vs.length/\ks.length=r.length:=by
 induction h with
 | nil=>exact⟨rfl,rfl,rfl⟩
 | cons h t ih=>exact⟨by rw[List.all_cons,ih.1];rfl,by rw[Nq,Nq,ih.2.1],by rw[Nq,Nq,ih.2.2]⟩
theorem Fv {K}:∀{r σ H μ h}{σw}{Qw}{Q},HS K μ H h->Slots K H μ σw σ->mDs r σw h Qw ->
  (∀vs ws H' μ' h',J4 K H μ H' μ'->HS K μ' H' h'->aY K H' μ' ws vs->vs.length=r.length->Qw ws h'->Q ((r.zip vs).map λp=>(kV p.1.1,p.2)) H')->Ea (trD K r) σ H Q
 | [],σ,H,μ,h,σw,Qw,Q,R,S,m,k=>k [] [] H μ h .refl R aY.nil rfl m
 | p::r,σ,H,μ,h,σw,Qw,Q,R,S,m,k=>⟨μ,h,σw,_,R,S,m,λv H1 ⟨μ1,w,h1,e1,R1,r1,m1⟩=>(Fv R1 (S.ext e1) m1 λvs ws H2 μ2 h2 e2 R2 rs hl q=>(k _ _ H2 μ2 h2 (e1.trans e2) R2 (aY.cons (e2.r _ _ r1) rs) (by rw[Nq,Nq,hl]) q))⟩
theorem Uq {K H μ}:∀{r ws vs}{acc}{accv},aY K H μ ws vs->vs.length=r.length->vW K H μ acc accv ->
  vW K H μ (mkD r ws acc) (qD accv ((r.zip vs).map λp=>(p.1.1,p.2)))
 | [],ws,vs,acc,accv,rs,hl,ra=>by
  assumption
 | p::r,ws,vs,acc,accv,rs,hl,ra=>by
  cases ws with
  | nil=>rw[aY]at rs;subst rs;cases hl
  | cons w ws=>
   obtain⟨v,vs',e,rv,rs'⟩:=rs;subst e;exact Uq (r:=r) rs' (by simpa using hl)<|ra.put rv _
theorem ZX {vs:List Expr}{r:List (Key×ME)}(h:RZ X ks vs r)(h0:ks≠[])(h15:ks.length<=15):DE X (.Dict ks vs pos) (acr r):=
 (akt h.pps h.all.1 h.all.2.1 h0 h15).of fun σ H Q a p hp=>by
  obtain⟨μ,g,σw,Qw,R,S,m,q⟩:=a;have R1:HS _ _ (HW H p (.dK [])) (g.new (.dct [])):=R.newCell hp trivial ⟨[],aV,.nil⟩;have e1:=(Ex.newCell (o:=.dK []) R hp).ext;refine Fv R1 (S.ext e1) m λvs' ws H2 μ2 h2 e2 R2 rs hl z=>?_;split at z
  rename_i ec;obtain⟨p',kvv,hp',hx,rf⟩:=R2.dctAt ec;have r0:CR X.K (HW H p (.dK [])) (μ.put g.nx p) (.loc _) (.ref p):=⟨p,rfl,Mu.put_same⟩
  obtain⟨p'',ep,hp''⟩:=(e2.r _ _ r0)
  cases ep;obtain rfl:=by rw[hp'']at hp';exact(Lr hp').symm
  cases rf;refine⟨hx,(r.zip vs').map (λp=>(p.1.1,p.2)),by rw[W8];rfl,?_,?_⟩;rw[Hi,List.length_zip,hl,<-h.all.2.2,Nat.min_self];exact h15;have ew:=(Ex.write (o:=.dK (qD [] ((r.zip vs').map (λp=>(p.1.1,p.2))))) R2 hp'').ext;exact q _ _ ⟨μ2,.loc _,_,(e1.trans e2).trans ew,R2.write (c:=.dct _) hp'' trivial ⟨_,aV,(Uq (ew.s rs) hl .nil)⟩,⟨p',rfl,hp''⟩,z⟩;cases z
end
inductive afb (w:HI) (K:Ax):List DictEntry->List (Key×W)->Prop
 | nil:afb w K [] []
 | cons {x:Str} {t} {v:V}{u:JI}{d:W}{es:List DictEntry}{tbl:List (Key×W)}(r:RelV v u) (q:∀H μ,CR K H μ d v) (h:afb w K es tbl):afb w K (⟨PyData.keyHash w.params x,.str x t,u⟩::es) ((.inr x,d)::tbl)
section
variable {X:Cx}{b:Expr}{mb:ME}{pos p:Pos}{x:Str}{a:Addr}{tbl:List (Key×W)}
end
variable {tbl:List (Key×W)}
section
variable {X:Cx}{pos p p':Pos}{x:Str}{a:Addr}
end
section
variable {X:Cx}
end
section
variable {X:Cx}{K:Ax}{H:Hp}{h:Gh}
def Hr (h:Gh)(w:W):Option W:=match w with
 | .lst ws=>(match xU h ws with
  | some ds=>Dn (.lst ds)
  | none=>Go)
 | w=>Xc h w
theorem Ds {w d:W}{v:V}{n:Nat}(R:HS K μ H h)(r:CR K H μ w v)(e:Hr h w=Dn d)(p:Hq n d=true):Dt K H d v:=by
 cases w with
 | lst ws=>
  unfold Hr at e;dsimp only at e;cases e1:xU h ws with
  | none=>rw[e1]at e;cases e
  | some ds=>
   rw[e1]at e;cases e;obtain⟨q,xs,ev,hs,rs⟩:=r;obtain⟨m,rfl,p⟩:=KC p;exact⟨q,xs,ev,hs.sq,xq R rs e1 p⟩
 | _=>exact ahQ R r e p
def agZ:M2:=λx y h Q=>match Hr h x,Hr h y with
 | some a,Dn b=>JQ (Hq 30 a&&Hq 30 b) (Q (.bl (Iz a b)) h) False
 | _,_=>False
def adt:M2:=λx y h Q=>match Hr h x,Hr h y with
 | some a,Dn b=>JQ (Hq 30 a&&Hq 30 b) (Q (.bl (!Iz a b)) h) False
 | _,_=>False
theorem ad8 (hu:X.A.units+30<Ln):Nz X (ML .NotEq) adt:=⟨_,Vi hu,by
 intro H μ h x y wx wy Qw Q R rx ry m k;unfold adt at m;split at m
 rename_i a b ea eb;cases hp:(Hq 30 a&&Hq 30 b)with
 | true=>
  rw[hp]at m;rw[Qn]at hp;exact⟨a,b,Ds R rx ea hp.1,Ds R ry eb hp.2,hp.1,hp.2,k _ _<|.bl R m⟩
 | false=>rw[hp]at m;cases m
 cases m⟩
end
section
variable {X:Cx}{a b c:Expr}{mb mc:ME}{pos:Pos}
def GC (r r':M2)(ma mb mc:ME):ME:=fun σ h Q=>ma σ h λx h1=>mb σ h1 λy h2=>r x y h2 λz h3=>match z with
 | .bl true=>mc σ h3 λu h4=>r' y u h4 Q
 | .bl false=>Q (.bl false) h3
 | _=>False
theorem ahT {K:Ax}{σ:St}{H:Hp}{Q:VK}{r r':R2}{mr mr':M2}(s:adl K r mr)(s':adl K r' mr')(h:tD K (GC mr mr' ma mb mc) σ H Q):Us r r' (tD K ma) (tD K mb) (tD K mc) σ H Q:=by
 obtain⟨μ,g,σw,Qw,R,S,m,q⟩:=h;refine⟨μ,g,σw,_,R,S,m,λx H1 ⟨μ1,wx,h1,e1,R1,r1,m1⟩=>⟨μ1,h1,σw,_,R1,S.ext e1,m1,λy H2 ⟨μ2,wy,h2,e2,R2,r2,m2⟩=>(s R2 (e2.r _ _ r1) r2 m2 λz H3 a=>?_)⟩⟩;obtain⟨μ3,wz,h3,e3,R3,r3,m3⟩:=a;cases wz with
 | bl k=>
  refine⟨k,r3,?_⟩;cases k with
  | true=>
   exact⟨μ3,h3,σw,_,R3,((S.ext e1).ext e2).ext e3,m3,λu H4 ⟨μ4,wu,h4,e4,R4,r4,m4⟩=>(s' R4 (e4.r _ _<|e3.r _ _ r2) r4 m4 λv H' z=>q _ _<|(((z.trans e4).trans e3).trans e2).trans e1)⟩
  | false=>
   exact q _ _ ⟨μ3,.bl false,h3,(e1.trans e2).trans e3,R3,by rw[CR],m3⟩
 | _=>cases m3
theorem zbA {op op' mr mr'}(ho:Nz X (ML op) mr)(ho':Nz X (ML op') mr')(ha:DE X a ma)(hb:DE X b mb)(hc:DE X c mc)(hm:lastMarks [op,op'] [b,c]=false):DT X (.Compare a [op,op'] [b,c] pos) (aR (GC mr mr' ma mb mc)):=by
 obtain⟨r,o,s⟩:=ho;obtain⟨r',o',s'⟩:=ho';exact(zbD o o' ha hb hc hm).of fun σ H Q h=>ahT s s'<|Pn h
end
section
variable {K:Ax}{H:Hp}{fs:List (Str×W)}{fvs:List (Str×V)}{f:Str}{w:W}{v:V}
end
section
variable {X:Cx}{e o value:Expr}{es:List Expr}{mv:ME}{f:Str}{C:Addr}{pos pos' apos:Pos}
end
section
variable {prog:HN}{w:HI}{A:Hh}{E:JI->AP->Prop}{s:AP}
end
section
variable {X:Cx}
end
section
variable {X:Cx}{e:Expr}{me:ME}{x:Str}{a:Addr}{p pos:Pos}
end
section
variable {X:Cx}{C:Addr}{o e:Expr}{es:List Expr}{pos apos:Pos}
end
section
variable {X:Cx}{amx:List (Addr×Obj)}{σ:St}{H:Hp}{s:AP}{K:Ax}
end
section
variable {X:Cx}{a b o i:Expr}{mb:ME}{td ty:TE}{pos:Pos}
end
section
variable {prog:HN}{w:HI}{A:Hh}{E:JI->AP->Prop}{s:AP}
end
section
variable {X:Cx}
end
def reo (es:Array (Int×JI))(laid:Option (RV×Array Nat)):Sem (Array (Int×JI)×RV):=do
 let Dn (t,order):=laid|unsupported "internal:set-table-without-room"
 let es':=order.filterMap (es[·]?)
 if es'.size != es.size then unsupported "internal:set-table-lost-an-element"
 pure (es',t)
theorem zbn (a)(wanted):setRelay a wanted=(do
 let(es,_,t) <-setState a
 if SetTable.sizeAbove wanted>Il then unsupported "set:memory"
 let(es,t) <-reo es (t.relaid (es.map (·.1)) wanted)
 storeSet a es t):=rfl
def ps (h:Int):Nat->Nat×Nat
 | 0=>(RT h % 32,RT h)
 | n+1=>SetTable.leap 31 (ps h n).1 (ps h n).2
theorem abS (h):∀n,(ps h n).1<32
 | 0|n+1=>Nat.mod_lt _ (by decide)
theorem Oc (h):∀n,(ps h n).2=RT h / 32^n
 | 0=>by simp[ps]
 | n+1=>by
  show(ps h n).2 / 32=_;rw[Oc h n,Nat.div_div_eq_div_mul,Nat.pow_succ]
theorem akr (h)(n)(hn:13<=n):(ps h n).2=0:=by
 rw[Oc];apply Nat.div_eq_of_lt;have h1:RT h<2^64:=by
  unfold RT;lia
 have h2:32^13<=32^n:=Nat.pow_le_pow_right (by decide) hn;lia
def lcs:Nat->Nat->Nat
 | i,0=>i
 | i,k+1=>(lcs i k*5+1) % 32
theorem Um (h:Int):∀k,(ps h (13+k)).1=lcs (ps h 13).1 k
 | 0=>rfl
 | k+1=>by
  show((ps h (13+k)).1*5+1+(ps h (13+k)).2 / 32) % (31+1)=_;rw[akr h _ (by lia),Um h k];rfl
theorem ajV:∀i:Fin 32,∀j:Fin 32,∃k:Fin 32,lcs i k=j.val:=by decide +kernel
theorem aco (h){j}(hj:j<32):∃n,n<45/\(ps h n).1=j:=by
 obtain⟨k,e⟩:=ajV ⟨(ps h 13).1,abS h 13⟩ ⟨j,hj⟩;exact⟨13+k.val,by lia,by rwa[Um]⟩
theorem aap {i}(h:i<32):i<=YQ 31 i/\YQ 31 i<32:=by
 unfold YQ;grind
theorem J6 (owner)(h):∀d n fuel,d<fuel->owner.getD (ps h (n+d)).1 (Dn 0)=Go->∃j,j<32/\owner.getD j (Dn 0)=Go/\Yx 31 owner fuel (ps h n).1 (ps h n).2=Dn j
 | d,n,fuel+1,hf,e=>by
  unfold Yx;have hl:=aap (abS h n);cases q:(P0 _).find? λk=>(owner.getD _ _).isNone with
  | some k=>
   have h2:=VH.mp (List.mem_of_find?_eq_some q);exact⟨(ps h n).1+k,by omega,by simpa using(List.find?_some q),rfl⟩
  | none=>
   cases d with
   | zero=>
    rw[List.find?_eq_none]at q;refine absurd ?_<|q 0<|VH.mpr<|by omega
    rw[Nat.add_zero]at e|-
    simp_all
   | succ d=>
    exact J6 owner h d _ fuel (by lia)<|show n+1+d=n+(d+1) by lia ▸ e
variable {owner:Array (Option Nat)}
theorem ajy (h){j}(hj:j<32)(e:owner.getD j (Dn 0)=Go):∃j,j<32/\owner.getD j (Dn 0)=Go/\Yx 31 owner (SetTable.turns 31) (RT h % (31+1)) (RT h)=Dn j:=by
 obtain⟨n,hn,en⟩:=aco h hj;have:=J6 owner h n 0 46 (by lia) (by rw[WT,en];exact e)
 exact this
def liv (o:Array (Option Nat)):List (Nat×Nat):=(P0 32).filterMap λj=>(o.getD j Go).map (j,·)
theorem Uc {f g:Nat->Option (Nat×Nat)}{j:Nat}(hf:f j=Go)(hg:(g j).isSome=true)(he:∀i,i≠j->g i=f i):∀l:List Nat,l.Nodup->(l.filterMap g).length=(l.filterMap f).length+(if j∈l then 1 else 0)
 | [],_=>by simp
 | a::l,hn=>by
  rw[S8]at hn;have ih:=Uc hf hg he l hn.2;by_cases z:a=j
  subst z;rw[if_neg hn.1]at ih;rw[if_pos (RM ..)];obtain⟨y,ey⟩:=Option.isSome_iff_exists.mp hg
  simp_all
  have e1:(if j∈a::l then 1 else 0)=(if j∈l then 1 else 0):=by
   simp[show ¬j=a from λq=>z q.symm]
  rw[e1];cases q:f a with
  | none=>rw[List.filterMap_cons_none (by rw[he a z,q]),List.filterMap_cons_none q];exact ih
  | some y=>rw[List.filterMap_cons_some (by rw[he a z,q]),List.filterMap_cons_some q,Nq,Nq];lia
theorem TX {f}{g:Nat->Nat×Nat}:∀l:List Nat,(∀j∈l,f j=Dn (g j))->l.filterMap f=l.map g
 | [],_=>rfl
 | a::l,h=>by rw[List.filterMap_cons_some (h a (RM ..)),Nj,TX l λj hj=>h j (Qp _ hj)]
structure Lay (o:Array (Option Nat)) (k:Nat):Prop where
 sz:o.size=32
 len:(liv o).length=k
 low:∀p,p∈liv o->p.2<k
theorem Lay.room {o k}(L:Lay o k)(hk:k<32):∃j,j<32/\o.getD j (Dn 0)=Go:=by
 apply Ro;intro hn;have all:∀j,j<32->∃v,o.getD j Go=Dn v:=λj hj=>by
  cases q:o.getD j Go with
  | some v=>exact⟨v,rfl⟩
  | none=>
   refine absurd ⟨j,hj,?_⟩ hn;simp[(L.sz ▸ hj)]at q|-
   exact q
 have e:liv o=(P0 32).map λj=>(j,(o.getD j Go).getD 0):=by
  refine TX _ λj hj=>?_;obtain⟨v,ev⟩:=all j (VH.mp hj);rw[ev];rfl
 have:=L.len
 simp_all
theorem Lay.put {o k j}(L:Lay o k)(hj:j<32)(e:o.getD j (Dn 0)=Go):Lay (o.setIfInBounds j (Dn k)) (k+1):=by
 have e0:o.getD j Go=Go:=by
  grind
 have e1:(o.setIfInBounds j (Dn k)).getD j Go=Dn k:=by
  simp[(L.sz ▸ hj)]
 have e2:∀i,i≠j->(o.setIfInBounds j (Dn k)).getD i Go=o.getD i Go:=λi hi=>by
  rw[Array.getD_eq_getD_getElem?,Array.getD_eq_getD_getElem?,Array.getElem?_setIfInBounds_ne (Jc hi)]
 refine⟨by rw[Array.size_setIfInBounds];exact L.sz,?_,?_⟩;have:=Uc (f:=λi=>(o.getD i Go).map _) (g:=λi=>((o.setIfInBounds j _).getD i Go).map (i,·)) (by rw[e0];rfl) (by rw[e1];rfl) (λi hi=>by rw[e2 i hi]) (P0 32) List.nodup_range
 rw[if_pos (VH.mpr hj)]at this;have l:=L.len;unfold liv at l|-
 lia;intro p hp;obtain⟨i,hi,ep⟩:=List.mem_filterMap.mp hp;by_cases z:i=j
 rw[z,e1]at ep;cases ep;exact Nat.lt_succ_self _;rw[e2 i z]at ep;have:=L.low p (List.mem_filterMap.mpr ⟨i,hi,ep⟩)
 lia
theorem GP:∀(hs:List Int) (o) (k),Lay o k->k+hs.length<32->∃o',Lay o' (k+hs.length)/\hs.foldl (λ(acc) h=>do
  let(owner,k) <-acc
  let j <-Yx 31 owner (SetTable.turns 31) (RT h % (31+1)) (RT h)
  pure (owner.setIfInBounds j (Dn k),k+1)) (Dn (o,k))=Dn (o',k+hs.length)
 | [],o,k,L,_=>⟨o,L,rfl⟩
 | h::hs,o,k,L,hl=>by
  rw[Nq]at hl;obtain⟨j0,hj0,e0⟩:=L.room (by lia);obtain⟨j,hj,e,ef⟩:=ajy h hj0 e0;obtain⟨o',L',e'⟩:=GP hs _ _ (L.put hj e) (by lia);grind
theorem lay0:Lay (Array.replicate 32 Go) 0:=⟨by simp,by decide +kernel,λp hp=>by
 have:liv (Array.replicate 32 Go)=[]:=by decide +kernel
 rw[this]at hp;cases hp⟩
theorem ale (f mv)(led pl)(hs)(h:hs.size<32):∃t idx,SetTable.laid 31 f mv led pl hs=Dn (t,idx)/\t.place.size=hs.size/\t.dummies=#[]/\t.mask=31/\idx.size=hs.size/\∀i,i∈idx->i<hs.size:=by
 obtain⟨o,L,e⟩:=GP hs.toList _ 0 lay0 (by simpa using h);have ec:ajI 31 hs=Dn o:=by
  unfold ajI;simp_all
 have amy:(0+hs.toList.length)=hs.size:=by simp
 rw[amy]at L;refine⟨_,_,by unfold SetTable.laid;rw[ec];rfl,?_,rfl,rfl,?_,?_⟩;rw[K8,Hi];exact L.len;rw[K8,Hi];exact L.len;intro i hi;rw[List.mem_toArray]at hi;obtain⟨p,hp,rfl⟩:=Ni.mp hi;exact L.low p hp
def Hl (h:Heap)(a:Addr)(n:Nat):Prop:=∃es ep t,h.get? a=Dn (J2 es ep t)/\t.fits es.size=true/\es.size=n
theorem ajD {α:Type}(es:Array α)(idx:Array Nat)(h:∀i,i∈idx->i<es.size):(idx.filterMap (es[·]?)).size=idx.size:=by simp_all
section
variable {prog:HN}{w:HI}{A:Hh}{E:JI->AP->Prop}{s:AP}{a:Addr}
theorem zag {es t}{Q}(ho:s.heap.get? a=Dn (J2 es ep t))(hf:t.fits es.size=true)(h5:es.size<32)
  (h:∀h',QJ a s.heap h'->Hl h' a es.size->Q () {s with heap:=h'}):Bb (CG prog w) A (setRelay a 20) Q E s:=by
 rw[zbn];refine Al<|XD ho rfl hf ?_
 dsimp only;obtain⟨t',idx,el,h1,h2,h3,h4,h6⟩:=ale _ _ _ _ (es.map _) (by simpa using h5);have er:t.relaid _ 20=Dn (t',idx):=el;rw[er];have hs:(idx.filterMap (es[·]?)).size=es.size:=by
  rw[ajD es idx (λi hi=>by have:=h6 i hi;simpa using this),h4];simp
 have ereo:reo es (Dn (t',idx))=pure (idx.filterMap (es[·]?),t'):=by
  unfold reo;dsimp only;rw[hs];simp
 rw[ereo];refine wpAny_storeSet_of ho rfl (h _ (WL ..) ?_) (by rw[hs,Wu];lia);refine⟨idx.filterMap _,ep+1,t',?_,?_,hs⟩;have:=Qs (Obj.putSet (idx.filterMap (es[·]?)) t') ho rfl
 exact this;unfold SetTable.fits SetTable.fill;rw[h1,h2];simp;lia
end
section
variable {prog:HN}{w:HI}{A:Hh}{E:JI->AP->Prop}{s:AP}{t:RV}{a b:Addr}{k:List Int}
theorem zah {Q:Bool->AP->Prop}(hu:A.units<Ln)(S:qj prog w s.heap a m ka ad)(hk:TK prog w s.heap k b)(h3:(Im m).length=4)
  (yes:(∃j,j∈Im m/\ka j=k)->∀tk,Q false {s with toks:=tk})
  (no:(∀j,j∈Im m->ka j≠k)->∀h' tk,QJ a s.heap h'->Hl h' a 5->Q true {s with heap:=h',toks:=tk}) :
  Bb (CG prog w) A (setAdd a (.ref b)) Q E s:=by
 obtain⟨ep,t,ho,T⟩:=S;refine N6<|Al<|wpAny_pyHash_tuple hu hk ?_
 refine N6 ?_;generalize hs1:({s with toks:=s.toks+(k.length+1)}:AP)=s1;have eh:s1.heap=s.heap:=by rw[<-hs1]
 have ho1:s1.heap.get? a=Dn (J2 (elL prog w m ka ad).toArray ep t):=by rw[eh];exact ho
 have T1:Vh prog w s1.heap m ka ad t:=by rw[eh];exact T
 have hk1:TK prog w s1.heap k b:=by rw[eh];exact hk
 refine Al<|XD ho1 rfl T1.fits ?_
 obtain⟨j0,hj0⟩:=GK ⟨m,T.m8⟩ (by show(Im m).length<8;lia);obtain⟨N,hN,hN0,hN1⟩:=road (m:=m) (QX (Mx prog w) k) ⟨j0.val,j0.isLt,hj0⟩;refine Al<|jw (h:=QX (Mx prog w) k) rfl hu ho1 rfl T1 hk1 hN0 hN1 (λy=>?_) (λn=>?_) 100000 0 Go (by rw[Option.getD_none];exact DX T.mask _) (by lia) (by lia) (by lia) λi hi=>absurd hi<|VL _
 rw[<-hs1];exact HF<|yes y _
 dsimp only;have hnew:∀j,j∈Im m->ka j≠k:=λj hj z=>by
  obtain⟨i,e,l⟩:=T.way j hj;have eh:hT prog w (ka j)=QX (Mx prog w) k:=by rw[z];rfl
  rw[eh]at e l;rcases Nat.lt_trichotomy i N with q|q|q
  exact n i q (by rw[e];exact z);rw[q]at e;rw[e,(gJ.mp hj).2]at hN0;cases hN0;rw[l N q]at hN0;cases hN0
 refine Al<|XD ho1 rfl T1.fits ?_
 have hj8:=wM (QX (Mx prog w) k) N;generalize hjj:(pq (QX (Mx prog w) k) N).fst=j at hN0 hj8|-
 have hput:t.put j=({t with place:=(Im (m ||| 2^j)).toArray},rk m j):=by
  unfold SetTable.put;have e1:=(pO ⟨m,T.m8⟩ ⟨j,hj8⟩).1;have e2:=(wC ⟨m,T.m8⟩ ⟨j,hj8⟩ hN0).1;have e3:Vp (Im m).toArray (rk m j) j=(Im (m ||| 2^j)).toArray:=by
   apply Array.ext';rw[SetTable.toList_insertAt,e2]
  rw[T.place,T.dum,e1];dsimp only;rw[e3,if_neg (by simp[SetTable.has])]
 have e:=uV ⟨m,T.m8⟩ ⟨j,hj8⟩ hN0;dsimp only at e;have hfull:({t with place:=(Im (m ||| 2^j)).toArray}:RV).tooFull=true:=by
  unfold SetTable.tooFull SetTable.fill;rw[T.mask,T.dum];simp only[K8,e,h3];decide
 rw[hput];dsimp only;have es5:(elL prog w m ka ad).toArray.size+1=5:=by
  unfold elL;rw[K8,Hi,h3]
 have e5:(Vp (elL prog w m ka ad).toArray (rk m j) (QX (Mx prog w) k,Value.ref b)).size=5:=by
  have ee:=TV (prog:=prog) (w:=w) (ka:=ka) (ad:=ad) (k:=k) (b:=b) T.m8 hj8 hN0;unfold hT at ee;rw[ee];unfold elL;rw[K8,Hi,e,h3]
 have hg:SetTable.grown 5=20:=by decide
 have key:∀{R:Unit->AP->Prop},(∀h',QJ a s.heap h'->h'.get? a=Dn (J2 (Vp (elL prog w m ka ad).toArray (rk m j) (QX (Mx prog w) k,Value.ref b)) (ep+1) {t with place:=(Im (m ||| 2^j)).toArray})->R () {s1 with heap:=h'})->Bb (CG prog w) A (storeSet a (Vp (elL prog w m ka ad).toArray (rk m j) (QX (Mx prog w) k,Value.ref b)) {t with place:=(Im (m ||| 2^j)).toArray}) R E s1:=by
  intro R hR;refine wpAny_storeSet_of ho1 rfl (hR _ (by rw[eh];exact WL ..) ?_) (by rw[e5,Wu];decide);have:=Qs (Obj.putSet (Vp (elL prog w m ka ad).toArray (rk m j) (QX (Mx prog w) k,Value.ref b)) {t with place:=(Im (m ||| 2^j)).toArray}) ho1 (by rw[putSet_of _ _ rfl];rfl)
  rw[putSet_of _ _ rfl]at this;exact this
 have fits5:({t with place:=(Im (m ||| 2^j)).toArray}:RV).fits (Vp (elL prog w m ka ad).toArray (rk m j) (QX (Mx prog w) k,Value.ref b)).size=true:=by
  rw[e5];unfold SetTable.fits SetTable.fill;rw[T.mask,T.dum];simp only[K8,e,h3];decide
 have fin:∀h1,QJ a s.heap h1->h1.get? a=Dn (J2 (Vp (elL prog w m ka ad).toArray (rk m j) (QX (Mx prog w) k,Value.ref b)) (ep+1) {t with place:=(Im (m ||| 2^j)).toArray})->Bb (CG prog w) A (setRelay a 20) (λ_ s'=>Q true s') E {s1 with heap:=h1}:=λh1 hsb hS=>by
  refine zag (s:={s1 with heap:=h1}) hS fits5 (by rw[e5];decide) λh' hsb' hn=>?_;rw[e5]at hn;rw[<-hs1];exact no hnew h' _ (hsb.trans hsb') hn
 split
 refine Al<|yH hk1 ?_
 rw[if_pos rfl,hfull];refine Al<|key λh' hsb hS=>?_
 rw[es5,hg];refine Al<|KY (fin h' hsb hS) (λ_ s' z=>HF z) λ_ _ z=>z
 refine Al<|HF ?_
 rw[if_pos rfl,hfull];refine Al<|key λh' hsb hS=>?_
 rw[es5,hg];refine Al<|KY (fin h' hsb hS) (λ_ s' z=>HF z) λ_ _ z=>z
end
section
variable {prog:HN}{w:HI}{A:Hh}{E:JI->AP->Prop}{R:Result->AP->Prop}
theorem Hl.of {z}{h}(B:Hz prog w z h S seen m ka ad):Hl h S seen.length:=by
 obtain⟨⟨ep,t,ho,T⟩,_,_,len⟩:=B;exact⟨_,ep,t,ho,T.fits,by unfold elL;rw[K8,Hi,len]⟩
theorem wK {l I}{items i n s}(hh:A.in1.handled=Go)(hne:l≠I)(hIS:I≠S)(ei:i=items.size)(st:s.heap.IsListIter I l i/\s.heap.IsList l items)(B:Hl s.heap S n)
  (hR:∀h' tk,Hl h' S n->(∀b o,b≠S->b≠I->s.heap.get? b=Dn o->h'.get? b=Dn o)->R (.ok (.ret .none)) {s with heap:=h',toks:=tk}) :
  RJ (CG prog w) A (.builtin "set.update.loop" ⟨[.ref S,.ref I],[]⟩) R s:=by
 subst ei;refine YG F.entry_set_update_loop ?_;rw[Around.under_plainId Yn _];refine Al<|((Walks.list hh I l hne items).toS).done s _ _ st λs' hm=>?_
 obtain⟨h',g',d',tk',os'⟩:=s';obtain⟨eh,eg,ed,eo,_⟩:=hm;subst eg;subst ed;subst eo;have hk:=λb o hb e=>eh b o (by simpa using hb) e
 obtain⟨es,ep,t,ho,q⟩:=B;exact HF<|hR h' tk' ⟨es,ep,t,hk S _ (Jc hIS) ho,q⟩ λb o _ hb e=>hk b o hb e
theorem qR {l I S:Addr}{z:Nat}{items:Array JI}{kss:List (List Int)}(hh:A.in1.handled=Go)(hu:A.in1.units<Ln)(hne:l≠I)(hlS:l≠S)(hIS:I≠S)(hzS:z<=S)(hzI:z<=I)(h4:kss.length<=5)(hn:items.size=kss.length) :
  ∀(rest:List (List Int)) (i) (s) (seen) (m) (ka) (ad),i+rest.length=kss.length->seen.length<=i ->
   (∀j v,items[i+j]?=Dn v->∃b k,v=.ref b/\rest[j]?=Dn k/\b<z/\TK prog w s.heap k b)->(s.heap.IsListIter I l i/\s.heap.IsList l items)->Hz prog w z s.heap S seen m ka ad ->
   (∀h' tk,Hl h' S (rest.foldl Q0 seen).length->(∀b o,b≠S->b≠I->s.heap.get? b=Dn o->h'.get? b=Dn o)->R (.ok (.ret .none)) {s with heap:=h',toks:=tk}) ->
   RJ (CG prog w) A (.builtin "set.update.loop" ⟨[.ref S,.ref I],[]⟩) R s
 | [],i,s,seen,m,ka,ad,hi,_,_,st,B,hR=>by
  refine wK hh hne hIS (by rw[hn];simpa using hi) st (Hl.of B) λh' tk hN kp=>hR h' tk hN kp
 | k0::rest,i,s,seen,m,ka,ad,hi,hsl,hit,st,B,hR=>by
  have W:=(Walks.list (prog:=prog) (w:=w) hh I l hne items).toS;rw[Nq]at hi;refine YG F.entry_set_update_loop ?_;show Bb _ A.in1 (pyNext (.ref I) >>= _) _ _ s;refine Al<|W.item i s _ _ (by lia) st λv s' hv st' hm=>?_
  obtain⟨b,k,rfl,ek,hb,hk⟩:=hit 0 v hv;simp only[List.getElem?_cons_zero,Option.some.injEq]at ek;subst ek;obtain⟨h1,g',d',tk',os'⟩:=s';obtain⟨eh,eg,ed,eo,_⟩:=hm;simp only at eg ed eo;subst eg;subst ed;subst eo;have hk1:∀b o,b≠I->s.heap.get? b=Dn o->h1.get? b=Dn o:=λb o hb e=>eh b o (by simpa using hb) e
  have up:∀{k b},b<z->TK prog w s.heap k b->TK prog w h1 k b:=λ{k b} hb ⟨o,i,n,e,r⟩=>⟨o,i,n,hk1 b o (JM (Jq hb hzI)) e,r⟩
  have B1:=B.keep (h':=h1) (λo e=>hk1 S o (Jc hIS) e) λb o hb e=>hk1 b o (JM (Jq hb hzI)) e
  by_cases amy:(Im m).length<=3
  rotate_left
  have h4':(Im m).length=4:=by rw[B.len]at amy|-;lia
  have hr:rest=[]:=List.eq_nil_of_length_eq_zero (by rw[B.len]at amy;lia);subst hr;show Bb _ A.in1 (VB [Value.ref b] (setAdd S (.ref b)) >>= _) _ _ _;refine Al<|N6<|zah (s:={s with heap:=h1,toks:=tk'}) hu B1.set (up hb hk) h4' (λy tk=>?_) λn h2 tk hs hN=>?_
  refine HF ⟨plainId_quiet Yn _,?_⟩;have e:Q0 seen k0=seen:=by unfold Q0;rw[if_pos ((B.mem k0).mpr y)]
  refine wK (i:=i+1) (s:={s with heap:=h1,toks:=tk}) hh hne hIS (by rw[hn,<-hi];rfl) st' (Hl.of B1) λh' tk' hN kp=>?_;refine hR h' tk' (by rw[Xo,e];exact hN) λb o q1 q2 e=>kp b o q1 q2<|hk1 b o q2 e
  refine HF ⟨plainId_quiet Yn _,?_⟩;have nm:¬k0∈seen:=λhm=>by
   obtain⟨j,hj,e⟩:=(B.mem k0).mp hm;exact n j hj e
  have e:Q0 seen k0=seen++[k0]:=by unfold Q0;rw[if_neg nm]
  have k2:∀b o,b≠S->h1.get? b=Dn o->h2.get? b=Dn o:=λb o hb e=>(hs.2 b hb).trans e
  have l5:(seen++[k0]).length=5:=by rw[KJ,<-B.len,h4'];rfl
  refine wK (i:=i+1) (s:={s with heap:=h2,toks:=tk}) hh hne hIS (by rw[hn,<-hi];rfl) ?_ hN λh' tk' hN' kp=>?_;exact(W.frame _ {s with heap:=h1,toks:=tk'} h2 tk' st' (IK _) λb hb o e=>k2 b o (by
   simp only[K5,Ot,or_false]at hb;rcases hb with rfl|rfl
   exact hIS;exact hlS) e)
  refine hR h' tk' (by rw[Xo,e];show Hl h' S (seen++[k0]).length;rw[l5];exact hN') λb o q1 q2 e=>kp b o q1 q2<|k2 b o q1<|hk1 b o q2 e
  show Bb _ A.in1 (VB [Value.ref b] (setAdd S (.ref b)) >>= _) _ _ _;refine Al<|N6<|zaq (s:={s with heap:=h1,toks:=tk'}) hu B1.set (up hb hk) amy (λy tk=>?_) λn h2 j tk hs hj8 hjb hS=>?_
  refine HF ⟨plainId_quiet Yn _,?_⟩;have e:Q0 seen k0=seen:=by unfold Q0;rw[if_pos ((B.mem k0).mpr y)]
  refine qR hh hu hne hlS hIS hzS hzI h4 hn rest (i+1) {s with heap:=h1,toks:=tk} seen m ka ad (by lia) (by lia) (λj v hv=>?_) st' B1 λh' tk' B' kp=>?_;obtain⟨b',k',e1,e2,e3,e4⟩:=hit (j+1) v (by rw[<-hv];congr 1;lia);exact⟨b',k',e1,by simpa using e2,e3,up e3 e4⟩;refine hR h' tk' (by rw[Xo,e];exact B') λb o h1 h2 e=>kp b o h1 h2<|hk1 b o h2 e
  refine HF ⟨plainId_quiet Yn _,?_⟩;have nm:¬k0∈seen:=λhm=>by
   obtain⟨j,hj,e⟩:=(B.mem k0).mp hm;exact n j hj e
  have e:Q0 seen k0=seen++[k0]:=by unfold Q0;rw[if_neg nm]
  obtain⟨ep,t,ho,T⟩:=id B1.set;have m8:=T.m8;have hor:∀i,i<8->(m ||| 2^j).testBit i=(m.testBit i||decide (i=j)):=λi hi=>Fq ⟨m,m8⟩ ⟨j,hj8⟩ ⟨i,hi⟩
  have hmem:∀i,i∈Im (m ||| 2^j)↔i∈Im m\/i=j:=λi=>by
   rw[gJ,gJ];constructor;rintro⟨h8,hb⟩;rw[hor i h8,Bool.or_eq_true,decide_eq_true_eq]at hb;exact hb.elim (λq=>.inl ⟨h8,q⟩) .inr;rintro(⟨h8,hb⟩|rfl);exact⟨h8,by rw[hor i h8,hb];rfl⟩;exact⟨hj8,by rw[hor i hj8,decide_eq_true rfl,Bool.or_true]⟩
  have nj:∀i,i∈Im m->i≠j:=λi hi z=>by rw[z]at hi;rw[(gJ.mp hi).2]at hjb;cases hjb
  have B2:Hz prog w z h2 S (seen++[k0]) (m ||| 2^j) (λi=>if i=j then k0 else ka i) (λi=>if i=j then b else ad i):=by
   refine⟨hS,λi hi=>?_,λk=>?_,?_⟩;rcases(hmem i).mp hi with q|q
   simp only[if_neg (nj i q)];exact B.low i q;simp only[if_pos q];exact hb;rw[Vz,R8,B.mem k];constructor;rintro(⟨i,hi,e⟩|rfl);exact⟨i,(hmem i).mpr (.inl hi),by simp only[if_neg<|nj i hi];exact e⟩;exact⟨j,(hmem j).mpr (.inr rfl),by simp⟩;rintro⟨i,hi,e⟩;rcases(hmem i).mp hi with q|q
   simp only[if_neg (nj i q)]at e;exact .inl ⟨i,q,e⟩;simp only[if_pos q]at e;exact .inr e.symm;have:=uV ⟨m,m8⟩ ⟨j,hj8⟩ hjb
   dsimp only at this;rw[this,B.len,KJ];rfl
  have k2:∀b o,b≠S->h1.get? b=Dn o->h2.get? b=Dn o:=λb o hb e=>(hs.2 b hb).trans e
  refine qR hh hu hne hlS hIS hzS hzI h4 hn rest (i+1) {s with heap:=h2,toks:=tk} (seen++[k0]) _ _ _ (by lia) (by rw[KJ,Rz];lia) (λj v hv=>?_) ?_ B2 λh' tk' B' kp=>?_;obtain⟨b',k',e1,e2,e3,e4⟩:=hit (j+1) v (by rw[<-hv];congr 1;lia);obtain⟨o,i,n,e,r⟩:=up e3 e4;exact⟨b',k',e1,by simpa using e2,e3,o,i,n,k2 b' o (JM<|Jq e3 hzS) e,r⟩;exact(W.frame _ {s with heap:=h1,toks:=tk'} h2 tk' st' (IK _) λb hb o e=>k2 b o (by
   simp only[K5,Ot,or_false]at hb;rcases hb with rfl|rfl
   exact hIS;exact hlS) e)
  refine hR h' tk' (by rw[Xo,e];exact B') λb o q1 q2 e=>kp b o q1 q2<|k2 b o q1<|hk1 b o q2 e
end
variable {kss:List (List Int)}
section
variable {prog:HN}{w:HI}{A:Hh}{E:JI->AP->Prop}{s:AP}
theorem ahV {l}{z:Nat}{items Q}(hh:A.handled=Go)(hu:A.units+5<Ln)(h4:kss.length<=5)(hn:items.size=kss.length)(hz:z<=S)(hS:s.heap.get? S=Dn (EY led))(hl:s.heap.IsList l items)(hlz:l<z)
  (hit:∀(j:Nat) (v),items[j]?=Dn v->∃b k,v=.ref b/\kss[j]?=Dn k/\b<z/\TK prog w s.heap k b)
  (h:∀h' tk,Hl h' S (Qc kss).length->(∀b o,b≠S->s.heap.get? b=Dn o->h'.get? b=Dn o)->Q Value.none {s with heap:=h',toks:=tk}) :
  RJ (CG prog w) A (.call (.builtin "set.__init__") ⟨[.ref S,.ref l],[]⟩) (wants Q E) s:=by
 have ht:s.TypeIs (.ref S) "set":=⟨_,hS,rfl⟩
 refine YD RQ.init.plain F.entry_set_init<|check_set_init_1 ht ?_
 obtain⟨ol,hol,hcl,nl,hdl⟩:=id hl;obtain⟨ocls,odict,odata,oslots⟩:=ol;subst hcl;subst hdl;have q1:=F.sub_list_set;have q2:=F.sub_list_frozenset;have q3:(Value.type "list"==Value.type "dict")=false:=by decide
 unfold WM.«set.__init__» noKeywords Builtin.Frozenset.updateFrom;generalize hPI:pyIter=PI
 wp_walk
 subst hPI;refine X8 hl ?_;refine Al<|wpAny_runValue ?_
 have hlt:l≠s.heap.objs.size:=JM (Ik hol);have hSI:s.heap.objs.size≠S:=Jc (JM (Ik hS));have hS':=Iw {cls:=.type "list_iterator",data:=.fields #[.ref l,.int 0 0]} hS;have hkeep:∀b o,s.heap.get? b=Dn o->(s.heap.push {cls:=.type "list_iterator",data:=.fields #[.ref l,.int 0 0]}).get? b=Dn o:=λb o e=>Iw _ e
 have hSz:=Ik hS;refine qR (l:=l) (I:=s.heap.objs.size) (z:=z) (kss:=kss) (by simp[hh]) (by simp;lia) hlt (λe=>?_) hSI hz (Ja hz<|W7 hSz) h4 hn kss 0 _ [] 0 _ _ (by simp) (by simp) (λj v hv=>?_) ⟨⟨_,Kh _ rfl,rfl,rfl⟩,hl.push _⟩ ⟨zbB hS',λj hj=>absurd hj<|by simp[Im],λk=>by simp[Im],by simp[Im]⟩ λh' tk B kp=>?_;rw[e]at hlz;exact absurd (Jq hlz hz) (Qf _);obtain⟨b,k,e1,e2,e3,o,i,n,e4,r⟩:=hit j v (by rw[<-hv];congr 1;lia);exact⟨b,k,e1,e2,e3,o,i,n,hkeep b o e4,r⟩;refine HF<|HF ?_
 exact h h' tk B λb o hb e=>kp b o hb (JM<|Ik e)<|hkeep b o e
theorem ahv {l}{items Q}(hh:A.handled=Go)(hu:A.units+10<Ln)(h4:kss.length<=5)(hn:items.size=kss.length)(hl:s.heap.IsList l items)
  (hit:∀(j:Nat) (v),items[j]?=Dn v->∃b k,v=.ref b/\kss[j]?=Dn k/\TK prog w s.heap k b)
  (h:∀h' tk,Hl h' s.heap.objs.size (Qc kss).length->(∀b o,s.heap.get? b=Dn o->h'.get? b=Dn o)->Q (.ref s.heap.objs.size) {s with heap:=h',toks:=tk}) :
  Bb (CG prog w) A (call (.type "set") [.ref l]) Q E s:=by
 have hmade:=RQ.made;have hsub:=RQ.sub;have g1:=RQ.notType;have g2:=RQ.canCreate;have g3:=F.typeCall_set_1 (.ref l);refine Vx<|codeAny_of_tree ?_
 show Bb _ _ (callAny (.type "set") _) _ _ _;refine HF ⟨Y7 _<|by decide +kernel,YG F.entry_type_call ?_⟩;rw[Around.under_plain (weight_type_call_type "set" [.ref l] []) rfl];repeat(any_goals(first|assumption|wp_step))
 refine Td (code_set_new_1 (.ref l) (E:=E) (Q₁:=λu s1=>∃led:Bool,u=.ref s.heap.objs.size/\s1={s with heap:=s.heap.push (EY led)}) λled=>⟨led,rfl,rfl⟩) λr s1 hr=>?_;cases r with
 | error e=>exact hr
 | ok fl=>
  cases fl with
  | ret u=>
   obtain⟨led,rfl,rfl⟩:=hr;have hS:(s.heap.push (EY led)).get? s.heap.objs.size=Dn (EY led):=Kh _ rfl;have ht:Shared.TypeIs {s with heap:=s.heap.push (EY led)} (.ref s.heap.objs.size) "set":=⟨_,hS,rfl⟩
   have b1:=RQ.init.lookup;have b2:=RQ.init.bind (.ref s.heap.objs.size);repeat(any_goals(first|assumption|wp_step))
   have hk:∀b o,s.heap.get? b=Dn o->(s.heap.push (EY led)).get? b=Dn o:=λb o e=>Iw _ e
   obtain⟨ol,hol,r1⟩:=id hl;refine Td (ahV (E:=E) (s:={s with heap:=s.heap.push (EY led)}) (z:=s.heap.objs.size) (kss:=kss) (Q:=λr s2=>r=.none/\∃h' tk,s2={s with heap:=h',toks:=tk}/\Hl h' s.heap.objs.size (Qc kss).length/\∀b o,s.heap.get? b=Dn o->h'.get? b=Dn o) (by simp[hh]) (by simp;lia) h4 hn (IK _) hS ⟨ol,hk l ol hol,r1⟩ (Ik hol) (λj v hv=>?_) λh' tk B kp=>⟨rfl,h',tk,rfl,B,λb o e=>kp b o (JM<|Ik e)<|hk b o e⟩) λr2 s2 hr2=>?_;obtain⟨b,k,e1,e2,o,i,n,e3,r⟩:=hit j v hv;exact⟨b,k,e1,e2,Ik e3,o,i,n,hk b o e3,r⟩
   ·cases r2 with
    | error e=>exact hr2
    | ok f2=>
     cases f2 with
     | ret r=>
      obtain⟨rfl,h',tk,rfl,B,kp⟩:=hr2;repeat(any_goals(first|assumption|wp_step))
      exact h h' tk B kp
     | _=>exact hr2.elim
  | _=>exact hr.elim
end
section
variable {X:Cx}{K:Ax}
theorem ahj (hc:X.calm=true)(hu:X.A.units+30<Ln):iV X (.type "set") (λxs H Q=>∃p ys kss,xs=[.ref p]/\Jb X.K H p ys/\acW X.K H ys kss/\kss.length<=5/\∀l,H l=Go->Q (.ref l) (HW H l (aaq l (Qc kss).length))):=by
 intro amx s σ H xs us Q I r h;obtain⟨p,ys,kss,rfl,hq,ht,h4,q⟩:=h;obtain⟨u,rfl,rx⟩:=vals1 r;cases rx;obtain⟨its,r',pl,hz⟩:=I.list hq;have e1:=r'.length;have e2:=Paired.length ht;refine ahv (I.ok.hd hc) (by lia) h4 (by rw[K8];lia) pl.isList (λj v hv=>?_) λh' tk B kp=>?_;rw[List.getElem?_toArray]at hv;obtain⟨x,ex,rx⟩:=zaI r' hv;obtain⟨k,ek,b,rfl,hb⟩:=z8 ht ex;cases rx;obtain⟨its2,r2,⟨o,ho,hcl,n,hd⟩,_⟩:=I.tuple hb;exact⟨b,k,rfl,ek,o,_,_,ho,hcl,hd,Dm r2⟩;obtain⟨es,ep,t,ho,hf,hn⟩:=B;exact⟨.ref _,_,I.laid kp (IK _)<|show fD _ _ _ h' _ (aaq _ (Qc kss).length)from⟨⟨es,ep,t,ho,hf,hn⟩,⟨_,ho⟩,λh1 h2 ⟨es,ep,t,a,b,c⟩ k=>⟨es,ep,t,k _ a,b,c⟩⟩,rfl,q _<|I.hok.fresh<|IK _⟩
def jD:MC:=λws h Q=>match ws with
 | [w]=>(match dU h w with
  | some us=>(match Ab us with
   | some kss=>kss.length<=5/\Q (.int (Qc kss).length) h
   | none=>False)
  | none=>False)
 | _=>False
theorem z9 {e}{p1 p2 q1 q2}(hc:X.calm=true)(hu:X.A.units+30<Ln)(hgl:Gl X "len")(hml:X.mg "len" = Go)(hgs:Gl X "set")(hms:X.mg "set" = Go)(ha:DE X e ma)
  (s1:HJ [e] X.env=(false,eval e X.env)::HJ [] X.env) (s2:HJ [Expr.Call (.Name "set" p2) [e] [] q2] X.env=(false,eval (Expr.Call (.Name "set" p2) [e] [] q2) X.env)::HJ [] X.env) :
  DE X (.Call (.Name "len" p1) [.Call (.Name "set" p2) [e] [] q2] [] q1) (Io jD (aj ma aG)):=
 (pU zZ hgl hml Q8 (gY (qX (ahj hc hu) hgs hms (by rfl) (gY ha tZ s1) (by decide) (by decide) s1) tZ s2) (by decide) (by decide) s2).of fun σ H Q b=>by
  obtain⟨μ,g,σw,Qw,R,S,m,q⟩:=b;refine⟨μ,g,σw,_,R,S,m,λv H1 a=>?_⟩;obtain⟨μ1,w,h1,e1,R1,r1,m1⟩:=a;have m1:jD [w] h1 Qw:=m1;unfold jD at m1;dsimp only at m1;split at m1
  rename_i us ev;split at m1
  rename_i kss ek;obtain⟨p,ys,ex,hs,rs⟩:=dI R1 r1 ev;subst ex;refine⟨p,ys,kss,rfl,hs,DW rs ek,m1.1,λl hl=>?_⟩;have hle:=gA kss [];refine⟨l,(Qc kss).length,rfl,aV,?_,q _ _ ⟨μ1,.int (Qc kss).length,h1,e1.trans (Ex.laid hl).ext,R1.laid hl,by rw[CR],m1.2⟩⟩;unfold Qc;simp at hle;lia;exact m1.elim;exact m1.elim
end
section
variable {X:Cx}{K:Ax}{o e:Expr}{apos amA:Pos}
end
def Ek:List JI->Bool
 | .ref _::r=>Ek r
 | l=>l==[.type "ValueError",.type "Exception",.type "BaseException",.type "object"]
theorem ahX (y:JI)(l:List JI):Ek l=true->refuseLoop y "__setattr__" l=pure ():=by
 induction l with
 | nil=>intro e;cases e
 | cons v r ih=>
  intro e;cases v with
  | ref c=>
   rw[refuseLoop_ref];exact ih e
  | _=>
   exact eq_of_beq e ▸ PySem.F.store_ValueError.passes y
theorem ZF (l):Ek l=true->l.contains (.type "object")=true:=by
 induction l with
 | nil=>intro e;cases e
 | cons v r ih=>
  intro e;cases v with
  | ref c=>
   rw[List.contains_cons,ih e];exact Bool.or_true _
  | _=>
   rw[eq_of_beq e];decide +kernel
def Xn (K:Ax)(C:Addr):Bool:=(Vy K C).any λcd=>Ek cd.mro
section
variable {prog:HN}{w:HI}{A:Hh}{s:AP}{K:Ax}{x C:Addr}{R:Result->AP->Prop}
theorem afa {oo}{dd nm}{tok u}(X:K.In s.heap)(I:Xj s.heap x oo C dd)(hp:Xn K C=true)(ht:Oh K (.ref C) nm=Dn Go)
  (h:Bb (CG prog w) A.in1 (PySem.Builtin.ObjectAttr.storeInOwnDict (.ref x) (.ref C) (.str nm tok) nm u false)
   (λf1 s1=>match f1 with
    | .done y=>R (.ok y) s1
    | .again c1=>c1.quiet=true/\RJ (CG prog w) A c1 R s1) (λe1 s1=>R (.error e1) s1) s) :
  RJ (CG prog w) A (.call (.builtin "object.__setattr__") ⟨[.ref x,.str nm tok,u],[]⟩) R s:=by
 obtain⟨c0,hc,ho⟩:=PySem.W.any_some hp;have emp:c0.mro.isEmpty=false:=by
  cases q:c0.mro with
  | nil=>rw[q]at ho;cases ho
  | cons _ _=>rfl
 have obj:Qo K C (.type "object")=Dn true:=by
  unfold Qo;rw[hc,W2,if_neg (by rw[emp];decide),ZF _ ho]
 have isO:Xb (CG prog w) s.heap (Wj (.ref x) (.type "object")) true:=I.type.andThen (YF X obj);refine YD Yi.slot.plain Yi.entry ?_;refine PySem.W.check_slot (i := "object.__setattr__") (owner := "object") (n := "__setattr__") (self:=.ref x) (rest:=[.str nm tok,u]) (kw:=[]) Yi.kind Yi.split isO (Yi.args (.ref x) (.str nm tok) u) ?_;have mro:Xb (CG prog w) s.heap (mroOf (.ref C)) c0.mro:=(PySem.W.looks_clsIn X hc).andThen .now;rw[PySem.W.osa_eq,refuse_eq];refine Al<|Al<|I.type.here<|Al<|mro.here ?_
 rw[ahX _ _ ho];refine HF<|Al<|I.type.here<|Al<|(Yk X ht).here (Al ?_)
 exact HF h
end
variable {nm:Str}
section
variable {prog:HN}{w:HI}{A:Hh}{E:JI->AP->Prop}{s:AP}{K:Ax}{x dx C f:Addr}{mA:Str->Option JI}{name:Str}{v:JI}
theorem zbV {fs}{Q}(X:K.In s.heap)(hx:s.heap.get? x=Dn ⟨.ref C,Go,.fields fs,sl⟩)
  (hs:Oh K (.ref C) "__setattr__" = Dn (Dn (.builtin "object.__setattr__"))) (hp:Xn K C=true) (ht:Oh K (.ref C) name=Dn Go) (hh:PySem.W.hasDictIn K C=true)
  (h:∀h',h'.get? x=Dn ⟨.ref C,Dn s.heap.objs.size,.fields fs,sl⟩->h'.Ns1 s.heap.objs.size (λy=>if y=name then Dn v else Go)->(∀b o,b≠x->s.heap.get? b=Dn o->h'.get? b=Dn o)->Q () {s with heap:=h',toks:=s.toks+2}) :
  Bb (CG prog w) A (setAttr (.ref x) name v) Q E s:=by
 have J:Xj s.heap x ⟨.ref C,Go,.fields fs,sl⟩ C Go:=⟨hx,rfl,rfl,trivial⟩
 refine PySem.W.set_plain X J hs<|afa (s:={s with toks:=s.toks+1}) X J hp ht ?_
 obtain⟨cd,hc,hd'⟩:=PySem.W.any_some hh;refine Al<|HF<|Al<|Al<|wpAny_loadPart hx<|Al<|PySem.W.Looks.here (s:={s with toks:=s.toks+1}) (PySem.W.looks_clsIn X hc) ?_
 rw[hd'];obtain⟨hp',g,d,t,os⟩:=s;refine Al<|wpAny_alloc' ?_
 have hxl:x<hp'.objs.size:=Ik hx;have hx1:(hp'.push {cls:=.type "dict",data:=.dict #[]}).get? x=Dn ⟨.ref C,Go,.fields fs,sl⟩:=Iw _ hx;have hD:(hp'.push {cls:=.type "dict",data:=.dict #[]}).get? hp'.objs.size=Dn {cls:=.type "dict",data:=.dict #[]}:=Kh _ rfl;refine Al<|wpAny_update' hx1 ?_
 refine HF ?_;show Bb _ _ (Builtin.ObjectAttr.storeInDict hp'.objs.size (Value.str name t) name v) _ _ _;have hne:hp'.objs.size≠x:=R9 hxl;generalize eh:(hp'.push {cls:=.type "dict",data:=.dict #[]}).update x (λo=>{o with dict:=Dn hp'.objs.size})=hu;have hX:hu.get? x=Dn ⟨.ref C,Dn hp'.objs.size,.fields fs,sl⟩:=by rw[<-eh];exact Qs _ hx1 rfl
 have hN:hu.Ns1 hp'.objs.size (λ_=>Go):=by
  refine⟨{cls:=.type "dict",data:=.dict #[]},#[],_,?_,rfl,(λe he=>absurd he<|by simp),?_,λ_=>rfl⟩;rw[<-eh,Qu _ _ (Jc hne)];exact hD;unfold UniqKeys;simp
 have kp:∀b o,b≠x->hp'.get? b=Dn o->hu.get? b=Dn o:=λb o hb e=>by rw[<-eh,Qu _ _ (Jc hb)];exact Iw _ e
 refine Al<|HF<|Al ?_
 refine wpAny_nsSet1 (s:=⟨hu,g,d,t+1,os⟩) hN λh' hn2 hs2=>?_;obtain⟨oD,esD,epD,hoD,hdD,hcD⟩:=hn2.count (PySem.Within.cons name v (show PySem.Within (λ_=>Go) []from λ_ z=>absurd rfl z));refine Al<|wpAny_lookBehind hoD (by rw[hdD];exact pastItsLine_dict (Ja hcD<|by simp[Wu])) ?_
 exact HF (h h' ((hs2.2 x (Jc hne)).trans hX) hn2 λb o hb e=>by
  by_cases hbd:b=hp'.objs.size
  rw[hbd]at e;exact absurd (Ik e) (Qf _);exact(hs2.2 b hbd).trans (kp b o hb e))
end
section
variable {prog:HN}{w:HI}{A:Hh}{E:JI->AP->Prop}{s:AP}{K:Ax}{x:Addr}{ox:Obj}
theorem ain {Q od name v}{expr}(X:K.In s.heap)(I:Xj s.heap x ox D od)(hga:Oh K (.ref D) "__getattribute__" = Dn (Dn (.builtin "BaseException.__getattribute__")))(hk:Oh K (.ref D) "__getattr__" = Dn Go)
  (hf:PySem.W.findObj K D od name=Dn (.value v)) (hh:PySem.W.handedIn v=true) (hB:Qo K D (.type "BaseException")=Dn true)
  (h:Q v {s with toks:=s.toks+1}):Bb (CG prog w) A (getAttr (.ref x) name expr) Q E s:=by
 obtain⟨hp,g,d,t,os⟩:=s;have L0:=I.type (M:=CG prog w);have L1:=Yk (M:=CG prog w) X hga;have L2:=Yk (M:=CG prog w) X hk;have L3:=PySem.W.looks_find (M:=CG prog w) X I hf;have L4:=YF (M:=CG prog w) X hB;unfold getAttr getAttrBy;refine Al<|wpAny_mkText<|N6<|Al<|PySem.W.Looks.at L0<|Al<|PySem.W.Looks.at L1 ?_
 show Bb _ _ (if(onTheHeap (Value.ref D)&&(Value.builtin "BaseException.__getattribute__"==Value.builtin "object.__getattribute__"))=true then _ else getAttrByItsOwn _ _ _ _ _ _) _ _ _;have hx2:(Value.builtin "BaseException.__getattribute__"==Value.builtin "object.__getattribute__")=false:=by decide +kernel
 rw[hx2,Wo,if_neg QL];unfold getAttrByItsOwn;refine Al<|show Bb _ _ (Wn (Value.ref D) "__getattr__") _ _ _ from PySem.W.Looks.at L2 ?_
 refine Al<|VF<|N6 ?_
 unfold callGetattribute;rw[show onTheHeap (Value.builtin "BaseException.__getattribute__")=false from rfl,Wo,if_neg QL];unfold boundAndCalled;rw[Z1.ga.bind (.ref x)];refine Al<|HF ?_
 dsimp only;refine Vx<|YD Z1.ga.plain F.entry_bexc_ga ?_
 have hk:builtinKind "BaseException.__getattribute__" = Dn .slot:=by decide +kernel
 have hsplit:splitId "BaseException.__getattribute__" = Dn ("BaseException", "__getattribute__"):=by decide +kernel
 have ha:=F.args_bexc_ga (.ref x) (.str name t);simp only[checkBuiltinCall,hk,hsplit];show Bb (CG prog w) A.in1 (Wj (Value.ref x) (Value.type "BaseException") >>= _) _ _ _;refine Al ?_;unfold Wj;refine Al<|PySem.W.Looks.at L0<|PySem.W.Looks.at L4 ?_
 rw[if_neg (by decide)];change Bb (CG prog w) A.in1 (match Manifest.signature? "BaseException.__getattribute__" with
  | some sig=>Bind.checkArgs "BaseException.__getattribute__" sig ⟨[Value.ref x,Value.str name t],[]⟩
  | x=>pure ()) _ _ _
 repeat(any_goals(first|assumption|(with_reducible refine Xa I.at_ ?_;rw[I.cls])|with_reducible refine PySem.W.Looks.at L3 ?_|wp_step))
 show Bb _ _ (handedOut v) _ _ _;rw[PySem.W.handedOut_of hh];exact HF h
end
section
variable {prog:HN}{w:HI}{A:Hh}{E:JI->AP->Prop}{h:Heap}{g:Array GenState}{d:Drawn}{t:Nat}{os:OsState}
variable {q:Str}{C N:Addr}{bs bmB:List JI}{hdct:Bool}{sn:List Str}{sub:List JI}{ab:Bool}{col:Option Bool}{dd:Option Addr}{k0 k1 k2 k3 k5:Option JI}{B initId:String}{K:Ax}{f:Addr}
abbrev Qj (C:Addr)(a:Addr):Obj:={cls:=.ref C,data:=.fields #[.ref a,.none,.none,.none,.bool false,.none]}
theorem sJ (F:ExcBaseFacts B newId initId bmB)(T:OwnTail h bmB bm){mN rest}{Q}(X:K.In h)(hfn:YK K (.ref f)=Dn (.type "function"))
  (c0:h.get? C=Dn (Ws nm q C N bs bm hdct sn sub ab col dd k0 k1 k2 k3 k5 newId)) (n0:h.Ns N mN) (hi:mN "__init__" = Dn (.ref f))
  (hq:Bb (CG prog w) A (call (.ref f) (.ref (h.objs.size+1)::rest)) (λr s'=>r=.none/\Q (.done (.ret (.ref (h.objs.size+1)))) s') E ⟨(h.push {cls:=.type "tuple",data:=.seq rest.toArray}).push (Qj C h.objs.size),g,d,t,os⟩) (few:rest.length<=Il) :
  Bb (CG prog w) A (WM.«type.__call__» ⟨.ref C::rest,[]⟩) Q E ⟨h,g,d,t,os⟩:=by
 have up:∀b o,h.get? b=Dn o->((h.push {cls:=.type "tuple",data:=.seq rest.toArray}).push (Qj C h.objs.size)).get? b=Dn o:=λb o z=>Iw _ (Iw _ z)
 have c1:=up _ _ c0;have n1:=n0.keeps up;have T1:=T.keeps up;have X1:K.In ((h.push {cls:=.type "tuple",data:=.seq rest.toArray}).push (Qj C h.objs.size)):=λa o z=>up a o (X a o z)
 have self:((h.push {cls:=.type "tuple",data:=.seq rest.toArray}).push (Qj C h.objs.size)).get? (h.objs.size+1)=Dn (Qj C h.objs.size):=by heap_get
 have own:(Value.ref C::bm).contains (.ref C)=true:=by rw[List.contains_cons];simp
 repeat(first|wp_step|(with_reducible refine wpAny_madeBy_exc c0 ?_)|(with_reducible refine Xa c0 ?_))
 refine codeAny_call_builtin_code (Y7 _ F.quiet)<|wpAny_check_new_subT F T c0<|codeAny_exc_new_subT F T c0 ?_ few
 show Bb _ _ _ _ _ _;unfold Wj;repeat(first|wp_step|(with_reducible refine Xa self ?_)|(with_reducible refine wpAny_isSubtype_exc c1 ?_;rw[own]))
 refine(show Bb _ _ (Wn (.ref C) _) _ _ _ from wpAny_typeLookup_tail c1 n1 T1 F.mroIs F.init.lookup ?_);rw[hi];refine N6<|Al<|PySem.W.Looks.here (s:=⟨_,g,d,t,os⟩) (PySem.W.bind_fn X1 (.ref<|h.objs.size+1) hfn) ?_
 refine Al<|KY hq (λr s' z=>?_) λ_ _ z=>z
 rw[z.1];exact HF<|show Bb _ _ (ret<|Value.ref<|h.objs.size+1) _ _ _ from HF z.2
theorem wW (F:ExcBaseFacts B newId initId bmB)(T:OwnTail h bmB bm){mN rest}{Q}(X:K.In h)(hfn:YK K (.ref f)=Dn (.type "function"))
  (c0:h.get? C=Dn (Ws nm q C N bs bm hdct sn sub ab col dd k0 k1 k2 k3 k5 newId)) (n0:h.Ns N mN) (hi:mN "__init__" = Dn (.ref f))
  (hq:Bb (CG prog w) (A.under (.builtin "type.__call__" ⟨.ref C::rest,[]⟩)) (call (.ref f) (.ref (h.objs.size+1)::rest)) (λr s'=>r=.none/\Q (.ref (h.objs.size+1)) s') E ⟨(h.push {cls:=.type "tuple",data:=.seq rest.toArray}).push (Qj C h.objs.size),g,d,t,os⟩) (few:rest.length<=Il) :
  Bb (CG prog w) A (call (.ref C) rest) Q E ⟨h,g,d,t,os⟩:=by
 have y1:Shared.TypeIs ⟨h,g,d,t,os⟩ (.ref C) "type":=⟨_,c0,rfl⟩
 have y2:=tc_bind (.ref C);have y3:=tc_lookup;refine Vx<|codeAny_of_tree<|show Bb _ _ (callAny (.ref C) _) _ _ _ from ?_
 repeat(any_goals(first|(with_reducible refine Xa c0 ?_)|assumption|wp_step))
 exact⟨rfl,codeAny_call_builtin_at (Y7 _<|by decide +kernel) entry_typeCall<|wpAny_check_type_call_sub c0<|sJ F T X hfn c0 n0 hi hq few⟩
end
variable {hdct:Bool}{sn:List Str}{sub:List JI}{dd:Option Addr}{col:Option Bool}{mN:Str->Option JI}{initId:String}
section
variable {prog:HN}{w:HI}{M:Model}{A:Hh}{E:JI->AP->Prop}{s:AP}{env:Env}{K:Ax}{f:Addr}
variable {q:Str}{C N:Addr}{bs bmB:List JI}{ab:Bool}{k0 k1 k2 k3 k5:Option JI}{B:String}
def QtE (A:Hh)(h:Heap)(e:Addr):Prop:=∀v,A.handled=Dn v->∃a l,v=.ref a/\Ho h l v/\e∉l
theorem Qg.heapL {P w H}{h v}(c:Qg H v)(x:Kv P w H h):∃l,Ho h l v/\∀a∈l,H a≠Go:=by
 induction c with
 | nil=>exact⟨[],.nil,λa ha=>absurd ha (by simp)⟩
 | @cons c o u vs z h1 h2 h3 _ ih=>
  obtain⟨l,t,k⟩:=ih;refine⟨_,.cons (x _ _ h1).1 h2 h3 t,λa ha=>?_⟩;rcases K5.mp ha with rfl|ha
  rw[h1];exact λq=>nomatch q
  exact k a ha
theorem Quiet.qte {A P w H}{h e}(q:Quiet A H)(x:Kv P w H h)(he:H e=Go):QtE A h e:=λv z=>by
 obtain⟨⟨a,h1⟩,c⟩:=q v z;obtain⟨l,t,k⟩:=c.heapL x;exact⟨a,l,h1,t,λy=>k e y he⟩
theorem zan {α oe}{ws e}{Q}(hq:QtE A s.heap e)(he:s.heap.get? e=Dn oe)(hd:oe.data=.fields ws)(hz:2<ws.size)
  (h:∀h',(∀b,b≠e->h'.get? b=s.heap.get? b)->(∃o',h'.get? e=Dn o'/\o'.cls=oe.cls/\o'.dict=oe.dict/\((A.handled=Go/\h'=s.heap)\/∃v,A.handled=Dn v/\o'.data=.fields (ws.setIfInBounds 2 v)))->E (.ref e) {s with heap:=h'}):Bb (CG prog w) A (raiseNew (.ref e):Sem α) Q E s:=by
 refine Al<|wpAny_handled ?_
 cases hh:A.handled with
 | none=>
  exact Al<|HF<|Xe<|h _ (λ_ _=>rfl) ⟨oe,he,rfl,rfl,.inl ⟨hh,rfl⟩⟩
 | some v=>
  obtain⟨a,l,rfl,ch,nl⟩:=hq v hh;dsimp only;have ne:(Value.ref a != Value.ref e)=true:=by
   simp only[bne_iff_ne];intro q;exact nl<|Value.ref.inj q ▸ ((by cases ch with|cons=>simp))
  rw[if_pos ne];refine Al<|N6<|wpAny_runValue<|uh (Al<|Al<|wpAny_load he ?_) ch nl ⟨a,rfl⟩ _ false (λ_=>.refl) nofun
  rw[hd];dsimp only;rw[if_pos hz];refine wpAny_update he<|Xe ?_
  have hd3:=Rg hd (·.setIfInBounds 2 (Value.ref a));exact h _ (λb hb=>Qu _ _<|Jc hb) ⟨_,Qs _ he<|Vk hd3,YS _ _,by obtain⟨c0,d0,dt,sl⟩:=oe;cases hd;rfl,.inr ⟨_,hh,hd3⟩⟩
def Rsd (A:Hh)(C:Addr)(e:Addr)(t:Addr)(od:Option Addr)(h h':Heap):Prop:=(∀b,b≠e->h'.get? b=h.get? b)/\∃o',h'.get? e=Dn o'/\o'.cls=.ref C/\o'.dict=od/\((A.handled=Go/\h'=h)\/∃v,A.handled=Dn v/\o'.data=.fields (#[.ref t,.none,.none,.none,.bool false,.none].setIfInBounds 2 v))
theorem sO {x:Sem JI}{Q:Flow->AP->Prop}(hb:bm.contains (.type "BaseException")=true)
  (h:Bb (CG prog w) A x (λv s₁=>∃e t od,v=.ref e/\s₁.heap.get? C=Dn (Ws nm q C N bs bm hdct sn sub ab col dd k0 k1 k2 k3 k5 newId)/\s₁.heap.get? e=Dn {Qj C t with dict:=od}/\QtE A s₁.heap e /\
   ∀h',Rsd A C e t od s₁.heap h'->E (.ref e) {s₁ with heap:=h'}) E s):Bb (CG prog w) A (raiseStmt env (Dn x) Go) Q E s:=by
 have isB:(Value.ref C::bm).contains (.type "BaseException")=true:=by rw[List.contains_cons,hb];simp
 refine Al<|KY h (λv s₁ b=>?_) λ_ _ z=>z;obtain⟨e,t,od,ev,hC,he,hq,z⟩:=b
 subst ev;obtain⟨h1,g1,d1,t1,o1⟩:=s₁;repeat(first|wp_step|(with_reducible refine Xa he ?_)|(with_reducible refine Xa hC ?_)|(with_reducible refine wpAny_isSubtype_exc hC ?_;rw[isB]))
 exact zan hq he rfl (by simp) λh' a ⟨o',b1,b2,b3,b4⟩=>z h' ⟨a,o',b1,b2,b3,b4⟩
theorem zar (F:ExcBaseFacts B newId initId bmB){x}{amA pos}{args}{Q}
  (hb:bm.contains (.type "BaseException")=true) (hpl:(Ka amA (HJ args env)).any (·.1)=false) (hfn:YK K (.ref f)=Dn (.type "function")) (hi:mN "__init__" = Dn (.ref f))
  (h:Bb (CG prog w) A (eval (.Name x np) env) (λfv s₁=>fv=.ref C/\Bb (CG prog w) A (evalArgs (.ref C) true (Ka amA (HJ args env)) [])
   (λa s₂=>(a.kw=[]/\a.pos.length<=Il/\K.In s₂.heap)/\(s₂.heap.get? C=Dn (Ws nm q C N bs bm hdct sn sub ab col dd k0 k1 k2 k3 k5 newId)/\s₂.heap.Ns N mN/\OwnTail s₂.heap bmB bm) /\
    Bb (CG prog w) (A.under (.builtin "type.__call__" ⟨.ref C::a.pos,[]⟩)) (call (.ref f) (.ref (s₂.heap.objs.size+1)::a.pos)) (λr s₃=>r=.none/\∃od,s₃.heap.get? C=Dn (Ws nm q C N bs bm hdct sn sub ab col dd k0 k1 k2 k3 k5 newId)/\s₃.heap.get? (s₂.heap.objs.size+1)=Dn {Qj C s₂.heap.objs.size with dict:=od}/\QtE A s₃.heap (s₂.heap.objs.size+1)/\∀h',Rsd A C (s₂.heap.objs.size+1) s₂.heap.objs.size od s₃.heap h'->E (.ref (s₂.heap.objs.size+1)) {s₃ with heap:=h'}) E
     {s₂ with heap:=(s₂.heap.push {cls:=.type "tuple",data:=.seq a.pos.toArray}).push (Qj C s₂.heap.objs.size)}) E s₁) E s) :
  Bb (CG prog w) A (exec (.Raise (Dn (.Call (.Name x np) args [] amA)) Go pos) env) Q E s:=by
 refine Al<|Wa<|sO (nm:=nm) (q:=q) (C:=C) (N:=N) (bs:=bs) (hdct:=hdct) (sn:=sn) (sub:=sub) (ab:=ab) (col:=col) (dd:=dd) (k0:=k0) (k1:=k1) (k2:=k2) (k3:=k3) (k5:=k5) (newId:=newId) hb ?_
 refine Al<|KY (wpAny_Call_ofName<|KY h (λfv s₁ b=>?_) λ_ _ z=>z) (λv s₃ h₃=>Al<|Wa<|HF h₃) λ_ _ z=>z;obtain⟨ef,h₁⟩:=b
 subst ef;refine Al<|N6<|KY h₁ (λa s₂ ⟨⟨ek,few,X⟩,⟨hC,hn,T⟩,h₂⟩=>Al<|Wa ?_) λ_ _ z=>z
 obtain⟨ap,ak⟩:=a;cases ek;simp only[hpl];refine Al<|wpAny_keeperOf_exc hC<|Al<|wW F T X hfn hC hn hi (KY h₂ (λr s₃ hr=>⟨hr.1,?_⟩) λ_ _ z=>z) few
 obtain⟨_,od,z1,z2,z3⟩:=hr;exact Al<|N6<|wpAny_point<|HF ⟨_,_,od,rfl,z1,z2,z3⟩
end
theorem Zg {K}{h N}{m n v}(X:K.In h)(G:h.Ns N m)(e:K1 K N n=Dn (Dn v)):m n=Dn v:=by
 obtain⟨o,es,ep,ho,hd,_,hf⟩:=G;unfold K1 at e;split at e
 rename_i z;have y:=X _ _ z;rw[ho]at y;cases y;cases hd;split at e
 rename_i he;cases e;have:=hf n
 unfold nsFind findBy at this;simp_all
 simp_all
 cases e
def Ht (K:Ax)(C fi:Addr)(bmB:List JI)(newId:String):Bool:=match K.lookup C with
 | some ⟨.type "type",_,.cls cd,sl⟩=>(match cd.mro,sl.toList with
  | .ref C'::bm,[_,_,_,_,Dn (.builtin n),_]=>C'==C&&n==newId&&!cd.hasDel&&PySem.W.tailIn K bmB bm&&PySem.W.nsOkIn K cd.ns&&K1 K cd.ns "__init__"==Dn (Dn (.ref fi))
  | _,_=>false)
 | _=>false
variable {fi:Addr}
theorem alj {K}{h C}(X:K.In h)(q:Ht K C fi bm newId=true):
  ∃(tl:List JI) (N:Addr) (nm qn:Str) (bs:List JI) (hd:Bool) (sn:List Str) (sub:List JI) (ab:Bool) (col:Option Bool) (dd:Option Addr) (k0 k1 k2 k3 k5:Option JI) (mN:Str->Option JI),
   K.lookup C=Dn (Ws nm qn C N bs tl hd sn sub ab col dd k0 k1 k2 k3 k5 newId)/\h.Ns N mN/\mN "__init__" = Dn (.ref fi)/\OwnTail h bm tl:=by
 unfold Ht at q;split at q
 rename_i dd cd sl ho;split at q
 rename_i C' bm' k0 k1 k2 k3 n k5 hm hs;simp at q;obtain⟨⟨⟨⟨⟨rfl,rfl⟩,hdel⟩,ht⟩,hok⟩,hni⟩:=q;obtain⟨nm,bs,mro,ns,qn,hd,sn,sub,ab,col,del⟩:=cd;dsimp only at hm hdel hok hni;subst hm hdel;have hsl:sl=#[k0,k1,k2,k3,Dn (.builtin n),k5]:=by
  grind
 subst hsl;exact⟨bm',ns,nm,qn,bs,hd,sn,sub,ab,col,dd,k0,k1,k2,k3,k5,_,ho,.of_isNs<|PySem.W.isNs_of_in X hok,Zg X (.of_isNs<|PySem.W.isNs_of_in X hok) hni,PySem.W.tail_of_in X ht⟩;cases q;cases q
def exN (e C a:Addr):HO:=.ext λh=>h.get? e=Dn (Qj C a)
def exD (e C a dx:Addr):HO:=.ext λh=>h.get? e=Dn {Qj C a with dict:=Dn dx}
def adC (K:Ax)(C:Addr)(f:Str):Bool:=Oh K (.ref C) "__setattr__"==Dn (Dn (.builtin "object.__setattr__"))&&Xn K C&&Oh K (.ref C) f==Dn Go&&PySem.W.hasDictIn K C
def Z9 (C:Addr)(f:Str)(ta tv:TE):TS:=λD σ H=>tv σ H λy H1=>ta σ H1 λx H2=>∃e a,x=.ref e/\H2 e=Dn (exN e C a)/\∀dx,H2 dx=Go->dx≠e->D.nx σ (HW (HW H2 dx (.xd [(f,y)])) e (exD e C a dx))
section
variable {X:Cx}{o value:Expr}{f:Str}{C:Addr}{pos pos':Pos}{ta tv:TE}
theorem ajh (hx:adC X.K C f=true)(ha:PE X o ta)(hv:PE X value tv)(hs:Vv value (Dn (.Attribute o f pos')) pos.line X.env=pure false:=by rfl):PS X (.Assign [.Attribute o f pos'] value pos) (Z9 C f ta tv):=by
 unfold adC at hx;simp at hx;obtain⟨⟨⟨x1,x2⟩,x3⟩,x4⟩:=hx;intro amx s σ H D I h;refine plainObj_wpAny_Assign_Attribute (Hj (hv amx s σ H _ I h) λu s1 ⟨y,H1,I1,ry,q⟩=>Hj (ha amx s1 σ H1 _ I1 q) λov s2 c=>?_) hs;obtain⟨x,H2,I2,rx,e,a,ex,ee,q2⟩:=c;subst ex;obtain rfl:ov=Value.ref e:=rx;have ho:=(I2.hok e _ ee).1;have ne:=R9 (Ik ho);refine zbV I2.kIn ho x1 x2 x3 x4 λh' hX hN kp=>⟨σ,_,?_,q2 _ (I2.hok.fresh<|IK _) ne⟩;have m2:∀b,b≠e->(h'.update e λ_=>Qj C a).get? b=h'.get? b:=λb hb=>Qu _ _ (Jc hb)
 have Ia:Aq X amx σ (HW H2 s2.heap.objs.size (.xd [(f,y)])) {s2 with heap:=h'.update e λ_=>Qj C a,toks:=s2.toks+2}:=by
  refine I2.laid (λb z hz=>?_) (IK _) ⟨_,hN.at<|λod z=>m2 _ ne ▸ z,λg=>?_⟩;by_cases hb:b=e
  subst hb;rw[ho]at hz;rw[(Qs _ hX rfl)];exact hz;rw[m2 b hb];exact kp b z hb hz;rw[W0];by_cases hg:g=f
  subst hg;rw[if_pos rfl,beq_self_eq_true];exact ry;rw[if_neg hg,show(g==f)=false from by simpa using hg];trivial
 exact Ia.write (by rw[aL<|Jc ne,ee];exact True.intro) (.inl rfl) (λb z hb hz=>m2 b hb ▸ hz) ⟨_,hX⟩ ⟨hX,⟨_,hX⟩,λh1 h2 z k=>k _ z⟩
end
def spI (C:Addr)(f:Str):Sp:=λvs H Q _=>∃e a v,vs=[.ref e,v]/\H e=Dn (exN e C a)/\∀dx,H dx=Go->dx≠e->Q .non (HW (HW H dx (.xd [(f,v)])) e (exD e C a dx))
theorem ajR {P:HN}{w:HI}{K:Ax}{mg:Str->Option JI}{base:Heap}{x qual:Str}{st:Stmt}{fd:Ms}{n1 n2 f:Str}{C:Addr}{k:Nat}(F:Sg K x qual st fi fd)(S:fW [n1,n2] [n1,n2] (bw st))
  (hb:∀(cdv:JI) (A:Hh) (outer:List Env) (s:AP) (H:Hp) (E:XK),gq k (A.deeper (RG qual (bw st) s.heap.objs.size fi cdv)) ->
   QC (Ji O9 P w K mg base [n1,n2] qual (bw st) fi cdv A outer s H E).nox (dG st) (Z9 C f (ac1 0) (ac1 1))):jB P w K mg base O9 (k+1) fi fd [n1,n2] (spI C f):=by
 refine F.ok S (λvs H Q E c=>by obtain⟨e,a,v,ev,_⟩:=c;rw[ev];rfl) λcdv A outer s H vs Q E hr b=>?_;obtain⟨e,a,v,ev,he,q⟩:=b;subst ev;exact⟨_,hb cdv A outer s H E hr,v,rfl,.ref e,rfl,e,a,rfl,he,q⟩
def forget (H:Hp)(e:Addr):Hp:=λb=>if b=e then Go else H b
theorem iB {H}{e}:forget H e e=Go:=by unfold forget;rw[if_pos rfl]
theorem cF {H}{e b}(h:b≠e):forget H e b=H b:=by unfold forget;rw[if_neg h]
section
variable {X:Cx}{amx:List (Addr×Obj)}{σ:St}{H:Hp}{s:AP}{e:Addr}
theorem Aq.forget {φ}{σ0:St}{H0 t0}(I:Aq X amx σ H s)(he:H e=Dn (.ext φ))(I0:Aq X amx σ0 H0 t0)(h0:H0 e=Go)(s0:X.s₀.heap.get? e=Go):Aq X amx σ (L2.forget H e) s:=by
 have n0:∀b u,H0 b=Dn u->b≠e:=λb u z y=>by rw[y,h0]at z;cases z
 refine⟨I.ok,I.os,I.bare,⟨I.base.keep,I.base.slot,λb ob z y hx=>?_,I.base.there,λb xs z=>?_,λb ob v z=>?_,λb ps z=>?_⟩,I.loc,I.cell,?_,λx c z=>?_,λp hp=>?_,λb v z=>?_,I.len⟩;rw[cF ((λb ob z y=>by rw[y,s0]at z;cases z) b ob z)];exact I.base.free b ob z y hx;rw[cF (n0 b _ (I0.base.tups b xs z))];exact I.base.tups b xs z;rw[cF (n0 b _ (I0.base.frzs b ob v z))];exact I.base.frzs b ob v z;obtain⟨_,q⟩:=I0.base.tbls b ps z;rw[cF (n0 b _ q)];exact I.base.tbls b ps z;by_cases hb:X.env.locals=e
 rw[hb];exact iB;rw[cF hb];exact I.free;by_cases hb:c=e
 rw[hb];exact iB;rw[cF hb];exact I.freeC x c z;obtain⟨h1,h3,h4⟩:=I.pin p hp;refine⟨h1,?_,h4⟩;by_cases hb:p.1=e
 simp_all
 rw[cF hb];exact h3;by_cases hb:b=e
 rw[hb,iB]at z;cases z;rw[cF hb]at z;exact(I.hok b v z).stay (λ_ _ _ q=>q) (λc q=>by rw[cF (λy=>by rw[y,he]at q;cases q)];exact q) λc xs q=>by rw[cF (λy=>by rw[y,he]at q;cases q)];exact q
end
section
variable {X:Cx}{amx:List (Addr×Obj)}{σ:St}{H:Hp}{s:AP}{C:Addr}{x f:Str}{amA pos:Pos}{e:Expr}{t:TA}{k:Nat}{fd:Ms}{ps:List Str}
theorem zaM {Q}{R:V->Hp->Prop}(hn:acy X)(hex:X.ex=[])(hg:Gl X x)(hm:X.mg x=Dn (.ref C))(hq:Ht X.K C fi NT "ValueError.__new__" = true)(hfn:Xr X.K (.ref fi)=true)
  (Fi:jB X.prog X.w X.K X.mg X.base O9 k fi fd ps (spI C f)) (hr:gq (k+1) X.A) (hb:Binds X.K fd ps []) (ha:PA X [e] t) (I:Aq X amx σ H s) (h:t σ H λvs H1=>∃v,vs=[v]/\R v H1)
  (hx:∀a dx H1 s' v,FX X amx σ (HW H1 dx (.xd [(f,v)])) s' a C (Dn dx)->H1 dx=Go->R v H1->X.xe (.ref a) s')
  (hdb:(x==("__debug__" : Str))=false:=by decide) (he:HJ [e] X.env=(false,eval e X.env)::HJ [] X.env:=by rfl) :
  Bb (CG X.prog X.w) X.A (exec (.Raise (Dn (.Call (.Name x np) [e] [] amA)) Go pos) X.env) Q X.xe s:=by
 obtain⟨tl,N,nm,qn,bs,hd,sn,sub,ab,col,dd,k0,k1,k2,k3,k5,mN,hC,hN,hni,T⟩:=alj I.mod.kin hq;refine zar (K:=X.K) (f:=fi) (C:=C) (nm:=nm) (q:=qn) (N:=N) (bs:=bs) (bm:=tl) (hdct:=hd) (sn:=sn) (sub:=sub) (ab:=ab) (col:=col) (dd:=dd) (k0:=k0) (k1:=k1) (k2:=k2) (k3:=k3) (k5:=k5)
  Z0 (mN:=mN) (T.hasType Z0.hasBase) (by rw[he];rfl) (beq_iff_eq.mp hfn) hni (j9 I hg hm ⟨rfl,?_⟩ hdb)
 have g:=ha amA amx s σ H _ I h;rw[he]at g|-
 refine Calls.evalArgs_plain<|Hj g λus s2 d=>?_;obtain⟨vs,H2,I2,r,v,ev,kk⟩:=d
 subst ev;obtain⟨u,rfl,ru⟩:=vals1 r;refine⟨⟨rfl,by simp[Wu],I2.kIn⟩,⟨I2.kIn _ _ hC,hN.keeps I2.bk,T.keeps I2.bk⟩,?_⟩;have self:=by
  have:=Kh (s2.heap.push {cls:=.type "tuple",data:=.seq [u].toArray}) (o:=Qj C s2.heap.objs.size) rfl
  rwa[S7]at this
 have nw:=I2.newOf (b:=s2.heap.objs.size+1) (Yc (Wc _));have I3:Aq X amx σ (HW H2 (s2.heap.objs.size+1) (exN (s2.heap.objs.size+1) C s2.heap.objs.size)) {s2 with heap:=(s2.heap.push {cls:=.type "tuple",data:=.seq [u].toArray}).push (Qj C s2.heap.objs.size),toks:=s2.toks}:=
  I2.laid (λb z hz=>Iw _ (Iw _ hz)) (Wc _) ⟨self,⟨_,self⟩,λh1 h2 z q=>q _ z⟩
 have sp:spI C f [.ref (s2.heap.objs.size+1),v] _ (λr H4=>r=.non/\∃dx,H2 dx=Go/\dx≠s2.heap.objs.size+1/\H4=HW (HW _ dx (.xd [(f,v)])) (s2.heap.objs.size+1) (exD (s2.heap.objs.size+1) C s2.heap.objs.size dx)) E0:=
  ⟨_,_,v,rfl,aV,λdx h1 h2=>⟨rfl,dx,by rw[aL h2]at h1;exact h1,h2,rfl⟩⟩
 have r2:Cq [V.ref (s2.heap.objs.size+1),v] [Value.ref (s2.heap.objs.size+1),u]:=.cons rfl (.cons ru .nil);refine Vx<|Td (Fi.run _ X.stack _ _ ⟨[Value.ref<|s2.heap.objs.size+1,u],[]⟩ [Value.ref<|s2.heap.objs.size+1,u] _ _ E0 (hr.make C [u] []) (I3.env0.make C [u] []) (hb _ [Value.ref<|s2.heap.objs.size+1,u] I3.kIn (by rw[<-Fi.len _ _ _ _ sp];rfl)) r2 sp) λr s' hq'=>?_
 cases r with
 | error ev=>exact XM amx σ _ _ ev s' I3 hq'
 | ok fl=>
  cases fl with
  | ret uv=>
   obtain⟨v',H',I4,rv,ev,dx,h1,h2,eH⟩:=I3.after hq';subst ev eH;have he4:=(I4.hok (s2.heap.objs.size+1) _ aV).1;have s0:X.s₀.heap.get? (s2.heap.objs.size+1)=Go:=by
    rcases nw.s with q|q
    rw[hex]at q;cases q;exact q
   have I5:=I4.forget aV I2 nw.h s0;have eF:forget (HW (HW (HW H2 (s2.heap.objs.size+1) (exN (s2.heap.objs.size+1) C s2.heap.objs.size)) dx (.xd [(f,v)])) (s2.heap.objs.size+1) (exD (s2.heap.objs.size+1) C s2.heap.objs.size dx)) (s2.heap.objs.size+1)=HW H2 dx (.xd [(f,v)]):=by
    funext b;by_cases hbe:b=s2.heap.objs.size+1
    rw[hbe,iB,aL (Jc h2)];exact nw.h.symm;rw[cF hbe,aL hbe];by_cases hbd:b=dx
    rw[hbd,aV,aV];rw[aL hbd,aL hbd,aL hbe]
   rw[eF]at I5;have ne5:HW H2 dx (.xd [(f,v)]) (s2.heap.objs.size+1)=Go:=by rw[aL (Jc h2)];exact nw.h
   have n5:New X amx (HW H2 dx (.xd [(f,v)])) (s2.heap.objs.size+1):=⟨ne5,nw.s,nw.l,nw.c,nw.p,nw.f⟩
   refine⟨rv,Dn dx,I4.kIn _ _ hC,he4,Quiet.qte (A:=X.A) I5.qt0 I5.hok ne5,λh' i=>?_⟩;obtain⟨rs,o',b1,b2,b3,b4⟩:=i;have st:Rp (New X amx (HW H2 dx (.xd [(f,v)]))) (frs X.stack) s'.heap h':=by
    have nn:∀b,¬New X amx (HW H2 dx (.xd [(f,v)])) b->b≠s2.heap.objs.size+1:=λb q z=>q (by rw[z];exact n5)
    refine⟨λb o q _ z=>(rs b<|nn b q).trans z,λb o q z=>⟨o.slots,(rs b<|nn b q).trans z⟩,λb o z=>?_⟩;by_cases hb:b=s2.heap.objs.size+1
    rw[hb];exact⟨o',b1⟩;exact⟨o,(rs b hb).trans z⟩
   refine hx _ dx H2 _ v ⟨I5.stp st,n5,o',?_⟩ h1 kk;rcases b4 with⟨_,rfl⟩|⟨y,hy,hd'⟩
   rw[he4]at b1;cases b1;exact⟨_,he4,rfl,rfl,rfl,by simp,⟨.none,rfl,.nil⟩,.inl rfl⟩;exact⟨_,b1,b2,b3,hd',by simp,⟨y,by simp,(hn y hy).mono (λ_ q=>q) I5.base.frzs⟩,.inl<|by simp⟩
  | next=>exact Qy hq'
  | brk=>exact Qy hq'
  | cont=>exact Qy hq'
end
def CN (x f:Str)(ma:ME)(E:Ce):MS:=λ_ σ h=>ma σ h λw h1=>E ⟨x,[(f,w)]⟩ h1
section
variable {X:Cx}{e:Expr}{pos:Pos}
theorem zas {C}{x f amA k fd}{ps}(hn:acy X)(hex:X.ex=[])(hg:Gl X x)(hm:X.mg x=Dn (.ref C))(hq:Ht X.K C fi NT "ValueError.__new__" = true)(hfn:Xr X.K (.ref fi)=true)
  (Fi:jB X.prog X.w X.K X.mg X.base O9 k fi fd ps (spI C f)) (hr:gq (k+1) X.A) (hb:Binds X.K fd ps []) (hx:U8 X.K C x=true) (hf:Dj x=[f]) (ha:DE X e ma) (hdb:(x==("__debug__" : Str))=false:=by decide) (he:HJ [e] X.env=(false,eval e X.env)::HJ [] X.env:=by rfl) :
  V4 X Γ (.Raise (Dn (.Call (.Name x np) [e] [] amA)) Go pos) (λE=>CN x f ma E):=by
 rintro amx s σ H D I ⟨g,μ,h,σw,Dw,E,R,S,m,k,kx⟩;have hxc:=by
  have:=hx
  unfold U8 at this;simp at this;exact this.1.1
 refine zaM (R:=λv H1=>∃μ1 w h1,J4 X.K H μ H1 μ1/\HS X.K μ1 H1 h1/\CR X.K H1 μ1 w v/\E ⟨x,[(f,w)]⟩ h1) hn hex hg hm hq hfn Fi hr hb (fX ha d8 he) I ⟨μ,h,σw,λws h1=>∃w,ws=[w]/\E ⟨x,[(f,w)]⟩ h1,R,S,?_,λvs H' ⟨μ1,ws,h1,e1,R1,r1,w,ew,m1⟩=>?_⟩ (λa dx H1 s' v F hdx ⟨μ1,w,h1,e1,R1,r1,m1⟩=>?_) hdb he;exact(show ma σw h λw h1=>aG σw h1 λws h2=>∃w',(w::ws)=[w']/\E ⟨x,[(f,w')]⟩ h2 from by
  have:(λw h1=>E ⟨x,[(f,w)]⟩ h1)=(λ(w:W) (h1:Gh)=>aG σw h1 λws h2=>∃w',(w::ws)=[w']/\E ⟨x,[(f,w')]⟩ h2):=by
   funext w h1;apply propext;constructor;exact λz=>⟨w,rfl,z⟩;rintro⟨w',ew,z⟩;simp_all
  exact this ▸ m)
 subst ew;obtain⟨v,vr,ev,rv,r0⟩:=r1;subst r0;grind
 have ex:J4 X.K H1 μ1 (HW H1 dx (.xd [(f,v)])) μ1:=(Ex.laid hdx).ext;refine kx _ s' ⟨a,C,x,Dn dx,[(f,w)],amx,σ,_,μ1,h1,rfl,F,hxc,g,e1.trans ex,R1.laid hdx,.inr ⟨dx,[w],[v],rfl,hx,by rw[hf];rfl,by rw[hf];rfl,by rw[hf];rfl,?_,aY.one<|ex.r _ _ r1⟩,m1⟩;exact hf ▸ aV
end
def Y8 (f:Str)(ma:ME):ME:=fun σ h Q=>ma σ h λw h1=>match w with
 | .exa n ws=>(match((Dj n).zip ws).lookup f with
  | some v=>Q v h1
  | none=>False)
 | _=>False
theorem tQ {K H μ}{f v}:∀{ns:List Str}{ws xs},aY K H μ ws xs->(ns.zip ws).lookup f=Dn v->∃x,(ns.zip xs).lookup f=Dn x/\CR K H μ v x
 | n::ns,w::ws,xs,r,e=>by
  obtain⟨u,us,rfl,ru,r⟩:=r;rw[List.zip_cons_cons,W0]at e|-
  cases q:f==n with
  | true=>rw[q]at e;cases e;exact⟨u,rfl,ru⟩
  | false=>rw[q]at e;exact tQ r e
theorem N8 {f}{v:W}:∀{ns:List Str}{ws},(ns.zip ws).lookup f=Dn v->f∈ns
 | n::ns,w::ws,e=>by
  rw[List.zip_cons_cons,W0]at e;cases q:f==n with
  | true=>rw[beq_iff_eq.mp q];exact RM ..
  | false=>rw[q]at e;exact Qp _ (N8 e)
section
variable {X:Cx}{e:Expr}{f:Str}{pos:Pos}
theorem aa4 (ha:DE X e ma)(hb:X7 e f X.env (eval e X.env)=eval e X.env:=by rfl):DE X (.Attribute e f pos) (Y8 f ma):=by
 rintro amx s σ H Q I ⟨μ,h,σw,Qw,R,S,m,q⟩;refine akN hb<|Hj (ha amx s σ H _ I ⟨μ,h,σw,_,R,S,m,λ_ _ z=>z⟩) λu s1 a=>?_;obtain⟨x,H1,I1,rx,μ1,w,h1,e1,R1,r1,m1⟩:=a
 cases w with
 | exa n ws=>
  dsimp only at m1;split at m1
  rename_i v el;obtain⟨p,o,uu,dd,ns,xs,ev,hp,⟨C,hcl,hdi,hnc,hxa⟩,hdd,en,hln,rs⟩:=r1;subst ev en;obtain rfl:u=Value.ref p:=rx;obtain⟨y,ey,ry⟩:=tQ rs el;obtain⟨mA,hns,hrel⟩:=(I1.hok dd _ hdd)
  have ry2:=hrel f;rw[ey]at ry2;cases qm:mA f with
  | none=>rw[qm]at ry2;cases ry2
  | some uv=>
   rw[qm]at ry2;obtain⟨od,hod,hl⟩:=ahp hns;unfold U8 at hxa;simp at hxa;obtain⟨⟨hxc,hhd⟩,hall⟩:=hxa;obtain⟨_,⟨cd,Rr,hc,hmm,_⟩,hg,hg',_⟩:=Oz hxc;have hB:Qo X.K C (.type "BaseException")=Dn true:=by
    unfold Qo;rw[hc,W2,hmm];rfl
   exact ain I1.kIn ⟨(I1.hok p _ hp).1,hcl,hnc,by rwa[hdi]⟩ hg hg' (PySem.W.findObj_own hhd (hall f<|N8 el) rfl<|by rw[hl,qm]) (ahE ry2) hB ⟨y,H1,I1.tok _,ry2,q _ _ ⟨μ1,v,h1,e1,R1,ry,m1⟩⟩
  cases m1
 | _=>cases m1
end
section
variable {X:Cx}
end
section
variable {X:Cx}{tg:Expr}
theorem akp {iter}{body g}{mb0 pos}(hp:Yb (CG X.prog X.w) X.A X.env X.xe)(hc:X.calm=true)(hΓ:∀σ,Γ σ)(hi:RX X tg iter mi)(hg:DG X tg g)(hb:Jk X Γ body mb0)
  (hs:∀x,W3 iter X.env x=pure x:=by intro _;rfl):V4 X Γ (.For tg iter body [] pos) (λE=>vg mi g (mb0 E)):=(Tw hp hc hi hg hb hs).of λD σ H a=>by
 obtain⟨_,μ,h,σw,Dw,E,R,S,m,k,kx⟩:=a;refine⟨μ,h,σw,_,R,S,m,λJ H1 ⟨μ1,src,h1,e1,R1,ok,m1⟩=>⟨λi n σ' H'=>n=src.ws.length-i/\i<=src.ws.length/\DN _ H1 μ1 (fC src g _ Dw<|src.ws.drop i) σ' H',⟨src.ws.length,by simp,Rb _,μ1,σw,h1,.refl,R1,S.ext e1,m1⟩,?_⟩⟩;rintro i n σ2 H2 ⟨hn,hle,μ2,σw2,h2,e2,R2,S2,m2⟩;by_cases hlt:i<src.ws.length
 rw[YZ hlt]at m2;obtain⟨ck,m2⟩:=Src.go_ok m2;obtain⟨hgo,hy⟩:=(ok e2 R2 ck).1 src.ws[i] (N5 hlt);refine .inr ⟨hgo,fun σ' H'=>DN _ H2 μ2 _ σ' H',fun σ' H' z=>⟨src.ws.length-(i+1),by lia,rfl,hlt,z.trans e2⟩,λx H3 y=>?_⟩;obtain⟨μ3,e3,R3,rx⟩:=hy x H3 y;refine⟨μ3,h2,σw2,src.ws[i],_,R3,S2.ext e3,rx,m2,fun σ4 H4 ⟨μ4,σw4,h4,e4,R4,S4,m4⟩=>?_⟩;have e24:=e3.trans e4;have e14:=(e1.trans e2).trans e24;exact⟨hΓ _,μ4,h4,σw4,_,E,R4,S4,m4,⟨fun σ' H' z=>z.trans e24,λv H' z=>k.rt _ _<|z.trans e14,fun σ' H' z=>k.nx _ _<|z.trans e14,fun σ' H' z=>z.trans e24⟩,λev s' z=>kx ev s'<|z.trans e14⟩;have ei:i=src.ws.length:=by lia
 subst ei;rw[List.drop_length]at m2;obtain⟨ck,m2⟩:=Src.go_ok m2;exact .inl ⟨(ok e2 R2 ck).2 (IK _),k.nx _ _ ⟨μ2,σw2,h2,e1.trans e2,R2,S2,m2⟩⟩
end
def Ite (K:Ax)(l:Addr):It:=
  ⟨λi H=>∃xs x,Jb K H l xs/\xs[i]?=Dn x,
   λi H v H'=>∃p x,H p=Go/\v=.ref p/\H'=HW H p (.tup [.int (i:Int),x])/\∀xs,Jb K H l xs->xs[i]?=Dn x,
   λi H=>∃xs,Jb K H l xs/\xs.length<=i,true⟩
def agk (e it l:Addr)(n:Nat)(h:Heap):Prop:=(∃old,IsEnum h e it (n:Int) old)/\h.IsListIter it l n
theorem zaD {P:HN}{w:HI}{K:Ax}{pos:Pos}{e it l:Addr}(ne:e≠it):Turn P w K (.Tuple elts kt pos) (Ite K l) [e,it] e (agk e it l) where
 mem:=by simp
 obj:=λi h st b hb=>by
  obtain⟨⟨old,ge⟩,o,gi,_,d⟩:=st;simp at hb;rcases hb with rfl|rfl
  exact⟨_,ge,nofun⟩;exact⟨o,gi,λv y=>by rw[d]at y;cases y⟩
 keep:=λi h h' st k=>⟨⟨_,k e (by simp) _ st.1.choose_spec⟩,st.2.at λo q=>k it (by simp) o q⟩
 item:=by
  intro X hP hw hK hc i amx s σ H E I hf st hg;subst hP hw hK;obtain⟨⟨old,ge⟩,gi⟩:=st;obtain⟨xs,x,hx,ex⟩:=hg;obtain⟨its,r,pl,hz⟩:=I.list hx;obtain⟨u,hu,ru⟩:=r.get ex;refine wpAny_pyNext_enum_item ge gi pl.isList (x:=u) (by simpa using hu) ne λh1 go gi1 T1 size1 all1=>⟨_,rfl,?_⟩;refine wpAny_letOwnedTupleGo_enum go λh2 ge2 sb=>?_;have I1:Aq X amx σ (HW H s.heap.objs.size (.tup [.int (i:Int),x])) {s with heap:=s.heap.push {cls:=.type "tuple",data:=.seq #[.int (i:Int) s.toks,u]},toks:=s.toks+1}:=
   I.laid (t':=s.toks+1) (λb o q=>Iw _ q) (IK _) ⟨(by show 2<=Il;decide),[.int (i:Int) s.toks,u],.cons ⟨_,rfl⟩ (.cons ru .nil),⟨_,Kh _ rfl,rfl,⟨_,rfl⟩,rfl⟩⟩
  have lt:∀b∈[e,it],s.heap.objs.size≠b:=λb hb=>by
   simp at hb;rcases hb with rfl|rfl
   exact(R9<|Ik ge);exact(by obtain⟨o,q,_⟩:=gi;exact R9 (Ik q))
  have hf1:∀b∈[e,it],Iu X amx (HW H s.heap.objs.size (.tup [.int (i:Int),x])) b:=λb hb=>⟨by rw[aL (Jc (lt b hb))];exact(hf b hb).1,(hf b hb).2⟩
  have I2:=by
   refine Aq.turnedL (h':=h2) (t':=s.toks+1) (ch:=[e,it]) I1 (λb o hb q=>?_) hf1;have be:b≠e:=λq=>hb (by simp[q])
   rcases Heap.get?_push_cases q with⟨rfl,rfl⟩|q'
   exact sb.extBut _ _ be T1;exact sb.extBut _ _ be<|all1 b o be (λq=>hb<|by simp[q]) q'
  refine⟨.ref s.heap.objs.size,_,I2,rfl,⟨s.heap.objs.size,x,(I.hok.fresh<|IK _),rfl,rfl,λxs' q=>by rw[I.list_inj q hx];exact ex⟩,?_,λb hb=>(hf1 b hb).1⟩;exact⟨⟨_,by rw[Int.natCast_add];exact ge2⟩,gi1.at λo q=>sb.extBut _ o (Jc ne) q⟩
 done:=by
  intro X hP hw hK hc i amx s σ H E I hf st hg;subst hP hw hK;obtain⟨⟨old,ge⟩,gi⟩:=st;obtain⟨xs,hx,hl⟩:=hg;obtain⟨its,r,pl,hz⟩:=I.list hx;have hn:=r.length;refine wpAny_pyNext_enum_end (I.ok.hd<|hc rfl) ge gi pl.isList (by simp;lia) λh1 eb=>⟨rfl,I.turnedL (t':=s.toks) (ch:=[e,it]) (λb o hb q=>eb b o (λz=>hb<|by simp[z]) q) hf⟩
 self:=λ_ _ _ _ _ st h=>wpAny_pyIter_enum st.1.choose_spec h
section
variable {X:Cx}{K:Ax}
def afe (K:Ax)(ta:TA):TI:=fun σ H R=>ta σ H λvs H1=>∃a xs,vs=[.ref a]/\Jb K H1 a xs/\R (Ite K a) H1
theorem ajK {ta}{p pos tpos}(hg:Gl X "enumerate")(hm:X.mg "enumerate" = Go)(ha:PA X [e1] ta)
  (hs:HJ [e1] X.env=(false,eval e1 X.env)::HJ [] X.env:=by rfl) (hpl:(Ka pos (HJ [] X.env)).any (·.1)=false:=by rfl) :
  PI X (.Tuple elts kt tpos) (.Call (.Name "enumerate" p) [e1] [] pos) (afe X.K ta):=by
 intro amx s σ H R I h;refine WD<|pB I hg hm boot_enumerate (Y9 (Hj (ha pos amx s σ H _ I h) λus s1 ⟨vs,H1,I1,r1,q1⟩=>?_) hs hpl) (by decide)<|by decide
 obtain⟨a,xs,ev,hx,q⟩:=q1;subst ev;obtain⟨u1,eu,ru1⟩:=vals1 r1;subst eu;cases ru1;obtain⟨its,r,pl,hz⟩:=I1.list hx;refine call_enumerate_list pl.isList λh' ge gi size all=>(wpAny_pyIter_enum ge ?_);generalize hn:s1.heap.objs.size=n at ge gi size|-
 refine⟨n+1,[n+1,n],_,_,H1,rfl,(I1.kept all),zaD<|kj<|show n+1≠n by lia,⟨⟨_,ge⟩,gi⟩,λc hc=>?_,q⟩;have hc':n<=c:=by
  grind
 exact I1.fpOk (hn ▸ hc')<|I1.hok.fresh<|hn ▸ hc'
def Rv:Nat->List W->List W
 | _,[]=>[]
 | i,a::as=>.tup [.int (i:Int),a]::Rv (i+1) as
theorem Cw:∀{as j i}{w:W},(Rv j as)[i]?=Dn w->∃a,as[i]?=Dn a/\w=.tup [.int ((j+i:Nat):Int),a]
 | a::as,j,0,w,e=>⟨a,rfl,(Lr e).symm⟩
 | a::as,j,i+1,w,e=>by
  obtain⟨x,h1,h2⟩:=Cw (by simpa[Rv]using e);grind
theorem Cm:∀{as:List W}{j:Nat},(Rv j as).length=as.length
 | [],_=>rfl
 | a::as,j=>by rw[Rv,Nq,Cm,Nq]
def enS (h:Gh)(x:W):Option Src:=match x with
 | .lst as=>Dn ⟨Rv 0 as,Go⟩
 | .kls as=>Dn ⟨Rv 0 as,Go⟩
 | .loc n=>(match h.c n with
  | some (.lst as)=>Dn ⟨Rv 0 as,Dn (n,as)⟩
  | _=>Go)
 | _=>Go
theorem aae {H h w v}{s}(R:HS K μ H h)(r:CR K H μ w v)(e:enS h w=Dn s):
  ∃a ws o,v=.ref a/\s=⟨Rv 0 ws,o⟩/\Src.chk ⟨ws,o⟩ h/\∀{H2 μ2 h2},J4 K H μ H2 μ2->HS K μ2 H2 h2->Src.chk ⟨ws,o⟩ h2->∃xs,Jb K H2 a xs/\aY K H2 μ2 ws xs:=by
 cases w with
 | lst us=>
  cases(e)
  have r0:=r;obtain⟨p,xs,ev,hs,rs⟩:=r;subst ev;refine⟨p,us,Go,rfl,rfl,trivial,λ{H2 μ2 h2} x _ _=>?_⟩;obtain⟨q,ys,ev,hs,rs⟩:=(x.r _ _ r0)
  cases ev;exact⟨ys,hs.sq,rs⟩
 | kls us=>
  cases e;have r0:=r;obtain⟨p,xs,ev,hs,rs⟩:=r;subst ev;refine⟨p,us,Go,rfl,rfl,trivial,λ{H2 μ2 h2} x _ _=>?_⟩;obtain⟨q,ys,ev,hs,rs⟩:=(x.r _ _ r0)
  cases ev;exact⟨ys,hs.sq,rs⟩
 | loc n=>
  have e:(match h.c n with
   | some (.lst as)=>Dn _
   | _=>Go)=Dn s:=e
  split at e
  rename_i as ec;cases e;have r0:=r;obtain⟨p,ev,hm⟩:=r;subst ev;refine⟨p,as,Dn _,rfl,rfl,ec,λ{H2 μ2 h2} x R2 ck=>?_⟩;obtain⟨q,eq,hm2⟩:=(x.r _ _ r0)
  cases eq;obtain⟨p',xs,hm',hx,rs⟩:=R2.lstAt ck;cases by rw[hm2]at hm';exact(Lr hm').symm
  exact⟨xs,.of hx,rs⟩;cases e
 | _=>cases e
def Xv (ma:MA):MI:=fun σ h R=>ma σ h λws h1=>match ws with
 | [x]=>(match enS h1 x with
  | some s=>R s h1
  | none=>False)
 | _=>False
theorem ald {p pos tpos}(hg:Gl X "enumerate")(hm:X.mg "enumerate" = Go)(ha:LQ X [e1] mr)
  (hs:HJ [e1] X.env=(false,eval e1 X.env)::HJ [] X.env:=by rfl) (hpl:(Ka pos (HJ [] X.env)).any (·.1)=false:=by rfl) :
  RX X (.Tuple elts kt tpos) (.Call (.Name "enumerate" p) [e1] [] pos) (Xv mr):=PI.of (ajK hg hm ha hs hpl) fun σ H Q d=>by
 obtain⟨μ,h,σw,Rw,R,S,m,k⟩:=d;refine⟨μ,h,σw,_,R,S,m,λvs H1 b=>?_⟩;obtain⟨μ1,ws,h1,e1,R1,r1,m1⟩:=b;split at m1
 split at m1
 rename_i x _ s es;obtain⟨v,ev,rv⟩:=iT r1;obtain⟨a,as,o,ea,es',ck1,fa⟩:=aae R1 rv es;subst es' ea;obtain⟨xs,hxs,_⟩:=fa .refl R1 ck1;refine⟨a,xs,ev,hxs,k _ _ ⟨μ1,⟨Rv 0 as,o⟩,h1,e1,R1,?_,m1⟩⟩;intro H2 μ2 h2 i e2 R2 ck;obtain⟨xs2,hxs2,rxs⟩:=fa e2 R2 ck;refine⟨λw ew=>?_,λhl=>⟨xs2,hxs2,?_⟩⟩;obtain⟨p1,ep1,rfl⟩:=Cw ew;obtain⟨q1,eq1,rq1⟩:=rxs.get ep1;refine⟨⟨xs2,q1,hxs2,eq1⟩,λx' H3 c=>?_⟩;obtain⟨pa,x1,hp,ex',eH3,f1⟩:=c;have g1:=f1 xs2 hxs2;rw[eq1]at g1;cases g1;subst ex' eH3;rw[WT];exact⟨μ2,(Ex.laid hp).ext,R2.laid hp,.tupNew hp<|.cons (by rw[CR])<|.one rq1⟩;have l1:=rxs.len;have:=Cm ▸ hl
 lia;cases m1;cases m1
end
section
variable {X:Cx}{pos p:Pos}{e:Expr}{es:List Expr}{k:Nat}{fs:List (Addr×Ah)}
inductive VFs (X:Cx) (k:Nat):List (Addr×Ah)->Prop
 | nil:VFs X k []
 | cons {f:Addr}{fd:Ms}{ps:List Str}{ms:Ah}{fs:List (Addr×Ah)}(F:jB X.prog X.w X.K X.mg X.base O9 k f fd ps (lift X.K ms)) (hk:Qm X.K (.ref f)=true) (hb:Binds X.K fd ps []) (r:VFs X k fs):VFs X k ((f,ms)::fs)
end
def Cmp (P:HN)(w:HI)(A:Hh)(s:AP)(kd:X5)(rk:JI->Nat)(good:JI->Prop):Prop:=
 ∀(E:JI->AP->Prop) (Q:Bool->AP->Prop) (x y:JI),good x->good y->Q (decide (rk x<rk y)) s->Bb (CG P w) A (keyLt' kd x y) Q E s
section
variable {P:HN}{w:HI}{A:Hh}{E:JI->AP->Prop}{s:AP}{kd:X5}{rk:JI->Nat}{good:JI->Prop}
def Rk (rk:JI->Nat)(a:Array Nf)(i:Nat):Nat:=match a[i]? with
 | some p=>rk p.1
 | none=>0
def J9 (rk:JI->Nat)(a:Array Nf)(i j:Nat):Prop:=∀p q,i<=p->p<q->q<j->Rk rk a p<Rk rk a q
structure Keys (rk:JI->Nat) (good:JI->Prop) (a:Array Nf):Prop where
 good:∀p∈a.toList,good p.1
 nd:(a.toList.map λp=>rk p.1).Nodup
structure SOk (kd:X5) (rk:JI->Nat) (good:JI->Prop) (st:Qx):Prop where
 kind:Ql st=kd
 failed:failedOf st=Go
 keys:Keys rk good (arrOf st)
theorem w_lt (C:Cmp P w A s kd rk good){x y st}{Q}(hk:Ql st=kd)(hx:good x.1)(hy:good y.1)(q:Q (Dn (decide (rk x.1<rk y.1))) st):wpS (CG P w) A E s (lt' x y) Q st:=by
 rw[lt'_eq];exact wpS_bind<|wpS_get<|hk ▸ wpS_bind (wpS_lift<|VF<|C _ _ _ _ hx hy ⟨rfl,wpS_pure q⟩)
structure Within (a b:Array Nf) (lo hi:Nat):Prop where
 perm:b.Perm a
 out:∀k,k<lo\/hi<=k->b[k]?=a[k]?
end
variable {good:JI->Prop}{kd:X5}
section
variable {P:HN}{w:HI}{A:Hh}{E:JI->AP->Prop}{s:AP}{rk:JI->Nat}
end
section
variable {P:HN}{w:HI}{A:Hh}{E:JI->AP->Prop}{s:AP}{d it:Addr}{es:Array DictEntry}{i:Nat}
end
section
variable {P:HN}{w:HI}{A:Hh}{E:JI->AP->Prop}{s:AP}{rk:JI->Nat}
structure agV (B:Nat->Bool) (n:Nat) (st:Qx) (x:Nat) (c:Option (Option Nat)×Nat×Nat) (st':Qx):Prop where
 s:st'=st
 e:c.1=Go
 a:c.2.1<=c.2.2
 b:c.2.2<=n
 d:c.2.2-c.2.1<=n-x
 lo:∀i,i<c.2.1->B i=true
 hi:∀i,c.2.2<=i->i<n->B i=false
structure agY (B:Nat->Bool) (v:Bool) (mx:Nat) (st:Qx) (x:Nat) (c:Option (Option Nat)×Nat×Nat) (st':Qx):Prop where
 s:st'=st
 e:c.1=Go
 a:c.2.1<c.2.2
 b:x<c.2.2
 d:c.2.1<mx
 h:B c.2.1=v
end
section
variable {rk:JI->Nat}
def SL (rk:JI->Nat)(l:List Nf):Prop:=l.Pairwise λx y=>rk x.1<rk y.1
def Be (rk:JI->Nat)(xs ys:List Nf):Prop:=∀x∈xs,∀y∈ys,rk x.1<rk y.1
def aiB (rk:JI->Nat)(A B out al bl:List Nf):Prop:=∃a1 b1,A=a1++al/\B=b1++bl/\out.Perm (a1++b1)/\SL rk out/\Be rk out al/\Be rk out bl
def Mrg (rk:JI->Nat)(A B r:List Nf):Prop:=r.Perm (A++B)/\SL rk r
end
section
variable {P:HN}{w:HI}{A:Hh}{E:JI->AP->Prop}{s:AP}{rk:JI->Nat}
def X6 (st st':Qx):Prop:=arrOf st'=arrOf st/\Ql st'=Ql st/\failedOf st'=failedOf st/\pendingOf st'=pendingOf st
structure Two (rk:JI->Nat) (good:JI->Prop) (a b:Array Nf):Prop where
 sa:SL rk a.toList
 sb:SL rk b.toList
 ga:∀p∈a.toList,good p.1
 gb:∀p∈b.toList,good p.1
 ne:∀x∈a.toList,∀y∈b.toList,rk x.1≠rk y.1
structure zaW (rk:JI->Nat) (a b out:Array Nf) (ia ib:Nat):Prop where
 ml:aiB rk a.toList b.toList out.toList (a.toList.drop ia) (b.toList.drop ib)
 ia:ia+1<a.size
 ib:ib<b.size
structure zab (rk:JI->Nat) (a b:Array Nf) (st:Qx) (n:Nat) {β:Type}(c:Option (Array Nf)×Array Nf×Nat×Nat×β) (st':Qx):Prop where
 sm:X6 st st'
 e:c.1=Go
 li:zaW rk a b c.2.1 c.2.2.1 c.2.2.2.1
 le:n<=c.2.2.1+c.2.2.2.1
structure zaa (rk:JI->Nat) (a b:Array Nf) (st:Qx) {β:Type}(c:Option (Array Nf)×β) (st':Qx):Prop where
 sm:X6 st st'
 r:∃l,c.1=Dn l/\Mrg rk a.toList b.toList l.toList
end
section
variable {rk:JI->Nat}
def zba (rk:JI->Nat)(A B o ah bh:List Nf):Prop:=∃a2 b2,A=ah++a2/\B=bh++b2/\o.Perm (a2++b2)/\SL rk o/\Be rk ah o/\Be rk bh o
end
section
variable {P:HN}{w:HI}{A:Hh}{E:JI->AP->Prop}{s:AP}{rk:JI->Nat}
structure ahP (rk:JI->Nat) (a b out:Array Nf) (na nb:Nat):Prop where
 mh:zba rk a.toList b.toList out.toList.reverse (a.toList.take na) (b.toList.take nb)
 pa:0<na
 pb:1<nb
 la:na<=a.size
 lb:nb<=b.size
structure GoH (rk:JI->Nat) (a b:Array Nf) (st:Qx) (n:Nat) {β:Type}(c:Option (Array Nf)×Nat×Nat×Array Nf×β) (st':Qx):Prop where
 sm:X6 st st'
 e:c.1=Go
 li:ahP rk a b c.2.2.2.1 c.2.1 c.2.2.1
 le:c.2.1+c.2.2.1+n<=a.size+b.size
structure Runs (rk:JI->Nat) (a:Array Nf) (sa k sb n' e:Nat):Prop where
 h1:sa+k<=sb
 h2:sb+n'<=e
 h3:e<=a.size
 r1:J9 rk a sa sb
 r2:J9 rk a sb e
 lo:∀p,sa<=p->p<sa+k->Rk rk a p<Rk rk a sb
 hi:∀p,sb+n'<=p->p<e->Rk rk a (sb-1)<Rk rk a p
def Cont (rk:JI->Nat)(a:Array Nf):List (Nat×Nat×Nat)->Nat->Nat->Prop
 | [],i,j=>i=j
 | (s,n,_)::r,i,j=>s=i/\0<n/\J9 rk a i (i+n)/\Cont rk a r (i+n) j
structure ahc (kd:X5) (rk:JI->Nat) (good:JI->Prop) (a0:Array Nf) (lo:Nat) (st:Qx):Prop where
 ok:SOk kd rk good st
 perm:(arrOf st).Perm a0
 cont:Cont rk (arrOf st) (pendingOf st).toList 0 lo
end
section
variable {P:HN}{w:HI}{A:Hh}{E:JI->AP->Prop}{s:AP}
def rankOf (ks:List (List Int))(k:List Int):Nat:=ks.countP λl=>decide (l<k)
structure KyT (T:Heap->JI->List Int->Prop):Prop where
 fn:∀{h:Heap}{v:JI}{k l:List Int},T h v k->T h v l->k=l
 of:∀{h h':Heap}{v:JI}{k:List Int},T h v k->(∀b o,o.cls=.type "tuple"->h.get? b=Dn o->h'.get? b=Dn o)->T h' v k
abbrev PdT (T:Heap->JI->List Int->Prop)(h:Heap):List (List Int)->List JI->Prop:=VN λk v=>T h v k
section
variable {T:Heap->JI->List Int->Prop}(F:KyT T)
include F
open Classical in
noncomputable def keyV (_:KyT T)(h:Heap)(v:JI):List Int:=if e:∃k,T h v k then e.choose else[]
noncomputable def rkV (F:KyT T)(h:Heap)(ks:List (List Int))(v:JI):Nat:=rankOf ks (keyV F h v)
end
structure SkT (P:HN) (w:HI) (A:Hh) {T:Heap->JI->List Int->Prop}(F:KyT T) (kd:X5) (ks:List (List Int)) (vs:List JI):Prop where
 kind:∀{E:JI->AP->Prop}{s:AP}{Q:X5->AP->Prop},2<=vs.length->PdT T s.heap ks vs->Q kd s->Bb (CG P w) A (keyKind' vs.toArray) Q E s
 cmp:∀{s:AP},PdT T s.heap ks vs->Cmp P w A s kd (rkV F s.heap ks) (·∈vs)
end
section
variable {X:Cx}{K:Ax}
end
section
variable {X:Cx}{o:Expr}{ma:MA}{apos amA:Pos}
end
section
variable {X:Cx}{K:Ax}
variable {o e:Expr}{ma:MA}{apos amA:Pos}
end
section
variable {prog:HN}{w:HI}{A:Hh}{R:Result->AP->Prop}{E:JI->AP->Prop}{I:Addr}{ns:List Int}{its:List JI}
def Gr (ns:List Int)(j:Nat)(b:Int):Prop:=b∈ns/\∀k,k<j->ns.getD k 0<=b
end
section
variable {X:Cx}
end
section
open AutoSeq1 (wpAny_loadPart')
end
section
variable {prog:HN}{w:HI}{A:Hh}{E:JI->AP->Prop}{s:AP}
end
section
variable {X:Cx}{K:Ax}
end
section
variable {prog:HN}{w:HI}{A:Hh}{R:Result->AP->Prop}{I:Addr}{its:List JI}
end
section
variable {X:Cx}{K:Ax}
def ae5 (h:Gh)(x y:W):Option Src:=match rB x,y with
 | some as,.loc n=>(match h.c n with
  | some (.lst bs)=>Dn ⟨uL as bs,Dn (n,bs)⟩
  | _=>Go)
 | _,_=>Go
end
section
variable {X:Cx}
end
section
variable {prog:HN}{w:HI}{A:Hh}{E:JI->AP->Prop}{s:AP}
end
section
variable {X:Cx}{K:Ax}
end
section
variable {prog:HN}{w:HI}{A:Hh}{E:JI->AP->Prop}{s:AP}{r l:Addr}{items:Array JI}
end
section
variable {X:Cx}
end
section
variable {P:HN}{w:HI}{A:Hh}{E:JI->AP->Prop}{s:AP}
end
section
variable {X:Cx}{K:Ax}
def V1:ME:=λ_ h Q=>Q (.loc h.nx) (h.new (.dct []))
theorem acj {pos}:DE X (.Dict [] [] pos) V1:=aiL.of fun σ H Q a p hp=>by
 obtain⟨μ,g,σw,Qw,R,S,m,q⟩:=a;have R1:HS _ _ (HW H p (.dK [])) (g.new (.dct [])):=R.newCell hp trivial ⟨[],aV,.nil⟩;exact q _ _ ⟨_,.loc _,_,(Ex.newCell R hp).ext,R1,⟨p,rfl,Mu.put_same⟩,m⟩
end
section
variable {X:Cx}{o:Expr}{ma:MA}{apos amA:Pos}
end
section
variable {prog:HN}{w:HI}{A:Hh}{R:Result->AP->Prop}{E:JI->AP->Prop}{I:Addr}{ns:List Int}{its:List JI}
end
section
variable {X:Cx}
end
section
variable {X:Cx}{a b o i:Expr}{mb:ME}{td ty:TE}{pos:Pos}
end
section
variable {P:HN}{w:HI}{A:Hh}{E:JI->AP->Prop}{s:AP}
end
section
variable {X:Cx}
end
def Fk (P:HN)(w:HI)(K:Ax)(mg:Str->Option JI)(base:Heap)(k:Nat)(x:Str)(ms:Ah):Prop:=∃f fd ps,jB P w K mg base O9 k f fd ps (lift K ms)/\mg x=Dn (.ref f)/\Qm K (.ref f)=true/\Binds K fd ps []
def At (K:Ax)(mg:Str->Option JI)(x:Str)(st:Stmt)(ps:List Str):Prop:=∃f fd,Sg K x x st f fd/\mg x=Dn (.ref f)/\Binds K fd ps []
section
variable {X:Cx}{e e3 e4:Expr}{es:List Expr}{mb mc md:ME}{pos:Pos}{k:Nat}{zl:List Str}{x:Str}{p:Pos}
theorem vV (i)(hN:X.N[i]?=Dn x:=by with_unfolding_all rfl)(hv:Vis X.env.scope x:=by with_unfolding_all first|exact Or.inl rfl|exact Or.inr (Or.inl rfl)|exact Or.inr (Or.inr rfl))(hd:(x==("__debug__" : Str))=false:=by decide)(hcd:(x==("__classdict__" : Str))=false:=by decide):DE X (.Name x pos) (ao i):=dv i (pv i hN hv hd hcd)
theorem aC (h1:DE X e ma)(h2:LQ X es mr)(s:Ie e=false:=by with_unfolding_all rfl):LQ X (e::es) (aj ma mr):=fX h1 h2 (aO s)
theorem a1 (h1:DE X e ma)(s:Ie e=false:=by with_unfolding_all rfl):LQ X [e] (aj ma aG):=aC h1 d8 s
theorem a2 (h1:DE X e ma)(h2:DE X e2 mb)(s1:Ie e=false:=by with_unfolding_all rfl)(s2:Ie e2=false:=by with_unfolding_all rfl):LQ X [e,e2] (aj ma (aj mb aG)):=aC h1 (a1 h2 s2) s1
theorem a3 (h1:DE X e ma)(h2:DE X e2 mb)(h3:DE X e3 mc)(s1:Ie e=false:=by with_unfolding_all rfl)(s2:Ie e2=false:=by with_unfolding_all rfl)(s3:Ie e3=false:=by with_unfolding_all rfl):LQ X [e,e2,e3] (aj ma (aj mb (aj mc aG))):=aC h1 (a2 h2 h3 s2 s3) s1
theorem HD {j}(F:Fk X.prog X.w X.K X.mg X.base j x ms)(ha:LQ X (e::es) mr)(hr:gq k X.A:=by with_unfolding_all assumption)(hk:j<=k:=by decide)(hg:Gl X x:=by with_unfolding_all rfl)(hdb:(x==("__debug__" : Str))=false:=by decide)(h1:Ie e=false:=by with_unfolding_all rfl)(h2:noStar es=true:=by with_unfolding_all rfl):
  DE X (.Call (.Name x p) (e::es) [] pos) (aF ms EF mr):=by
 obtain⟨f,fd,ps,a,b,c,d⟩:=F;exact abo (a.mono hk) hr hg b c d ha hdb (aO h1)<|cC h2
theorem Jy {id mc}(hc:jO X (.builtin id) mc)(hv:VR x=Dn (.builtin id))(ha:LQ X (e::es) mr)(z:∀n∈zl,X.mg n=Go:=by with_unfolding_all assumption)(hz:x∈zl:=by decide)(hg:Gl X x:=by with_unfolding_all rfl)(hn:x ≠ "__name__":=by decide)(hdb:(x==("__debug__" : Str))=false:=by decide)
  (h1:Ie e=false:=by with_unfolding_all rfl) (h2:noStar es=true:=by with_unfolding_all rfl):DE X (.Call (.Name x p) (e::es) [] pos) (Io mc mr):=aiy hc hg (z _ hz) hv ha hn hdb (aO h1) (cC h2)
theorem dct {T mc}(hc:jO X (.type T) mc)(hv:VR x=Dn (.type T))(ha:LQ X (e::es) mr)(z:∀n∈zl,X.mg n=Go:=by with_unfolding_all assumption)(hz:x∈zl:=by decide)(hg:Gl X x:=by with_unfolding_all rfl)(hn:x ≠ "__name__":=by decide)(hdb:(x==("__debug__" : Str))=false:=by decide)
  (h1:Ie e=false:=by with_unfolding_all rfl) (h2:noStar es=true:=by with_unfolding_all rfl):DE X (.Call (.Name x p) (e::es) [] pos) (Io mc mr):=aia hc hg (z _ hz) hv ha hn hdb (aO h1) (cC h2)
theorem Hy (i){pos'}(he:DE X e ma)(hN:X.N.Nodup:=by with_unfolding_all assumption)(hi:X.N[i]?=Dn x:=by with_unfolding_all rfl)(hx:Loc X.env.scope x:=by with_unfolding_all first|exact Or.inl rfl|exact Or.inr rfl)(hs:Vv e (Dn (.Name x pos')) pos.line X.env=pure false:=by with_unfolding_all rfl)
  (hf:X.fn x=true\/X.env.scope.names.lookup x=Dn .local:=by with_unfolding_all first|exact .inl rfl|exact .inr rfl):DS X (.Assign [.Name x pos'] e pos) (bI ma (kI i)):=Lx hN hi hx he hs hf
theorem O8 (i)(hN:X.N.Nodup:=by with_unfolding_all assumption)(hi:X.N[i]?=Dn x:=by with_unfolding_all rfl)(hx:Loc X.env.scope x:=by with_unfolding_all first|exact Or.inl rfl|exact Or.inr rfl)(hf:X.fn x=true\/X.env.scope.names.lookup x=Dn .local:=by with_unfolding_all first|exact .inl rfl|exact .inr rfl):DG X (.Name x pos) (kI i):=BZ (nR hN hi hx hf)
theorem BX {a b:Expr}(ha:DE X a ma)(hb:DE X b mb)(hs:Bk b:=by with_unfolding_all (intro _ _;rfl)):DE X (.Subscript a b pos) (Mk Av ma mb):=aaK ha hb hs
theorem J1 {a b op m2}(ho:Nz X (ML op) m2)(ha:DE X a ma)(hb:DE X b mb)(hm:WY op b=false:=by with_unfolding_all first|exact K7 _|rfl):DT X (.Compare a [op] [b] pos) (aR (Mk m2 ma mb)):=U3 ho ha hb hm
theorem MF {a b op m2}(ho:Nz X (ML op) m2)(ha:DE X a ma)(hb:DE X b mb)(hm:WY op b=false:=by with_unfolding_all first|exact K7 _|rfl):DE X (.Compare a [op] [b] pos) (Mk m2 ma mb):=adW ho ha hb hm
theorem dl1 {scope iter}(ix)(hi:RX X (.Name x p) iter mi)(ht:∀C s H fp,abG (blk X scope (jd X [x] ix) C s H fp) ifs tt)(he:∀C s H fp,DE (blk X scope (jd X [x] ix) C s H fp) elt te)(B:jh X scope [x] ix:=by with_unfolding_all exact cD rfl)(hc:X.calm=true:=by with_unfolding_all assumption)
  (hs:∀v,W3 iter X.env v=pure v:=by with_unfolding_all (intro _;rfl)):DE X (.ListComp elt [⟨.Name x p,iter,ifs,0⟩] scope pos) (JB JX ix mi tt te):=aei ix hc B tG (tM B) hi ht he hs
theorem RD {scope iter}(ix)(hi:RX X (.Name x p) iter mi)(he:∀C s H fp,DE (blk X scope (jd X [x] ix) C s H fp) elt te)(B:jh X scope [x] ix:=by with_unfolding_all exact cD rfl)(hc:X.calm=true:=by with_unfolding_all assumption)
  (hs:∀v,W3 iter X.env v=pure v:=by with_unfolding_all (intro _;rfl)):DE X (.ListComp elt [⟨.Name x p,iter,[],0⟩] scope pos) (JB JX ix mi jF te):=dl1 ix hi (λ_ _ _ _=>jy) he B hc hs
theorem qq (hr:gq k X.A:=by with_unfolding_all assumption):X.A.units+30<Ln:=afQ hr
theorem hh (hc:X.calm=true:=by with_unfolding_all assumption):X.calm=true:=hc
theorem drg {a}{tg}(ha:LQ X [a] mr)(z:∀n∈zl,X.mg n=Go:=by with_unfolding_all assumption)(hz:("range" : Str)∈zl:=by decide)(hg:Gl X "range":=by with_unfolding_all rfl)(hs:Ie a=false:=by with_unfolding_all rfl):RX X tg (.Call (.Name "range" p) [a] [] pos) (qd mr):=zbl hg (z _ hz) ha (Uy hs)
end
theorem fk {P w K}{mg base x}{st}{ps zl:List Str}(N){k}{pure}{body}(T:At K mg x st ps)(z:∀n∈zl,mg n=Go)
  (hb:∀f cdv A  (outer) (s) (H) (E),gq k (A.deeper (RG x (bw st) s.heap.objs.size f cdv))->N.Nodup->(Ji O9 P w K mg base N x (bw st) f cdv A outer s H E).nox.calm=true->(∀n∈zl,mg n=Go)->Sh (Ji O9 P w K mg base N x (bw st) f cdv A outer s H E).nox (dG st) (body EF))
  (S:fW N ps (bw st):=by exact⟨rfl,rfl,rfl,by decide +kernel,rfl,by decide +kernel,by decide +kernel⟩) (hk:9<=k:=by decide):Fk P w K mg base (k+1) x (IV ps.length N.length pure body):=by
 obtain⟨f,fd,F,m,b⟩:=T;exact⟨f,fd,ps,afK F S λcdv A outer s H E hr=>hb f cdv A outer s H E hr S.nd (hr.calm hk) z,m,F.kp,b⟩
section
variable {X:Cx}{e:Expr}
end
section
variable {X:Cx}{o:Expr}{ma:MA}{apos amA:Pos}
end
section
variable {X:Cx}
end
section
variable {prog:HN}{w:HI}{A:Hh}{E:JI->AP->Prop}{s:AP}
end
section
variable {X:Cx}{K:Ax}
end
section
variable {X:Cx}{c:Expr}{t:MT}
end
section
variable {X:Cx}
variable {o e:Expr}{es:List Expr}{ma:MA}{name:Str}{apos amA:Pos}{id:String}{r:V->List V->Hp->VK->Prop}{mr:MM}
end
section
variable {X:Cx}{e:Expr}{es:List Expr}{pos p:Pos}{k j:Nat}{x y:Str}{f:Addr}{fs:List (Addr×Ah)}
end
theorem dc0 {X}{pos p k j x}(F:Fk X.prog X.w X.K X.mg X.base j x ms)(hr:gq k X.A:=by with_unfolding_all assumption)(hk:j<=k:=by decide)(hg:Gl X x:=by with_unfolding_all rfl)(hdb:(x==("__debug__" : Str))=false:=by decide):DE X (.Call (.Name x p) [] [] pos) (aF ms EF aG):=by
 obtain⟨f,fd,ps,a,b,c,d⟩:=F;exact aiz (a.mono hk) hr hg b c d hdb
section
variable {X:Cx}
end
section
variable {X:Cx}{tg:Expr}
def signs (x:Str):List W:=x.cps.toList.map λc=>.str ⟨#[c]⟩
end
section
variable {prog:HN}{w:HI}{A:Hh}{E:JI->AP->Prop}{s:AP}
end
section
variable {X:Cx}
end
section
variable {X:Cx}{K:Ax}
end
theorem zaO {prog w A}{E s}{env K}{e C n}{t}{pos}{rest Q}
  (hx:jV K C n=true) (hd:lM K D d=true) (hi:KZ n d=true)
  (h:Bb (CG prog w) (A.mark (Dn (.ref e))) (eval t env) (λc s₁=>c=.ref D/\K.In s₁.heap/\(∃oe,s₁.heap.get? e=Dn oe/\oe.cls=.ref C) /\
   Bb (CG prog w) (A.mark (Dn (.ref e))) (setFlight (.ref e) Go) (λ_ s₂=>
      Bb (CG prog w) (A.mark (Dn (.ref e))) (execs (b₀::suite) env) Q (notedBy (CG prog w) (A.mark (Dn (.ref e))) env (cameBackBy (CG prog w) A env E)) s₂) (λ_ _=>False) s₁) (λ_ _=>False) s) :
  Bb (CG prog w) A (handleBy (.ref e) env (.ExceptHandler (Dn t) Go (b₀::suite) pos::rest)) Q E s:=by
 refine wpAny_handleBy_cons (codeAny_handlers_test<|KY h (λc s₁ h₁=>?_) λ_ _ z=>z.elim) (by intro q;cases q);obtain⟨rfl,X,⟨oe,he,hcls⟩,hk⟩:=h₁;refine pX X he hcls hx hd ?_;rw[hi];exact codeAny_handlers_suite<|KY hk (λ_ s₂ h₂=>KY h₂ (λ_ _ z=>z) λ_ _ z=>z) λ_ _ z=>z.elim
def X4 (d:Str)(mb mh:Ce->MS)(E:Ce):MS:=λD σ h=>mb (λx h'=>JQ (KZ x.cls d) (mh E D σ h') False) D σ h
abbrev Cx.hndE (X:Cx)(a:Addr)(H0:Hp)(xe:JI->AP->Prop):Cx:={X with A:=X.A.mark (Dn (.ref a)),H₀:=H0,calm:=false,xe:=xe}
section
variable {X:Cx}{body:List Stmt}{pos:Pos}{mh:Ce->MS}
theorem Aq.hndE {amx}{σ:St}{H s}{a H0}{xe}(I:Aq (X.hnd a H0) amx σ H s):Aq (X.hndE a H0 xe) amx σ H s:=
 ⟨⟨I.ok.mod,I.ok.kind,I.ok.glob,I.ok.blt,I.ok.above,I.ok.inj,I.ok.has,I.ok.cab,I.ok.hd,I.ok.qt,I.ok.frames,I.ok.stk,I.ok.exf,I.ok.bs,I.ok.bsz,I.ok.noex,I.ok.exfs,I.ok.funs,I.ok.frf⟩,I.os,I.bare,I.base,I.loc,I.cell,I.free,I.freeC,I.pin,I.hok,I.len⟩
theorem Aq.unhndE {amx}{σ:St}{H s}{a}(I:Aq (X.hndE a H0 xe) amx σ H s):Aq (X.hnd a H0) amx σ H s:=
 ⟨⟨I.ok.mod,I.ok.kind,I.ok.glob,I.ok.blt,I.ok.above,I.ok.inj,I.ok.has,I.ok.cab,I.ok.hd,I.ok.qt,I.ok.frames,I.ok.stk,I.ok.exf,I.ok.bs,I.ok.bsz,I.ok.noex,I.ok.exfs,I.ok.funs,I.ok.frf⟩,I.os,I.bare,I.base,I.loc,I.cell,I.free,I.freeC,I.pin,I.hok,I.len⟩
theorem New.unE {amx H}{a b}(n:New (X.hndE a H0 xe) amx H b):New X amx H b:=⟨n.h,n.s,n.l,n.c,n.p,n.f⟩
theorem FN.unE {amx σ H s}{a e C}{od H0}{xe}(ok:X.Ok)(k:RP X H0)(nw:∀b,Sd (X.hnd a H0) b->Sd X b)(F:FN (X.hndE a H0 xe) amx σ H s e C od):FN X amx σ H s e C od:=
 ⟨Aq.unhnd ok k F.inv.unhndE,F.xn.mono (λ_ n=>n.unE) λ_ z=>z.mono (λb q=>nw b q) λ_ _ _ q=>q⟩
theorem SP.unE {amx a}{De f s'}(ok:X.Ok)(k:RP X H0)(h:SP (X.hndE a H0 xe) amx De f s'):SP X amx De f s':=by
 cases f with
 | next|brk|cont=>obtain⟨σ',H',I,q⟩:=h;exact⟨σ',H',Aq.unhnd ok k I.unhndE,q⟩
 | ret v=>obtain⟨v,σ',H',I,r,q⟩:=h;exact⟨v,σ',H',Aq.unhnd ok k I.unhndE,r,q⟩
theorem aju (hg:Gl X d)(hm:X.mg d=Dn (.ref D))(hxd:lM X.K D d=true)(ht:Top X)(hx:X.ex=[])(hΓ:∀σ,Γ σ)
  (hb:∀amx xe σ0,Jk (X.tr amx xe) (fun σ=>σ=σ0) body mb) (hh:∀a H0 xe,acy (X.hndE a H0 xe)->Jk (X.hndE a H0 xe) (λ_=>True) (b₀::suite) mh) (hdb:(d==("__debug__" : Str))=false:=by decide) :
  V4 X Γ (.Try body [.ExceptHandler (Dn (.Name d np)) Go (b₀::suite) hpos] [] [] pos) (λE=>X4 d mb mh E):=by
 rintro amx s σ H De I ⟨hσ,μ,h,σw,Dw,E,R,S,m,k,kx⟩;refine wpAny_Try_except<|Hj (hb amx _ σ [] s σ H De I.tr ⟨rfl,μ,h,σw,Dw,_,R,S,m,k,λev s' xt=>?_⟩) λf s' q=>?_
 ·obtain⟨a,C,n,od,fs,pins',σ',H',μ',h',rfl,F,hxc,rfl,e1,R1,xd,q⟩:=xt;have F:=F.untr;cases hix:KZ n d with
  | false=>
   rw[hix]at q;exact q.elim
  | true=>
  rw[hix]at q;refine F.note ht F.inv.ok.frames λh1 F1=>F1.flight λh2 F2=>?_;obtain⟨_,oe0,vs0,he0,hc0,_⟩:=F2.xn;refine zaO hxc hxd hix ?_;refine Yw F2.inv.ok.kind hg (Calls.loadGlobal_global (by rw[F2.inv.ok.glob];exact F2.inv.mod.glob.keeps F2.inv.bk) hm ⟨rfl,F2.inv.kIn,⟨oe0,he0,hc0⟩,?_⟩) hdb;refine F2.flight λh3 F3=>?_;obtain⟨nw,oe,vs,he,hc,hdd,hdt,_,⟨zz,hv2,hzz⟩,_⟩:=F3.xn;obtain⟨H0,hok,hnw,Ih⟩:=F3.inv.hnd nw hx he hdt hv2 hzz;have Hn:H' a=Go:=nw.h;have e2:J4 X.K H μ (HW H' a (.frz oe (uE a oe))) μ':=e1.trans (Ex.laid Hn).ext;refine KY (hh a H0 (notedBy (CG X.prog X.w) (X.A.mark (Dn (.ref a))) X.env _) (.ok Ih.hndE.ok) amx _ _ _ De Ih.hndE
   ⟨trivial,μ',h',σw,Dw,E,R1.laid Hn,S.ext e2,q,k.trans e2,λev s5 xt=>?_⟩) (λf s5 q5=>SP.unE F3.inv.ok hok q5) λ_ _ z=>z
  obtain⟨b,C2,n2,od2,fs2,pins2,σ2,H2,μ2,hh2,rfl,G,hx2,_,e3,R2,xd2,q2⟩:=xt;refine G.note ⟨ht.1,ht.2⟩ G.inv.ok.frames λh4 G1=>?_;have G2:=G1.unE F3.inv.ok hok hnw;obtain⟨_,o2,v2,g1,g2,g3,g4,g5,g6,T,oT,tt,g7,g8⟩:=G2.xn;refine Al<|Ls g1 g4 g7 ?_
  refine G2.flight λh5 G3=>?_;exact kx _ _ ⟨b,C2,n2,od2,fs2,pins2,σ2,H2,μ2,hh2,rfl,G3.fx,hx2,hΓ _,e2.trans e3,R2,xd2,q2⟩
 ·have q:=SP.untr q;cases f with
  | next=>exact Xh q
  | brk=>exact q
  | cont=>exact q
  | ret v=>exact q
end
section
variable {X:Cx}{amx:List (Addr×Obj)}{σ:St}{H:Hp}{s:AP}
theorem Aq.drop {m i y}{v h' t'}(I:Aq X amx σ H s)(hN:X.N.Nodup)(hi:X.N[i]?=Dn y)(hm:s.heap.Ns X.env.locals m)(hn:h'.Ns X.env.locals (λx=>if x=y then v else m x))(sb:QJ X.env.locals s.heap h'):
  Aq X amx (σ.set i Go) H {s with heap:=h',toks:=t'}:=by
 have J:=I.lost (t':=t') hn sb;obtain⟨m0,hm0,hl⟩:=I.loc;have em:m0=m:=by
  obtain⟨o,es,ep,ho,hd,_,hf⟩:=hm;obtain⟨o',es',ep',ho',hd',_,hf'⟩:=hm0;rw[ho]at ho';grind
 subst em;refine⟨J.ok,J.os,J.bare,J.base,⟨_,hn,λj x w h1 h2 h3=>?_⟩,J.cell,J.free,J.freeC,J.pin,J.hok,by rw[Xp];exact I.len⟩;have ji:j≠i:=λq=>by
  rw[q,List.getElem?_set]at h2;split at h2
  split at h2<;>cases h2
  exact absurd rfl ‹¬i=i›
 rw[Yt (Jc ji)]at h2;obtain⟨u,ru,lk⟩:=hl j x w h1 h2 h3;refine⟨u,ru,?_⟩;rcases lk with⟨k1,k2⟩|⟨k1,c,k2,k3⟩
 exact .inl ⟨k1,by show(if x=y then v else m0 x)=Dn u;rw[if_neg<|λq=>ji<|(List.getElem?_inj (Ob.mp h1).1 hN).mp (by rw[h1,hi,q])];exact k2⟩;refine .inr ⟨k1,c,k2,?_⟩;obtain⟨o,ho,r⟩:=k3;exact⟨o,(sb.2 c<|I.cne x c k2).trans ho,r⟩
end
def bK.drop (D:bK)(i:Nat):bK:={D with nx:=fun σ h=>D.nx (σ.set i Go) h,bk:=fun σ h=>D.bk (σ.set i Go) h,ct:=fun σ h=>D.ct (σ.set i Go) h}
def WW (i:Nat)(d:Str)(mb:Ce->MS)(mh:MS):MS:=λD σ h=>mb (λx h'=>JQ (KZ x.cls d) (mh (D.drop i) (σ.set i (Dn (PJ x))) h') False) D σ h
theorem Slots.drop {K H σ}(S:Slots K H μ σw σ)(i):Slots K H μ (σw.set i Go) (σ.set i Go):=by
 refine⟨by rw[Xp,Xp,S.len],λj w q=>?_⟩;by_cases e:i=j
 grind
 rw[Yt e]at q|-
 exact S.get j w q
section
variable {X:Cx}{body:List Stmt}{y:Str}{pos:Pos}{i:Nat}
theorem Zh (hN:X.N.Nodup)(hi:X.N[i]?=Dn y)(hy:X.env.scope.names.lookup y=Dn .local)(hg:Gl X d)(hm:X.mg d=Dn (.ref D))(hxd:lM X.K D d=true)(ht:Top X)(hx:X.ex=[])
  (hb:∀amx xe σ0,Jk (X.tr amx xe) (fun σ=>σ=σ0) body mb) (hh:∀a H0,Sh (X.hnd a H0).nox (b₀::suite) mh) (hdb:(d==("__debug__" : Str))=false:=by decide) :
  DS X (.Try body [.ExceptHandler (Dn (.Name d np)) (Dn y) (b₀::suite) hpos] [] [] pos) (WW i d mb mh):=by
 rintro amx s σ H De I ⟨μ,h,σw,Dw,R,S,m,k⟩;refine wpAny_Try_except<|Hj (hb amx _ σ [] s σ H De I.tr ⟨rfl,μ,h,σw,Dw,_,R,S,m,k,λev s' xt=>?_⟩) λf s' q=>?_
 ·obtain⟨a,C,n,od,fs,pins',σ',H',μ',h',rfl,F,hxc,rfl,e1,R1,xd,q⟩:=xt;have F:=F.untr;cases hix:KZ n d with
  | false=>
   rw[hix]at q;exact q.elim
  | true=>
  rw[hix]at q;refine F.note ht F.inv.ok.frames λh1 F1=>F1.flight λh2 F2=>?_;obtain⟨_,oe0,vs0,he0,hc0,_⟩:=F2.xn;refine ahm hxc hxd hix ?_;refine Yw F2.inv.ok.kind hg (Calls.loadGlobal_global (by rw[F2.inv.ok.glob];exact F2.inv.mod.glob.keeps F2.inv.bk) hm ⟨rfl,F2.inv.kIn,⟨oe0,he0,hc0⟩,?_⟩) hdb;refine F2.flight λh3 F3=>?_;obtain⟨nw,oe,vs,he,hc,hdd,hdt,_,⟨zz,hv2,hzz⟩,_⟩:=F3.xn;obtain⟨H0,hok,_,Ih⟩:=F3.inv.hnd nw hx he hdt hv2 hzz;have Hn:H' a=Go:=nw.h;refine m7 (X:=X.hnd a H0) (v:=.ref a) Ih hN hi (.inl hy) rfl (λs4 I4=>?_)<|.inr hy
  have e2:J4 X.K H μ (HW H' a (.frz oe (uE a oe))) μ':=e1.trans (Ex.laid Hn).ext;have rx:CR X.K (HW H' a (.frz oe (uE a oe))) μ' (PJ ⟨n,fs⟩) (.ref a):=by
   have nc:PySem.W.notCls oe=true:=by
    unfold PySem.W.notCls;rw[hdt]
   rcases xd with⟨rfl,rfl⟩|⟨dd,ws,xs,rfl,hxa,rfl,hl1,hl2,hdx,rs⟩
   exact⟨a,oe,_,rfl,aV,C,hc,hdd,nc,hxc⟩;rw[ab9 hl1,CR];exact⟨a,oe,_,dd,_,xs,rfl,aV,⟨C,hc,hdd,nc,hxa⟩,by rw[aL<|aN hdx Hn];exact hdx,rfl,hl2,(Ex.laid Hn).ext.s rs⟩
  refine KY (hh a H0 amx s4 _ _ ⟨fun σ5 H5=>De.nx (σ5.set i Go) H5,De.rt,fun σ5 H5=>De.bk (σ5.set i Go) H5,fun σ5 H5=>De.ct (σ5.set i Go) H5⟩ (I4.wish _)
   ⟨μ',h',σw.set i (Dn (PJ ⟨n,fs⟩)),Dw.drop i,R1.laid Hn,(S.ext e2).set rx i,q,⟨?_,?_,?_,?_⟩⟩) (λf s5 q5=>?_) λ_ _ z=>z.elim
  rintro σ5 H5 ⟨μ5,σw5,h5,e5,R5,S5,m5⟩;exact k.nx _ _ ⟨μ5,_,h5,e2.trans e5,R5,S5.drop i,m5⟩;rintro v H5 ⟨μ5,w5,h5,e5,R5,r5,m5⟩;exact k.rt _ _ ⟨μ5,w5,h5,e2.trans e5,R5,r5,m5⟩;rintro σ5 H5 ⟨μ5,σw5,h5,e5,R5,S5,m5⟩;exact k.bk _ _ ⟨μ5,_,h5,e2.trans e5,R5,S5.drop i,m5⟩;rintro σ5 H5 ⟨μ5,σw5,h5,e5,R5,S5,m5⟩;exact k.ct _ _ ⟨μ5,_,h5,e2.trans e5,R5,S5.drop i,m5⟩
  ·have gone:∀{σ5:St}{H5:Hp}{Q5:Unit->AP->Prop},Aq (X.hnd a H0).nox amx σ5 H5 s5->(∀s6,Aq X amx (σ5.set i Go) H5 s6->Q5 () s6)->Bb (CG X.prog X.w) X.A (do bindName X.env y .none;unbindBehindTheSuite X.env y hpos) Q5 X.xe s5:=λ{σ5 H5 Q5} I5 h5=>by
    have I5':=I5.unwish;obtain⟨mm,hns,_⟩:=I5'.loc;refine wpAny_nameGoes_keeps hy hns (by rw[show X.env.scope.kind=.function from F.inv.ok.kind];rfl) λh6 v6 hn6 sb6=>h5 _<|Aq.unhnd F3.inv.ok hok<|I5'.drop hN hi hns hn6 sb6
   cases f with
   | next=>obtain⟨σ5,H5,I5,z⟩:=q5;exact gone I5 λs6 I6=>⟨_,H5,I6,z⟩
   | brk=>obtain⟨σ5,H5,I5,z⟩:=q5;exact gone I5 λs6 I6=>⟨_,H5,I6,z⟩
   | cont=>obtain⟨σ5,H5,I5,z⟩:=q5;exact gone I5 λs6 I6=>⟨_,H5,I6,z⟩
   | ret v=>obtain⟨x5,σ5,H5,I5,r5,z⟩:=q5;exact gone I5 λs6 I6=>⟨x5,_,H5,I6,r5,z⟩
 ·have q:=SP.untr q;cases f with
  | next=>exact Xh q
  | brk=>exact q
  | cont=>exact q
  | ret v=>exact q
end
def Qv (P:HN)(w:HI)(K:Ax)(mg:Str->Option JI)(base:Heap)(k:Nat)(x:Str)(ms:Ah):Prop:=∃f fd ps,jB P w K mg base (V5 P w) k f fd ps (yu K ms)/\mg x=Dn (.ref f)/\Qm K (.ref f)=true/\Binds K fd ps []
theorem Qv.tame {P w K}{mg base k x ms}(F:Qv P w K mg base k x ms):Fk P w K mg base k x ms:=
 let⟨f,fd,ps,a,b⟩:=F
 ⟨f,fd,ps,a.tame,b⟩
theorem K6 {X}{e}{es pos k x p j}(F:Qv X.prog X.w X.K X.mg X.base j x ms)(ha:LQ X (e::es) mr)(hr:gq k X.A:=by with_unfolding_all assumption)(hk:j<=k:=by decide)(hg:Gl X x:=by with_unfolding_all rfl)(hdb:(x==("__debug__" : Str))=false:=by decide)(h1:Ie e=false:=by with_unfolding_all rfl)(h2:noStar es=true:=by with_unfolding_all rfl):
  DEx X Γ (.Call (.Name x p) (e::es) [] pos) (λE=>aF ms E mr):=by
 obtain⟨f,fd,ps,a,b,c,d⟩:=F;exact Ai (a.mono hk) hr hg b c d ha hdb (aO h1)<|cC h2
theorem Sx {P w K}{mg base x}{st}{ps zl:List Str}(N){k}{pure}{body}(T:At K mg x st ps)(z:∀n∈zl,mg n=Go)
  (hb:∀f cdv A  (outer) (s) (H) (E),gq k (A.deeper (RG x (bw st) s.heap.objs.size f cdv))->N.Nodup->(Ji (V5 P w) P w K mg base N x (bw st) f cdv A outer s H E).calm=true->(∀n∈zl,mg n=Go)->Jk (Ji (V5 P w) P w K mg base N x (bw st) f cdv A outer s H E) (λ_=>True) (dG st) body)
  (S:fW N ps (bw st):=by exact⟨rfl,rfl,rfl,by decide +kernel,rfl,by decide +kernel,by decide +kernel⟩) (hk:9<=k:=by decide):Qv P w K mg base (k+1) x (IV ps.length N.length pure body):=by
 obtain⟨f,fd,F,m,b⟩:=T;exact⟨f,fd,ps,aeg F S λcdv A outer s H E hr=>hb f cdv A outer s H E hr S.nd (hr.calm hk) z,m,F.kp,b⟩
section
variable {prog:HN}{w:HI}{A:Hh}{E:JI->AP->Prop}{s:AP}{env:Env}
variable {q:Str}{C N:Addr}{bs bmB:List JI}{ab:Bool}{k0 k1 k2 k3 k5:Option JI}{B:String}
end
section
variable {X:Cx}{amx:List (Addr×Obj)}{σ:St}{H:Hp}{s:AP}{C:Addr}{x:Str}{amA pos:Pos}{e:Expr}{es:List Expr}{t:TA}
end
section
variable {X:Cx}{pos:Pos}
end
section
variable {X:Cx}{y:Str}{pos:Pos}{i:Nat}{amx:List (Addr×Obj)}{σ:St}{H H':Hp}{s:AP}{a C:Addr}{n:Str}{od:Option Addr}{fs:List (Str×W)}{h':Gh}{Dw:bK}{De:Ends}{rest:List ExceptHandler}
end
section
variable {X:Cx}{body:List Stmt}{b₁:Stmt}{suite':List Stmt}{y y' d':Str}{np' hpos' pos:Pos}{i i':Nat}{D':Addr}{mh':MS}
end
section
variable {prog:HN}{w:HI}{A:Hh}{E:JI->AP->Prop}{s:AP}{K:Ax}{x dx C:Addr}{mA:Str->Option JI}{name:Str}{v:JI}
end
section
variable {X:Cx}{o value:Expr}{f:Str}{C:Addr}{pos pos':Pos}{ta tv:TE}
end
section
variable {X:Cx}{amx:List (Addr×Obj)}{σ:St}{H:Hp}{s:AP}{C:Addr}{x f g:Str}{amA pos:Pos}{e e':Expr}{t:TA}{k:Nat}{fd:Ms}{ps:List Str}
end
section
variable {X:Cx}{e e':Expr}{pos:Pos}{ma:MA}
end
section
variable {X:Cx}{K:Ax}{o e:Expr}{ma:MA}{apos amA:Pos}
def abO:V->List V->Hp->VK->Prop:=λx vs H Q=>∃l y xs,x=.ref l/\vs=[.int 0]/\H l=Dn (.lst (y::xs))/\Q y (HW H l (.lst xs))
theorem ajZ:MtM X "list.pop" abO:=by
 intro amx s σ H x vs v us Q I rx rv h;obtain⟨l,y,xs,rfl,rfl,hH,q⟩:=h;cases rx;obtain⟨u1,rfl,r1⟩:=vals1 rv;obtain⟨t,rfl⟩:=r1;obtain⟨z,its,n,r,hl,e⟩:=I.lstM hH;cases r with
 | @cons _ uy _ its' ry r'=>
  have z1:=by simpa using z
  have z2:=r'.length.symm;refine call_meets F.slot_list_pop ⟨_,e,rfl⟩ F.entry_list_pop (F.args_list_pop_2 _ _) (PySem.MeetsSeq.list_pop_at l (uy::its').toArray n 0 t 0 uy (by decide) (by simp[seqIndex?]) (by simp) (by rw[K8];lia)) ⟨e,?_⟩;refine⟨y,_,I.lset hH e ?_ r'<|by lia,ry,q⟩;simp
def Mi:MM:=λx ws h Q=>match x,ws with
 | .loc n,[.int 0]=>(match h.c n with
  | some (.lst (w::us))=>Q w (h.set n (.lst us))
  | _=>False)
 | _,_=>False
theorem acd:adw K abO Mi:=by
 intro H μ h x vs wx ws Qw Q R rx rs m k;unfold Mi at m;split at m
 split at m
 rename_i n _ w us ec;obtain⟨p,xs,ex,hm,hx,r1⟩:=Qt R rx ec;obtain⟨v,ev,rv⟩:=iT rs;obtain⟨y,ys,e1,ry,r2⟩:=r1;subst e1 rv;exact⟨p,y,ys,ex,ev,hx,k _ _<|.wrote R hm r2 ry m⟩;cases m;cases m
theorem acY (ho:DE X o mo)(ha:LQ X [e] ma)
  (hbase:X7 o "pop" X.env (eval o X.env)=eval o X.env:=by rfl)
  (hfew:((Ka amA (HJ [e] X.env)).all (λx=>!x.1)&&(backToKw amA (Xd [] X.env)).all (λx=>x.1.isSome)
   && decide (([e]:List Expr).length+([]:List Ra).length+(if([]:List Ra).isEmpty then 0 else 1)<30))=true:=by rfl)
  (hline:(apos.endLine==amA.line)=true:=by rfl) (hst:HJ [e] X.env=(false,eval e X.env)::HJ [] X.env:=by rfl) (hplain:(Ka amA (HJ [] X.env)).any (·.1)=false:=by rfl) :
  DE X (.Call (.Attribute o "pop" apos) [e] [] amA) (yK Mi mo ma):=adR PySem.F.slot_list_pop PySem.F.type_list_pop ajZ acd ho ha hbase hfew hline hst hplain
end
section
variable {prog:HN}{w:HI}{A:Hh}{E:JI->AP->Prop}{s:AP}
abbrev V9 (ns:List Int)(n:Nat):List Int:=firstMet (λi=>ns.getD i 0) n
theorem zaS {l}{items ns}{Q}(hh:A.handled=Go)(hS:s.heap.get? S=Dn (EY led))(hl:s.heap.IsTuple l items)(hlS:l≠S)(hi:IntsAre items.toList ns)(hb:items.size+1<scanBound)
  (h:∀h' tk,h'.SetOf (Mx prog w) S (λk'=>(V9 ns items.size).any (·==k')) (V9 ns items.size).length->(∀b o,b≠S->s.heap.get? b=Dn o->h'.get? b=Dn o)->Q Value.none {s with heap:=h',toks:=tk}) :
  RJ (CG prog w) A (.call (.builtin "set.__init__") ⟨[.ref S,.ref l],[]⟩) (wants Q E) s:=by
 have ht:s.TypeIs (.ref S) "set":=⟨_,hS,rfl⟩
 refine YD RQ.init.plain F.entry_set_init<|check_set_init_1 ht ?_
 obtain⟨ol,hol,hcl,nl,hdl⟩:=id hl;obtain⟨ocls,odict,odata,oslots⟩:=ol;subst hcl;subst hdl;have q1:=F.sub_tuple_set;have q2:=F.sub_tuple_frozenset;have q3:(Value.type "tuple"==Value.type "dict")=false:=by decide
 unfold WM.«set.__init__» noKeywords Builtin.Frozenset.updateFrom;generalize hPI:pyIter=PI
 wp_walk
 subst hPI;refine wpAny_pyIter_tuple hl ?_;refine Al<|wpAny_runValue ?_
 have hlt:l≠s.heap.objs.size:=JM (Ik hol);have hSI:s.heap.objs.size≠S:=Jc (JM (Ik hS));have hS':=Iw {cls:=.type "tuple_iterator",data:=.fields #[.ref l,.int 0 0]} hS;refine codeAny_set_update_loopS ((Walks.tuple (by simp[hh]) s.heap.objs.size l hlt items).toS) S (by simp only[K5,Ot,or_false,not_or];exact⟨Jc hSI,Jc hlS⟩) (λi=>ns.getD i 0)
  (λi v hv=>IntsAre.int_at hi i v (by rw[Array.getElem?_toList];exact hv)) hb (items.size-0) 0 _ (by lia) (Rb _) ⟨⟨_,Kh _ rfl,rfl,rfl⟩,hl.push _⟩ ?z0 ?zR
 case z0=>exact SetOf_congr ((setObjOf_fresh (knd:=Mx prog w) led).setOf hS' (by unfold scanBound;lia)) (λ_=>rfl) rfl
 case zR=>
  intro s2 hm hS2;obtain⟨h2,g2,d2,t2,o2⟩:=s2;obtain rfl:g2=s.gens:=hm.gens;obtain rfl:d2=s.drawn:=hm.drawn;obtain rfl:o2=s.os:=hm.os;refine HF<|HF ?_
  exact h h2 t2 hS2 λb o hbS e=>hm.heap b o (by simp only[K5,Ot,or_false,not_or];exact⟨hbS,JM<|Ik e⟩)<|Iw _ e
theorem ahu {l}{items ns}{Q}(hh:A.handled=Go)(hl:s.heap.IsTuple l items)(hi:IntsAre items.toList ns)(hb:items.size+1<scanBound)
  (h:∀h' tk,h'.SetOf (Mx prog w) s.heap.objs.size (λk'=>(V9 ns items.size).any (·==k')) (V9 ns items.size).length->(∀b o,s.heap.get? b=Dn o->h'.get? b=Dn o)->Q (.ref s.heap.objs.size) {s with heap:=h',toks:=tk}) :
  Bb (CG prog w) A (call (.type "set") [.ref l]) Q E s:=by
 have hmade:=RQ.made;have hsub:=RQ.sub;have g1:=RQ.notType;have g2:=RQ.canCreate;have g3:=F.typeCall_set_1 (.ref l);refine Vx<|codeAny_of_tree ?_
 show Bb _ _ (callAny (.type "set") _) _ _ _;refine HF ⟨Y7 _<|by decide +kernel,YG F.entry_type_call ?_⟩;rw[Around.under_plain (weight_type_call_type "set" [.ref l] []) rfl];repeat(any_goals(first|assumption|wp_step))
 refine Td (code_set_new_1 (.ref l) (E:=E) (Q₁:=λu s1=>∃led:Bool,u=.ref s.heap.objs.size/\s1={s with heap:=s.heap.push (EY led)}) λled=>⟨led,rfl,rfl⟩) λr s1 hr=>?_;cases r with
 | error e=>exact hr
 | ok fl=>
  cases fl with
  | ret u=>
   obtain⟨led,rfl,rfl⟩:=hr;have hS:(s.heap.push (EY led)).get? s.heap.objs.size=Dn (EY led):=Kh _ rfl;have ht:Shared.TypeIs {s with heap:=s.heap.push (EY led)} (.ref s.heap.objs.size) "set":=⟨_,hS,rfl⟩
   have b1:=RQ.init.lookup;have b2:=RQ.init.bind (.ref s.heap.objs.size);repeat(any_goals(first|assumption|wp_step))
   obtain⟨ol,hol,r1⟩:=id hl;refine Td (zaS (E:=E) (s:={s with heap:=s.heap.push (EY led)}) (Q:=λr s2=>r=.none/\∃h' tk,s2={s with heap:=h',toks:=tk}/\h'.SetOf (Mx prog w) s.heap.objs.size (λk'=>(V9 ns items.size).any (·==k')) (V9 ns items.size).length/\∀b o,s.heap.get? b=Dn o->h'.get? b=Dn o) (by simp[hh]) hS (hl.push _) (JM (Ik hol)) hi hb
    λh' tk B kp=>⟨rfl,h',tk,rfl,B,λb o e=>kp b o (JM (Ik e)) (Iw _ e)⟩) λr2 s2 hr2=>?_
   cases r2 with
   | error e=>exact hr2
   | ok f2=>
    cases f2 with
    | ret r=>
     obtain⟨rfl,h',tk,rfl,B,kp⟩:=hr2;repeat(any_goals(first|assumption|wp_step))
     exact h h' tk B kp
    | _=>exact hr2.elim
  | _=>exact hr.elim
end
section
variable {X:Cx}{K:Ax}
def dn (ns:List Int):Nat:=(V9 ns ns.length).length
theorem Fx:∀{k us},Cq (k.map V.int) us->IntsAre us k
 | [],_,.nil=>.nil
 | i::k,_,.cons r t=>by
  obtain⟨tk,rfl⟩:=r;exact .cons i tk<|Fx t
theorem ahq (hc:X.calm=true):iV X (.type "set") (λxs H Q=>∃p ns,xs=[.ref p]/\Jt X.K H p (ns.map V.int)/\ns.length<=100/\∀l,H l=Go->Q (.ref l) (HW H l (aaq l (dn ns)))):=by
 intro amx s σ H xs us Q I r h;obtain⟨p,ns,rfl,hq,h4,q⟩:=h;obtain⟨u,rfl,rx⟩:=vals1 r;cases rx;obtain⟨its,r',⟨ot,hot,hct,hdt⟩,hz⟩:=I.tuple hq;have e1:=by have:=r'.length;rw[Hi]at this;exact this
 refine ahu (I.ok.hd hc) ⟨ot,hot,hct,hdt⟩ (by simpa using Fx r') (by rw[K8];unfold scanBound;lia) λh' tk B kp=>?_;have es0:its.toArray.size=ns.length:=by rw[K8,e1]
 rw[es0]at B;obtain⟨o,es,ep,t,ho,⟨x1,x2,x3⟩,hd,_,_,_,hf,hn⟩:=B;have eo:o=J2 es ep t:=by
  obtain⟨oc,od,dt,sl⟩:=o;dsimp only at x1 x2 x3 hd;subst x1 x2 x3 hd;rfl
 subst eo;exact⟨.ref _,_,I.laid kp (IK _)<|show fD _ _ _ h' _ (aaq _ _)from⟨⟨es,ep,t,ho,hf,hn⟩,⟨_,ho⟩,λh1 h2 ⟨es,ep,t,a,b,c⟩ k=>⟨es,ep,t,k _ a,b,c⟩⟩,rfl,q _<|I.hok.fresh<|IK _⟩
theorem adZ (ns):dn ns<=ns.length:=firstMet_length_le _ _
def mH:MC:=λws h Q=>match ws with
 | [.tup us]=>(match tH us with
  | some ns=>ns.length<=100/\Q (.int (dn ns)) h
  | none=>False)
 | _=>False
theorem ahk {e:Expr}{p1 p2 q1 q2:Pos}(hc:X.calm=true)(hgl:Gl X "len")(hml:X.mg "len" = Go)(hgs:Gl X "set")(hms:X.mg "set" = Go)(ha:DE X e ma)
  (s1:HJ [e] X.env=(false,eval e X.env)::HJ [] X.env) (s2:HJ [Expr.Call (.Name "set" p2) [e] [] q2] X.env=(false,eval (Expr.Call (.Name "set" p2) [e] [] q2) X.env)::HJ [] X.env) :
  DE X (.Call (.Name "len" p1) [.Call (.Name "set" p2) [e] [] q2] [] q1) (Io mH (aj ma aG)):=
 (pU zZ hgl hml Q8 (gY (qX (ahq hc) hgs hms (by rfl) (gY ha tZ s1) (by decide) (by decide) s1) tZ s2) (by decide) (by decide) s2).of fun σ H Q b=>by
  obtain⟨μ,g,σw,Qw,R,S,m,q⟩:=b;refine⟨μ,g,σw,_,R,S,m,λv H1 a=>?_⟩;obtain⟨μ1,w,h1,e1,R1,r1,m1⟩:=a;have m1:mH [w] h1 Qw:=m1;cases w with
  | tup us=>
   unfold mH at m1;dsimp only at m1;split at m1
   rename_i ns ek;obtain⟨p,ys,ev,hs,rs⟩:=r1;subst ev;have ey:=wB rs ek;subst ey;refine⟨p,ns,rfl,hs,m1.1,λl hl=>?_⟩;have:=adZ ns
   exact⟨l,dn ns,rfl,aV,by lia,q _ _ ⟨μ1,.int<|dn ns,h1,e1.trans (Ex.laid hl).ext,R1.laid hl,by rw[CR],m1.2⟩⟩;exact m1.elim
  | _=>exact(m1).elim
end
section
variable {X:Cx}{e:Expr}{es:List Expr}{pos:Pos}
theorem Ei {mr}(hΓ:∀σ,Γ σ)(ha:DE X e ma)(hr:PA X es (aar X Γ mr))(hs:HJ (e::es) X.env=(false,eval e X.env)::HJ es X.env:=by rfl):PA X (e::es) (aar X Γ λE=>aj ma (mr E)):=(gY ha hr hs).of fun σ H Q ⟨g,μ,h,σw,Qw,E,R,S,m,q,kx⟩=>⟨μ,h,σw,_,R,S,m,λv H1 ⟨μ1,w,h1,e1,R1,r1,m1⟩=>⟨hΓ _,μ1,h1,σw,_,E,R1,S.ext e1,m1,λvs H2 ⟨μ2,ws,h2,e2,R2,r2,m2⟩=>q _ _ ⟨μ2,w::ws,h2,e1.trans e2,R2,⟨v,vs,rfl,e2.r _ _ r1,r2⟩,m2⟩,λev s' xt=>kx ev s' (xt.trans e1)⟩⟩
theorem zbG {mr k}{f fd}{ps x p}(F:jB X.prog X.w X.K X.mg X.base (V5 X.prog X.w) k f fd ps (yu X.K ms))(hr:gq k X.A)(hg:Gl X x)(hm:X.mg x=Dn (.ref f))(hk:Qm X.K (.ref f)=true)
  (hb:Binds X.K fd ps []) (ha:PA X (e::es) (aar X Γ mr)) (hdb:(x==("__debug__" : Str))=false:=by decide) (he:HJ (e::es) X.env=(false,eval e X.env)::HJ es X.env:=by rfl) (hpl:(Ka pos (HJ es X.env)).any (·.1)=false:=by rfl) :
  DEx X Γ (.Call (.Name x p) (e::es) [] pos) (λE=>aF ms E (mr E)):=by
 rintro amx s σ H Q I ⟨hσ,μ,h,σw,Qw,E,R,S,m,q,kx⟩;refine WD<|j9 I hg hm (PySem.W.callWith_K I.ok.mod.kin hk (Hj (ha pos amx s σ H _ I ⟨hσ,μ,h,σw,_,E,R,S,m,λ_ _ z=>z,kx⟩) λus s1 ⟨vs,H1,I1,r,μ1,ws,h1,e1,R1,r1,m1⟩=>⟨I1.kIn,?_⟩) he hpl) hdb
 have sp:yu X.K ms (vs++[]) H1 Q (λCv od H'=>∃(C:Addr) (n:Str) (fs:List _) (μ':Mu) (h':Gh),Cv=.ref C/\jV X.K C n=true/\J4 X.K H1 μ1 H' μ'/\HS X.K μ' H' h'/\Zn X.K H' μ' C n od fs/\E ⟨n,fs⟩ h'):=by
  rw[Xm];exact⟨μ1,h1,ws,Qw,E,R1,r1,m1,λv H' z=>q _ _<|z.trans e1,λC n od fs H' hx ⟨μ',h',z⟩=>⟨C,n,fs,μ',h',rfl,hx,z⟩⟩
 have r2:=r.append .nil;refine Vx<|Td (F.run X.A _ s1 H1 ⟨us,[]⟩ _ _ Q _ hr I1.env0 (hb s1 us I1.kIn<|r2.length ▸ F.len _ _ _ _ sp) r2 sp) λr s' hq=>?_
 cases r with
 | error ev=>
  obtain⟨a,C,od,H',e2,F2,C',n,fs,μ',h',e3,hx,e4,R4,k4⟩:=I1.cxx (E:=λCv od H'=>∃(C:Addr) (n:Str) (fs:List _) (μ':Mu) (h':Gh),Cv=.ref C/\jV _ C n=true/\J4 _ H1 μ1 H' μ'/\HS X.K μ' H' h'/\Zn X.K H' μ' C n od fs/\E ⟨n,fs⟩ h') hq;cases e3;exact kx ev s' ⟨a,C,n,od,fs,amx,σ,H',μ',h',e2,F2.fx,hx,hσ,e1.trans e4,R4,k4⟩
 | ok fl=>
  cases fl with
  | ret u=>exact I1.after hq
  | next|brk|cont=>exact Qy hq
theorem agP {mr k x p j}(F:Qv X.prog X.w X.K X.mg X.base j x ms)(ha:PA X (e::es) (aar X Γ mr))(hr:gq k X.A:=by with_unfolding_all assumption)(hk:j<=k:=by decide)(hg:Gl X x:=by with_unfolding_all rfl)(hdb:(x==("__debug__" : Str))=false:=by decide)(h1:Ie e=false:=by with_unfolding_all rfl)(h2:noStar es=true:=by with_unfolding_all rfl):
  DEx X Γ (.Call (.Name x p) (e::es) [] pos) (λE=>aF ms E (mr E)):=by
 obtain⟨f,fd,ps,a,b,c,d⟩:=F;exact zbG (a.mono hk) hr hg b c d ha hdb (aO h1)<|cC h2
end
section
variable {X:Cx}{zl:List Str}{x:Str}{p q pos:Pos}{a:Expr}{es:List Expr}
theorem pC {vs}{g}(hm:X.mg x=Dn (.ref D))(hd:lM X.K D x=true)(r:PCs X es vs g)(hx:Gl X x:=by with_unfolding_all rfl)(hdb:(x==("__debug__" : Str))=false:=by decide):PCs X (.Name x q::es) (.ref D::vs) (λn=>KZ n x||g n):=
 .cons (Cj hx hm rfl hdb) (Pu.own hd) r (aO rfl)
end
section
variable {X:Cx}{body:List Stmt}{y:Str}{pos:Pos}{i:Nat}
end
section
variable {K:Ax}{C D':Addr}{n d':Str}
end
end L2
namespace My
open PySem L2 PyProof.Rows
def qp:W:=(.tup [(.tup [(.int 1),(.int 0),(.int 0)]),(.tup [(.int 0),(.int 1),(.int 0)]),(.tup [(.int 0),(.int 0),(.int 1)]),(.tup [(.int 1),(.int 1),(.int 1)])])
def top (i:Nat):Stmt:=PySem.Challenge.pw_easelroom_k61_things_of_rows.main.body.getD i (.Pass ⟨0,0,0,0⟩)
def agd (i j:Nat):Stmt:=match top i with
 | .ClassDef _ _ _ b _ _ _ _ _ _ _=>b.getD j (.Pass ⟨0,0,0,0⟩)
 | s=>s
abbrev YJ:Stmt:=top 78
abbrev fQ:Stmt:=agd 4 0
theorem wF:fW ["self", "at"] ["self", "at"] (bw fQ):=⟨rfl,rfl,rfl,by decide +kernel,rfl,by decide +kernel,by decide +kernel⟩
def mO (E:Ce):MS:=
  (bJ (ao 0))
def iQ:Ah:=IV 2 3 false λE=>
  (aX (bI (Io PX (aj (ao 0) aG)) (kI 0))
  (aX (bI (Io PX (aj (ao 1) aG)) (kI 1))
  (aX (Eu (aR (Mk Ju (ao 1) (mC (.int 0)))) (aX (bI (Mk Aj (ao 0) (ao 1)) (kI 2))
  (aX (bI (ao 1) (kI 0))
  (bI (ao 2) (kI 1)))))
  (mO E))))
def iR:Ah:=iQ
def rm (amh:Ah)(E:Ce):MS:=
  (bJ (ao 1))
def xP (amh:Ah):Ah:=IV 1 3 false λE=>
  (aX (bI (mC (.int 0)) (kI 1))
  (aX (vg (JT (ao 0)) (kI 2) (bI (aF amh E (aj (ao 2) (aj (ao 1) aG))) (kI 1)))
  (rm amh E)))
def yL:Ah:=xP iR
def jR (E:Ce):MS:=
  (bJ (mC (.bl false)))
def oX:Ah:=IV 1 2 false λE=>
  (aX (vg (abr (aj (ao 0) aG)) (kI 1) (cT (aR (Mk Ju (ao 1) (mC (.int 0)))) (bJ (Mk kLt (ao 1) (mC (.int 0)))) bD))
  (jR E))
def oY:Ah:=oX
def xT (alQ amd:Ah)(E:Ce):MS:=
  (bJ (Io oG (aj (JB JX [1] (JT (ao 0)) jF (Mk Jh (ao 0) (ao 1))) aG)))
def akE (alQ amd:Ah)(E:Ce):MS:=
  (aX (cT (uD (aF amd EF (aj (ao 0) aG))) (bI (mUn Zz (ao 1)) (kI 1)) bD)
  (xT alQ amd E))
def Ky (alQ amd:Ah):Ah:=IV 1 2 false λE=>
  (aX (bI (aF alQ EF (aj (ao 0) aG)) (kI 1))
  (aX (cT (aR (Mk Ib (ao 1) (mC (.int 0)))) (jQ "Nothing" E) bD)
  (akE alQ amd E)))
def kZ:Ah:=Ky yL oY
def Mr:Ah:=IV 2 2 false λE=>
  (bJ (Mk bR (Mk bR (Mk cN (Mk Av (ao 0) (mC (.int 0))) (Mk Av (ao 1) (mC (.int 0)))) (Mk cN (Mk Av (ao 0) (mC (.int 1))) (Mk Av (ao 1) (mC (.int 1))))) (Mk cN (Mk Av (ao 0) (mC (.int 2))) (Mk Av (ao 1) (mC (.int 2))))))
def Bv:Ah:=Mr
def Bh:Ah:=IV 2 2 false λE=>
  (bJ (tX (aj (Mk xJ (Mk cN (Mk Av (ao 0) (mC (.int 1))) (Mk Av (ao 1) (mC (.int 2)))) (Mk cN (Mk Av (ao 0) (mC (.int 2))) (Mk Av (ao 1) (mC (.int 1))))) (aj (Mk xJ (Mk cN (Mk Av (ao 0) (mC (.int 2))) (Mk Av (ao 1) (mC (.int 0)))) (Mk cN (Mk Av (ao 0) (mC (.int 0))) (Mk Av (ao 1) (mC (.int 2))))) (aj (Mk xJ (Mk cN (Mk Av (ao 0) (mC (.int 0))) (Mk Av (ao 1) (mC (.int 1)))) (Mk cN (Mk Av (ao 0) (mC (.int 1))) (Mk Av (ao 1) (mC (.int 0))))) aG)))))
def nY:Ah:=Bh
def UW (alB aly:Ah):Ah:=IV 3 3 false λE=>
  (bJ (aF alB E (aj (aF aly E (aj (ao 0) (aj (ao 1) aG))) (aj (ao 2) aG))))
def Va:Ah:=UW Bv nY
def z7 (alB:Ah):Ah:=IV 2 2 false λE=>
  (bJ (Mk Ib (aF alB E (aj (ao 0) (aj (ao 1) aG))) (mC (.int 0))))
def zX:Ah:=z7 Bv
def vZ (alB aly:Ah)(E:Ce):MS:=
  (aX (bI (aF aly E (aj (Mk Av (ao 0) (mC (.int 0))) (aj (Mk Av (ao 1) (mC (.int 0))) aG))) (kI 2))
  (bJ (Io acp (aj (JB JX [2] (JT (ao 1)) jF (Mk Ib (aF alB E (aj (ao 1) (aj (ao 0) aG))) (mC (.int 0)))) aG))))
def qW (alB aly:Ah):Ah:=IV 1 3 false λE=>
  (aX (bI (JB JX [0] (JT (ao 0)) (aR (Mk Ju (ao 0) (Mk Av (ao 1) (mC (.int 0))))) (ao 0)) (kI 1))
  (aX (cT (Az (uD (ao 1))) (bJ (mC (.bl true))) bD)
  (vZ alB aly E)))
def jZ:Ah:=qW Bv nY
def yG (amr:Ah):Ah:=IV 1 1 false λE=>
  (bJ (aF amr E (aj (ao 0) aG)))
def qU:Ah:=yG jZ
def qu (alr aly:Ah)(E:Ce):MS:=
  (bJ (aF alr E (aj (aF aly EF (aj (ao 0) (aj (ao 1) aG))) aG)))
def iw (alr aly:Ah):Ah:=IV 2 2 false λE=>
  (aX (cT (aR (Mk Ib (ao 0) (ao 1))) (jQ "Alike" E) bD)
  (qu alr aly E))
def iG:Ah:=iw kZ nY
def TY (aml:Ah):Ah:=IV 2 2 false λE=>
  (bJ (aF aml E (aj (ao 0) (aj (ao 1) aG))))
def Oe:Ah:=TY iG
def Km (aml:Ah):Ah:=IV 2 2 false λE=>
  (bJ (aF aml E (aj (ao 0) (aj (ao 1) aG))))
def Aa:Ah:=Km iG
def uF (E:Ce):MS:=
  (bJ (ao 2))
def Fy:Ah:=IV 2 7 true λE=>
  (aX (bI (pP (aj (tX aG) aG)) (kI 2))
  (aX (vg (qd (aj (ao 1) aG)) (kI 3) (aX (bI (pH aG) (kI 4))
  (aX (vg (JT (ao 2)) (kI 5) (aX (bI (mIf (aR (Mk Sv (ao 3) (mC (.int 0)))) (Mk bR (Mk Av (ao 5) (Mk xJ (ao 3) (mC (.int 1)))) (mC (.int 1))) (mC (.int 0))) (kI 6))
  (nG (yK jk (ao 4) (aj (JB JX [5] (BP (aj (ao 6) (aj (ao 0) aG))) jF (Mk bR (ao 1) (tX (aj (ao 0) aG)))) aG)))))
  (bI (ao 4) (kI 2)))))
  (uF E)))
def Dl:Ah:=Fy
def Eh:Ah:=IV 2 2 false λE=>
  (bJ (JB JX [0] (JT (ao 1)) jF (Mk Av (ao 1) (ao 0))))
def Fl:Ah:=Eh
def rF:Ah:=IV 1 1 false λE=>
  (bJ (Mk kLt (Io jD (aj (ao 0) aG)) (Io JL (aj (ao 0) aG))))
def qF:Ah:=rF
def lN (amt ams amv:Ah):Ah:=IV 2 2 false λE=>
  (bJ (Io Ww (aj (JB JX [0] (JT (aF ams E (aj (Io JL (aj (ao 0) aG)) (aj (ao 1) aG)))) jF (aF amt E (aj (aF amv E (aj (ao 1) (aj (ao 0) aG))) aG))) aG)))
def mY:Ah:=lN qU Dl Fl
def Ac:Ah:=IV 1 1 false λE=>
  (bJ (pP (aj (QF uN (ao 0) (fZ (mC (.int 0))) (fZ (mC (.int 3)))) (aj (QF uN (ao 0) (fZ (mC (.int 3))) (fZ (mC (.int 6)))) (aj (QF uN (ao 0) (fZ (mC (.int 6))) (fZ (mC (.int 9)))) aG)))))
def m9:Ah:=Ac
def yq (alX alY:Ah):Ah:=IV 1 2 false λE=>
  (aX (bI (aF alY E (aj (ao 0) aG)) (kI 1))
  (bJ (aF alX E (aj (Mk Av (ao 1) (mC (.int 0))) (aj (Mk Av (ao 1) (mC (.int 1))) (aj (Mk Av (ao 1) (mC (.int 2))) aG))))))
def yQ:Ah:=yq Va m9
def gD (alB alY:Ah):Ah:=IV 2 2 false λE=>
  (bJ (JB JX [1] (JT (aF alY E (aj (ao 0) aG))) jF (aF alB E (aj (ao 0) (aj (ao 1) aG)))))
def bY:Ah:=gD Bv m9
def Fb (aly alY:Ah):Ah:=IV 1 2 false λE=>
  (aX (bI (aF alY E (aj (ao 0) aG)) (kI 1))
  (bJ (Mk bR (Mk bR (aF aly E (aj (Mk Av (ao 1) (mC (.int 1))) (aj (Mk Av (ao 1) (mC (.int 2))) aG))) (aF aly E (aj (Mk Av (ao 1) (mC (.int 2))) (aj (Mk Av (ao 1) (mC (.int 0))) aG)))) (aF aly E (aj (Mk Av (ao 1) (mC (.int 0))) (aj (Mk Av (ao 1) (mC (.int 1))) aG))))))
def uU:Ah:=Fb nY m9
def Nt:Ah:=IV 0 0 false λE=>
  (bJ (Io v8 (aj (mC qp) aG)))
def KN:Ah:=Nt
def BW:Ah:=IV 2 6 false λE=>
  (aX (bI (Mk Av (ao 1) (mC (.int 0))) (kI 2))
  (aX (bI (Mk Av (ao 1) (mC (.int 1))) (kI 3))
  (aX (bI (Mk Av (ao 1) (mC (.int 2))) (kI 4))
  (aX (bI (Mk bR (Mk bR (Mk cN (Mk cN (Mk Av (ao 0) (mC (.int 0))) (ao 2)) (ao 2)) (Mk cN (Mk cN (Mk Av (ao 0) (mC (.int 2))) (ao 3)) (ao 3))) (Mk cN (Mk cN (Mk Av (ao 0) (mC (.int 5))) (ao 4)) (ao 4))) (kI 5))
  (bJ (Mk bR (Mk bR (Mk bR (ao 5) (Mk cN (Mk cN (Mk Av (ao 0) (mC (.int 1))) (ao 2)) (ao 3))) (Mk cN (Mk cN (Mk Av (ao 0) (mC (.int 3))) (ao 2)) (ao 4))) (Mk cN (Mk cN (Mk Av (ao 0) (mC (.int 4))) (ao 3)) (ao 4))))))))
def Nx:Ah:=BW
def mG (amu:Ah):Ah:=IV 2 2 false λE=>
  (bJ (Mk Ib (aF amu E (aj (ao 0) (aj (ao 1) aG))) (mC (.int 0))))
def mD:Ah:=mG Nx
def nF:Ah:=IV 2 2 false λE=>
  (bJ (tX (aj (Mk cN (Mk Av (ao 0) (mC (.int 0))) (Mk Av (ao 1) (mC (.int 0)))) (aj (Mk bR (Mk cN (Mk Av (ao 0) (mC (.int 0))) (Mk Av (ao 1) (mC (.int 1)))) (Mk cN (Mk Av (ao 0) (mC (.int 1))) (Mk Av (ao 1) (mC (.int 0))))) (aj (Mk cN (Mk Av (ao 0) (mC (.int 1))) (Mk Av (ao 1) (mC (.int 1)))) (aj (Mk bR (Mk cN (Mk Av (ao 0) (mC (.int 0))) (Mk Av (ao 1) (mC (.int 2)))) (Mk cN (Mk Av (ao 0) (mC (.int 2))) (Mk Av (ao 1) (mC (.int 0))))) (aj (Mk bR (Mk cN (Mk Av (ao 0) (mC (.int 1))) (Mk Av (ao 1) (mC (.int 2)))) (Mk cN (Mk Av (ao 0) (mC (.int 2))) (Mk Av (ao 1) (mC (.int 1))))) (aj (Mk cN (Mk Av (ao 0) (mC (.int 2))) (Mk Av (ao 1) (mC (.int 2)))) aG))))))))
def tW:Ah:=nF
def uT:Ah:=IV 1 1 false λE=>
  (bJ (tX (aj (Mk cN (mC (.int 2)) (Mk Av (ao 0) (mC (.int 0)))) (aj (Mk Av (ao 0) (mC (.int 1))) (aj (Mk Av (ao 0) (mC (.int 3))) (aj (Mk Av (ao 0) (mC (.int 1))) (aj (Mk cN (mC (.int 2)) (Mk Av (ao 0) (mC (.int 2)))) (aj (Mk Av (ao 0) (mC (.int 4))) (aj (Mk Av (ao 0) (mC (.int 3))) (aj (Mk Av (ao 0) (mC (.int 4))) (aj (Mk cN (mC (.int 2)) (Mk Av (ao 0) (mC (.int 5)))) aG)))))))))))
def gB:Ah:=uT
def oJ (alB alS:Ah):Ah:=IV 3 3 false λE=>
  (bJ (aF alB E (aj (ao 1) (aj (aF alS E (aj (ao 0) (aj (ao 2) aG))) aG))))
def jx:Ah:=oJ Bv bY
def uR (amw alC:Ah):Ah:=IV 1 1 false λE=>
  (bJ (Mk Ju (aF amw E (aj (aF alC E (aj (ao 0) aG)) aG)) (mC (.int 0))))
def oA:Ah:=uR yQ gB
def Cd (alB aly amo:Ah):Ah:=IV 1 7 false λE=>
  (aX (bI (aF aly E (aj (Mk Av (ao 0) (mC (.int 0))) (aj (Mk Av (ao 0) (mC (.int 1))) aG))) (kI 1))
  (aX (bI (aF aly E (aj (Mk Av (ao 0) (mC (.int 2))) (aj (Mk Av (ao 0) (mC (.int 3))) aG))) (kI 2))
  (aX (bI (aF aly E (aj (Mk Av (ao 0) (mC (.int 0))) (aj (Mk Av (ao 0) (mC (.int 2))) aG))) (kI 3))
  (aX (bI (aF aly E (aj (Mk Av (ao 0) (mC (.int 1))) (aj (Mk Av (ao 0) (mC (.int 3))) aG))) (kI 4))
  (aX (bI (Mk cN (aF alB E (aj (ao 1) (aj (Mk Av (ao 0) (mC (.int 4))) aG))) (aF alB E (aj (ao 2) (aj (Mk Av (ao 0) (mC (.int 4))) aG)))) (kI 5))
  (aX (bI (Mk cN (aF alB E (aj (ao 3) (aj (Mk Av (ao 0) (mC (.int 4))) aG))) (aF alB E (aj (ao 4) (aj (Mk Av (ao 0) (mC (.int 4))) aG)))) (kI 6))
  (bJ (JB (owT 2) [5,6] (adv (aj (aF amo E (aj (ao 3) (aj (ao 4) aG))) (aj (aF amo E (aj (ao 1) (aj (ao 2) aG))) aG))) jF (Mk xJ (Mk cN (ao 2) (ao 0)) (Mk cN (ao 3) (ao 1)))))))))))
def O6:Ah:=Cd Bv nY tW
def zae (alr alU amc ama:Ah)(E:Ce):MS:=
  (bJ (aF alr E (aj (aF ama EF (aj (ao 0) aG)) aG)))
def qP (alr alU amc ama:Ah)(E:Ce):MS:=
  (aX (cT (uD (aF amc EF (aj (ao 0) (aj (mC (.int 4)) aG)))) (jQ "FourOnLine" E) bD)
  (zae alr alU amc ama E))
def zK (alr alU amc ama:Ah):Ah:=IV 1 1 false λE=>
  (aX (cT (uD (aF alU EF (aj (ao 0) aG))) (jQ "Alike" E) bD)
  (qP alr alU amc ama E))
def rT:Ah:=zK kZ qF mY O6
def jc (alr:Ah):Ah:=IV 1 1 false λE=>
  (bJ (mIf (uD (Io Ww (aj (JB JX [] (JT (ao 0)) jF (Mk Ju (ao 0) (mC (.int 0)))) aG))) (aF alr E (aj (ao 0) aG)) (mC .non)))
def fB:Ah:=jc kZ
def sW (alS alC alR:Ah)(E:Ce):MS:=
  (bJ (ao 2))
def oM (alS alC alR:Ah):Ah:=IV 2 3 false λE=>
  (aX (bI (aF alR EF (aj (aF alS EF (aj (aF alC EF (aj (ao 0) aG)) (aj (ao 1) aG))) aG)) (kI 2))
  (aX (cT (aR (Mk kIs (ao 2) (mC .non))) (jQ "Knot" E) bD)
  (sW alS alC alR E)))
def jm:Ah:=oM bY gB fB
def tL (alr alS amm alC amk:Ah)(E:Ce):MS:=
  (bJ (aF alr E (aj (aF alS EF (aj (aF amm EF (aj (aF alC EF (aj (ao 0) aG)) aG)) (aj (ao 1) aG))) aG)))
def o9 (alr alS amm alC amk:Ah):Ah:=IV 2 2 false λE=>
  (aX (cT (Az (uD (aF amk EF (aj (ao 0) aG)))) (jQ "NotRound" E) bD)
  (tL alr alS amm alC amk E))
def jj:Ah:=o9 kZ bY uU gB oA
def fY (alH amq:Ah):Ah:=IV 2 3 false λE=>
  (aX (bI (JB JX [0] (JT (QF uN (aF amq E aG) cM (fZ (mC (.int 3))))) (aR (Mk Ju (ao 0) (ao 1))) (aF alH E (aj (ao 1) (aj (ao 0) aG)))) (kI 2))
  (bJ (Mk Av (JB JX [1] (JT (ao 2)) (aR (Mk Ju (ao 0) (ao 1))) (ao 0)) (mC (.int 0)))))
def jU:Ah:=fY Aa KN
def mZ (alZ alV alC alT alR amb:Ah)(E:Ce):MS:=
  (bJ (ao 7))
def mV (alZ alV alC alT alR amb:Ah)(E:Ce):MS:=
  (aX (bI (aF alC EF (aj (ao 0) aG)) (kI 3))
  (aX (bI (aF amb EF (aj (ao 2) (aj (ao 1) aG))) (kI 4))
  (aX (bI (aF alT EF (aj (ao 3) (aj (ao 4) (aj (ao 4) aG)))) (kI 5))
  (aX (bI (Mk cN (mC (.int 2)) (aF alT EF (aj (ao 3) (aj (ao 1) (aj (ao 4) aG))))) (kI 6))
  (aX (bI (aF alR EF (aj (JB (owT 2) [5,6] (adv (aj (ao 1) (aj (ao 4) aG))) jF (Mk xJ (Mk cN (ao 2) (ao 0)) (Mk cN (ao 3) (ao 1)))) aG)) (kI 7))
  (aX (cT (aR (Mk kIs (ao 7) (mC .non))) (jQ "InCurve" E) bD)
  (mZ alZ alV alC alT alR amb E)))))))
def lE (alZ alV alC alT alR amb:Ah):Ah:=IV 3 8 false λE=>
  (aX (cT (QG (Az (uD (aF alV EF (aj (ao 0) (aj (ao 1) aG))))) (Az (uD (aF alZ EF (aj (ao 1) (aj (ao 2) aG)))))) (jQ "NotOn" E) bD)
  (mV alZ alV alC alT alR amb E))
def lB:Ah:=lE zX mD gB jx fB jU
def ju (alI alH alJ alP alL alK:Ah)(E:Ce):MS:=
  (bJ (aF alK E (aj (Mk Av (ao 2) (mC (.int 0))) (aj (Mk Av (ao 2) (mC (.int 1))) (aj (aF alI E (aj (Mk Av (ao 2) (mC (.int 1))) (aj (Mk Av (ao 2) (mC (.int 2))) aG))) aG)))))
def eX (alI alH alJ alP alL alK:Ah)(E:Ce):MS:=
  (aX (cT (aR (Mk Ib (Mk Av (ao 0) (mC (.int 0))) (mC (.str "pole")))) (bJ (aF alL E (aj (Mk Av (ao 2) (mC (.int 0))) (aj (Mk Av (ao 2) (mC (.int 1))) aG)))) bD)
  (ju alI alH alJ alP alL alK E))
def c7 (alI alH alJ alP alL alK:Ah)(E:Ce):MS:=
  (aX (cT (aR (Mk Ib (Mk Av (ao 0) (mC (.int 0))) (mC (.str "about")))) (bJ (aF alP E (aj (Mk Av (ao 2) (mC (.int 0))) (aj (Mk Av (ao 2) (mC (.int 1))) aG)))) bD)
  (eX alI alH alJ alP alL alK E))
def cG (alI alH alJ alP alL alK:Ah)(E:Ce):MS:=
  (aX (cT (aR (Mk Ib (Mk Av (ao 0) (mC (.int 0))) (mC (.str "curve")))) (bJ (aF alJ E (aj (ao 2) aG))) bD)
  (c7 alI alH alJ alP alL alK E))
def bO (alI alH alJ alP alL alK:Ah)(E:Ce):MS:=
  (aX (cT (aR (Mk Ib (Mk Av (ao 0) (mC (.int 0))) (mC (.str "meet")))) (bJ (aF alH E (aj (Mk Av (ao 2) (mC (.int 0))) (aj (Mk Av (ao 2) (mC (.int 1))) aG)))) bD)
  (cG alI alH alJ alP alL alK E))
def aM (alI alH alJ alP alL alK:Ah):Ah:=IV 2 3 false λE=>
  (aX (bI (JB JX [1] (JT (QF uN (ao 0) (fZ (mC (.int 1))) cM)) jF (Mk Av (ao 1) (ao 0))) (kI 2))
  (aX (cT (aR (Mk Ib (Mk Av (ao 0) (mC (.int 0))) (mC (.str "join")))) (bJ (aF alI E (aj (Mk Av (ao 2) (mC (.int 0))) (aj (Mk Av (ao 2) (mC (.int 1))) aG)))) bD)
  (bO alI alH alJ alP alL alK E)))
def mJ:Ah:=aM Oe Aa rT jm jj lB
def tO (ami:Ah)(E:Ce):MS:=
  (bJ (ao 2))
def uX (ami:Ah):Ah:=IV 2 7 false λE=>
  (aX (bI (pH aG) (kI 2))
  (aX (bI (mC (.int 0)) (kI 3))
  (aX (vg (Xv (aj (ao 0) aG)) (xr 2 (jK (kI 4) (jK (kI 5) Zy))) (cT (aR (Mk Ib (Mk Av (ao 5) (mC (.int 0))) (mC (.str "free")))) (aX (nG (yK cV (ao 2) (aj (Mk Av (ao 1) (ao 3)) aG)))
  (bI (Mk bR (ao 3) (mC (.int 1))) (kI 3))) (aX (X4 "EaselError" (λE=>(bI (aF ami E (aj (ao 5) (aj (ao 2) aG))) (kI 6))) (λE=>(CN "Stuck" "at" (ao 4) E)) E)
  (nG (yK cV (ao 2) (aj (ao 6) aG))))))
  (tO ami E))))
def wD:Ah:=uX mJ
def ahr (E:Ce):MS:=
  (bJ (mC (.int 0)))
def Dq:Ah:=IV 2 2 false λE=>
  (aX (cT (aR (Mk kLt (ao 1) (Io JL (aj (ao 0) aG)))) (bJ (Mk Av (ao 0) (ao 1))) bD)
  (ahr E))
def wG:Ah:=Dq
def Mp:Ah:=IV 1 1 false λE=>
  (bJ (pH (aj (Mk zq (Io PX (aj (ao 0) aG)) (Io PN (aj (Mk kGe (Io PX (aj (ao 0) aG)) (Mk aaX (mC (.int 10)) (mC (.int 18)))) aG))) (aj (Mk Aj (Io PX (aj (ao 0) aG)) (mC (.int 2147483647))) aG))))
def Ar:Ah:=Mp
def zax (E:Ce):MS:=
  (aX (bI (Mk Aj (Mk bR (Mk cN (Mk Av (ao 0) (mC (.int 1))) (mC (.int 48271))) (mC (.int 11))) (mC (.int 2147483647))) (Py (ao 0) (mC (.int 1)) Ir))
  (bJ (Mk Aj (Mk Jh (Mk Aj (Mk cN (Mk Av (ao 0) (mC (.int 1))) (Mk bR (Mk Jh (Mk Av (ao 0) (mC (.int 1))) (mC (.int 65536))) (mC (.int 7)))) (mC (.int 2147483629))) (mC (.int 32))) (ao 1))))
def Es:Ah:=IV 2 3 false λE=>
  (aX (cT (aR (Mk Sv (Mk Av (ao 0) (mC (.int 0))) (mC (.int 0)))) (aX (bI (Mk Aj (Mk Av (ao 0) (mC (.int 0))) (ao 1)) (kI 2))
  (aX (bI (Mk Jh (Mk Av (ao 0) (mC (.int 0))) (ao 1)) (Py (ao 0) (mC (.int 0)) Ir))
  (bJ (ao 2)))) bD)
  (zax E))
def pN:Ah:=Es
def Em:Ah:=IV 1 2 false λE=>
  (aX (bI (acr [(.inr "free",(pP aG)),(.inr "join",(pP (aj (mC (.str "spot")) (aj (mC (.str "spot")) aG)))),(.inr "meet",(pP (aj (mC (.str "line")) (aj (mC (.str "line")) aG)))),(.inr "about",(pP (aj (mC (.str "curve")) (aj (mC (.str "spot")) aG))))]) (kI 1))
  (aX (bI (pP (aj (mC (.str "spot")) (aj (mC (.str "spot")) (aj (mC (.str "spot")) (aj (mC (.str "spot")) (aj (mC (.str "spot")) aG)))))) (Py (ao 1) (mC (.str "curve")) zx))
  (aX (bI (pP (aj (mC (.str "curve")) (aj (mC (.str "line")) aG))) (Py (ao 1) (mC (.str "pole")) zx))
  (aX (bI (pP (aj (mC (.str "curve")) (aj (mC (.str "spot")) (aj (mC (.str "spot")) aG)))) (Py (ao 1) (mC (.str "other")) zx))
  (bJ (Mk Zi (ao 1) (ao 0)))))))
def Df:Ah:=Em
def ur (E:Ce):MS:=
  (bJ (Mk Av (pP (aj (mC (.str "spot")) (aj (mC (.str "curve")) aG))) (Io PN (aj (Mk Ib (Mk Av (ao 0) (mC (.int 0))) (mC (.str "curve"))) aG))))
def vN:Ah:=IV 1 1 false λE=>
  (aX (cT (QG (aR (Mk Ib (Mk Av (ao 0) (mC (.int 0))) (mC (.str "join")))) (aR (Mk Ib (Mk Av (ao 0) (mC (.int 0))) (mC (.str "about"))))) (bJ (mC (.str "line"))) bD)
  (ur E))
def vO:Ah:=vN
def wR (alA ame:Ah):Ah:=IV 3 4 false λE=>
  (aX (bI (JB JX [1,2] (qd (aj (Io JL (aj (ao 1) aG)) aG)) (aR (Mk Ib (aF ame E (aj (Mk Av (ao 1) (ao 0)) aG)) (ao 2))) (ao 0)) (kI 3))
  (bJ (Mk Av (ao 3) (aF alA E (aj (ao 0) (aj (Io JL (aj (ao 3) aG)) aG))))))
def GJ:Ah:=wR pN vO
def zH (alA amg ame amn:Ah)(E:Ce):MS:=
  (bJ (Io oG (aj (Mk bR (pP (aj (ao 5) aG)) (JB JX [0,1] (JT (aF amg E (aj (ao 5) aG))) jF (aF amn E (aj (ao 1) (aj (ao 2) (aj (ao 0) aG)))))) aG)))
def Bp (alA amg ame amn:Ah):Ah:=IV 3 7 false λE=>
  (aX (bI (JB JX [] (JT (ao 1)) jF (aF ame E (aj (ao 0) aG))) (kI 3))
  (aX (bI (pP (aj (mC (.str "join")) (aj (mC (.str "meet")) (aj (mC (.str "curve")) (aj (mC (.str "about")) (aj (mC (.str "pole")) (aj (mC (.str "other")) (aj (mC (.str "join")) (aj (mC (.str "meet")) (aj (mC (.str "join")) (aj (mC (.str "meet")) aG))))))))))) (kI 4))
  (aX (bI (Mk Av (ao 4) (aF alA E (aj (ao 0) (aj (mC (.int 10)) aG)))) (kI 5))
  (aX (bI (JB JX [3] (JT (aF amg E (aj (ao 5) aG))) (aR (Mk HX (ao 0) (ao 1))) (ao 0)) (kI 6))
  (aX (cT (QG (aR (Mk kLt (Io JL (aj (ao 1) aG)) (ao 2))) (aR (Mk Sv (Io JL (aj (ao 6) aG)) (mC (.int 0))))) (bI (Mk Av (pP (aj (mC (.str "join")) (aj (mC (.str "free")) aG))) (Io PN (aj (Mk kLt (Io JL (aj (ao 1) aG)) (ao 2)) aG))) (kI 5)) bD)
  (zH alA amg ame amn E))))))
def NP:Ah:=Bp pN Df vO GJ
def lQ (E:Ce):MS:=
  (bJ (ao 1))
def rA:Ah:=IV 1 4 false λE=>
  (aX (bI (mC (.int 0)) (kI 1))
  (aX (vg (JT (ao 0)) (kI 2) (aX (bI (Io PX (aj (ao 2) aG)) (kI 3))
  (Eu (aR (Mk Sv (ao 3) (mC (.int 0)))) (afz 1 3 (aj (ao 3) (aj (Mk Aj (ao 1) (ao 3)) aG))))))
  (lQ E)))
def p7:Ah:=rA
def q9 (amj:Ah)(E:Ce):MS:=
  (bJ (Io oG (aj (JB JX [1] (JT (ao 0)) jF (Mk Jh (ao 0) (ao 1))) aG)))
def zU (amj:Ah):Ah:=IV 1 3 false λE=>
  (aX (bI (aF amj E (aj (ao 0) aG)) (kI 1))
  (aX (bI (Mk Av (JB JX [] (JT (ao 0)) (aR (Mk Ju (ao 0) (mC (.int 0)))) (ao 0)) (mUn Zz (mC (.int 1)))) (kI 2))
  (aX (cT (aR (Mk kLt (ao 2) (mC (.int 0)))) (bI (Mk xJ (mC (.int 0)) (ao 1)) (kI 1)) bD)
  (q9 amj E))))
def mW:Ah:=zU p7
def qO:Ah:=IV 2 8 false λE=>
  (aX (bI (ao 0) (xr 3 (jK (kI 2) (jK (kI 3) (jK (kI 4) Zy)))))
  (aX (bI (ao 1) (xr 3 (jK (kI 5) (jK (kI 6) (jK (kI 7) Zy)))))
  (bJ (tX (aj (Mk xJ (Mk cN (ao 3) (ao 7)) (Mk cN (ao 4) (ao 6))) (aj (Mk xJ (Mk cN (ao 4) (ao 5)) (Mk cN (ao 2) (ao 7))) (aj (Mk xJ (Mk cN (ao 2) (ao 6)) (Mk cN (ao 3) (ao 5))) aG)))))))
def p8:Ah:=qO
def Aw:Ah:=IV 2 2 false λE=>
  (bJ (Mk bR (Mk bR (Mk cN (Mk Av (ao 0) (mC (.int 0))) (Mk Av (ao 1) (mC (.int 0)))) (Mk cN (Mk Av (ao 0) (mC (.int 1))) (Mk Av (ao 1) (mC (.int 1))))) (Mk cN (Mk Av (ao 0) (mC (.int 2))) (Mk Av (ao 1) (mC (.int 2))))))
def rK:Ah:=Aw
def CW (alw alo:Ah):Ah:=IV 3 3 false λE=>
  (bJ (aF alo E (aj (aF alw E (aj (ao 0) (aj (ao 1) aG))) (aj (ao 2) aG))))
def mQ:Ah:=CW p8 rK
def lg:Ah:=IV 1 7 false λE=>
  (aX (bI (ao 0) (xr 6 (jK (kI 1) (jK (kI 2) (jK (kI 3) (jK (kI 4) (jK (kI 5) (jK (kI 6) Zy))))))))
  (bJ (pP (aj (tX (aj (Mk cN (mC (.int 2)) (ao 1)) (aj (ao 2) (aj (ao 4) aG)))) (aj (tX (aj (ao 2) (aj (Mk cN (mC (.int 2)) (ao 3)) (aj (ao 5) aG)))) (aj (tX (aj (ao 4) (aj (ao 5) (aj (Mk cN (mC (.int 2)) (ao 6)) aG)))) aG))))))
def j7:Ah:=lg
def zQ (alo alF:Ah):Ah:=IV 2 2 false λE=>
  (bJ (Io oG (aj (JB JX [1] (JT (aF alF E (aj (ao 0) aG))) jF (aF alo E (aj (ao 0) (aj (ao 1) aG)))) aG)))
def lV:Ah:=zQ rK j7
def nP (alA alv:Ah)(E:Ce):MS:=
  (bJ (aF alv E (aj (ao 2) aG)))
def nW (alA alv:Ah)(E:Ce):MS:=
  (aX (cT (aR (Mk Ib (ao 2) (pP (aj (mC (.int 0)) (aj (mC (.int 0)) (aj (mC (.int 0)) aG)))))) (bI (mC (.int 1)) (Py (ao 2) (aF alA E (aj (ao 0) (aj (mC (.int 3)) aG))) Ir)) bD)
  (nP alA alv E))
def vh (alA alv:Ah):Ah:=IV 2 3 false λE=>
  (aX (bI (pH (aj (Mk xJ (aF alA E (aj (ao 0) (aj (mC (.int 5)) aG))) (mC (.int 2))) (aj (Mk xJ (aF alA E (aj (ao 0) (aj (mC (.int 5)) aG))) (mC (.int 2))) (aj (Mk Av (pP (aj (mC (.int 0)) (aj (mC (.int 1)) (aj (mC (.int 1)) (aj (mC (.int 1)) (aj (mC (.int 2)) (aj (mC (.int 1)) (aj (mC (.int 3)) (aj (mC (.int 1)) aG))))))))) (aF alA E (aj (ao 0) (aj (mC (.int 8)) aG)))) aG)))) (kI 2))
  (aX (cT (aR (Mk Sv (ao 1) (mC (.int 0)))) (bI (pH (aj (Mk xJ (aF alA E (aj (ao 0) (aj (Mk cN (mC (.int 2)) (ao 1)) aG))) (ao 1)) (aj (Mk xJ (aF alA E (aj (ao 0) (aj (Mk cN (mC (.int 2)) (ao 1)) aG))) (ao 1)) (aj (aF alA E (aj (ao 0) (aj (ao 1) aG))) aG)))) (kI 2)) bD)
  (nW alA alv E)))
def Gj:Ah:=vh pN mW
def yF (E:Ce):MS:=
  (bJ (Io Vm (aj (ao 3) aG)))
def zW (E:Ce):MS:=
  (aX (cT (aR (Mk Ib (Mk Av (ao 2) (mC (.int 0))) (mC (.str "other")))) (bJ (Mk bR (Mk bR (Mk Av (ao 3) (mC (.int 0))) (Mk Av (ao 3) (mC (.int 1)))) (Mk cN (mC (.int 2)) (Mk Av (ao 3) (mC (.int 2)))))) bD)
  (yF E))
def xY (E:Ce):MS:=
  (aX (cT (aR (Mk Ib (Mk Av (ao 2) (mC (.int 0))) (mC (.str "pole")))) (bJ (Mk bR (Mk cN (mC (.int 2)) (Mk Av (ao 3) (mC (.int 0)))) (Mk Av (ao 3) (mC (.int 1))))) bD)
  (zW E))
def yE (E:Ce):MS:=
  (aX (cT (aR (Mk Ib (Mk Av (ao 2) (mC (.int 0))) (mC (.str "curve")))) (bJ (Mk cN (mC (.int 2)) (Io Vm (aj (ao 3) aG)))) bD)
  (xY E))
def ud:Ah:=IV 3 4 false λE=>
  (aX (bI (JB JX [1] (JT (QF uN (ao 2) (fZ (mC (.int 1))) cM)) jF (Mk Av (ao 1) (ao 0))) (kI 3))
  (aX (cT (aR (Mk Ib (Mk Av (ao 2) (mC (.int 0))) (mC (.str "free")))) (bJ (mC (.int 1))) bD)
  (yE E)))
def uQ:Ah:=ud
def uJ (alx alD als amf:Ah)(E:Ce):MS:=
  (bJ (ao 4))
def Hf (alx alD als amf:Ah):Ah:=IV 4 8 true λE=>
  (aX (bI (pH aG) (kI 4))
  (aX (bI (pH aG) (kI 5))
  (aX (vg (qd (aj (ao 1) aG)) (kI 6) (aX (bI (aF als E (aj (aF alD E (aj (aF alx E (aj (ao 0) (aj (Mk bR (mC (.int 3)) (ao 6)) aG))) aG)) (aj (ao 4) (aj (ao 2) aG)))) (kI 7))
  (aX (cT (aR (Mk Sv (aF amf E (aj (ao 4) (aj (ao 5) (aj (ao 7) aG)))) (ao 3))) (bI (tX (aj (mC (.str "join")) (aj (mC (.int 0)) (aj (Io adA (aj (mC (.int 1)) (aj (Mk xJ (ao 2) (mC (.int 1))) aG))) aG)))) (kI 7)) bD)
  (aX (nG (yK cV (ao 5) (aj (aF amf E (aj (ao 4) (aj (ao 5) (aj (ao 7) aG)))) aG)))
  (nG (yK cV (ao 4) (aj (ao 7) aG)))))))
  (uJ alx alD als amf E))))
def Gg:Ah:=Hf wG Ar NP uQ
def tV (E:Ce):MS:=
  (bJ (Mk bR (ao 3) (JB JX [] (BP (aj (ao 4) (aj (ao 1) aG))) jF (tX (aj (mC (.str "free")) aG)))))
def Ec:Ah:=IV 2 7 true λE=>
  (aX (bI V1 (kI 2))
  (aX (bI (pH aG) (kI 3))
  (aX (bI (mC (.int 0)) (kI 4))
  (aX (vg (BP (aj (ao 1) (aj (Io JL (aj (ao 0) aG)) aG))) (kI 5) (aX (vg (JT (QF uN (Mk Av (ao 0) (ao 5)) (fZ (mC (.int 1))) cM)) (kI 6) (Eu (abZ (aR (Mk kLt (ao 6) (ao 1))) (aR (Mk kLe (ao 4) (ao 6)))) (aX (bI (Io JL (aj (ao 3) aG)) (Py (ao 2) (ao 4) zx))
  (aX (nG (yK cV (ao 3) (aj (tX (aj (mC (.str "free")) aG)) aG)))
  (bI (Mk bR (ao 4) (mC (.int 1))) (kI 4))))))
  (aX (bI (Io JL (aj (ao 3) aG)) (Py (ao 2) (ao 5) zx))
  (nG (yK cV (ao 3) (aj (Io oG (aj (Mk bR (pP (aj (Mk Av (Mk Av (ao 0) (ao 5)) (mC (.int 0))) aG)) (JB JX [2] (JT (QF uN (Mk Av (ao 0) (ao 5)) (fZ (mC (.int 1))) cM)) jF (Mk Zi (ao 1) (ao 0)))) aG)) aG))))))
  (tV E)))))
def GD:Ah:=Ec
def fK (alp:Ah)(E:Ce):MS:=
  (bJ (mC (.bl false)))
def dZ (alp:Ah):Ah:=IV 1 4 false λE=>
  (aX (vg (qd (aj (mC (.int 5)) aG)) (kI 1) (aX (bI (Mk bR (QF uN (ao 0) cM (fZ (ao 1))) (QF uN (ao 0) (fZ (Mk bR (ao 1) (mC (.int 1)))) cM)) (kI 2))
  (aX (bI (pP (aj (aF alp E (aj (Mk Av (ao 2) (mC (.int 0))) (aj (Mk Av (ao 2) (mC (.int 1))) (aj (Mk Av (ao 2) (mC (.int 2))) aG)))) (aj (aF alp E (aj (Mk Av (ao 2) (mC (.int 0))) (aj (Mk Av (ao 2) (mC (.int 1))) (aj (Mk Av (ao 2) (mC (.int 3))) aG)))) aG))) (kI 3))
  (aX (bI (Mk bR (ao 3) (pP (aj (aF alp E (aj (Mk Av (ao 2) (mC (.int 0))) (aj (Mk Av (ao 2) (mC (.int 2))) (aj (Mk Av (ao 2) (mC (.int 3))) aG)))) (aj (aF alp E (aj (Mk Av (ao 2) (mC (.int 1))) (aj (Mk Av (ao 2) (mC (.int 2))) (aj (Mk Av (ao 2) (mC (.int 3))) aG)))) aG)))) (kI 3))
  (cT (aR (Mk Ib (ao 3) (pP (aj (mC (.int 0)) (aj (mC (.int 0)) (aj (mC (.int 0)) (aj (mC (.int 0)) aG))))))) (bJ (mC (.bl true))) bD)))))
  (fK alp E))
def iH:Ah:=dZ mQ
def yc (alo alp alF alq alO:Ah)(E:Ce):MS:=
  (bJ (mC (.bl true)))
def qQ (alo alp alF alq alO:Ah)(E:Ce):MS:=
  (aX (cT (aR (Mk Ib (Mk Av (ao 0) (mC (.int 0))) (mC (.str "other")))) (aX (bI (aF alq E (aj (Mk Av (ao 2) (mC (.int 0))) (aj (Mk Av (ao 2) (mC (.int 2))) aG))) (kI 4))
  (aX (cT (QG (aR (Mk Ib (Mk Av (ao 2) (mC (.int 1))) (Mk Av (ao 2) (mC (.int 2))))) (aR (Mk Ju (aF alo E (aj (Mk Av (ao 2) (mC (.int 1))) (aj (aF alq E (aj (Mk Av (ao 2) (mC (.int 0))) (aj (Mk Av (ao 2) (mC (.int 1))) aG))) aG))) (mC (.int 0))))) (bJ (mC (.bl false))) bD)
  (bJ (adP (Mk Ju (aF alo E (aj (Mk Av (ao 2) (mC (.int 1))) (aj (ao 4) aG))) (mC (.int 0))) (Mk Ju (aF alo E (aj (Mk Av (ao 2) (mC (.int 2))) (aj (ao 4) aG))) (mC (.int 0))))))) bD)
  (yc alo alp alF alq alO E))
def rO (alo alp alF alq alO:Ah)(E:Ce):MS:=
  (aX (cT (aR (Mk Ib (Mk Av (ao 0) (mC (.int 0))) (mC (.str "pole")))) (aX (bI (aF alF E (aj (Mk Av (ao 2) (mC (.int 0))) aG)) (kI 3))
  (bJ (Mk Ju (aF alp E (aj (Mk Av (ao 3) (mC (.int 0))) (aj (Mk Av (ao 3) (mC (.int 1))) (aj (Mk Av (ao 3) (mC (.int 2))) aG)))) (mC (.int 0))))) bD)
  (qQ alo alp alF alq alO E))
def mU (alo alp alF alq alO:Ah)(E:Ce):MS:=
  (aX (cT (aR (Mk Ib (Mk Av (ao 0) (mC (.int 0))) (mC (.str "about")))) (bJ (Mk Ju (aF alq E (aj (Mk Av (ao 2) (mC (.int 0))) (aj (Mk Av (ao 2) (mC (.int 1))) aG))) (tX (aj (mC (.int 0)) (aj (mC (.int 0)) (aj (mC (.int 0)) aG)))))) bD)
  (rO alo alp alF alq alO E))
def gP (alo alp alF alq alO:Ah)(E:Ce):MS:=
  (aX (cT (aR (Mk Ib (Mk Av (ao 0) (mC (.int 0))) (mC (.str "curve")))) (bJ (Bf (Mk Ib (Io jD (aj (ao 2) aG)) (mC (.int 5))) (Qz (aF alO E (aj (ao 2) aG))))) bD)
  (mU alo alp alF alq alO E))
def fV (alo alp alF alq alO:Ah):Ah:=IV 2 5 false λE=>
  (aX (bI (JB JX [1] (JT (QF uN (ao 0) (fZ (mC (.int 1))) cM)) jF (Mk Av (ao 1) (ao 0))) (kI 2))
  (aX (cT (QG (aR (Mk Ib (Mk Av (ao 0) (mC (.int 0))) (mC (.str "join")))) (aR (Mk Ib (Mk Av (ao 0) (mC (.int 0))) (mC (.str "meet"))))) (bJ (Mk Ju (Mk Av (ao 2) (mC (.int 0))) (Mk Av (ao 2) (mC (.int 1))))) bD)
  (gP alo alp alF alq alO E)))
def wY:Ah:=fV rK mQ j7 lV iH
def ahD (alv alw alo alp alq:Ah)(E:Ce):MS:=
  (bJ (mC (.bl true)))
def lK (alv alw alo alp alq:Ah)(E:Ce):MS:=
  (aX (cT (aR (Mk Ib (Mk Av (ao 0) (mC (.int 0))) (mC (.str "other")))) (aX (bI (Mk Ib (aF alo E (aj (Mk Av (ao 3) (mC (.int 1))) (aj (aF alq E (aj (Mk Av (ao 3) (mC (.int 0))) (aj (Mk Av (ao 3) (mC (.int 2))) aG))) aG))) (mC (.int 0))) (kI 4))
  (aX (cT (QG (aR (Mk Ju (aF alo E (aj (ao 2) (aj (aF alq E (aj (Mk Av (ao 3) (mC (.int 0))) (aj (ao 2) aG))) aG))) (mC (.int 0)))) (aR (Mk Ju (Mk Ib (ao 2) (Mk Av (ao 3) (mC (.int 1)))) (ao 4)))) (bJ (mC (.bl false))) bD)
  (bJ (Mk Ib (aF alp E (aj (Mk Av (ao 3) (mC (.int 1))) (aj (Mk Av (ao 3) (mC (.int 2))) (aj (ao 2) aG)))) (mC (.int 0)))))) bD)
  (ahD alv alw alo alp alq E))
def lH (alv alw alo alp alq:Ah)(E:Ce):MS:=
  (aX (cT (aR (Mk Ib (Mk Av (ao 0) (mC (.int 0))) (mC (.str "pole")))) (bJ (Mk Ib (aF alw E (aj (Mk Av (ao 3) (mC (.int 1))) (aj (aF alq E (aj (Mk Av (ao 3) (mC (.int 0))) (aj (ao 2) aG))) aG))) (tX (aj (mC (.int 0)) (aj (mC (.int 0)) (aj (mC (.int 0)) aG)))))) bD)
  (lK alv alw alo alp alq E))
def iz (alv alw alo alp alq:Ah)(E:Ce):MS:=
  (aX (cT (aR (Mk Ib (Mk Av (ao 0) (mC (.int 0))) (mC (.str "about")))) (bJ (Mk Ib (aF alw E (aj (ao 2) (aj (aF alq E (aj (Mk Av (ao 3) (mC (.int 0))) (aj (Mk Av (ao 3) (mC (.int 1))) aG))) aG))) (tX (aj (mC (.int 0)) (aj (mC (.int 0)) (aj (mC (.int 0)) aG)))))) bD)
  (lH alv alw alo alp alq E))
def dD (alv alw alo alp alq:Ah)(E:Ce):MS:=
  (aX (cT (aR (Mk Ib (Mk Av (ao 0) (mC (.int 0))) (mC (.str "curve")))) (bJ (Mk Ib (Io JL (aj (JB JX [2] (JT (ao 3)) (aR (Mk Ju (aF alo E (aj (ao 0) (aj (aF alq E (aj (ao 1) (aj (ao 0) aG))) aG))) (mC (.int 0)))) (ao 0)) aG)) (mC (.int 0)))) bD)
  (iz alv alw alo alp alq E))
def bT (alv alw alo alp alq:Ah)(E:Ce):MS:=
  (aX (cT (QG (aR (Mk Ib (Mk Av (ao 0) (mC (.int 0))) (mC (.str "join")))) (aR (Mk Ib (Mk Av (ao 0) (mC (.int 0))) (mC (.str "meet"))))) (bJ (Bf (Mk Ib (aF alo E (aj (ao 2) (aj (Mk Av (ao 3) (mC (.int 0))) aG))) (mC (.int 0))) (Mk Ib (aF alo E (aj (ao 2) (aj (Mk Av (ao 3) (mC (.int 1))) aG))) (mC (.int 0))))) bD)
  (dD alv alw alo alp alq E))
def sy (alv alw alo alp alq:Ah)(E:Ce):MS:=
  (aX (cT (QG (abZ (aR (Mk Ib (Io mH (aj (ao 2) aG)) (mC (.int 1)))) (aR (Mk Ib (Mk Av (ao 2) (mC (.int 0))) (mC (.int 0))))) (aR (Mk Ju (aF alv E (aj (ao 2) aG)) (ao 2)))) (bJ (mC (.bl false))) bD)
  (bT alv alw alo alp alq E))
def iD (alv alw alo alp alq:Ah)(E:Ce):MS:=
  (aX (cT (aR (Mk Sv (Io JL (aj (JB JX [] (JT (ao 2)) (QG (Az (uD (Io PL (aj (ao 0) (aj (mC (.ty "int")) aG))))) (uD (Io PL (aj (ao 0) (aj (mC (.ty "bool")) aG))))) (ao 0)) aG)) (mC (.int 0)))) (bJ (mC (.bl false))) bD)
  (sy alv alw alo alp alq E))
def cJ (alv alw alo alp alq:Ah):Ah:=IV 3 5 false λE=>
  (aX (bI (JB JX [1] (JT (QF uN (ao 0) (fZ (mC (.int 1))) cM)) jF (Mk Av (ao 1) (ao 0))) (kI 3))
  (aX (cT (QG (Az (uD (Io PL (aj (ao 2) (aj (mC (.ty "tuple")) aG))))) (aR (Mk Ju (Io JL (aj (ao 2) aG)) (Mk bR (mC (.int 3)) (Mk zq (mC (.int 3)) (Io PN (aj (Mk Ib (Mk Av (ao 0) (mC (.int 0))) (mC (.str "curve"))) aG))))))) (bJ (mC (.bl false))) bD)
  (iD alv alw alo alp alq E)))
def rY:Ah:=cJ mW p8 rK mQ lV
def pA (alz alW:Ah)(E:Ce):MS:=
  (bJ (mC (.bl true)))
def yJ (alz alW:Ah)(E:Ce):MS:=
  (aX (bI (Io Gm (aj (ao 1) aG)) (kI 3))
  (aX (vg (qd (aj (Io JL (aj (ao 0) aG)) aG)) (kI 4) (aX (cT (QG (Az (uD (aF alz E (aj (Mk Av (ao 0) (ao 4)) (aj (ao 2) aG))))) (Az (uD (aF alW E (aj (Mk Av (ao 0) (ao 4)) (aj (ao 2) (aj (Mk Av (ao 2) (ao 4)) aG))))))) (bJ (mC (.bl false))) bD)
  (cT (abZ (aR (Mk Ib (Mk Av (Mk Av (ao 0) (ao 4)) (mC (.int 0))) (mC (.str "free")))) (aR (Mk Ju (Mk Av (ao 2) (ao 4)) (yK Mi (ao 3) (aj (mC (.int 0)) aG))))) (bJ (mC (.bl false))) bD)))
  (pA alz alW E)))
def tR (alz alW:Ah):Ah:=IV 3 5 true λE=>
  (aX (cT (QG (Az (uD (Io PL (aj (ao 2) (aj (mC (.ty "list")) aG))))) (aR (Mk Ju (Io JL (aj (ao 2) aG)) (Io JL (aj (ao 0) aG))))) (bJ (mC (.bl false))) bD)
  (yJ alz alW E))
def uq:Ah:=tR wY rY
def DK (alE alx alD alM alu alN alz alG:Ah)(E:Ce):MS:=
  (aX (bI (QF uN (ao 7) cM (fZ (Io JL (aj (JB JX [] (JT (QF uN (ao 4) cM (fZ (ao 9)))) (aR (Mk Ib (Mk Av (ao 0) (mC (.int 0))) (mC (.str "free")))) (ao 0)) aG)))) (kI 12))
  (aX (bI (aF alE E (aj (QF uN (ao 4) cM (fZ (ao 9))) (aj (Io v8 (aj (ao 12) aG)) aG))) (kI 10))
  (bJ (Bf (aF alG E (aj (QF uN (ao 4) cM (fZ (ao 9))) (aj (ao 12) (aj (ao 10) aG)))) (Qz (aF alz E (aj (Mk Av (ao 4) (ao 9)) (aj (ao 10) aG))))))))
def Ft (alE alx alD alM alu alN alz alG:Ah)(E:Ce):MS:=
  (aX (cT (QG (Az (uD (Io PL (aj (ao 9) (aj (mC (.ty "int")) aG))))) (QG (uD (Io PL (aj (ao 9) (aj (mC (.ty "bool")) aG)))) (Az (aR (GC kLt kLt (mC (.int 0)) (ao 9) (ao 3)))))) (bJ (mC (.bl false))) bD)
  (DK alE alx alD alM alu alN alz alG E))
def zbI (alE alx alD alM alu alN alz alG:Ah)(E:Ce):MS:=
  (aX (cT (aR (Mk Ib (ao 9) (mUn Zz (mC (.int 1))))) (aX (bI (aF alG E (aj (ao 4) (aj (ao 7) (aj (ao 10) aG)))) (kI 11))
  (aX (nG (yK cV (ao 10) (aj (tX (aj (mC (.int 7)) (aj (mC (.int 7)) (aj (mC (.int 1)) aG)))) aG)))
  (bJ (Bf (ao 11) (aF alG E (aj (ao 4) (aj (ao 7) (aj (aF alE E (aj (Io v8 (aj (ao 4) aG)) (aj (Io v8 (aj (ao 7) aG)) aG))) aG)))))))) bD)
  (Ft alE alx alD alM alu alN alz alG E))
def pQ (alE alx alD alM alu alN alz alG:Ah)(E:Ce):MS:=
  (aX (cT (aR (Mk adt (ao 8) (pP (aj (ao 4) (aj (ao 7) aG))))) (bJ (mC (.bl false))) bD)
  (zbI alE alx alD alM alu alN alz alG E))
def Ku (alE alx alD alM alu alN alz alG:Ah)(E:Ce):MS:=
  (aX (bI (aF alD E (aj (aF alx E (aj (ao 0) (aj (mC (.int 1)) aG))) aG)) (kI 5))
  (aX (bI (Mk zq (Mk aaX (mC (.int 10)) (mC (.int 9))) (Io PN (aj (Mk Ib (Mk Aj (aF alx E (aj (ao 0) (aj (mC (.int 2)) aG))) (mC (.int 8))) (mC (.int 5))) aG))) (kI 6))
  (aX (bI (JB JX [5,6] (qd (aj (ao 1) aG)) jF (aF alM E (aj (ao 1) (aj (ao 2) aG)))) (kI 7))
  (aX (bI (pP (aj (Io v8 (aj (ao 4) aG)) (aj (Io v8 (aj (ao 7) aG)) aG))) (kI 8))
  (aX (bI (mUn Zz (mC (.int 1))) (kI 9))
  (aX (WW 13 "EaselError" (λE=>(bI (aF alE E (aj (Mk Av (ao 8) (mC (.int 0))) (aj (Mk Av (ao 8) (mC (.int 1))) aG))) (kI 10))) (aX (cT (QG (Az (uD (adz (λn=>(KZ n "Stuck")) (ao 13)))) (Az (uD (adz (λn=>true) (ao 13))))) (bJ (mC (.bl false))) bD)
  (bI (Y8 "at" (ao 13)) (kI 9))))
  (pQ alE alx alD alM alu alN alz alG E)))))))
def XH (alE alx alD alM alu alN alz alG:Ah):Ah:=IV 1 14 false λE=>
  (aX (bI (Mk bR (mC (.int 2)) (Mk Aj (aF alx E (aj (ao 0) (aj (mC (.int 0)) aG))) (mC (.int 6)))) (kI 1))
  (aX (bI (Mk bR (mC (.int 16)) (Mk zq (mC (.int 8)) (Io PN (aj (Mk Ib (Mk Aj (Mk Jh (aF alx E (aj (ao 0) (aj (mC (.int 0)) aG))) (mC (.int 96))) (mC (.int 8))) (mC (.int 5))) aG)))) (kI 2))
  (aX (bI (Io ady (aj (ao 1) (aj (Mk bR (mC (.int 1)) (Mk Aj (Mk Jh (aF alx E (aj (ao 0) (aj (mC (.int 0)) aG))) (mC (.int 6))) (ao 2))) aG))) (kI 3))
  (aX (bI (aF alu E (aj (ao 0) (aj (ao 3) (aj (ao 1) (aj (mC (.int 48)) aG))))) (kI 4))
  (aX (cT (aR (Mk Ib (Mk Aj (Mk Jh (aF alx E (aj (ao 0) (aj (mC (.int 0)) aG))) (mC (.int 1000))) (mC (.int 2))) (mC (.int 0)))) (bI (aF alN E (aj (ao 4) (aj (ao 1) aG))) (kI 4)) bD)
  (Ku alE alx alD alM alu alN alz alG E))))))
def Wt:Ah:=XH wD wG Ar Gj Gg GD wY uq
def zl:List Str:=["ValueError", "abs", "all", "any", "bool", "enumerate", "int", "isinstance", "len", "list", "max", "min", "range", "reversed", "set", "sum", "tuple", "zip"]
structure Ad where
 x_EaselError:Addr
 x_Nothing:Addr
 x_Alike:Addr
 x_Stuck:Addr
 x_FourOnLine:Addr
 x_Knot:Addr
 x_NotRound:Addr
 x_NotOn:Addr
 x_InCurve:Addr
 f_Stuck_init:Addr
 d_Stuck_init:Ms
structure Txt (P:HN) (w:HI) (K:Ax) (mg:Str->Option JI) (base:Heap) (t:Ad):Prop where
 f0:At K mg "divisor_of_two" (top 11) ["one", "other"]
 f1:At K mg "divisor" (top 12) ["numbers"]
 f2:At K mg "ends_below" (top 13) ["numbers"]
 f3:At K mg "plain" (top 14) ["numbers"]
 f4:At K mg "dot" (top 16) ["one", "other"]
 f5:At K mg "cross" (top 17) ["one", "other"]
 f6:At K mg "turn" (top 18) ["one", "other", "third"]
 f7:At K mg "lies_on" (top 19) ["spot", "line"]
 f8:At K mg "share_one" (top 20) ["rows"]
 f9:At K mg "on_line" (top 21) ["spots"]
 f10:At K mg "plain_cross" (top 22) ["one", "other"]
 f11:At K mg "join" (top 23) ["one", "other"]
 f12:At K mg "meet" (top 24) ["one", "other"]
 f13:At K mg "rising" (top 26) ["many", "size"]
 f14:At K mg "picked" (top 27) ["things", "places"]
 f15:At K mg "has_alike" (top 28) ["things"]
 f16:At K mg "has_on_line" (top 29) ["spots", "size"]
 f17:At K mg "rows_of" (top 32) ["table"]
 f18:At K mg "size_of" (top 33) ["numbers"]
 f19:At K mg "table_times_row" (top 34) ["table", "row"]
 f20:At K mg "turned" (top 35) ["table"]
 f21:At K mg "tiles" (top 36) []
 f22:At K mg "worth" (top 38) ["curve", "spot"]
 f23:At K mg "is_on_curve" (top 39) ["curve", "spot"]
 f24:At K mg "together" (top 40) ["line", "other"]
 f25:At K mg "table_of" (top 41) ["curve"]
 f26:At K mg "both_sides" (top 42) ["table", "one", "other"]
 f27:At K mg "is_round" (top 43) ["curve"]
 f28:At K mg "mixed" (top 44) ["spots"]
 f29:At K mg "through" (top 45) ["spots"]
 f30:At K mg "plain_or_none" (top 47) ["numbers"]
 f31:At K mg "line_about" (top 48) ["curve", "spot"]
 f32:At K mg "spot_about" (top 49) ["curve", "line"]
 f33:At K mg "another_spot" (top 50) ["line", "spot"]
 f34:At K mg "other_end" (top 51) ["curve", "spot", "line"]
 f35:At K mg "made_by_row" (top 53) ["row", "things"]
 f36:At K mg "placed" (top 54) ["rows", "spots"]
 f37:At K mg "_law_cell" (top 56) ["_law_script", "_law_k"]
 f38:At K mg "_law_bag" (top 57) ["_law_cell_here"]
 f39:At K mg "_law_draw" (top 58) ["_law_bag_here", "_law_many"]
 f40:At K mg "_law_asks" (top 59) ["_law_word"]
 f41:At K mg "_law_sort" (top 60) ["_law_row_here"]
 f42:At K mg "_law_pick" (top 61) ["_law_bag_here", "_law_rows_here", "_law_sort_here"]
 f43:At K mg "_law_row" (top 62) ["_law_bag_here", "_law_rows_here", "_law_frees"]
 f44:At K mg "_law_divisor" (top 63) ["_law_numbers"]
 f45:At K mg "_law_plain" (top 64) ["_law_numbers"]
 f46:At K mg "_law_cross" (top 65) ["_law_one", "_law_other"]
 f47:At K mg "_law_dot" (top 66) ["_law_one", "_law_other"]
 f48:At K mg "_law_turn" (top 67) ["_law_one", "_law_other", "_law_third"]
 f49:At K mg "_law_rows_of" (top 68) ["_law_curve"]
 f50:At K mg "_law_times" (top 69) ["_law_curve", "_law_row_here"]
 f51:At K mg "_law_spot" (top 70) ["_law_bag_here", "_law_top"]
 f52:At K mg "_law_weight" (top 71) ["_law_rows_here", "_law_weights", "_law_row_here"]
 f53:At K mg "_law_rows" (top 72) ["_law_script", "_law_size", "_law_frees", "_law_most"]
 f54:At K mg "_law_amid" (top 73) ["_law_rows_here", "_law_frees"]
 f55:At K mg "_law_four_on_line" (top 74) ["_law_five"]
 f56:At K mg "_law_can" (top 75) ["_law_row_here", "_law_things"]
 f57:At K mg "_law_right" (top 76) ["_law_row_here", "_law_things", "_law_found"]
 f58:At K mg "_law_walked" (top 77) ["_law_rows_here", "_law_spots", "_law_things"]
 z:∀n∈zl,mg n=Go
 c_TILES:∃a,mg "TILES" = Dn (.ref a)/\∀H μ,CR K H μ qp (.ref a)
 xm_EaselError:mg "EaselError" = Dn (.ref t.x_EaselError)
 xd_EaselError:lM K t.x_EaselError "EaselError" = true
 xm_Nothing:mg "Nothing" = Dn (.ref t.x_Nothing)
 xd_Nothing:lM K t.x_Nothing "Nothing" = true
 xc_Nothing:jV K t.x_Nothing "Nothing" = true
 xq_Nothing:QV K t.x_Nothing NT "ValueError.__new__" = true
 xm_Alike:mg "Alike" = Dn (.ref t.x_Alike)
 xd_Alike:lM K t.x_Alike "Alike" = true
 xc_Alike:jV K t.x_Alike "Alike" = true
 xq_Alike:QV K t.x_Alike NT "ValueError.__new__" = true
 xm_Stuck:mg "Stuck" = Dn (.ref t.x_Stuck)
 xd_Stuck:lM K t.x_Stuck "Stuck" = true
 xm_FourOnLine:mg "FourOnLine" = Dn (.ref t.x_FourOnLine)
 xd_FourOnLine:lM K t.x_FourOnLine "FourOnLine" = true
 xc_FourOnLine:jV K t.x_FourOnLine "FourOnLine" = true
 xq_FourOnLine:QV K t.x_FourOnLine NT "ValueError.__new__" = true
 xm_Knot:mg "Knot" = Dn (.ref t.x_Knot)
 xd_Knot:lM K t.x_Knot "Knot" = true
 xc_Knot:jV K t.x_Knot "Knot" = true
 xq_Knot:QV K t.x_Knot NT "ValueError.__new__" = true
 xm_NotRound:mg "NotRound" = Dn (.ref t.x_NotRound)
 xd_NotRound:lM K t.x_NotRound "NotRound" = true
 xc_NotRound:jV K t.x_NotRound "NotRound" = true
 xq_NotRound:QV K t.x_NotRound NT "ValueError.__new__" = true
 xm_NotOn:mg "NotOn" = Dn (.ref t.x_NotOn)
 xd_NotOn:lM K t.x_NotOn "NotOn" = true
 xc_NotOn:jV K t.x_NotOn "NotOn" = true
 xq_NotOn:QV K t.x_NotOn NT "ValueError.__new__" = true
 xm_InCurve:mg "InCurve" = Dn (.ref t.x_InCurve)
 xd_InCurve:lM K t.x_InCurve "InCurve" = true
 xc_InCurve:jV K t.x_InCurve "InCurve" = true
 xq_InCurve:QV K t.x_InCurve NT "ValueError.__new__" = true
 F_Stuck_init:Sg K "__init__" "Stuck.__init__" fQ t.f_Stuck_init t.d_Stuck_init
 b_Stuck_init:Binds K t.d_Stuck_init ["self", "at"] []
 xi_Stuck:Ht K t.x_Stuck t.f_Stuck_init NT "ValueError.__new__" = true
 xf_Stuck:Xr K (.ref t.f_Stuck_init)=true
 xa_Stuck:U8 K t.x_Stuck "Stuck" = true
 xs_Stuck:adC K t.x_Stuck "at" = true
section
variable {P:HN}{w:HI}{K:Ax}{mg:Str->Option JI}{base:Heap}{t:Ad}(T:Txt P w K mg base t)
include T
theorem aho:jB P w K mg base O9 1 t.f_Stuck_init t.d_Stuck_init ["self", "at"] (spI t.x_Stuck "at"):=
 ajR T.F_Stuck_init wF λcdv A outer s H E hr=>Bm (ajh T.xs_Stuck (pv 0) (pv 1) rfl)
theorem nC:Fk P w K mg base 10 "divisor_of_two" iR:=by
 refine fk ["one", "other", "rest"] T.f0 T.z ?_;intro _ _ _ _ _ _ _ hr nd hc z;refine au (Hy 0<|Jy Ip boot_abs<|a1<|vV 0) ?_;refine au (Hy 1<|Jy Ip boot_abs<|a1<|vV 1) ?_;refine au (vd Ri (J1 (sY qq) (vV 1) aq)<|au (Hy 2<|bB pG (vV 0)<|vV 1)<|au (Hy 0<|vV 1)<|aD<|Hy 1<|vV 2) ?_;exact aD<|aH<|vV 0
theorem ahi:Fk P w K mg base 11 "divisor" yL:=by
 refine fk ["numbers", "found", "number"] T.f1 T.z ?_;intro _ _ _ _ _ _ _ hr nd hc z;exact au (Hy 1 aq)<|au (jX Ri hh (bV<|vV 0) (O8 2)<|aD<|Hy 1<|HD (nC T)<|a2 (vV 2)<|vV 1)<|aD<|aH<|vV 1
theorem uZ:Fk P w K mg base 10 "ends_below" oY:=by
 refine fk ["numbers", "number"] T.f2 T.z ?_;intro _ _ _ _ _ _ _ hr nd hc z;refine au (jX Ri hh (akS (rfl) (T.z _<|by decide) (a1<|vV 0) (aO<|by rfl)<|cC<|by rfl) (O8 1)<|aD<|cA (J1 (sY qq) (vV 1) aq) (aD<|aH<|MF Rq (vV 1) aq) aU) ?_;exact aD<|aH xM
theorem lZ:Qv P w K mg base 12 "plain" kZ:=by
 refine Sx (k:=11) ["numbers", "factor"] T.f3 T.z ?_;intro _ _ _ _ _ _ _ hr nd hc z;refine aQ (λ_=>trivial) ?_ ?_;exact dj<|Hy 1<|HD (ahi T)<|a1<|vV 0
 refine aQ (λ_=>trivial) ?_ ?_;exact fL (J1 (dY qq) (vV 1) aq) (aZ<|dO hh (by rfl) T.xm_Nothing T.xq_Nothing T.xc_Nothing) cH;refine aQ (λ_=>trivial) ?_ ?_;exact dj<|cA (dh<|HD (uZ T)<|a1<|vV 0) (aD<|Hy 1<|QK<|vV 1) aU
 refine aZ ?_;exact dj<|aH<|dct qY boot_tuple<|a1<|RD [1] (bV<|vV 0)<|λ_ _ _ _=>(bB zY (vV 0)<|vV 1)
theorem zbo:Fk P w K mg base 12 "plain" kZ:=(lZ T).tame
theorem lO:Fk P w K mg base 10 "dot" Bv:=by
 refine fk ["one", "other"] T.f4 T.z ?_;intro _ _ _ _ _ _ _ hr nd hc z;exact aD<|aH<|bB bL (bB bL (bB bF (BX (vV 0) aq)<|BX (vV 1) aq)<|bB bF (BX (vV 0) aq)<|BX (vV 1) aq)<|bB bF (BX (vV 0) aq)<|BX (vV 1) aq
theorem dM:Fk P w K mg base 10 "cross" nY:=by
 refine fk (k:=9) ["one", "other"] T.f5 T.z ?_;intro _ _ _ _ _ _ _ hr nd hc z;exact aD<|aH<|jM<|a3 (bB kE (bB bF (BX (vV 0) aq)<|BX (vV 1) aq)<|bB bF (BX (vV 0) aq)<|BX (vV 1) aq) (bB kE (bB bF (BX (vV 0) aq)<|BX (vV 1) aq)<|bB bF (BX (vV 0) aq)<|BX (vV 1) aq)<|bB kE (bB bF (BX (vV 0) aq)<|BX (vV 1) aq)<|bB bF (BX (vV 0) aq)<|BX (vV 1) aq
theorem aij:Fk P w K mg base 11 "turn" Va:=by
 refine fk ["one", "other", "third"] T.f6 T.z ?_;intro _ _ _ _ _ _ _ hr nd hc z;exact aD<|aH<|HD (lO T)<|a2 (HD (dM T)<|a2 (vV 0)<|vV 1)<|vV 2
theorem ahd:Fk P w K mg base 11 "lies_on" zX:=by
 refine fk ["spot", "line"] T.f7 T.z ?_;intro _ _ _ _ _ _ _ hr nd hc z;exact aD<|aH<|MF (dY qq) (HD (lO T)<|a2 (vV 0)<|vV 1) aq
theorem za:Fk P w K mg base 11 "share_one" jZ:=by
 refine fk ["rows", "unlike", "shared"] T.f8 T.z ?_;intro _ _ _ _ _ _ _ hr nd hc z;refine au (wO [0] (i:=1) (by assumption) (by rfl) (by exact Or.inl rfl) hh (cD<|by rfl) tG (tM<|cD<|by rfl) (bV<|vV 0) (λ_ _ _ _=>(iu<|J1 (sY qq) (vV 0)<|BX (vV 1) aq))<|λ_ _ _ _=>(vV 0)) ?_;refine au (cA (gK<|dh<|vV 1) (aD<|aH xM) aU) ?_;refine au (Hy 2<|HD (dM T)<|a2 (BX (vV 0) aq)<|BX (vV 1) aq) ?_;exact aD<|aH<|Jy (adQ hh) boot_all<|a1<|RD [2] (bV<|vV 1)<|λ_ _ _ _=>(MF (dY qq) (HD (lO T)<|a2 (vV 1)<|vV 0) aq)
theorem zaL:Fk P w K mg base 12 "on_line" qU:=by
 refine fk ["spots"] T.f9 T.z ?_;intro _ _ _ _ _ _ _ hr nd hc z;exact aD<|aH<|HD (za T)<|a1<|vV 0
theorem jt:Qv P w K mg base 13 "plain_cross" iG:=by
 refine Sx ["one", "other"] T.f10 T.z ?_;intro _ _ _ _ _ _ _ hr nd hc z;refine aQ (λ_=>trivial) ?_ ?_;exact fL (J1 (dY qq) (vV 0)<|vV 1) (aZ<|dO hh rfl T.xm_Alike T.xq_Alike T.xc_Alike) cH;exact aZ<|fu<|K6 (lZ T)<|a1<|HD (dM T)<|a2 (vV 0)<|vV 1
theorem Ef:Qv P w K mg base 14 "join" Oe:=by
 refine Sx ["one", "other"] T.f11 T.z ?_;intro _ _ _ _ _ _ _ hr nd hc z;exact aZ<|fu<|K6 (jt T)<|a2 (vV 0)<|vV 1
theorem Du:Qv P w K mg base 14 "meet" Aa:=by
 refine Sx ["one", "other"] T.f12 T.z ?_;intro _ _ _ _ _ _ _ hr nd hc z;exact aZ<|fu<|K6 (jt T)<|a2 (vV 0)<|vV 1
theorem aku:Fk P w K mg base 14 "meet" Aa:=(Du T).tame
theorem zaX:Fk P w K mg base 10 "rising" Dl:=by
 refine fk (k:=9) ["many", "size", "found", "taken", "longer", "places", "first"] T.f13 T.z ?_;intro _ _ _ _ _ _ _ hr nd hc z;refine au ?_ ?_;with_reducible exact Hy 2 (fH (a1 (jM d8)))
 refine au (jX Ri hh (drg<|a1<|vV 1) (O8 3)<|au (Hy 4<|pF d8)<|au (jX Ri hh (bV<|vV 2) (O8 5)<|au (Hy 6<|afB (J1 Vj (vV 3) aq) (bB bL (BX (vV 5)<|bB kE (vV 3) aq) aq) aq)<|aD<|jg<|aie (vV 4) (a1<|RD [5] (sG (by rfl) (by exact T.z _ (by decide))<|a2 (vV 6)<|vV 0)<|λ_ _ _ _=>(bB bL (vV 1)<|jM<|a1<|vV 0)) (by rfl) (vU<|by rfl) (by rfl) (aO<|by rfl)<|by rfl)<|aD<|Hy 2<|vV 4) ?_;exact aD<|aH<|vV 2
theorem zaE:Fk P w K mg base 10 "picked" Fl:=by
 refine fk ["things", "places"] T.f14 T.z ?_;intro _ _ _ _ _ _ _ hr nd hc z;exact aD<|aH<|RD [0] (bV<|vV 1)<|λ_ _ _ _=>(BX (vV 1)<|vV 0)
theorem yw:Fk P w K mg base 10 "has_alike" qF:=by
 refine fk ["things"] T.f15 T.z ?_;intro _ _ _ _ _ _ _ hr nd hc z;exact aD<|aH<|MF Rq (z9 hh qq rfl (T.z _<|by decide) rfl (T.z _<|by decide) (vV 0) (aO<|by rfl)<|aO rfl)<|Jy iY Q8<|a1<|vV 0
theorem sS:Fk P w K mg base 13 "has_on_line" mY:=by
 refine fk ["spots", "size"] T.f16 T.z ?_;intro _ _ _ _ _ _ _ hr nd hc z;exact aD<|aH<|Jy (acs hh) boot_any<|a1<|RD [0] (bV<|HD (zaX T)<|a2 (Jy iY Q8<|a1<|vV 0)<|vV 1)<|λ_ _ _ _=>(HD (zaL T)<|a1<|HD (zaE T)<|a2 (vV 1)<|vV 0)
theorem nO:Fk P w K mg base 10 "rows_of" m9:=by
 refine fk ["table"] T.f17 T.z ?_;intro _ _ _ _ _ _ _ hr nd hc z;exact aD<|aH<|fH<|a3 (jL (vV 0) (cj aq)<|cj aq) (jL (vV 0) (cj aq)<|cj aq)<|jL (vV 0) (cj aq)<|cj aq
theorem ahC:Fk P w K mg base 12 "size_of" yQ:=by
 refine fk ["numbers", "rows"] T.f18 T.z ?_;intro _ _ _ _ _ _ _ hr nd hc z;refine au (Hy 1<|HD (nO T)<|a1<|vV 0) ?_;exact aD<|aH<|HD (aij T)<|a3 (BX (vV 1) aq) (BX (vV 1) aq)<|BX (vV 1) aq
theorem cZ:Fk P w K mg base 11 "table_times_row" bY:=by
 refine fk (k:=10) ["table", "row"] T.f19 T.z ?_;intro _ _ _ _ _ _ _ hr nd hc z;exact aD<|aH<|RD [1] (bV<|HD (nO T)<|a1<|vV 0)<|λ_ _ _ _=>(HD (lO T)<|a2 (vV 0)<|vV 1)
theorem zbf:Fk P w K mg base 11 "turned" uU:=by
 refine fk ["table", "rows"] T.f20 T.z ?_;intro _ _ _ _ _ _ _ hr nd hc z;refine au (Hy 1<|HD (nO T)<|a1<|vV 0) ?_;exact aD<|aH<|bB bL (bB bL (HD (dM T)<|a2 (BX (vV 1) aq)<|BX (vV 1) aq)<|HD (dM T)<|a2 (BX (vV 1) aq)<|BX (vV 1) aq)<|HD (dM T)<|a2 (BX (vV 1) aq)<|BX (vV 1) aq
theorem zbP:Fk P w K mg base 10 "tiles" KN:=by
 refine fk [] T.f21 T.z ?_;intro _ _ _ _ _ _ _ hr nd hc z;obtain⟨a_TILES,g_TILES,r_TILES⟩:=T.c_TILES;exact aD<|aH<|dct uc WR<|a1<|dc (Cj rfl g_TILES<|by rfl) r_TILES
theorem aji:Fk P w K mg base 10 "worth" Nx:=by
 refine fk (k:=9) ["curve", "spot", "x", "y", "z", "squares"] T.f22 T.z ?_;intro _ _ _ _ _ _ _ hr nd hc z;refine au (Hy 2<|BX (vV 1) aq) ?_;refine au (Hy 3<|BX (vV 1) aq) ?_;refine au (Hy 4<|BX (vV 1) aq) ?_;refine au (Hy 5<|bB bL (bB bL (bB bF (bB bF (BX (vV 0) aq)<|vV 2)<|vV 2)<|bB bF (bB bF (BX (vV 0) aq)<|vV 3)<|vV 3)<|bB bF (bB bF (BX (vV 0) aq)<|vV 4)<|vV 4) ?_;exact aD<|aH<|bB bL (bB bL (bB bL (vV 5)<|bB bF (bB bF (BX (vV 0) aq)<|vV 2)<|vV 3)<|bB bF (bB bF (BX (vV 0) aq)<|vV 2)<|vV 4)<|bB bF (bB bF (BX (vV 0) aq)<|vV 3)<|vV 4
theorem sZ:Fk P w K mg base 11 "is_on_curve" mD:=by
 refine fk ["curve", "spot"] T.f23 T.z ?_;intro _ _ _ _ _ _ _ hr nd hc z;exact aD<|aH<|MF (dY qq) (HD (aji T)<|a2 (vV 0)<|vV 1) aq
theorem rN:Fk P w K mg base 10 "together" tW:=by
 refine fk (k:=9) ["line", "other"] T.f24 T.z ?_;intro _ _ _ _ _ _ _ hr nd hc z;exact aD<|aH<|jM<|aC (bB bF (BX (vV 0) aq)<|BX (vV 1) aq)<|aC (bB bL (bB bF (BX (vV 0) aq)<|BX (vV 1) aq)<|bB bF (BX (vV 0) aq)<|BX (vV 1) aq)<|aC (bB bF (BX (vV 0) aq)<|BX (vV 1) aq)<|a3 (bB bL (bB bF (BX (vV 0) aq)<|BX (vV 1) aq)<|bB bF (BX (vV 0) aq)<|BX (vV 1) aq) (bB bL (bB bF (BX (vV 0) aq)<|BX (vV 1) aq)<|bB bF (BX (vV 0) aq)<|BX (vV 1) aq)<|bB bF (BX (vV 0) aq)<|BX (vV 1) aq
theorem gR:Fk P w K mg base 10 "table_of" gB:=by
 refine fk (k:=9) ["curve"] T.f25 T.z ?_;intro _ _ _ _ _ _ _ hr nd hc z;exact aD<|aH<|jM<|aC (bB bF aq<|BX (vV 0) aq)<|aC (BX (vV 0) aq)<|aC (BX (vV 0) aq)<|aC (BX (vV 0) aq)<|aC (bB bF aq<|BX (vV 0) aq)<|aC (BX (vV 0) aq)<|a3 (BX (vV 0) aq) (BX (vV 0) aq)<|bB bF aq<|BX (vV 0) aq
theorem lU:Fk P w K mg base 12 "both_sides" jx:=by
 refine fk ["table", "one", "other"] T.f26 T.z ?_;intro _ _ _ _ _ _ _ hr nd hc z;exact aD<|aH<|HD (lO T)<|a2 (vV 1)<|HD (cZ T)<|a2 (vV 0)<|vV 2
theorem ahb:Fk P w K mg base 13 "is_round" oA:=by
 refine fk ["curve"] T.f27 T.z ?_;intro _ _ _ _ _ _ _ hr nd hc z;exact aD<|aH<|MF (sY qq) (HD (ahC T)<|a1<|HD (gR T)<|a1<|vV 0) aq
theorem alc:Fk P w K mg base 11 "mixed" O6:=by
 refine fk (k:=10) ["spots", "first", "second", "third", "last", "more", "less"] T.f28 T.z ?_;intro _ _ _ _ _ _ _ hr nd hc z;refine au (Hy 1<|HD (dM T)<|a2 (BX (vV 0) aq)<|BX (vV 0) aq) ?_;refine au (Hy 2<|HD (dM T)<|a2 (BX (vV 0) aq)<|BX (vV 0) aq) ?_;refine au (Hy 3<|HD (dM T)<|a2 (BX (vV 0) aq)<|BX (vV 0) aq) ?_;refine au (Hy 4<|HD (dM T)<|a2 (BX (vV 0) aq)<|BX (vV 0) aq) ?_;refine au (Hy 5<|bB bF (HD (lO T)<|a2 (vV 1)<|BX (vV 0) aq)<|HD (lO T)<|a2 (vV 2)<|BX (vV 0) aq) ?_;refine au (Hy 6<|bB bF (HD (lO T)<|a2 (vV 3)<|BX (vV 0) aq)<|HD (lO T)<|a2 (vV 4)<|BX (vV 0) aq) ?_;exact aD<|aH<|aei [5,6] hh (cD<|by rfl) ZP (abH hh<|cD<|by rfl) (Uv (by rfl) (by exact T.z _ (by decide)) (a2 (HD (rN T)<|a2 (vV 3)<|vV 4)<|HD (rN T)<|a2 (vV 1)<|vV 2) (aO<|by rfl)<|cC<|by rfl) (λ_ _ _ _=>jy)<|λ_ _ _ _=>(bB kE (bB bF (vV 2)<|vV 0)<|bB bF (vV 3)<|vV 1)
theorem zak:Qv P w K mg base 14 "through" rT:=by
 refine Sx ["spots"] T.f29 T.z ?_;intro _ _ _ _ _ _ _ hr nd hc z;refine aQ (λ_=>trivial) ?_ ?_;exact fL (dh<|HD (yw T)<|a1<|vV 0) (aZ<|dO hh (by rfl) T.xm_Alike T.xq_Alike T.xc_Alike) cH;refine aQ (λ_=>trivial) ?_ ?_;exact fL (dh<|HD (sS T)<|a2 (vV 0) aq) (aZ<|dO hh (by rfl) T.xm_FourOnLine T.xq_FourOnLine T.xc_FourOnLine) cH;refine aZ ?_;exact fu<|K6 (lZ T)<|a1<|HD (alc T)<|a1<|vV 0
theorem iI:Fk P w K mg base 13 "plain_or_none" fB:=by
 refine fk ["numbers"] T.f30 T.z ?_;intro _ _ _ _ _ _ _ hr nd hc z;exact aD<|aH<|afB (dh<|Jy (acs hh) boot_any<|a1<|RD [] (bV<|vV 0)<|λ_ _ _ _=>(MF (sY qq) (vV 0) aq)) (HD (zbo T)<|a1<|vV 0) Yl
theorem sV:Qv P w K mg base 14 "line_about" jm:=by
 refine Sx ["curve", "spot", "line"] T.f31 T.z ?_;intro _ _ _ _ _ _ _ hr nd hc z;refine aQ (λ_=>trivial) ?_ ?_;exact dj<|Hy 2<|HD (iI T)<|a1<|HD (cZ T)<|a2 (HD (gR T)<|a1<|vV 0)<|vV 1
 refine aQ (λ_=>trivial) ?_ ?_;exact fL (J1 afT (vV 2) Yl) (aZ<|dO hh (by rfl) T.xm_Knot T.xq_Knot T.xc_Knot) cH;refine aZ ?_;exact dj<|aH<|vV 2
theorem sU:Qv P w K mg base 14 "spot_about" jj:=by
 refine Sx ["curve", "line"] T.f32 T.z ?_;intro _ _ _ _ _ _ _ hr nd hc z;refine aQ (λ_=>trivial) ?_ ?_;exact fL (gK<|dh<|HD (ahb T)<|a1<|vV 0) (aZ<|dO hh (by rfl) T.xm_NotRound T.xq_NotRound T.xc_NotRound) cH;refine aZ ?_;exact fu<|K6 (lZ T)<|a1<|HD (cZ T)<|a2 (HD (zbf T)<|a1<|HD (gR T)<|a1<|vV 0)<|vV 1
theorem qN:Fk P w K mg base 15 "another_spot" jU:=by
 refine fk (k:=14) ["line", "spot", "met"] T.f33 T.z ?_;intro _ _ _ _ _ _ _ hr nd hc z;refine au (wO [0] (i:=2) (by assumption) (by rfl) (by exact Or.inl rfl) hh (cD<|by rfl) tG (tM<|cD<|by rfl) (bV<|jL (dc0<|zbP T) dF<|cj aq) (λ_ _ _ _=>(iu<|J1 (sY qq) (vV 0)<|vV 1))<|λ_ _ _ _=>(HD (aku T)<|a2 (vV 1)<|vV 0)) ?_;exact aD<|aH<|BX (dl1 [1] (bV<|vV 2) (λ_ _ _ _=>(iu<|J1 (sY qq) (vV 0)<|vV 1))<|λ_ _ _ _=>(vV 0)) aq
theorem uY:Qv P w K mg base 16 "other_end" lB:=by
 refine Sx (k:=15) ["curve", "spot", "line", "table", "another", "own", "shared", "end"] T.f34 T.z ?_;intro _ _ _ _ _ _ _ hr nd hc z;refine aQ (λ_=>trivial) ?_ ?_;exact fL (lG (gK<|dh<|HD (sZ T)<|a2 (vV 0)<|vV 1)<|fP<|gK<|dh<|HD (ahd T)<|a2 (vV 1)<|vV 2).pt (aZ<|dO hh (by rfl) T.xm_NotOn T.xq_NotOn T.xc_NotOn) cH;refine aQ (λ_=>trivial) ?_ ?_;exact dj<|Hy 3<|HD (gR T)<|a1<|vV 0
 refine aQ (λ_=>trivial) ?_ ?_;exact dj<|Hy 4<|HD (qN T)<|a2 (vV 2)<|vV 1
 refine aQ (λ_=>trivial) ?_ ?_;exact dj<|Hy 5<|HD (lU T)<|a3 (vV 3) (vV 4)<|vV 4
 refine aQ (λ_=>trivial) ?_ ?_;exact dj<|Hy 6<|bB bF aq<|HD (lU T)<|a3 (vV 3) (vV 1)<|vV 4
 refine aQ (λ_=>trivial) ?_ ?_;exact dj<|Hy 7<|HD (iI T)<|a1<|aei [5,6] hh (cD<|by rfl) ZP (abH hh<|cD<|by rfl) (Uv (by rfl) (by exact T.z _ (by decide)) (a2 (vV 1)<|vV 4) (aO<|by rfl)<|cC<|by rfl) (λ_ _ _ _=>jy)<|λ_ _ _ _=>(bB kE (bB bF (vV 2)<|vV 0)<|bB bF (vV 3)<|vV 1)
 refine aQ (λ_=>trivial) ?_ ?_;exact fL (J1 afT (vV 7) Yl) (aZ<|dO hh (by rfl) T.xm_InCurve T.xq_InCurve T.xc_InCurve) cH;refine aZ ?_;exact dj<|aH<|vV 7
theorem pY:Qv P w K mg base 17 "made_by_row" mJ:=by
 refine Sx (k:=16) ["row", "things", "told"] T.f35 T.z ?_;intro _ _ _ _ _ _ _ hr nd hc z;refine aQ (λ_=>trivial) ?_ ?_;exact dj<|wO [1] (i:=2) (by assumption) (by rfl) (by exact Or.inl rfl) hh (cD<|by rfl) tG (tM<|cD<|by rfl) (bV<|jL (vV 0) (cj aq) dF) (λ_ _ _ _=>jy)<|λ_ _ _ _=>(BX (vV 1)<|vV 0)
 refine aQ (λ_=>trivial) ?_ ?_;exact fL (J1 (dY qq) (BX (vV 0) aq) bC) (aZ<|fu<|K6 (Ef T)<|a2 (BX (vV 2) aq)<|BX (vV 2) aq) cH;refine aQ (λ_=>trivial) ?_ ?_;exact fL (J1 (dY qq) (BX (vV 0) aq) bC) (aZ<|fu<|K6 (Du T)<|a2 (BX (vV 2) aq)<|BX (vV 2) aq) cH;refine aQ (λ_=>trivial) ?_ ?_;exact fL (J1 (dY qq) (BX (vV 0) aq) bC) (aZ<|fu<|K6 (zak T)<|a1<|vV 2) cH;refine aQ (λ_=>trivial) ?_ ?_;exact fL (J1 (dY qq) (BX (vV 0) aq) bC) (aZ<|fu<|K6 (sV T)<|a2 (BX (vV 2) aq)<|BX (vV 2) aq) cH;refine aQ (λ_=>trivial) ?_ ?_;exact fL (J1 (dY qq) (BX (vV 0) aq) bC) (aZ<|fu<|K6 (sU T)<|a2 (BX (vV 2) aq)<|BX (vV 2) aq) cH;refine aZ ?_;exact fu<|agP (uY T)<|Ei (λ_=>trivial) (BX (vV 2) aq) (Ei (λ_=>trivial) (BX (vV 2) aq) (aiu (K6 (Ef T)<|a2 (BX (vV 2) aq)<|BX (vV 2) aq) d8<|aO<|by rfl)<|aO<|by rfl)<|aO<|by rfl
theorem uI:Qv P w K mg base 18 "placed" wD:=by
 refine Sx (k:=17) ["rows", "spots", "things", "free", "k", "row", "made"] T.f36 T.z ?_;intro _ _ _ _ _ _ _ hr nd hc z;obtain⟨_,_,_,o_made_by_rowX,m_made_by_rowX,k_made_by_rowX,b_made_by_rowX⟩:=pY T;refine aQ (λ_=>trivial) ?_ ?_;exact dj<|Hy 2<|pF d8
 refine aQ (λ_=>trivial) ?_ ?_;exact dj<|Hy 3 aq
 refine aQ (λ_=>trivial) ?_ ?_;exact(akp PassesOwn.leaving hc (λ_=>trivial) (ald (by rfl) (by exact T.z _ (by decide)) (fX (dv 0 (pv 0)) d8 (aO (by rfl))) (aO (by rfl)) (cC (by rfl))) (v7 hc (cB (BZ (nR (i:=4) nd (by rfl) (by exact Or.inl rfl))) (cB (BZ (nR (i:=5) nd (by rfl) (by exact Or.inl rfl))) vG))) (aZ (fL (U3 (dY (afQ hr)) (aaK (dv 5 (pv 5)) aq (by intro _ _;rfl)) bC (K7 _)) (aQ (λ_=>trivial) (dj (jg (gU (dv 2 (pv 2)) (fX (aaK (dv 1 (pv 1)) (dv 3 (pv 3)) (by intro _ _;rfl)) d8 (aO (by rfl))) (by rfl) (vU (by rfl)) (by rfl) (aO (by rfl)) (by rfl)))) (aZ (dj (Lx (i:=3) nd (by rfl) (by exact Or.inl rfl) (bB bL (dv 3 (pv 3)) aq))))) (aQ (λ_=>trivial) (aju (by rfl) T.xm_EaselError T.xd_EaselError ⟨rfl,rfl⟩ rfl (λ_=>trivial) (λamx xe σ0=>(aZ (Ly (i:=6) nd (by rfl) (by exact Or.inl rfl) (Ai (o_made_by_rowX.mono (by decide)) hr (by rfl) (by exact m_made_by_rowX) (by exact k_made_by_rowX) (by exact b_made_by_rowX) (fX (dv 5 (pv 5)) (fX (dv 2 (pv 2)) d8 (aO (by rfl))) (aO (by rfl))) (by decide) (aO (by rfl)) (cC (by rfl)))))) (λa H0 xe hn=>by
 have hr:=Dc (a:=a) hr (by decide);exact(aZ (zas hn (by rfl) (by rfl) T.xm_Stuck T.xi_Stuck T.xf_Stuck ((aho T).mono (by decide)) hr (by exact T.b_Stuck_init) T.xa_Stuck (by rfl) (dv 4 (pv 4)))))) (aZ (dj (jg (gU (dv 2 (pv 2)) (fX (dv 6 (pv 6)) d8 (aO (by rfl))) (by rfl) (vU (by rfl)) (by rfl) (aO (by rfl)) (by rfl)))))))))
 refine aZ ?_;exact dj<|aH<|vV 2
theorem zM:Fk P w K mg base 18 "placed" wD:=(uI T).tame
theorem eZ:Fk P w K mg base 10 "_law_cell" wG:=by
 refine fk ["_law_script", "_law_k"] T.f37 T.z ?_;intro _ _ _ _ _ _ _ hr nd hc z;exact au (cA (J1 Rq (vV 1)<|Jy iY Q8<|a1<|vV 0) (aD<|aH<|BX (vV 0)<|vV 1) aU)<|aD<|aH aq
theorem FZ:Fk P w K mg base 10 "_law_bag" Ar:=by
 refine fk (k:=9) ["_law_cell_here"] T.f38 T.z ?_;intro _ _ _ _ _ _ _ hr nd hc z;exact aD<|aH<|pF<|a2 (bB GQ (Jy Ip boot_abs<|a1<|vV 0)<|dct Hs boot_int<|a1<|MF agF (Jy Ip boot_abs<|a1<|vV 0)<|bB acq aq aq)<|bB pG (Jy Ip boot_abs<|a1<|vV 0) aq
theorem cX:Fk P w K mg base 10 "_law_draw" pN:=by
 refine fk (k:=9) ["_law_bag_here", "_law_many", "_law_found"] T.f39 T.z ?_;intro _ _ _ _ _ _ _ hr nd hc z;refine au (cA (J1 Vj (BX (vV 0) aq) aq) (au (Hy 2<|bB pG (BX (vV 0) aq)<|vV 1)<|au (jr (bB zY (BX (vV 0) aq)<|vV 1)<|pD (vV 0) aq set_list xG)<|aD<|aH<|vV 2) aU) ?_;refine au (jr (bB pG (bB bL (bB bF (BX (vV 0) aq) aq) aq) aq)<|pD (vV 0) aq set_list xG) ?_;exact aD<|aH<|bB pG (bB zY (bB pG (bB bF (BX (vV 0) aq)<|bB bL (bB zY (BX (vV 0) aq) aq) aq) aq) aq)<|vV 1
theorem zB:Fk P w K mg base 10 "_law_asks" Df:=by
 refine fk (k:=9) ["_law_word", "_law_asks_here"] T.f40 T.z ?_;intro _ _ _ _ _ _ _ hr nd hc z;refine au ?_ ?_;with_reducible exact Hy 1 (ZX (RZ.cons (fH d8) (RZ.cons (fH (a2 bC bC)) (RZ.cons (fH (a2 bC bC)) (RZ.cons (fH (a2 bC bC)) RZ.nil)))) (by with_unfolding_all exact List.cons_ne_nil _ _) (by with_unfolding_all exact QB rfl))
 refine au (jr (fH<|aC bC<|aC bC<|a3 bC bC bC)<|pD (vV 1) bC set_dict lY) ?_;refine au (jr (fH<|a2 bC bC)<|pD (vV 1) bC set_dict lY) ?_;refine au (jr (fH<|a3 bC bC bC)<|pD (vV 1) bC set_dict lY) ?_;exact aD<|aH<|abv (vV 1) (vV 0) (by intro _ _;rfl)
theorem zA:Fk P w K mg base 10 "_law_sort" vO:=by
 refine fk ["_law_row_here"] T.f41 T.z ?_;intro _ _ _ _ _ _ _ hr nd hc z;refine au (cA (lG (J1 (dY qq) (BX (vV 0) aq) bC)<|fP<|J1 (dY qq) (BX (vV 0) aq) bC).pt (aD<|aH bC) aU) ?_;exact aD<|aH<|BX (fH<|a2 bC bC)<|dct Hs boot_int<|a1<|MF (dY qq) (BX (vV 0) aq) bC
theorem aiC:Fk P w K mg base 11 "_law_pick" GJ:=by
 refine fk (k:=10) ["_law_bag_here", "_law_rows_here", "_law_sort_here", "_law_numbers"] T.f42 T.z ?_;intro _ _ _ _ _ _ _ hr nd hc z;refine au (wO [1,2] (i:=3) (by assumption) (by rfl) (by exact Or.inl rfl) hh (cD<|by rfl) tG (tM<|cD<|by rfl) (drg<|a1<|Jy iY Q8<|a1<|vV 1) (λ_ _ _ _=>(iu<|J1 (dY qq) (HD (zA T)<|a1<|BX (vV 1)<|vV 0)<|vV 2))<|λ_ _ _ _=>(vV 0)) ?_;exact aD<|aH<|BX (vV 3)<|HD (cX T)<|a2 (vV 0)<|Jy iY Q8<|a1<|vV 3
theorem zbF:Fk P w K mg base 12 "_law_row" NP:=by
 refine fk (k:=11) ["_law_bag_here", "_law_rows_here", "_law_frees", "_law_sorts", "_law_words", "_law_word", "_law_lacking"] T.f43 T.z ?_;intro _ _ _ _ _ _ _ hr nd hc z;refine au (Hy 3<|RD [] (bV<|vV 1)<|λ_ _ _ _=>(HD (zA T)<|a1<|vV 0)) ?_;refine au (Hy 4<|fH<|aC bC<|aC bC<|aC bC<|aC bC<|aC bC<|aC bC<|aC bC<|a3 bC bC bC) ?_;refine au (Hy 5<|BX (vV 4)<|HD (cX T)<|a2 (vV 0) aq) ?_;refine au (wO [3] (i:=6) (by assumption) (by rfl) (by exact Or.inl rfl) hh (cD<|by rfl) tG (tM<|cD<|by rfl) (bV<|HD (zB T)<|a1<|vV 5) (λ_ _ _ _=>(iu<|J1 (aax qq) (vV 0)<|vV 1))<|λ_ _ _ _=>(vV 0)) ?_;refine au (cA (lG (J1 Rq (Jy iY Q8<|a1<|vV 1)<|vV 2)<|fP<|J1 Vj (Jy iY Q8<|a1<|vV 6) aq).pt (aD<|Hy 5<|BX (fH<|a2 bC bC)<|dct Hs boot_int<|a1<|MF Rq (Jy iY Q8<|a1<|vV 1)<|vV 2) aU) ?_;exact aD<|aH<|dct qY boot_tuple<|a1<|bB bL (fH<|a1<|vV 5)<|RD [0,1] (bV<|HD (zB T)<|a1<|vV 5)<|λ_ _ _ _=>(HD (aiC T)<|a3 (vV 1) (vV 2)<|vV 0)
theorem yC:Fk P w K mg base 10 "_law_divisor" p7:=by
 refine fk (k:=9) ["_law_numbers", "_law_found", "_law_number", "_law_one"] T.f44 T.z ?_;intro _ _ _ _ _ _ _ hr nd hc z;refine au (Hy 1 aq) ?_;refine au (jX Ri hh (bV<|vV 0) (O8 2)<|au (Hy 3<|Jy Ip boot_abs<|a1<|vV 2)<|aD<|vd Ri (J1 Vj (vV 3) aq)<|aD<|zaU<|ab8 (i:=1) (j:=3) hh (by assumption) (by rfl) (by rfl) (by decide) (by rfl) (by rfl) (a2 (vV 3)<|bB pG (vV 1)<|vV 3)<|by rfl) ?_;exact aD<|aH<|vV 1
theorem uO:Fk P w K mg base 11 "_law_plain" mW:=by
 refine fk (k:=10) ["_law_numbers", "_law_by", "_law_last"] T.f45 T.z ?_;intro _ _ _ _ _ _ _ hr nd hc z;refine au (Hy 1<|HD (yC T)<|a1<|vV 0) ?_;refine au (Hy 2<|BX (dl1 [] (bV<|vV 0) (λ_ _ _ _=>(iu<|J1 (sY qq) (vV 0) aq))<|λ_ _ _ _=>(vV 0))<|QK aq) ?_;refine au (cA (J1 Rq (vV 2) aq) (aD<|Hy 1<|bB kE aq<|vV 1) aU) ?_;exact aD<|aH<|dct qY boot_tuple<|a1<|RD [1] (bV<|vV 0)<|λ_ _ _ _=>(bB zY (vV 0)<|vV 1)
theorem nU:Fk P w K mg base 10 "_law_cross" p8:=by
 refine fk (k:=9) ["_law_one", "_law_other", "_law_a", "_law_b", "_law_c", "_law_d", "_law_e", "_law_f"] T.f46 T.z ?_;intro _ _ _ _ _ _ _ hr nd hc z;refine au (jr (vV 0)<|v7 hh<|cB (O8 2)<|cB (O8 3)<|cB (O8 4) vG) ?_;refine au (jr (vV 1)<|v7 hh<|cB (O8 5)<|cB (O8 6)<|cB (O8 7) vG) ?_;exact aD<|aH<|jM<|a3 (bB kE (bB bF (vV 3)<|vV 7)<|bB bF (vV 4)<|vV 6) (bB kE (bB bF (vV 4)<|vV 5)<|bB bF (vV 2)<|vV 7)<|bB kE (bB bF (vV 2)<|vV 6)<|bB bF (vV 3)<|vV 5
theorem dJ:Fk P w K mg base 10 "_law_dot" rK:=by
 refine fk (k:=9) ["_law_one", "_law_other"] T.f47 T.z ?_;intro _ _ _ _ _ _ _ hr nd hc z;exact aD<|aH<|bB bL (bB bL (bB bF (BX (vV 0) aq)<|BX (vV 1) aq)<|bB bF (BX (vV 0) aq)<|BX (vV 1) aq)<|bB bF (BX (vV 0) aq)<|BX (vV 1) aq
theorem gM:Fk P w K mg base 11 "_law_turn" mQ:=by
 refine fk (k:=10) ["_law_one", "_law_other", "_law_third"] T.f48 T.z ?_;intro _ _ _ _ _ _ _ hr nd hc z;exact aD<|aH<|HD (dJ T)<|a2 (HD (nU T)<|a2 (vV 0)<|vV 1)<|vV 2
theorem oN:Fk P w K mg base 10 "_law_rows_of" j7:=by
 refine fk (k:=9) ["_law_curve", "_law_a", "_law_b", "_law_c", "_law_d", "_law_e", "_law_f"] T.f49 T.z ?_;intro _ _ _ _ _ _ _ hr nd hc z;refine au (jr (vV 0)<|v7 hh<|cB (O8 1)<|cB (O8 2)<|cB (O8 3)<|cB (O8 4)<|cB (O8 5)<|cB (O8 6) vG) ?_;refine aD ?_;with_reducible exact aH (fH (a3 (jM (a3 (bB bF aq (vV 1)) (vV 2) (vV 4))) (jM (a3 (vV 2) (bB bF aq (vV 3)) (vV 5))) (jM (a3 (vV 4) (vV 5) (bB bF aq (vV 6))))))
theorem cO:Fk P w K mg base 11 "_law_times" lV:=by
 refine fk (k:=10) ["_law_curve", "_law_row_here"] T.f50 T.z ?_;intro _ _ _ _ _ _ _ hr nd hc z;exact aD<|aH<|dct qY boot_tuple<|a1<|RD [1] (bV<|HD (oN T)<|a1<|vV 0)<|λ_ _ _ _=>(HD (dJ T)<|a2 (vV 0)<|vV 1)
theorem zaJ:Fk P w K mg base 12 "_law_spot" Gj:=by
 refine fk (k:=11) ["_law_bag_here", "_law_top", "_law_row_here"] T.f51 T.z ?_;intro _ _ _ _ _ _ _ hr nd hc z;refine au ?_ ?_;with_reducible exact Hy 2 (pF (a3 (bB kE (HD (by with_unfolding_all exact cX T) (a2 (vV 0) aq)) aq) (bB kE (HD (by with_unfolding_all exact cX T) (a2 (vV 0) aq)) aq) (BX (fH (aC aq (aC aq (aC aq (aC aq (aC aq (a3 aq aq aq))))))) (HD (by with_unfolding_all exact cX T) (a2 (vV 0) aq)))))
 refine au (cA (J1 Vj (vV 1) aq) (aD<|Hy 2<|pF<|a3 (bB kE (HD (cX T)<|a2 (vV 0)<|bB bF aq<|vV 1)<|vV 1) (bB kE (HD (cX T)<|a2 (vV 0)<|bB bF aq<|vV 1)<|vV 1)<|HD (cX T)<|a2 (vV 0)<|vV 1) aU) ?_;refine au (cA (J1 (dY qq) (vV 2)<|fH<|a3 aq aq aq) (aD<|jr aq<|pD (vV 2) (HD (cX T)<|a2 (vV 0) aq) set_list xG) aU) ?_;exact aD<|aH<|HD (uO T)<|a1<|vV 2
theorem qy:Fk P w K mg base 10 "_law_weight" uQ:=by
 refine fk (k:=9) ["_law_rows_here", "_law_weights", "_law_row_here", "_law_some"] T.f52 T.z ?_;intro _ _ _ _ _ _ _ hr nd hc z;refine au (wO [1] (i:=3) (by assumption) (by rfl) (by exact Or.inl rfl) hh (cD<|by rfl) tG (tM<|cD<|by rfl) (bV<|jL (vV 2) (cj aq) dF) (λ_ _ _ _=>jy)<|λ_ _ _ _=>(BX (vV 1)<|vV 0)) ?_;refine au (cA (J1 (dY qq) (BX (vV 2) aq) bC) (aD<|aH aq) aU) ?_;refine au (cA (J1 (dY qq) (BX (vV 2) aq) bC) (aD<|aH<|bB bF aq<|Jy (acJ hh) boot_sum<|a1<|vV 3) aU) ?_;refine au (cA (J1 (dY qq) (BX (vV 2) aq) bC) (aD<|aH<|bB bL (bB bF aq<|BX (vV 3) aq)<|BX (vV 3) aq) aU) ?_;refine au (cA (J1 (dY qq) (BX (vV 2) aq) bC) (aD<|aH<|bB bL (bB bL (BX (vV 3) aq)<|BX (vV 3) aq)<|bB bF aq<|BX (vV 3) aq) aU) ?_;exact aD<|aH<|Jy (acJ hh) boot_sum<|a1<|vV 3
theorem ahw:Fk P w K mg base 13 "_law_rows" Gg:=by
 refine fk (k:=12) ["_law_script", "_law_size", "_law_frees", "_law_most", "_law_rows_here", "_law_weights", "_law_k", "_law_row_here"] T.f53 T.z ?_;intro _ _ _ _ _ _ _ hr nd hc z;refine au (Hy 4<|pF d8) ?_;refine au (Hy 5<|pF d8) ?_;refine au (jX Ri hh (drg<|a1<|vV 1) (O8 6)<|au (Hy 7<|HD (zbF T)<|a3 (HD (FZ T)<|a1<|HD (eZ T)<|a2 (vV 0)<|bB bL aq<|vV 6) (vV 4)<|vV 2)<|au (cA (J1 Vj (HD (qy T)<|a3 (vV 4) (vV 5)<|vV 7)<|vV 3) (aD<|Hy 7<|jM<|a3 bC aq<|Jy (ad1 hh) boot_min<|a2 aq<|bB kE (vV 2) aq) aU)<|au (jg<|gU (vV 5) (a1<|HD (qy T)<|a3 (vV 4) (vV 5)<|vV 7) (by rfl) (vU<|by rfl) (by rfl) (aO<|by rfl)<|by rfl)<|aD<|jg<|gU (vV 4) (a1<|vV 7) (by rfl) (vU<|by rfl) (by rfl) (aO<|by rfl)<|by rfl) ?_;exact aD<|aH<|vV 4
theorem zbh:Fk P w K mg base 10 "_law_amid" GD:=by
 refine fk (k:=9) ["_law_rows_here", "_law_frees", "_law_places", "_law_laid", "_law_ahead", "_law_k", "_law_number"] T.f54 T.z ?_;intro _ _ _ _ _ _ _ hr nd hc z;refine au ?_ ?_;with_reducible exact Hy 2 acj
 refine au (Hy 3<|pF d8) ?_;refine au (Hy 4 aq) ?_;refine au (jX Ri hh (sG (by rfl) (by exact T.z _ (by decide))<|a2 (vV 1)<|Jy iY Q8<|a1<|vV 0) (O8 5)<|au (jX Ri hh (bV<|jL (BX (vV 0)<|vV 5) (cj aq) dF) (O8 6)<|aD<|vd Ri (JD (J1 Rq (vV 6)<|vV 1)<|BK<|J1 agR (vV 4)<|vV 6).pt (au (jr (Jy iY Q8<|a1<|vV 3)<|pD (vV 2) (vV 4) set_dict lY)<|au (jg<|gU (vV 3) (a1<|jM<|a1 bC) (by rfl) (vU<|by rfl) (by rfl) (aO<|by rfl)<|by rfl)<|aD<|Hy 4<|bB bL (vV 4) aq))<|au (jr (Jy iY Q8<|a1<|vV 3)<|pD (vV 2) (vV 5) set_dict lY)<|aD<|jg<|gU (vV 3) (a1<|dct qY boot_tuple<|a1<|bB bL (fH<|a1<|BX (BX (vV 0)<|vV 5) aq)<|RD [2] (bV<|jL (BX (vV 0)<|vV 5) (cj aq) dF)<|λ_ _ _ _=>(abv (vV 1) (vV 0) (by intro _ _;rfl))) (by rfl) (vU<|by rfl) (by rfl) (aO<|by rfl)<|by rfl) ?_;exact aD<|aH<|bB bL (vV 3)<|RD [] (sG (by rfl) (by exact T.z _ (by decide))<|a2 (vV 4)<|vV 1)<|λ_ _ _ _=>(jM<|a1 bC)
theorem oF:Fk P w K mg base 12 "_law_four_on_line" iH:=by
 refine fk (k:=11) ["_law_five", "_law_k", "_law_four", "_law_turns"] T.f55 T.z ?_;intro _ _ _ _ _ _ _ hr nd hc z;refine au (jX Ri hh (drg<|a1 aq) (O8 1)<|au (Hy 2<|bB bL (jL (vV 0) dF<|cj<|vV 1)<|jL (vV 0) (cj<|bB bL (vV 1) aq) dF)<|au (Hy 3<|fH<|a2 (HD (gM T)<|a3 (BX (vV 2) aq) (BX (vV 2) aq)<|BX (vV 2) aq)<|HD (gM T)<|a3 (BX (vV 2) aq) (BX (vV 2) aq)<|BX (vV 2) aq)<|au (Hy 3<|bB bL (vV 3)<|fH<|a2 (HD (gM T)<|a3 (BX (vV 2) aq) (BX (vV 2) aq)<|BX (vV 2) aq)<|HD (gM T)<|a3 (BX (vV 2) aq) (BX (vV 2) aq)<|BX (vV 2) aq)<|aD<|cA (J1 (dY qq) (vV 3)<|fH<|aC aq<|a3 aq aq aq) (aD<|aH xM) aU) ?_;exact aD<|aH xM
theorem G8:Fk P w K mg base 13 "_law_can" wY:=by
 refine fk (k:=12) ["_law_row_here", "_law_things", "_law_some", "_law_table", "_law_moved"] T.f56 T.z ?_;intro _ _ _ _ _ _ _ hr nd hc z;refine au (wO [1] (i:=2) (by assumption) (by rfl) (by exact Or.inl rfl) hh (cD<|by rfl) tG (tM<|cD<|by rfl) (bV<|jL (vV 0) (cj aq) dF) (λ_ _ _ _=>jy)<|λ_ _ _ _=>(BX (vV 1)<|vV 0)) ?_;refine au (cA (lG (J1 (dY qq) (BX (vV 0) aq) bC)<|fP<|J1 (dY qq) (BX (vV 0) aq) bC).pt (aD<|aH<|MF (sY qq) (BX (vV 2) aq)<|BX (vV 2) aq) aU) ?_;refine au (cA (J1 (dY qq) (BX (vV 0) aq) bC) (aD<|aH<|R6 (MF (dY qq) (z9 hh qq (by rfl) (by exact T.z _ (by decide)) (by rfl) (by exact T.z _ (by decide)) (vV 2) (aO<|by rfl)<|aO<|by rfl) aq)<|Lg<|abP<|HD (oF T)<|a1<|vV 2) aU) ?_;refine au (cA (J1 (dY qq) (BX (vV 0) aq) bC) (aD<|aH<|MF (sY qq) (HD (cO T)<|a2 (BX (vV 2) aq)<|BX (vV 2) aq)<|jM<|a3 aq aq aq) aU) ?_;refine au (cA (J1 (dY qq) (BX (vV 0) aq) bC) (au (Hy 3<|HD (oN T)<|a1<|BX (vV 2) aq)<|aD<|aH<|MF (sY qq) (HD (gM T)<|a3 (BX (vV 3) aq) (BX (vV 3) aq)<|BX (vV 3) aq) aq) aU) ?_;refine au (cA (J1 (dY qq) (BX (vV 0) aq) bC) (au (Hy 4<|HD (cO T)<|a2 (BX (vV 2) aq)<|BX (vV 2) aq)<|au (cA (lG (J1 (dY qq) (BX (vV 2) aq)<|BX (vV 2) aq)<|fP<|J1 (sY qq) (HD (dJ T)<|a2 (BX (vV 2) aq)<|HD (cO T)<|a2 (BX (vV 2) aq)<|BX (vV 2) aq) aq).pt (aD<|aH xM) aU)<|aD<|aH<|agl (MF (sY qq) (HD (dJ T)<|a2 (BX (vV 2) aq)<|vV 4) aq)<|Lg<|MF (sY qq) (HD (dJ T)<|a2 (BX (vV 2) aq)<|vV 4) aq) aU) ?_;exact aD<|aH xM
theorem zav:Fk P w K mg base 12 "_law_right" rY:=by
 refine fk (k:=11) ["_law_row_here", "_law_things", "_law_found", "_law_some", "_law_touches"] T.f57 T.z ?_;intro _ _ _ _ _ _ _ hr nd hc z;refine au (wO [1] (i:=3) (by assumption) (by rfl) (by exact Or.inl rfl) hh (cD<|by rfl) tG (tM<|cD<|by rfl) (bV<|jL (vV 0) (cj aq) dF) (λ_ _ _ _=>jy)<|λ_ _ _ _=>(BX (vV 1)<|vV 0)) ?_;refine au (cA (lG (gK<|dh<|Jy Ij Wq<|a2 (vV 2)<|dc (lD (v:=.ty "tuple") (by rfl) (by exact T.z _ (by decide)) boot_tuple<|by rfl)<|λ_ _=>by rw[CR])<|fP<|J1 (sY qq) (Jy iY Q8<|a1<|vV 2)<|bB bL aq<|bB GQ aq<|dct Hs boot_int<|a1<|MF (dY qq) (BX (vV 0) aq) bC).pt (aD<|aH xM) aU) ?_;refine au (cA (J1 Vj (Jy iY Q8<|a1<|dl1 [] (bV<|vV 2) (λ_ _ _ _=>(iu (lG (gK<|dh<|Jy Ij Wq<|a2 (vV 0)<|dc (lD (v:=.ty "int") (by rfl) (by exact T.z _ (by decide)) boot_int<|by rfl)<|λ_ _=>by rw[CR])<|fP<|dh<|Jy Ij Wq<|a2 (vV 0)<|dc (lD (v:=.ty "bool") (by rfl) (by exact T.z _ (by decide)) boot_bool<|by rfl)<|λ_ _=>by rw[CR]).pt))<|λ_ _ _ _=>(vV 0)) aq) (aD<|aH xM) aU) ?_;refine au (cA (lG (JD (J1 (dY qq) (ahk hh (by rfl) (by exact T.z _ (by decide)) (by rfl) (by exact T.z _ (by decide)) (vV 2) (aO<|by rfl)<|aO<|by rfl) aq)<|BK<|J1 (dY qq) (BX (vV 2) aq) aq).pt (fP<|J1 (sY qq) (HD (uO T)<|a1<|vV 2)<|vV 2)).pt (aD<|aH xM) aU) ?_;refine au (cA (lG (J1 (dY qq) (BX (vV 0) aq) bC)<|fP<|J1 (dY qq) (BX (vV 0) aq) bC).pt (aD<|aH<|R6 (MF (dY qq) (HD (dJ T)<|a2 (vV 2)<|BX (vV 3) aq) aq)<|Lg<|MF (dY qq) (HD (dJ T)<|a2 (vV 2)<|BX (vV 3) aq) aq) aU) ?_;refine au (cA (J1 (dY qq) (BX (vV 0) aq) bC) (aD<|aH<|MF (dY qq) (Jy iY Q8<|a1<|dl1 [2] (bV<|vV 3) (λ_ _ _ _=>(iu<|J1 (sY qq) (HD (dJ T)<|a2 (vV 0)<|HD (cO T)<|a2 (vV 1)<|vV 0) aq))<|λ_ _ _ _=>(vV 0)) aq) aU) ?_;refine au (cA (J1 (dY qq) (BX (vV 0) aq) bC) (aD<|aH<|MF (dY qq) (HD (nU T)<|a2 (vV 2)<|HD (cO T)<|a2 (BX (vV 3) aq)<|BX (vV 3) aq)<|jM<|a3 aq aq aq) aU) ?_;refine au (cA (J1 (dY qq) (BX (vV 0) aq) bC) (aD<|aH<|MF (dY qq) (HD (nU T)<|a2 (BX (vV 3) aq)<|HD (cO T)<|a2 (BX (vV 3) aq)<|vV 2)<|jM<|a3 aq aq aq) aU) ?_;refine au (cA (J1 (dY qq) (BX (vV 0) aq) bC) (au (Hy 4<|MF (dY qq) (HD (dJ T)<|a2 (BX (vV 3) aq)<|HD (cO T)<|a2 (BX (vV 3) aq)<|BX (vV 3) aq) aq)<|au (cA (lG (J1 (sY qq) (HD (dJ T)<|a2 (vV 2)<|HD (cO T)<|a2 (BX (vV 3) aq)<|vV 2) aq)<|fP<|J1 (sY qq) (MF (dY qq) (vV 2)<|BX (vV 3) aq)<|vV 4).pt (aD<|aH xM) aU)<|aD<|aH<|MF (dY qq) (HD (gM T)<|a3 (BX (vV 3) aq) (BX (vV 3) aq)<|vV 2) aq) aU) ?_;exact aD<|aH xM
theorem kW:Fk P w K mg base 14 "_law_walked" uq:=by
 refine fk (k:=13) ["_law_rows_here", "_law_spots", "_law_things", "_law_ahead", "_law_k"] T.f58 T.z ?_;intro _ _ _ _ _ _ _ hr nd hc z;refine au (cA (lG (gK<|dh<|Jy Ij Wq<|a2 (vV 2)<|dc (lD (v:=.ty "list") (by rfl) (by exact T.z _ (by decide)) WR<|by rfl)<|λ_ _=>by rw[CR])<|fP<|J1 (sY qq) (Jy iY Q8<|a1<|vV 2)<|Jy iY Q8<|a1<|vV 0).pt (aD<|aH xM) aU) ?_;refine au (Hy 3<|dct akl WR<|a1<|vV 1) ?_;refine au (jX Ri hh (drg<|a1<|Jy iY Q8<|a1<|vV 0) (O8 4)<|au (cA (lG (gK<|dh<|HD (G8 T)<|a2 (BX (vV 0)<|vV 4)<|vV 2)<|fP<|gK<|dh<|HD (zav T)<|a3 (BX (vV 0)<|vV 4) (vV 2)<|BX (vV 2)<|vV 4).pt (aD<|aH xM) aU)<|aD<|cA (JD (J1 (dY qq) (BX (BX (vV 0)<|vV 4) aq) bC)<|BK<|J1 (sY qq) (BX (vV 2)<|vV 4)<|acY (vV 3) (a1 aq) (by rfl) (vU<|by rfl) (by rfl) (aO<|by rfl)<|by rfl).pt (aD<|aH xM) aU) ?_;exact aD<|aH xM
theorem aaW {f fd}(F:Sg K "law" "law" YJ f fd):jB P w K mg base O9 19 f fd ["_law_script"] (lift K Wt):=by
 have S:fW ["_law_script", "_law_frees", "_law_most", "_law_size", "_law_rows_here", "_law_bag_here", "_law_top", "_law_spots", "_law_handed", "_law_stuck", "_law_things", "_law_good", "_law_some", "_law_e"] ["_law_script"] (bw YJ):=⟨rfl,rfl,rfl,by decide +kernel,rfl,by decide +kernel,by decide +kernel⟩
 refine afK (k:=18) F S λ_ _ _ _ _ _ hr=>?_;have hc:=hr.calm (by decide);have nd:=S.nd;have z:=T.z;obtain⟨_,_,_,o_placedX,m_placedX,k_placedX,b_placedX⟩:=uI T;refine au (Hy 1<|bB bL aq<|bB pG (HD (eZ T)<|a2 (vV 0) aq) aq) ?_;refine au (Hy 2<|bB bL aq<|bB GQ aq<|dct Hs boot_int<|a1<|MF (dY qq) (bB pG (bB zY (HD (eZ T)<|a2 (vV 0) aq) aq) aq) aq) ?_;refine au (Hy 3<|Jy (ae4 hh) boot_max<|a2 (vV 1)<|bB bL aq<|bB pG (bB zY (HD (eZ T)<|a2 (vV 0) aq) aq)<|vV 2) ?_;refine au (Hy 4<|HD (ahw T)<|aC (vV 0)<|a3 (vV 3) (vV 1) aq) ?_;refine au (cA (J1 (dY qq) (bB pG (bB zY (HD (eZ T)<|a2 (vV 0) aq) aq) aq) aq) (aD<|Hy 4<|HD (zbh T)<|a2 (vV 4)<|vV 1) aU) ?_;refine au (Hy 5<|HD (FZ T)<|a1<|HD (eZ T)<|a2 (vV 0) aq) ?_;refine au (Hy 6<|bB GQ (bB acq aq aq)<|dct Hs boot_int<|a1<|MF (dY qq) (bB pG (HD (eZ T)<|a2 (vV 0) aq) aq) aq) ?_;refine au (wO [5,6] (i:=7) (by assumption) (by rfl) (by exact Or.inl rfl) hh (cD<|by rfl) tG (tM<|cD<|by rfl) (drg<|a1<|vV 1) (λ_ _ _ _=>jy)<|λ_ _ _ _=>(HD (zaJ T)<|a2 (vV 1)<|vV 2)) ?_;refine au (Hy 8<|fH<|a2 (dct uc WR<|a1<|vV 4)<|dct uc WR<|a1<|vV 7) ?_;refine au (Hy 9<|QK aq) ?_;refine au ((Zh (i:=13) nd (by rfl) (by rfl) (by rfl) T.xm_EaselError T.xd_EaselError ⟨rfl,rfl⟩ rfl (λamx xe σ0=>(aZ (Ly (i:=10) nd (by rfl) (by exact Or.inl rfl) (Ai (o_placedX.mono (by decide)) hr (by rfl) (by exact m_placedX) (by exact k_placedX) (by exact b_placedX) (fX (aaK (dv 8 (pv 8)) aq (by intro _ _;rfl)) (fX (aaK (dv 8 (pv 8)) aq (by intro _ _;rfl)) d8 (aO (by rfl))) (aO (by rfl))) (by decide) (aO (by rfl)) (cC (by rfl)))))) (λa H0=>by
  have hr:=Dc (a:=a) hr (by decide);exact(au (cA (lG (gK (dh (Tp (by rfl) (by exact T.z _ (by decide)) (dv 13 (pv 13)) (Cj (v:=.ref t.x_Stuck) (by rfl) T.xm_Stuck (by rfl)) (Pu.own T.xd_Stuck) (aO (by rfl)) (aO (by rfl)) (cC (by rfl))))) (fP (gK (dh (Tp (by rfl) (by exact T.z _ (by decide)) (dv 13 (pv 13)) (lD (v:=.ty "ValueError") (by rfl) (by exact T.z _ (by decide)) PyProof.Rows.Boot.«ValueError» (by rfl)) Pu.val (aO (by rfl)) (aO (by rfl)) (cC (by rfl))))))).pt (aD (aH xM)) aU) (aD (Lx (i:=9) nd (by rfl) (by exact Or.inl rfl) (aa4 (dv 13 (pv 13)) (by rfl)))))))) ?_
 refine au (cA (J1 (ad8 qq) (vV 8)<|fH<|a2 (vV 4)<|vV 7) (aD<|aH xM) aU) ?_;refine au (cA (J1 (dY qq) (vV 9)<|QK aq) (au (Hy 11<|HD (kW T)<|a3 (vV 4) (vV 7)<|vV 10)<|au (jg<|gU (vV 10) (a1<|jM<|a3 aq aq aq) (by rfl) (vU<|by rfl) (by rfl) (aO<|by rfl)<|by rfl)<|aD<|aH<|R6 (vV 11)<|Lg<|HD (kW T)<|a3 (vV 4) (vV 7)<|HD (zM T)<|a2 (dct uc WR<|a1<|vV 4)<|dct uc WR<|a1<|vV 7) aU) ?_;refine au (cA (lG (gK<|dh<|Jy Ij Wq<|a2 (vV 9)<|dc (lD (v:=.ty "int") (by rfl) (by exact T.z _ (by decide)) boot_int<|by rfl)<|λ_ _=>by rw[CR])<|lG (dh<|Jy Ij Wq<|a2 (vV 9)<|dc (lD (v:=.ty "bool") (by rfl) (by exact T.z _ (by decide)) boot_bool<|by rfl)<|λ_ _=>by rw[CR])<|fP<|gK<|zbA Rq Rq aq (vV 9) (vV 3)<|by with_unfolding_all rfl).pt (aD<|aH xM) aU) ?_;refine au (Hy 12<|jL (vV 7) dF<|cj<|Jy iY Q8<|a1<|dl1 [] (bV<|jL (vV 4) dF<|cj<|vV 9) (λ_ _ _ _=>(iu<|J1 (dY qq) (BX (vV 0) aq) bC))<|λ_ _ _ _=>(vV 0)) ?_;refine au (Hy 10<|HD (zM T)<|a2 (jL (vV 4) dF<|cj<|vV 9)<|dct uc WR<|a1<|vV 12) ?_;exact aD<|aH<|R6 (HD (kW T)<|a3 (jL (vV 4) dF<|cj<|vV 9) (vV 12)<|vV 10)<|Lg<|abP<|HD (G8 T)<|a2 (BX (vV 4)<|vV 9)<|vV 10
end
variable {mg:Str->Option JI}{K:Ax}
def fO (x:Str)(s:Stmt)(oc:JI)(od:Option Addr)(kV dc pm:JI)(an:Option Addr)(cd ct:JI)(sl:Array (Option JI)):Option Obj:=Dn ⟨oc,od,.func (W9 x x (j8 s) (dG s) (bw s) .none kV dc pm an cd ct),sl⟩
def sR (f:Addr):Option (Option JI):=Dn (Dn (.ref f))
def fM (x q:Str)(s:Stmt)(oc:JI)(od:Option Addr)(kV dc pm:JI)(an:Option Addr)(cd ct:JI)(sl:Array (Option JI)):Option Obj:=Dn ⟨oc,od,.func (W9 x q (j8 s) (dG s) (bw s) .none kV dc pm an cd ct),sl⟩
def cR (K:Ax)(x:Str)(s:Stmt):Prop:=∃f oc od kV dc pm an cd ct sl,K1 K JR x=sR f/\K.lookup f=fO x s oc od kV dc pm an cd ct sl/\Xk K cd x=true/\Qm K (.ref f)=true
variable {x:Str}
theorem S9 {s f oc}{od kV dc pm}{an cd ct}{sl}(a:K1 K JR x=sR f)(l:K.lookup f=fO x s oc od kV dc pm an cd ct sl)(c:Xk K cd x=true)(k:Qm K (.ref f)=true):cR K x s:=⟨f,oc,od,kV,dc,pm,an,cd,ct,sl,a,l,c,k⟩
variable {P:List JI->Prop}
theorem nl0 {us:List PySem.Value}(h:us.length=0):us=[]:=List.eq_nil_of_length_eq_zero h
theorem nl1 {us:List PySem.Value}(h:us.length=1):∃a,us=[a]:=match us,h with
 | [a],_=>⟨a,rfl⟩
theorem nl2 {us:List PySem.Value}(h:us.length=2):∃a b,us=[a,b]:=match us,h with
 | [a,b],_=>⟨a,b,rfl⟩
theorem nl3 {us:List PySem.Value}(h:us.length=3):∃a b c,us=[a,b,c]:=match us,h with
 | [a,b,c],_=>⟨a,b,c,rfl⟩
theorem nl4 {us:List PySem.Value}(h:us.length=4):∃a b c d,us=[a,b,c,d]:=match us,h with
 | [a,b,c,d],_=>⟨a,b,c,d,rfl⟩
theorem bG {h}{st}{ps}(X:K.In h)(G:h.Ns JR mg)(H:cR K x st)(hb:∀kV doc pm  (an) (cdv ct) (us),us.length=ps.length->bindArgs (W9 x x (j8 st) (dG st) (bw st) .none kV doc pm an cdv ct) ⟨us,[]⟩=pure (ps.zip us):=by intro _ _ _ _ _ _ us hl;first|(obtain rfl:=nl0 hl;rfl)|(obtain⟨_,rfl⟩:=nl1 hl;rfl)|(obtain⟨_,_,rfl⟩:=nl2 hl;rfl)|(obtain⟨_,_,_,rfl⟩:=nl3 hl;rfl)|(obtain⟨_,_,_,_,rfl⟩:=nl4 hl;rfl)):At K mg x st ps:=by
 obtain⟨f,oc,od,kV,dc,pm,an,cd,ct,sl,a,l,c,k⟩:=H;exact⟨f,_,FJ (st:=st) l c k,Rh X G a,(FJ (st:=st) l c k).binds hb⟩
theorem zc {n}{l}(a:mg n=Go)(b:∀m∈l,mg m=Go):∀m∈n::l,mg m=Go:=by simp_all
theorem all_mk {l:PySem.W.OpenLaw}{w:HI}{h:Heap}{fa:Addr}(hlaw:∀ns:List Int,ns.length<=63->Wt [.kls (ns.map W.int)] g0 (λw _=>w=.bl true) EF)(X:K.In h)(G:h.Ns JR mg)(hfa:mg "law" = Dn (.ref fa))
  (h0:cR K "divisor_of_two" (top 11))
  (h1:cR K "divisor" (top 12))
  (h2:cR K "ends_below" (top 13))
  (h3:cR K "plain" (top 14))
  (h4:cR K "dot" (top 16))
  (h5:cR K "cross" (top 17))
  (h6:cR K "turn" (top 18))
  (h7:cR K "lies_on" (top 19))
  (h8:cR K "share_one" (top 20))
  (h9:cR K "on_line" (top 21))
  (h10:cR K "plain_cross" (top 22))
  (h11:cR K "join" (top 23))
  (h12:cR K "meet" (top 24))
  (h13:cR K "rising" (top 26))
  (h14:cR K "picked" (top 27))
  (h15:cR K "has_alike" (top 28))
  (h16:cR K "has_on_line" (top 29))
  (h17:cR K "rows_of" (top 32))
  (h18:cR K "size_of" (top 33))
  (h19:cR K "table_times_row" (top 34))
  (h20:cR K "turned" (top 35))
  (h21:cR K "tiles" (top 36))
  (h22:cR K "worth" (top 38))
  (h23:cR K "is_on_curve" (top 39))
  (h24:cR K "together" (top 40))
  (h25:cR K "table_of" (top 41))
  (h26:cR K "both_sides" (top 42))
  (h27:cR K "is_round" (top 43))
  (h28:cR K "mixed" (top 44))
  (h29:cR K "through" (top 45))
  (h30:cR K "plain_or_none" (top 47))
  (h31:cR K "line_about" (top 48))
  (h32:cR K "spot_about" (top 49))
  (h33:cR K "another_spot" (top 50))
  (h34:cR K "other_end" (top 51))
  (h35:cR K "made_by_row" (top 53))
  (h36:cR K "placed" (top 54))
  (h37:cR K "_law_cell" (top 56))
  (h38:cR K "_law_bag" (top 57))
  (h39:cR K "_law_draw" (top 58))
  (h40:cR K "_law_asks" (top 59))
  (h41:cR K "_law_sort" (top 60))
  (h42:cR K "_law_pick" (top 61))
  (h43:cR K "_law_row" (top 62))
  (h44:cR K "_law_divisor" (top 63))
  (h45:cR K "_law_plain" (top 64))
  (h46:cR K "_law_cross" (top 65))
  (h47:cR K "_law_dot" (top 66))
  (h48:cR K "_law_turn" (top 67))
  (h49:cR K "_law_rows_of" (top 68))
  (h50:cR K "_law_times" (top 69))
  (h51:cR K "_law_spot" (top 70))
  (h52:cR K "_law_weight" (top 71))
  (h53:cR K "_law_rows" (top 72))
  (h54:cR K "_law_amid" (top 73))
  (h55:cR K "_law_four_on_line" (top 74))
  (h56:cR K "_law_can" (top 75))
  (h57:cR K "_law_right" (top 76))
  (h58:cR K "_law_walked" (top 77))
  (h59:cR K "law" (top 78))
  (z_ValueError:K1 K JR "ValueError" = Dn Go)
  (z_abs:K1 K JR "abs" = Dn Go)
  (z_all:K1 K JR "all" = Dn Go)
  (z_any:K1 K JR "any" = Dn Go)
  (z_bool:K1 K JR "bool" = Dn Go)
  (z_enumerate:K1 K JR "enumerate" = Dn Go)
  (z_int:K1 K JR "int" = Dn Go)
  (z_isinstance:K1 K JR "isinstance" = Dn Go)
  (z_len:K1 K JR "len" = Dn Go)
  (z_list:K1 K JR "list" = Dn Go)
  (z_max:K1 K JR "max" = Dn Go)
  (z_min:K1 K JR "min" = Dn Go)
  (z_range:K1 K JR "range" = Dn Go)
  (z_reversed:K1 K JR "reversed" = Dn Go)
  (z_set:K1 K JR "set" = Dn Go)
  (z_sum:K1 K JR "sum" = Dn Go)
  (z_tuple:K1 K JR "tuple" = Dn Go)
  (z_zip:K1 K JR "zip" = Dn Go)
  {qp:Addr}{slk_TILES:Array (Option JI)}{nk_TILES:Nat}{k_TILES_0:Addr}{slk_TILES_0:Array (Option JI)}{nk_TILES_0:Nat}{t_TILES_0_0:_}{t_TILES_0_1:_}{t_TILES_0_2:_}{k_TILES_1:Addr}{slk_TILES_1:Array (Option JI)}{nk_TILES_1:Nat}{t_TILES_1_0:_}{t_TILES_1_1:_}{t_TILES_1_2:_}{k_TILES_2:Addr}{slk_TILES_2:Array (Option JI)}{nk_TILES_2:Nat}{t_TILES_2_0:_}{t_TILES_2_1:_}{t_TILES_2_2:_}{k_TILES_3:Addr}{slk_TILES_3:Array (Option JI)}{nk_TILES_3:Nat}{t_TILES_3_0:_}{t_TILES_3_1:_}{t_TILES_3_2:_}
  (gk_TILES:K1 K JR "TILES" = Dn (Dn (.ref qp)))
  (lk_TILES:K.lookup qp=Dn ⟨.type "tuple",Go,.seq #[(.ref k_TILES_0),(.ref k_TILES_1),(.ref k_TILES_2),(.ref k_TILES_3)] nk_TILES,slk_TILES⟩)
  (lk_TILES_0:K.lookup k_TILES_0=Dn ⟨.type "tuple",Go,.seq #[(.int 1 t_TILES_0_0),(.int 0 t_TILES_0_1),(.int 0 t_TILES_0_2)] nk_TILES_0,slk_TILES_0⟩)
  (lk_TILES_1:K.lookup k_TILES_1=Dn ⟨.type "tuple",Go,.seq #[(.int 0 t_TILES_1_0),(.int 1 t_TILES_1_1),(.int 0 t_TILES_1_2)] nk_TILES_1,slk_TILES_1⟩)
  (lk_TILES_2:K.lookup k_TILES_2=Dn ⟨.type "tuple",Go,.seq #[(.int 0 t_TILES_2_0),(.int 0 t_TILES_2_1),(.int 1 t_TILES_2_2)] nk_TILES_2,slk_TILES_2⟩)
  (lk_TILES_3:K.lookup k_TILES_3=Dn ⟨.type "tuple",Go,.seq #[(.int 1 t_TILES_3_0),(.int 1 t_TILES_3_1),(.int 1 t_TILES_3_2)] nk_TILES_3,slk_TILES_3⟩)
  {x_EaselError:Addr}
  {x_Nothing:Addr}
  {x_Alike:Addr}
  {x_Stuck:Addr}
  {x_FourOnLine:Addr}
  {x_Knot:Addr}
  {x_NotRound:Addr}
  {x_NotOn:Addr}
  {x_InCurve:Addr}
  {fi_Stuck:Addr}{odi_Stuck ani_Stuck:Option Addr}{sli_Stuck:Array (Option JI)}{oci_Stuck kVi_Stuck dci_Stuck pmi_Stuck cdi_Stuck cti_Stuck:JI}
  (gx_EaselError:K1 K JR "EaselError" = sR x_EaselError) (xd_EaselError:lM K x_EaselError "EaselError" = true)
  (gx_Nothing:K1 K JR "Nothing" = sR x_Nothing) (xd_Nothing:lM K x_Nothing "Nothing" = true)
  (xc_Nothing:jV K x_Nothing "Nothing" = true) (xq_Nothing:QV K x_Nothing NT "ValueError.__new__" = true)
  (gx_Alike:K1 K JR "Alike" = sR x_Alike) (xd_Alike:lM K x_Alike "Alike" = true)
  (xc_Alike:jV K x_Alike "Alike" = true) (xq_Alike:QV K x_Alike NT "ValueError.__new__" = true)
  (gx_Stuck:K1 K JR "Stuck" = sR x_Stuck) (xd_Stuck:lM K x_Stuck "Stuck" = true)
  (gx_FourOnLine:K1 K JR "FourOnLine" = sR x_FourOnLine) (xd_FourOnLine:lM K x_FourOnLine "FourOnLine" = true)
  (xc_FourOnLine:jV K x_FourOnLine "FourOnLine" = true) (xq_FourOnLine:QV K x_FourOnLine NT "ValueError.__new__" = true)
  (gx_Knot:K1 K JR "Knot" = sR x_Knot) (xd_Knot:lM K x_Knot "Knot" = true)
  (xc_Knot:jV K x_Knot "Knot" = true) (xq_Knot:QV K x_Knot NT "ValueError.__new__" = true)
  (gx_NotRound:K1 K JR "NotRound" = sR x_NotRound) (xd_NotRound:lM K x_NotRound "NotRound" = true)
  (xc_NotRound:jV K x_NotRound "NotRound" = true) (xq_NotRound:QV K x_NotRound NT "ValueError.__new__" = true)
  (gx_NotOn:K1 K JR "NotOn" = sR x_NotOn) (xd_NotOn:lM K x_NotOn "NotOn" = true)
  (xc_NotOn:jV K x_NotOn "NotOn" = true) (xq_NotOn:QV K x_NotOn NT "ValueError.__new__" = true)
  (gx_InCurve:K1 K JR "InCurve" = sR x_InCurve) (xd_InCurve:lM K x_InCurve "InCurve" = true)
  (xc_InCurve:jV K x_InCurve "InCurve" = true) (xq_InCurve:QV K x_InCurve NT "ValueError.__new__" = true)
  (ai_Stuck:Oh K (.ref x_Stuck) "__init__" = sR fi_Stuck) (li_Stuck:K.lookup fi_Stuck=fM "__init__" "Stuck.__init__" fQ oci_Stuck odi_Stuck kVi_Stuck dci_Stuck pmi_Stuck ani_Stuck cdi_Stuck cti_Stuck sli_Stuck) (ci_Stuck:Xk K cdi_Stuck "Stuck.__init__" = true) (ki_Stuck:Qm K (.ref fi_Stuck)=true)
  (xi_Stuck:Ht K x_Stuck fi_Stuck NT "ValueError.__new__" = true) (xf_Stuck:Xr K (.ref fi_Stuck)=true) (xa_Stuck:U8 K x_Stuck "Stuck" = true) (xs_Stuck:adC K x_Stuck "at" = true)
  : ∃fd:Ms,(∀(s:AP) (v:JI),BindsTo s fd ⟨[v],[]⟩ [("_law_script",v)])/\∀base:Heap,K.In base->base.Ns JR mg->jB l.prog w K mg base O9 19 fa fd ["_law_script"] (VP K):=by
 have Fi_Stuck:=FJ (st:=fQ) li_Stuck ci_Stuck ki_Stuck;have bi_Stuck:=Fi_Stuck.binds (ps:=["self", "at"]) λ_ _ _ _ _ _ us hl=>match us,hl with|[_,_],_=>rfl
 have T:∀base,Txt l.prog w K mg base ⟨x_EaselError,x_Nothing,x_Alike,x_Stuck,x_FourOnLine,x_Knot,x_NotRound,x_NotOn,x_InCurve,fi_Stuck,_⟩:=λ_=>⟨bG X G h0,bG X G h1,bG X G h2,bG X G h3,bG X G h4,bG X G h5,bG X G h6,bG X G h7,bG X G h8,bG X G h9,bG X G h10,bG X G h11,bG X G h12,bG X G h13,bG X G h14,bG X G h15,bG X G h16,bG X G h17,bG X G h18,bG X G h19,bG X G h20,bG X G h21,bG X G h22,bG X G h23,bG X G h24,bG X G h25,bG X G h26,bG X G h27,bG X G h28,bG X G h29,bG X G h30,bG X G h31,bG X G h32,bG X G h33,bG X G h34,bG X G h35,bG X G h36,bG X G h37,bG X G h38,bG X G h39,bG X G h40,bG X G h41,bG X G h42,bG X G h43,bG X G h44,bG X G h45,bG X G h46,bG X G h47,bG X G h48,bG X G h49,bG X G h50,bG X G h51,bG X G h52,bG X G h53,bG X G h54,bG X G h55,bG X G h56,bG X G h57,bG X G h58,zc (QZ X G z_ValueError) (zc (QZ X G z_abs) (zc (QZ X G z_all) (zc (QZ X G z_any) (zc (QZ X G z_bool) (zc (QZ X G z_enumerate) (zc (QZ X G z_int) (zc (QZ X G z_isinstance) (zc (QZ X G z_len) (zc (QZ X G z_list) (zc (QZ X G z_max) (zc (QZ X G z_min) (zc (QZ X G z_range) (zc (QZ X G z_reversed) (zc (QZ X G z_set) (zc (QZ X G z_sum) (zc (QZ X G z_tuple) (zc (QZ X G z_zip) (λ_ h=>nomatch h)))))))))))))))))),⟨_,Rh X G gk_TILES,λ_ _=>((mK lk_TILES (by simp<;>decide) (.cons adE (.cons adE (.cons adE (.cons adE .nil)))) λ_ _=>(jN ((mK lk_TILES_0 (by simp<;>decide) (.cons Jg (.cons Jg (.cons Jg .nil))) λ_ _=>(jN Jj (jN Jj (jN Jj Jl)))) _ _) (jN ((mK lk_TILES_1 (by simp<;>decide) (.cons Jg (.cons Jg (.cons Jg .nil))) λ_ _=>(jN Jj (jN Jj (jN Jj Jl)))) _ _) (jN ((mK lk_TILES_2 (by simp<;>decide) (.cons Jg (.cons Jg (.cons Jg .nil))) λ_ _=>(jN Jj (jN Jj (jN Jj Jl)))) _ _) (jN ((mK lk_TILES_3 (by simp<;>decide) (.cons Jg (.cons Jg (.cons Jg .nil))) λ_ _=>(jN Jj (jN Jj (jN Jj Jl)))) _ _) Jl))))) _ _)⟩,Rh X G gx_EaselError,xd_EaselError,Rh X G gx_Nothing,xd_Nothing,xc_Nothing,xq_Nothing,Rh X G gx_Alike,xd_Alike,xc_Alike,xq_Alike,Rh X G gx_Stuck,xd_Stuck,Rh X G gx_FourOnLine,xd_FourOnLine,xc_FourOnLine,xq_FourOnLine,Rh X G gx_Knot,xd_Knot,xc_Knot,xq_Knot,Rh X G gx_NotRound,xd_NotRound,xc_NotRound,xq_NotRound,Rh X G gx_NotOn,xd_NotOn,xc_NotOn,xq_NotOn,Rh X G gx_InCurve,xd_InCurve,xc_InCurve,xq_InCurve,Fi_Stuck,bi_Stuck,xi_Stuck,xf_Stuck,xa_Stuck,xs_Stuck⟩
 obtain⟨f,oc,od,kV,dc,pm,an,cd,ct,sl,a,l,c,k⟩:=h59;have e:=hfa.symm.trans (Rh X G a);cases e;exact⟨_,λs v=>.of_eq rfl,λbase _ _=>zbY hlaw<|aaW (T base)<|FJ (st:=YJ) l c k⟩
variable {XP:(Str->Option JI)->Heap->Prop}
theorem walk {l:PySem.W.OpenLaw}{q}{loose}{YP d}{K:Params->Ax}(hn:l.most=Dn 63)(hdf:d.params.defaults=[])
  (hY:∀w  (h),YP w h->(K w.params).In h)
  (F:∀w  (mg) (fa) (h),(K w.params).In h->h.Ns JR mg->mg d.name=Dn (.ref fa) ->
   ∃fd,(∀s u,BindsTo s fd ⟨[u],[]⟩ [("_law_script",u)])/\∀base,(K w.params).In base->base.Ns JR mg->jB l.prog w (K w.params) mg base O9 19 fa fd ["_law_script"] (VP (K w.params))) :
  PySem.W.WalkO q loose XP YP l.row.toRowW d [] (λf vs=>PySem.call f vs):=
 L2.Ny hn (by decide) hdf ⟨λ_=>rfl,by decide,by decide⟩ hY F (λ_ _ a ns hl hO hS=>⟨a,ns,rfl,hS,hO,hl,λ_=>rfl⟩) λ_ _ _ _ _ z=>z
local macro_rules | `(tactic| trivial) => `(tactic| with_reducible exact Sm.lit (by decide))
local macro_rules | `(tactic| trivial) => `(tactic| with_reducible exact Sm.zero)
local macro_rules | `(tactic| trivial) => `(tactic| with_reducible exact Sm.neg (by trivial))
local macro_rules | `(tactic| trivial) => `(tactic| with_reducible exact Sm.sub (by trivial) (by trivial))
local macro_rules | `(tactic| trivial) => `(tactic| with_reducible exact Sm.add (by trivial) (by trivial))
local macro_rules | `(tactic| trivial) => `(tactic| with_reducible exact Sm.mul (by trivial) (by trivial))
local macro_rules | `(tactic| trivial) => `(tactic| with_reducible assumption)
theorem rP (h:Gh)(n)(c):(h.set n c).c n=Dn c:=by show(if n=n then Dn c else h.c n)=Dn c;rw[if_pos rfl]
variable {h:Gh}{m n:Nat}
theorem jY {c}(e:m≠n):(h.set n c).c m=h.c m:=by show(if m=n then Dn c else h.c m)=_;rw[if_neg e]
theorem Ba (h:Gh)(c):(h.new c).c h.nx=Dn c:=by show(if _=h.nx then Dn c else h.c _)=Dn c;rw[if_pos rfl]
theorem oZ {c}(e:m≠h.nx):(h.new c).c m=h.c m:=by show(if m=h.nx then Dn c else h.c m)=_;rw[if_neg e]
variable {ws:List W}
theorem jG (e:h.c n=Dn (.lst ws)):view h (.loc n)=Dn ws:=by simp[view,dU,e]
def V2 (n:Nat)(h h':Gh):Prop:=h'.nx=h.nx/\∀m,m≠n->h'.c m=h.c m
theorem V2.set {n h}{c}:V2 n h (h.set n c):=⟨rfl,λ_ e=>jY e⟩
theorem iC {a b:Int}(h:0<b):a.fmod b=a % b:=by lia
theorem Ga {a b:Int}(h:0<b):a.fdiv b=a / b:=by lia
theorem Rj {A B c}(e:c=true)(h:A):JQ c A B:=by subst e;exact h
theorem adk {A B c}(e:c=false)(h:B):JQ c A B:=by subst e;exact h
theorem aaV {c}[Decidable c]{A B}(h1:c->A)(h2:¬c->B):JQ (decide c) A B:=by
 by_cases h:c
 rw[decide_eq_true h];exact h1 h;rw[decide_eq_false h];exact h2 h
variable {g:MG}{D:bK}
theorem jf {ws0 b}(I:Nat->Sw->Gh->Prop)
  (step:∀i w  (σ) (h) (N),(∀σ' h',I (i+1) σ' h'->N σ' h')->ws[i]?=Dn w->I i σ h->g w σ h fun σ1 h1=>b {D with nx:=N,ct:=N,bk:=D.nx} σ1 h1)
  (fin:∀σ h,I ws.length σ h->D.nx σ h):∀{σ h},I 0 σ h->fC ⟨ws0,Go⟩ g b D ws σ h:=by
 induction ws generalizing I with
 | nil=>intro σ h h0;exact fin σ h h0
 | cons w ws ih=>
  intro σ h h0;exact step 0 w σ h _ (fun σ' h' q=>(ih _ (λi w σ h N hN e hi=>step (i+1) w σ h N hN (by simpa using e) hi) (fun σ h q=>fin σ h q) q)) rfl h0
variable {ix:List Nat}{te:ME}{tt:MT}{σ:Sw}{own:W->Option (List W)}{Q:WK}
theorem dR {ws0}(I:Nat->List W->Gh->Prop)
  (step:∀i w  (acc) (h) (N:List W->Gh->Prop),(∀acc' h',I (i+1) acc' h'->N acc' h')->ws[i]?=Dn w->I i acc h ->
   ∃vs,own w=Dn vs/\tt (vs.map Dn++sI ix σ) h λc h1=>JQ c (te (vs.map Dn++sI ix σ) h1 λv h2=>N (acc++[v]) h2) (N acc h1))
  (fin:∀acc h,I ws.length acc h->Q (.lst acc) h):∀{acc h},I 0 acc h->xO ⟨ws0,Go⟩ own ix tt te σ Q ws acc h:=by
 induction ws generalizing I with
 | nil=>intro acc h h0;exact fin acc h h0
 | cons w ws ih=>
  intro acc h h0;obtain⟨vs,ev,q⟩:=step 0 w acc h _ (λacc' h' q=>ih _ (λi w acc h N hN e hi=>step (i+1) w acc h N hN (by simpa using e) hi) (λacc h q=>fin acc h q) q) rfl h0;show(match own w with
   | some vs=>_
   | none=>False)
  rwa[ev]
variable {i:Nat}{w:W}
theorem zbT {lo}(e:(Ae lo n)[i]?=Dn w):i<n/\w=.int (lo+(i)):=by
 have hi:=by
  have:=(Ob.mp e).1
  simpa[Ae]using this
 unfold Ae at e
 simp_all
theorem Gq {lo}:(Ae lo n).length=n:=by simp[Ae]
variable {k:Int}{ns:List Int}
theorem ajx (h0:0<=k)(h1:k<((ns.map W.int).length:Int)):Mv (ns.map W.int) k=Dn (.int (ns.getD k.toNat 0)):=by
 have e:(ns.map W.int)[k.toNat]?=Dn (.int (ns.getD k.toNat 0)):=by
  simp_all
 have:=bZ e
 rwa[show((k.toNat:Nat):Int)=k by lia]at this
def gF (f n:Int):Int:=((RL n f:Nat):Int)
def gL (ns:List Int):Int:=ns.foldl gF 0
theorem Ov (ns)(n):gL (ns++[n])=gF (gL ns) n:=by unfold gL;rw[List.foldl_append];rfl
theorem aa9 (f n):0<=gF f n:=Int.natCast_nonneg _
theorem aaB (ns):0<=gL ns:=by
 rcases List.eq_nil_or_concat ns with rfl|⟨l,a,rfl⟩
 exact Int.le_refl _;rw[List.concat_eq_append,Ov];exact aa9 _ _
theorem Gy {x y}(hx:0<=x)(hy:0<y):RL y (x.fmod y)=RL x y/\0<=x.fmod y/\x.fmod y<y:=by
 rw[Int.fmod_eq_emod_of_nonneg x (Int.le_of_lt hy)];refine⟨?_,XR _<|by lia,Y6 _ hy⟩;obtain⟨m,rfl⟩:=Yr hx;obtain⟨n,rfl⟩:=Yr (Int.le_of_lt hy);rw[<-Int.natCast_emod,Int.gcd_natCast_natCast,Int.gcd_natCast_natCast,Nat.gcd_comm m n,Nat.gcd_rec n m,Nat.gcd_comm]
theorem Oq (a):0<=(if a<0 then -a else a):=by lia
theorem abs_eq (a:Int):(if a<0 then -a else a)=(a.natAbs:Int):=by lia
theorem akO (a b):RL (if a<0 then -a else a) (if b<0 then -b else b)=RL a b:=by
 rw[abs_eq,abs_eq];simp[RL]
theorem qJ {x}(h:0<=x):((RL x 0):Int)=x:=by
 rw[Int.gcd_zero_right];lia
def aau (c:Ah):Prop:=∀{h:Gh}{a b:Int}{Q:WK}{E:Ce},Q (.int (gF b a)) h->c [.int a,.int b] h Q E
theorem aea:aau iQ:=by
 intro h a b Q E q;refine⟨λm σ h'=>h'=h/\∃x y r,σ=[Dn<|.int x,Dn<|.int y,r]/\0<=x/\0<=y/\RL x y=RL a b/\m=y.toNat,⟨_,rfl,_,_,Go,rfl,Oq a,Oq b,akO a b,rfl⟩,?_⟩;rintro m σ h' ⟨rfl,x,y,r,rfl,x0,y0,hg,rfl⟩;refine⟨λe=>?_,λe=>?_⟩;have hy:=by simpa[Iz]using e
 obtain⟨g1,g2,g3⟩:=Gy x0 (by lia:0<y);refine⟨hy,(x.fmod y).toNat,by lia,rfl,y,x.fmod y,_,rfl,y0,g2,g1.trans hg,rfl⟩;cases by simpa[Iz]using e
 have:gF b a=x:=by unfold gF;rw[<-hg];exact qJ x0
 rwa[this]at q
def Ints (w:W)(ns:List Int):Prop:=w=.lst (ns.map .int)\/w=.tup (ns.map .int)
def zG (c:Ah):Prop:=∀{h:Gh}{w:W}{ns:List Int}{Q:WK}{E:Ce},Ints w ns->Q (.int (gL ns)) h->c [w] h Q E
theorem ints_get (e:(ns.map W.int)[i]?=Dn w):∃n,ns[i]?=Dn n/\w=.int n:=by
 rw[Jm]at e;grind
theorem Lb {n:Int}(e:ns[i]?=Dn n):gL (ns.take (i+1))=gF (gL (ns.take i)) n:=by
 rw[N7,e,<-Ov];rfl
theorem ahx {tw}(ht:aau tw):zG (xP tw):=by
 intro h w ns Q E hw q;have key:fC ⟨ns.map .int,Go⟩ (kI 2) (bI (aF tw E (aj (ao 2) (aj (ao 1) aG))) (kI 1)) {nx:=rm tw E {nx:=λ_ h'=>Q .non h',rt:=λw h'=>Q w h'},rt:=λw h'=>Q w h'} (ns.map .int) [Dn w,Dn (.int 0),Go] h:=by
  refine jf (λi σ h'=>h'=h/\∃o,σ=[Dn w,Dn<|.int<|gL<|ns.take i,o]) ?_ ?_ ⟨rfl,Go,rfl⟩;rintro i x σ h' N hN e ⟨rfl,o,rfl⟩;obtain⟨n,en,rfl⟩:=ints_get e;refine ht<|hN _ _ ⟨rfl,Dn<|.int n,?_⟩
  rw[Lb en];rfl;rintro σ h' ⟨rfl,o,rfl⟩
  rwa[Hi,Q9]
 rcases hw with rfl|rfl<;>exact key
theorem aaO (f n k)(hf:0<=f):gF (f*(k.natAbs:Int)) (n*k)=gF f n*(k.natAbs:Int):=by
 unfold gF;congr 1
 unfold RL;rw[Int.natAbs_mul,Int.natAbs_mul,Int.natAbs_natCast,Nat.gcd_mul_right]
theorem M6 (k)(ns):gL (ns.map (· * k))=gL ns*(k.natAbs:Int):=by
 have:∀(ns:List Int) (f:Int),0<=f->(ns.map (· * k)).foldl gF (f*(k.natAbs:Int))=ns.foldl gF f*(k.natAbs:Int):=by
  intro ns;induction ns with
  | nil=>intro f _;rfl
  | cons n ns ih=>intro f hf;rw[Nj,Xo,aaO f n k hf];exact ih _ (aa9 _ _)
 have h:=this ns 0 (Int.le_refl _)
 rwa[Int.zero_mul]at h
theorem aeb {f n}(hf:Sm m f)(hn:Sm m n):Sm m (gF f n):=by
 unfold gF Sm at *;unfold RL;by_cases e:n.natAbs=0
 simp_all
 exact XJ (Nat.gcd_le_left _<|Nat.pos_of_ne_zero e) hn
theorem ZK (h:∀n∈ns,Sm m n):Sm m (gL ns):=by
 have:∀(ns:List Int) (f:Int),Sm m f->(∀n∈ns,Sm m n)->Sm m (ns.foldl gF f):=by
  intro ns;induction ns with
  | nil=>intro f hf _;exact hf
  | cons n ns ih=>intro f hf h;exact ih _ (aeb hf (h n (by simp))) λx hx=>h x (by simp[hx])
 exact this ns 0 Sm.zero h
def kY:List Int->Int
 | []=>0
 | n::ns=>if n=0 then kY ns else n
def iy (ns:List Int):Int:=kY ns.reverse
def Ml (ns:List Int):Prop:=gL ns=1/\0<iy ns
def NZ (ns:List Int):Prop:=∃n∈ns,n≠0
theorem cQ (hk:k≠0)(x):x*k=0↔x=0:=by
 rw[R0];exact⟨λh=>h.elim id λh=>absurd h hk,.inl⟩
theorem zL {k}(hk:k≠0):∀ns,kY (ns.map (· * k))=kY ns*k
 | []=>(Int.zero_mul k).symm
 | n::ns=>by
  rw[Nj,kY,kY];by_cases h:n=0
  rw[if_pos h,if_pos ((cQ hk n).mpr h),zL hk ns];rw[if_neg h,if_neg (λe=>h ((cQ hk n).mp e))]
theorem pZ (hk:k≠0)(ns):iy (ns.map (· * k))=iy ns*k:=by
 unfold iy;rw[<-List.map_reverse,zL hk]
theorem aiI (h:NZ ns):kY ns≠0:=by
 induction ns with
 | nil=>obtain⟨n,hn,_⟩:=h;cases hn
 | cons a ns ih=>
  rw[kY];by_cases e:a=0
  rw[if_pos e];refine ih ?_;obtain⟨n,hn,n0⟩:=h;rcases K5.mp hn with rfl|hn
  lia;exact⟨n,hn,n0⟩;lia
theorem Gk (h:NZ ns):iy ns≠0:=by
 obtain⟨n,hn,n0⟩:=h;exact aiI ⟨n,List.mem_reverse.mpr hn,n0⟩
theorem Ve (f n):gF f n ∣ f/\gF f n ∣ n:=⟨Int.gcd_dvd_right ..,Int.gcd_dvd_left ..⟩
theorem T7:∀n∈ns,gL ns ∣ n:=by
 have:∀(ns:List Int) (f:Int),ns.foldl gF f ∣ f/\∀n∈ns,ns.foldl gF f ∣ n:=by
  intro ns;induction ns with
  | nil=>intro f;exact⟨Int.dvd_refl _,nofun⟩
  | cons a ns ih=>
   intro f;obtain⟨h1,h2⟩:=ih _;refine⟨Int.dvd_trans h1 (Ve f a).1,λn hn=>?_⟩;rcases K5.mp hn with rfl|hn
   exact Int.dvd_trans h1 (Ve f n).2;exact h2 n hn
 exact(this ns 0).2
theorem aal (h:NZ ns):0<gL ns:=by
 have h0:=aaB ns;obtain⟨n,hn,n0⟩:=h;have hd:=T7 n hn;by_cases e:gL ns=0
 simp_all
 lia
theorem Ml.nz (h:Ml ns):NZ ns:=by
 have:∀l:List Int,0<kY l->NZ l:=by
  intro l;induction l with
  | nil=>intro h;exact nomatch h
  | cons a l ih=>
   intro h;rw[kY]at h;by_cases e:a=0
   rw[if_pos e]at h;obtain⟨n,hn,n0⟩:=ih h;exact⟨n,Qp _ hn,n0⟩;exact⟨a,by simp,e⟩
 obtain⟨n,hn,n0⟩:=this _ h.2;exact⟨n,List.mem_reverse.mp hn,n0⟩
theorem G4 {by'}(h:NZ ns)(hb:by'=if iy ns<0 then 0-gL ns else gL ns):
  by'≠0/\Ml (ns.map (·.fdiv by'))/\ns=(ns.map (·.fdiv by')).map (· * by'):=by
 have g0:=aal h;have hn:by'≠0:=by rw[hb];split<;>lia
 have hd:∀t,gL ns ∣ t->by' ∣ t:=λt ht=>by
  rw[hb];split
  rw[Int.zero_sub];exact Int.neg_dvd.mpr ht;exact ht
 have e:ns=(ns.map (·.fdiv by')).map (· * by'):=by
  rw[W8];conv=>lhs;rw[<-List.map_id ns]
  refine Ry λn hn'=>?_;obtain⟨m,hm⟩:=hd n (T7 n hn');show n=n.fdiv by'*by'
  conv=>lhs;rw[hm]
  conv=>rhs;rw[hm]
  rw[Int.mul_fdiv_cancel_left _ hn,Int.mul_comm]
 refine⟨hn,?_,e⟩;generalize hms:ns.map (·.fdiv by')=ms at e;have e1:gL ns=gL ms*(by'.natAbs:Int):=by rw[e];exact M6 by' ms
 have e2:(by'.natAbs:Int)=gL ns:=by rw[hb];split<;>lia
 have e3:iy ns=iy ms*by':=by rw[e];exact pZ hn ms
 have l0:=Gk h;refine⟨?_,?_⟩;rw[e2]at e1;have e1':gL ms*gL ns=1*gL ns:=by rw[<-e1,Int.one_mul]
 exact Int.eq_of_mul_eq_mul_right (by lia) e1';by_cases hs:iy ns<0
 have:by'<0:=by lia
 by_cases q:0<iy ms
 exact q;have:=Int.mul_nonneg_of_nonpos_of_nonpos (show iy ms<=0 by lia) (Int.le_of_lt this)
 lia;have:0<by':=by lia
 by_cases q:0<iy ms
 exact q;have:=Int.mul_nonpos_of_nonpos_of_nonneg (show iy ms<=0 by lia) (Int.le_of_lt this)
 lia
theorem rR {k}(hk:k≠0):∀{ns ms:List Int},ns.map (· * k)=ms.map (· * k)->ns=ms
 | [],[],_=>rfl
 | a::ns,b::ms,h=>by
  obtain⟨h1,h2⟩:=List.cons.inj h;rw[Int.eq_of_mul_eq_mul_right hk h1,rR hk h2]
variable {ms:List Int}
theorem Nu (hn:Ml ns)(hm:Ml ms){s t}(hs:s≠0)(ht:t≠0)(h:ns.map (· * s)=ms.map (· * t)):ns=ms:=by
 have e1:gL ns*(s.natAbs:Int)=gL ms*(t.natAbs:Int):=by rw[<-M6,<-M6,h]
 rw[hn.1,hm.1]at e1;have e2:iy ns*s=iy ms*t:=by rw[<-pZ hs,<-pZ ht,h]
 have a:=hn.2;have b:=hm.2;have st:s=t:=by
  rcases Int.lt_or_gt_of_ne hs with s0|s0<;>rcases Int.lt_or_gt_of_ne ht with t0|t0
  lia;have x:=Int.mul_neg_of_pos_of_neg a s0;have y:=Int.mul_pos b t0;lia;have x:=Int.mul_pos a s0;have y:=Int.mul_neg_of_pos_of_neg b t0;lia;lia
 subst st;exact rR hs h
def Jw (c0:Ah):Prop:=∀{h:Gh}{w:W}{ns:List Int}{m:Nat}{Q:WK}{E:Ce},Ints w ns->NZ ns->(∀n∈ns,Sm m n)->m<=8000->ns.length<=1000 ->
 (∀(ms:List Int) (k:Int),k≠0->ns=ms.map (· * k)->Ml ms->(∀n∈ms,Sm m n)->Q (.tup (ms.map .int)) h)->c0 [w] h Q E
theorem bU (a b:Int):Iz (.int a) (.int b)=(a==b):=rfl
theorem gj {a a'}(h:Sm m a)(e:a=a'*k)(hk:k≠0):Sm m a':=by
 refine h.le ?_;rw[e,Int.natAbs_mul];exact Nat.le_mul_of_pos_right _<|by lia
theorem Dy (h:∀n∈ns,Sm m n)(hk:k≠0)(e:ns=ms.map (· * k)):∀n∈ms,Sm m n:=λn hn=>
 gj (h _ (e ▸ Ni.mpr ⟨n,hn,rfl⟩)) rfl hk
theorem aiR (h:NZ ns):Mv ((ns.filter (·≠0)).map W.int) (-1)=Dn (.int (iy ns)):=by
 have key:∀l:List Int,kY l≠0->∃r,l.filter (·≠0)=kY l::r:=by
  intro l;induction l with
  | nil=>intro h;exact absurd rfl h
  | cons a l ih=>
   intro h;rw[kY]at h|-
   by_cases e:a=0
   simp_all
   simp_all
 obtain⟨r,hr⟩:=key _ (Gk h);have hf:=by
  rw[List.filter_reverse]at hr;have:=congrArg List.reverse hr
  rwa[List.reverse_reverse,List.reverse_cons]at this
 rw[hf,R7];exact air _ _
theorem aa8 {by'}(hs:Ag h w=Dn ⟨ns.map .int,Go⟩)(hb:by'≠0)(hm:m<=8000)(hs':Sm m by')(hz:ns.length<=Il)(hv:σ[0]?=Dn (Dn w))(hx:sI ix σ=[Dn (.int by')])(k:Q (.lst ((ns.map (·.fdiv by')).map .int)) h):
  JB JX ix (JT (ao 0)) jF (Mk Jh (ao 0) (ao 1)) σ h Q:=by
 unfold JB JT ao;rw[hv];dsimp only;rw[hs];refine gG.mk (by rwa[Hi])<|dR (λi acc h'=>h'=h/\acc=((ns.take i).map (·.fdiv by')).map W.int) ?_ (by simp_all) ⟨rfl,rfl⟩
 rintro i w acc h' N hN e ⟨rfl,rfl⟩;obtain⟨n,en,rfl⟩:=ints_get e;refine⟨[.int n],rfl,?_⟩;rw[hx];refine⟨⟨hb,m,hm,hs'⟩,(hN _ _ ⟨rfl,?_⟩)⟩;rw[N7,en];simp
def acV (c0:Ah):Prop:=∀{h:Gh}{w:W}{ns:List Int}{Q:WK}{E:Ce},Ints w ns->Q (.bl (decide (iy ns<0))) h->c0 [w] h Q E
theorem akv:acV oX:=by
 intro h w ns Q E hw q;have key:∀(l:List Int) (s:Src) (o:Option W),s.cell=Go->Q (.bl (decide (kY l<0))) h->fC s (kI 1) (cT (aR (Mk Ju (ao 1) (mC (.int 0)))) (bJ (Mk kLt (ao 1) (mC (.int 0)))) bD)
   {nx:=jR E {nx:=λ_ h'=>Q .non h',rt:=λw h'=>Q w h'},rt:=λw h'=>Q w h'} (l.map .int) [Dn w,o] h:=by
  intro l;induction l with
  | nil=>
   intro s o hs q;obtain⟨ws,ix⟩:=s;cases hs;exact q
  | cons n l ih=>
   intro s o hs q;obtain⟨ws,ix⟩:=s;cases hs;rw[kY]at q;refine⟨λe=>?_,λe=>?_⟩;rw[bU]at e
   rwa[if_neg (by simpa using e)]at q
   rw[bU]at e;rw[if_pos (by simpa using e)]at q;exact ih _ _ rfl q
 have k2:=key _ ⟨(ns.map .int).reverse,Go⟩ Go rfl q;rw[List.map_reverse]at k2;rcases hw with rfl|rfl<;>exact k2
theorem ahW {dv en}(hdv:zG dv)(hen:acV en):Jw (Ky dv en):=by
 intro h w ns m Q E hw h0 hs hm hl q;have hg0:=aal h0;have fin:∀by',(by'=if iy ns<0 then 0-gL ns else gL ns)->xT dv en E {nx:=λ_ h'=>Q .non h',rt:=λw h'=>Q w h'} [Dn w,Dn (.int by')] h:=by
  intro by' e
  obtain⟨hn,pl,eq⟩:=G4 h0 e;show JB JX [1] _ jF _ [Dn w,Dn _] h _;refine aa8 (by rcases hw with rfl|rfl<;>rfl) hn hm (by refine(ZK hs).le ?_;rw[e];split<;>lia) (Ja hl<|by decide) rfl rfl ?_;exact q _ by' hn eq pl<|Dy hs hn eq
 refine hdv hw ?_;refine bM (by rw[bU];simp;lia) ?_;exact hen hw<|yr (λhl=>(fin _<|by rw[if_pos hl,Int.zero_sub]))<|λhl=>(fin _<|by rw[if_neg hl])
abbrev Tr:=Int×Int×Int
def tl (t:Tr):List Int:=[t.1,t.2.1,t.2.2]
def tw (t:Tr):W:=.tup [.int t.1,.int t.2.1,.int t.2.2]
def Pl (t:Tr):Prop:=Ml (tl t)
def HB (m:Nat)(t:Tr):Prop:=Sm m t.1/\Sm m t.2.1/\Sm m t.2.2
def sc (k:Int)(t:Tr):Tr:=(t.1*k,t.2.1*k,t.2.2*k)
def Je (u t:Tr):Prop:=∃k,k≠0/\u=sc k t
def crs (p q:Tr):Tr:=(p.2.1*q.2.2-p.2.2*q.2.1,p.2.2*q.1-p.1*q.2.2,p.1*q.2.1-p.2.1*q.1)
def dt3 (p q:Tr):Int:=p.1*q.1+p.2.1*q.2.1+p.2.2*q.2.2
theorem HB.mono {m n t}(h:HB m t)(e:m<=n):HB n t:=⟨h.1.mono e,h.2.1.mono e,h.2.2.mono e⟩
theorem HB.all {t}(h:HB m t):∀n∈tl t,Sm m n:=by
 intro n hn;simp[tl]at hn;rcases hn with rfl|rfl|rfl
 exact h.1;exact h.2.1;exact h.2.2
theorem KR {t:Tr}:t=(0,0,0)↔t.1=0/\t.2.1=0/\t.2.2=0:=by grind
theorem YM {t:Tr}(h:t≠(0,0,0)):NZ (tl t):=by
 by_cases a:t.1=0
 by_cases b:t.2.1=0
 by_cases c:t.2.2=0
 grind
 exact⟨_,by simp[tl],c⟩;exact⟨_,by simp[tl],b⟩;exact⟨_,by simp[tl],a⟩
theorem KD {t}(e:tl t=ms.map (· * k)):∃u,ms=tl u/\t=sc k u:=by
 match ms,congrArg Tc e,e with
 | [a,b,c],_,e=>
  simp[tl]at e;exact⟨(a,b,c),rfl,by obtain⟨x,y,z⟩:=t;simp only[sc];simp only at e;rw[e.1,e.2.1,e.2.2]⟩
variable {c0:Ah}{u:Tr}{E:Ce}
theorem Jw.tr (hc:Jw c0)(hw:w=tw u\/w=.lst [.int u.1,.int u.2.1,.int u.2.2])(h0:u≠(0,0,0))(hs:HB m u)(hm:m<=8000)
  (q:∀t,Pl t->Je u t->HB m t->Q (tw t) h):c0 [w] h Q E:=by
 refine hc ?_ (YM h0) hs.all hm (show 3<=1000 by decide) λms k hk e pl sm=>?_;rcases hw with rfl|rfl
 exact .inr rfl;exact .inl rfl;obtain⟨t,rfl,e'⟩:=KD e;exact q t pl ⟨k,hk,e'⟩ ⟨sm _<|by simp[tl],sm _<|by simp[tl],sm _<|by simp[tl]⟩
theorem jz {t:Tr}(hk:k≠0):sc k t=(0,0,0)↔t=(0,0,0):=by
 rw[KR,KR];show(t.1*k=0/\t.2.1*k=0/\t.2.2*k=0)↔_;rw[cQ hk,cQ hk,cQ hk]
theorem Pl.ne {t}(h:Pl t):t≠(0,0,0):=by
 rintro rfl;obtain⟨n,hn,n0⟩:=h.nz;simp[tl]at hn;exact n0 hn
variable {p q:Tr}
theorem Np (hp:Pl p)(hq:Pl q)(h1:Je u p)(h2:Je u q):p=q:=by
 obtain⟨s,hs,e⟩:=h1;obtain⟨t,ht,e'⟩:=h2;have h:sc s p=sc t q:=by rw[<-e,<-e']
 have:=Nu hp hq hs ht (by
  have:=congrArg tl h
  simpa[tl,sc]using this)
 obtain⟨a,b,c⟩:=p;simp[tl]at this;simp_all
theorem ray (hp:p≠(0,0,0))(h:crs p q=(0,0,0)):∃s t,s≠0/\sc s q=sc t p:=by
 obtain⟨a,b,c⟩:=p;obtain⟨x,y,z⟩:=q;have h1:b*z-c*y=0:=congrArg (·.1) h;have h2:c*x-a*z=0:=congrArg (·.2.1) h;have h3:a*y-b*x=0:=congrArg (·.2.2) h;by_cases ha:a=0
 by_cases hb:b=0
 by_cases hc:c=0
 simp_all
 refine⟨c,z,hc,?_⟩;simp[sc];grind
 refine⟨b,y,hb,?_⟩;simp[sc];grind
 refine⟨a,x,ha,?_⟩;simp only[sc];refine Prod.ext ?_ (Prod.ext ?_ ?_)<;>grind
theorem wg (hp:Pl p)(hq:Pl q)(h:crs p q=(0,0,0)):p=q:=by
 obtain⟨s,t,hs,e⟩:=ray hp.ne h;have ht:t≠0:=by
  rintro rfl;have:sc s q=(0,0,0):=by rw[e];simp[sc]
  exact hq.ne<|(jz hs).mp this
 exact Np hp hq ⟨t,ht,rfl⟩ ⟨s,hs,e.symm⟩
theorem fJ (hp:Pl p)(hq:Pl q)(h:p≠q):crs p q≠(0,0,0):=λe=>h (wg hp hq e)
theorem flat {n r:Tr}(hn:n≠(0,0,0))(hp:dt3 n p=0)(hq:dt3 n q=0)(hr:dt3 n r=0):dt3 (crs p q) r=0:=by
 obtain⟨n1,n2,n3⟩:=n;obtain⟨p1,p2,p3⟩:=p;obtain⟨q1,q2,q3⟩:=q;obtain⟨r1,r2,r3⟩:=r;simp[dt3,crs]at *;generalize hd:(p2*q3-p3*q2)*r1+(p3*q1-p1*q3)*r2+(p1*q2-p2*q1)*r3=d;have e1:n1*d=0:=by grind
 have e2:n2*d=0:=by grind
 have e3:n3*d=0:=by grind
 by_cases h:d=0
 exact h;have f:∀x:Int,x*d=0->x=0:=λx e=>by
  rcases R0.mp e with e|e
  exact e;lia
 simp_all
theorem vI (p q:Tr):dt3 p q=dt3 q p:=by simp[dt3,Int.mul_comm]
theorem ux (k)(p q):dt3 (sc k p) q=dt3 p q*k:=by simp[dt3,sc];grind
theorem lA (k)(p q):dt3 p (sc k q)=dt3 p q*k:=by simp[dt3,sc];grind
theorem J7 {t n}(h:Je u t):dt3 n u=0↔dt3 n t=0:=by
 obtain⟨k,hk,rfl⟩:=h;rw[lA,cQ hk]
theorem Lj (k l)(p q):crs (sc k p) (sc l q)=sc (k*l) (crs p q):=by
 simp[crs,sc];grind
theorem FP (a):crs a a=(0,0,0):=by
 simp[crs];grind
theorem lX (p q):dt3 (crs p q) p=0:=by simp[dt3,crs];grind
theorem vR (p q):dt3 (crs p q) q=0:=by simp[dt3,crs];grind
theorem eV (hp:HB m p)(hq:HB m q):HB (m+m+1) (crs p q):=
 ⟨(hp.2.1.mul hq.2.2).sub (hp.2.2.mul hq.2.1) |>.mono (by lia),(hp.2.2.mul hq.1).sub (hp.1.mul hq.2.2) |>.mono (by lia),(hp.1.mul hq.2.1).sub (hp.2.1.mul hq.1) |>.mono (by lia)⟩
theorem Cy (p q):Iz (tw p) (tw q)=decide (p=q):=by
 obtain⟨a,b,c⟩:=p;obtain⟨x,y,z⟩:=q;unfold tw;rw[Iz,iZ,iZ,iZ,iZ,bU,bU,bU];grind
theorem afk (a b c):Iz (.lst [.int a,.int b,.int c]) (.lst [.int 0,.int 0,.int 0])=decide (a=0/\b=0/\c=0):=by
 rw[Iz,iZ,iZ,iZ,iZ,bU,bU,bU];grind
def wj (c0:Ah):Prop:=∀{h:Gh}{p q:Tr}{m:Nat}{Q:WK}{E:Ce},m<=10000->HB m p->HB m q->Q (tw (crs p q)) h->c0 [tw p,tw q] h Q E
def qL (c0:Ah):Prop:=∀{h:Gh}{p q:Tr}{m:Nat}{Q:WK}{E:Ce},m<=10000->HB m p->HB m q->Q (.int (dt3 p q)) h->c0 [tw p,tw q] h Q E
theorem ahH (e:h.c n=Dn (.lst ws)):dU h (.loc n)=Dn ws:=by simp[dU,e]
theorem qT:wj Bh:=by
 intro h p q m Q E hm hp hq k;obtain⟨ha,hb,hc⟩:=hp;obtain⟨hx,hy,hz⟩:=hq
 (repeat(refine And.intro (fU.of (by trivial) (by trivial) (by lia) (by lia)) ?_))
 exact k
theorem SN:qL Mr:=by
 intro h p q m Q E hm hp hq k;obtain⟨ha,hb,hc⟩:=hp;obtain⟨hx,hy,hz⟩:=hq
 (repeat(refine And.intro (fU.of (by trivial) (by trivial) (by lia) (by lia)) ?_))
 exact k
def JoinOk (c0:Ah):Prop:=∀{h:Gh}{p q:Tr}{m:Nat}{Q:WK}{E:Ce},m<=3900->HB m p->HB m q->Pl p->Pl q->p≠q->(∀t:Tr,Pl t->Je (crs p q) t->HB (m+m+1) t->Q (tw t) h)->c0 [tw p,tw q] h Q E
variable {cr pl:Ah}
theorem Eb (hpl:Jw pl)(hcr:wj cr):JoinOk (iw pl cr):=by
 intro h p q m Q E hm sp sq pp pq hne k;show br _ _ _;rw[Cy];exact bM (decide_eq_false hne)<|hcr (by lia) sp sq<|hpl.tr (.inl rfl) (fJ pp pq hne) (eV sp sq) (by lia) k
theorem abl {pc}(hpc:JoinOk pc):JoinOk (Km pc):=by
 assumption
def Ud (c0:Ah):Prop:=∀{h:Gh}{p q:Tr}{m:Nat}{Q:WK}{E:Ce},m<=10000->HB m p->HB m q->Q (.bl (decide (dt3 p q=0))) h->c0 [tw p,tw q] h Q E
variable {dt:Ah}
theorem abY (hdt:qL dt):Ud (z7 dt):=by
 intro h p q m Q E hm hp hq k;refine hdt hm hp hq ?_;assumption
def AllP (ts:List Tr):Prop:=∀p∈ts,∀q∈ts,∀r∈ts,dt3 (crs q r) p=0
def Z3 (ts:List Tr)(a b c:Nat):Prop:=∀p q r,ts[a]?=Dn p->ts[b]?=Dn q->ts[c]?=Dn r->dt3 (crs q r) p=0
open Classical in
noncomputable def iW (ts:List Tr):Bool:=decide (AllP ts)
variable {ts:List Tr}
open Classical in
theorem rW (h:AllP ts):iW ts=true:=decide_eq_true h
open Classical in
theorem Bj (h:¬AllP ts):iW ts=false:=decide_eq_false h
theorem BJ (p q r):dt3 (crs q r) p=dt3 (crs r p) q:=by simp[dt3,crs];grind
theorem zbw (p q r):dt3 (crs q r) p=- dt3 (crs r q) p:=by simp[dt3,crs];grind
theorem m6 (p q):dt3 (crs q q) p=0:=by simp[dt3,crs];grind
theorem zN (H:∀k j i,k<j->j<i->Z3 ts k j i):AllP ts:=by
 intro p hp q hq r hr;obtain⟨a,ea⟩:=Ye hp;obtain⟨b,eb⟩:=Ye hq;obtain⟨c,ec⟩:=Ye hr;have rot:∀{p q r:Tr},dt3 (crs q r) p=0->dt3 _ q=0:=λ{p q r} h=>by rwa[<-BJ]
 have sw:∀{p q r:Tr},dt3 (crs q r) p=0->dt3 _ p=0:=λ{p q r} h=>by rw[zbw,h];rfl
 have ab:a=b->p=q:=λe=>by subst e;rw[ea]at eb;exact Lr eb
 have bc:b=c->q=r:=λe=>by subst e;rw[eb]at ec;exact Lr ec
 have ac:a=c->p=r:=λe=>by subst e;rw[ea]at ec;exact Lr ec
 by_cases h1:a=b
 rw[ab h1];exact rot (m6 r q);by_cases h2:b=c
 rw[bc h2];exact m6 p r;by_cases h3:a=c
 rw[ac h3];exact rot (rot (m6 q r));by_cases l1:a<b
 by_cases l2:b<c
 exact H a b c l1 l2 _ _ _ ea eb ec;by_cases l3:a<c
 exact sw<|H a c b l3 (by lia) _ _ _ ea ec eb
 exact rot<|H c a b (by lia) l1 _ _ _ ec ea eb
 by_cases l2:b<c
 by_cases l3:a<c
 exact sw<|rot<|H b a c (by lia) l3 _ _ _ eb ea ec
 exact rot<|rot<|H b c a l2 (by lia) _ _ _ eb ec ea
 exact sw<|rot<|rot<|H c b a (by lia) (by lia) _ _ _ ec eb ea
theorem ajb (ts)(h:ts.length<=2):AllP ts:=by
 refine zN λk j i h1 h2 p q r _ _ e=>?_;have:=(Ob.mp e).1
 lia
theorem zbk {t0}(h0:t0∈ts)(hu:u∈ts)(hne:u≠t0)(hp:∀t∈ts,Pl t):(∀t∈ts,t≠t0->dt3 (crs t0 u) t=0)↔AllP ts:=by
 refine⟨λH=>?_,λH t ht _=>H t ht t0 h0 u hu⟩;have hn:=fJ (hp _ h0) (hp _ hu) (Jc hne);have H':∀t∈ts,dt3 (crs t0 u) t=0:=λt ht=>by
  by_cases e:t=t0
  subst e;rw[BJ,BJ];exact m6 _ _;simp_all
 intro p hp q hq r hr;exact flat hn (H' q hq) (H' r hr)<|H' p hp
theorem zbK {t0}(H:∀t∈ts,t=t0):AllP ts:=by
 intro p hp q hq r hr;rw[H q hq,H r hr];exact m6 _ _
theorem zp (e:(ts.map tw)[i]?=Dn w):∃t,ts[i]?=Dn t/\w=tw t:=by grind
theorem CK:∀bs,JG (bs.map W.bl)=Dn bs
 | []=>rfl
 | b::bs=>by rw[Nj,JG,CK bs];rfl
theorem Bx {s}(I:Nat->List W->Gh->Prop)
  (go:∀i acc h,I i acc h->∀P,P->s.go h P)
  (step:∀i w  (acc) (h) (N:List W->Gh->Prop),(∀acc' h',I (i+1) acc' h'->N acc' h')->ws[i]?=Dn w->I i acc h ->
   ∃vs,own w=Dn vs/\tt (vs.map Dn++sI ix σ) h λc h1=>JQ c (te (vs.map Dn++sI ix σ) h1 λv h2=>N (acc++[v]) h2) (N acc h1))
  (fin:∀acc h,I ws.length acc h->Q (.lst acc) h):∀{acc h},I 0 acc h->xO s own ix tt te σ Q ws acc h:=by
 induction ws generalizing I with
 | nil=>intro acc h h0;exact go 0 acc h h0 _ (fin acc h h0)
 | cons w ws ih=>
  intro acc h h0;obtain⟨vs,ev,q⟩:=step 0 w acc h _ (λacc' h' q=>ih _ (λi=>go _) (λi w acc h N hN e hi=>step (i+1) w acc h N hN (by simpa using e) hi) (λacc h q=>fin acc h q) q) rfl h0;refine go 0 acc h h0 _ ?_
  rwa[ev]
theorem ad7 (hv:σ[i]?=Dn (Dn w))(hs:Ag h w=Dn ⟨ws,Go⟩)(hz:ws.length<=Il)(k:xO ⟨ws,Go⟩ own ix jF te σ Q ws [] h):JB own ix (JT (ao i)) jF te σ h Q:=by
 unfold JB JT ao;rw[hv];dsimp only;exact hs ▸ gG.mk hz k
def Ca (h:Gh)(w:W)(ts:List Tr):Prop:=w=.lst (ts.map tw)\/∃n,w=.loc n/\h.c n=Dn (.lst (ts.map tw))
theorem Ca.src (e:Ca h w ts):view h w=Dn (ts.map tw)/\∃s,Ag h w=Dn s/\s.ws=ts.map tw/\∀P,P->s.go h P:=by
 rcases e with rfl|⟨n,rfl,e⟩
 exact⟨rfl,_,rfl,rfl,λ_ p=>p⟩;refine⟨jG e,⟨ts.map tw,Dn (n,ts.map tw)⟩,by simp[Ag,e],rfl,λP p=>⟨e,p⟩⟩
theorem Cp (t0)(r):Mv ((t0::r).map tw) 0=Dn (tw t0):=bZ rfl
theorem ahY {t0}{r}{o1 o2}(e:Ca h w (t0::r))(hl:(t0::r).length<=1000)(q:Q (.lst (((t0::r).filter (·≠t0)).map tw)) h):
  JB JX [0] (JT (ao 0)) (aR (Mk Ju (ao 0) (Mk Av (ao 1) (mC (.int 0))))) (ao 0) [Dn w,o1,o2] h Q:=by
 obtain⟨ev,s,es,ew,go⟩:=e.src;generalize hts:t0::r=ts at *;have a0:=hts ▸ Cp _ _;show(match Ag h w with
  | some s=>_
  | none=>False)
 rw[es];show gG _ _;rw[ew];refine gG.mk (by rw[Hi];exact Ja hl (by decide)) ?_;refine Bx (λi acc h'=>h'=h/\acc=((ts.take i).filter (·≠t0)).map tw) ?_ ?_ ?_ ⟨rfl,rfl⟩;grind
 rintro i w2 acc h' N hN e2 ⟨rfl,rfl⟩;obtain⟨t,et,rfl⟩:=zp e2;refine⟨[tw t],rfl,?_⟩;show(match view h' w with
  | some ws=>(match Mv ws 0 with
   | some w=>_
   | none=>False)
  | none=>False)
 rw[ev];dsimp only;rw[a0];show JQ (Hq 30 (tw t)&&Hq 30 (tw t0)) _ False;rw[Cy];show JQ (!decide _) _ _;by_cases h0:t=t0
 refine adk (by simp[h0])<|hN _ _ ⟨rfl,?_⟩
 rw[N7,et];simp[h0];refine Rj (by simp[h0])<|hN _ _ ⟨rfl,?_⟩
 rw[N7,et];simp[h0]
 simp_all
def nJ (c0:Ah):Prop:=∀{h:Gh}{w:W}{ts:List Tr}{M:Nat}{Q:WK}{E:Ce},Ca h w ts->ts.length<=1000->M<=4000->(∀t∈ts,Pl t/\HB M t)->Q (.bl (iW ts)) h->c0 [w] h Q E
theorem Zf {dot}(hdot:qL dot)(hcr:wj cr):nJ (qW dot cr):=by
 intro h w ts M Q E e hl hM hs q;match ts,e,hl,hs,q with
 | [],e,hl,hs,q=>
  obtain⟨ev,s,es,ew,go⟩:=e.src;rw[rW (ajb [] (by decide))]at q;show(match Ag h w with
   | some s=>_
   | none=>False)
  rw[es];show gG s.ws.length (xO s _ _ _ _ _ _ s.ws [] h);rw[ew];refine go _ ?_;exact iU rfl q
 | t0::r,e,hl,hs,q=>
  refine ahY e hl ?_;generalize hts:t0::r=ts at *;have m0:t0∈ts:=by rw[<-hts];simp
  have hus:∀t,t∈ts.filter (·≠t0)↔t∈ts/\t≠t0:=λt=>by rw[Vn];simp
  have hlu:(ts.filter (·≠t0)).length<=ts.length:=List.length_filter_le ..;generalize ts.filter (·≠t0)=us at hus hlu;match us,hus,hlu with
  | [],hus,_=>
   rw[rW (zbK (t0:=t0) λt ht=>by
    by_cases e:t=t0
    exact e;exact absurd ((hus t).mpr ⟨ht,e⟩) (by simp))]at q
   exact iU rfl q
  | u::us,hus,hlu=>
   have hu:=(hus u).mp (by simp);refine bM rfl ?_;obtain⟨ev,s,es,ew,go⟩:=e.src;show(match view h w with
    | some ws=>(match Mv ws 0 with
     | some w=>_
     | none=>False)
    | none=>False)
   rw[ev];dsimp only;rw[show Mv (ts.map tw) 0=Dn (tw t0) by rw[<-hts];exact Cp _ _];show(match Mv ((u::us).map tw) 0 with
    | some w=>_
    | none=>False)
   rw[Cp];refine hcr (m:=M) (by lia) (hs _ m0).2 (hs _ hu.1).2 ?_;have sc:=eV (hs _ m0).2 (hs _ hu.1).2;have it:=zbk (u:=u) m0 hu.1 hu.2 λt ht=>(hs t ht).1
   generalize crs t0 u=n at sc it;generalize hvs:u::us=vs at *;show JB JX [2] (JT (ao 1)) jF _ [Dn w,Dn (.lst (vs.map tw)),Dn (tw n)] h _;refine ad7 (w:=.lst (vs.map tw)) (ws:=vs.map tw) rfl rfl (by rw[Hi];exact Ja (Ja hlu hl) (by decide)) ?_;refine dR (λi acc h'=>h'=h/\acc=((vs.take i).map λt=>dt3 n t==0).map W.bl) ?_ ?_ ⟨rfl,rfl⟩;rintro i w2 acc h' N hN e2 ⟨rfl,rfl⟩;obtain⟨t,et,rfl⟩:=zp e2;have mt:=(hus t).mp (RN et);refine⟨[tw t],rfl,?_⟩;refine hdot (m:=M+M+1) (by lia) sc ((hs t mt.1).2.mono (by lia)) ?_;show N (_++[W.bl (Iz (.int (dt3 n t)) (.int 0))]) h';rw[bU];refine hN _ _ ⟨rfl,?_⟩;rw[N7,et];simp;rintro acc h' ⟨rfl,rfl⟩;rw[Hi,Q9];show(match JG ((vs.map λt=>dt3 n t==0).map W.bl)with
    | some bs=>Q (.bl (bs.all id)) h'
    | none=>False)
   rw[CK];have ef:(vs.map λt=>dt3 n t==0).all id=iW ts:=by
    by_cases H:AllP ts
    rw[rW H,Rm];intro b hb;obtain⟨t,ht,rfl⟩:=Ni.mp hb;have:=it.mpr H t ((hus t).mp ht).1 ((hus t).mp ht).2
    simp[this];rw[Bj H];refine Bool.eq_false_iff.mpr λhb=>H<|it.mp λt ht hne=>?_
    rw[Rm]at hb;have:=hb _ (Ni.mpr ⟨t,(hus t).mpr ⟨ht,hne⟩,rfl⟩)
    simpa using this
   dsimp only;rw[ef];exact q
theorem zbm {sh}(hsh:nJ sh):nJ (yG sh):=by
 assumption
theorem Ej {s b}(I:Nat->Sw->Gh->Prop)(go:∀i σ h,I i σ h->∀P,P->s.go h P)
  (step:∀i w  (σ) (h) (N),(∀σ' h',I (i+1) σ' h'->N σ' h')->ws[i]?=Dn w->I i σ h->g w σ h fun σ1 h1=>b {D with nx:=N,ct:=N,bk:=D.nx} σ1 h1)
  (fin:∀σ h,I ws.length σ h->D.nx σ h):∀{σ h},I 0 σ h->fC s g b D ws σ h:=by
 induction ws generalizing I with
 | nil=>intro σ h h0;exact go 0 σ h h0 _ (fin σ h h0)
 | cons w ws ih=>
  intro σ h h0;exact go 0 σ h h0 _<|step 0 w σ h _ (fun σ' h' q=>(ih _ (λi=>go<|i+1) (λi w σ h N hN e hi=>step _ w σ h N hN (by simpa using e) hi) (fun σ h q=>fin σ h q) q)) rfl h0
variable {us:List W}
theorem abx (e:h.c n=Dn (.lst us))(hz:us.length<Il)(k:Q .non (h.set n (.lst (us++[w])))):cV (.loc n) [w] h Q:=by
 show(match h.c n with
  | some (Cell.lst us)=>_
  | _=>False)
 simp_all
variable {zs:List W}
theorem aaj (e:h.c n=Dn (.lst us))(hz:us.length+zs.length<=Il)(k:Q .non (h.set n (.lst (us++zs)))):jk (.loc n) [.lst zs] h Q:=by
 dsimp [jk]
 exact e ▸ gG.mk hz k
variable {j:Int}{ma:MA}
theorem aav (hm:∀R,ma σ h R=R [.int j] h)(h1:-(2^62)<=j)(h2:j<2^62)(hz:j.toNat<=Il)(I:Nat->List W->Gh->Prop)
  (step:∀i  (acc) (h) (N:List W->Gh->Prop),(∀acc' h',I (i+1) acc' h'->N acc' h')->i<j.toNat->I i acc h ->
   ∃vs,own (.int (i))=Dn vs/\tt (vs.map Dn++sI ix σ) h λc h1=>JQ c (te (vs.map Dn++sI ix σ) h1 λv h2=>N (acc++[v]) h2) (N acc h1))
  (fin:∀acc h,I j.toNat acc h->Q (.lst acc) h) (h0:I 0 [] h):JB own ix (qd ma) tt te σ h Q:=by
 unfold JB qd;rw[hm];refine Af.mk h1 h2<|gG.mk (Gq ▸ hz) ?_
 refine dR I (λi w acc h N hN e hi=>?_) (λacc h q=>fin acc h (by rw[Gq]at q;exact q)) h0;obtain⟨hlt,rfl⟩:=zbT e;rw[Int.zero_add];exact step i acc h N hN hlt hi
abbrev Mt:=Tr×Tr×Tr
def vm (M:Mt)(v:Tr):Tr:=(dt3 M.1 v,dt3 M.2.1 v,dt3 M.2.2 v)
def tr (M:Mt):Mt:=((M.1.1,M.2.1.1,M.2.2.1),(M.1.2.1,M.2.1.2.1,M.2.2.2.1),(M.1.2.2,M.2.1.2.2,M.2.2.2.2))
def mm (M N:Mt):Mt:=(vm (tr N) M.1,vm (tr N) M.2.1,vm (tr N) M.2.2)
def Rx (M:Mt):Mt:=(crs M.2.1 M.2.2,crs M.2.2 M.1,crs M.1 M.2.1)
def adj (M:Mt):Mt:=tr (Rx M)
def det (M:Mt):Int:=dt3 (crs M.1 M.2.1) M.2.2
def sM (k:Int)(M:Mt):Mt:=(sc k M.1,sc k M.2.1,sc k M.2.2)
def idM:Mt:=((1,0,0),(0,1,0),(0,0,1))
theorem tr3 (h1:p.1=q.1)(h2:p.2.1=q.2.1)(h3:p.2.2=q.2.2):p=q:=by grind
theorem Gx (x:Tr)(N:Mt)(v:Tr):dt3 (vm (tr N) x) v=dt3 x (vm N v):=by
 simp[dt3,vm,tr];grind
theorem Wy (M N)(v):vm (mm M N) v=vm M (vm N v):=tr3 (Gx _ _ _) (Gx _ _ _) (Gx _ _ _)
theorem zbb (M)(k)(v):vm M (sc k v)=sc k (vm M v):=tr3 (lA _ _ _) (lA _ _ _) (lA _ _ _)
theorem Yu (M)(k)(v):vm (sM k M) v=sc k (vm M v):=tr3 (ux _ _ _) (ux _ _ _) (ux _ _ _)
theorem VJ (v):vm idM v=v:=by
 simp[vm,idM,dt3]
theorem Ue (M):mm M (adj M)=sM (det M) idM:=by
 simp[mm,vm,adj,tr,Rx,det,sM,idM,sc,dt3,crs];grind
theorem Ug (M):mm (adj M) M=sM (det M) idM:=by
 simp[mm,vm,adj,tr,Rx,det,sM,idM,sc,dt3,crs];grind
theorem aam (M)(p q):crs (vm M p) (vm M q)=vm (Rx M) (crs p q):=by
 simp only[vm,Rx,dt3,crs];refine tr3 ?_ ?_ ?_<;>grind
theorem akT (M:Mt)(x v:Tr):dt3 (vm (Rx M) x) (vm M v)=det M*dt3 x v:=by
 show dt3 (vm (tr (adj M)) x) _=_;rw[Gx,<-Wy,Ug,Yu,VJ,lA,Int.mul_comm]
theorem aaS (M)(p q r):dt3 (crs (vm M p) (vm M q)) (vm M r)=det M*dt3 (crs p q) r:=by rw[aam,akT]
theorem Z6 (M):det (tr M)=det M:=by
 simp[det,tr,dt3,crs];grind
theorem aaw (M N):det (mm M N)=det M*det N:=by
 show dt3 (crs (vm _ _) (vm _ _)) (vm _ _)=_;rw[aaS,Z6,Int.mul_comm];rfl
theorem adg (k)(M):det (sM k M)=det M*(k*k*k):=by
 simp[det,sM];rw[Lj,ux,lA];grind
theorem aaR:det idM=1:=rfl
theorem Bd {M}(h:det M≠0):det (adj M)≠0:=by
 have e:=aaw M (adj M);rw[Ue,adg,aaR]at e;intro z;rw[z,Int.mul_zero,Int.one_mul]at e;exact(R0.mp e).elim (λe=>(R0.mp e).elim h h) h
theorem Xy {M}{v:Tr}(h:det M≠0)(hv:v≠(0,0,0)):vm M v≠(0,0,0):=by
 intro e;have e2:vm (adj M) (vm M v)=(0,0,0):=by rw[e];simp[vm,dt3]
 rw[<-Wy,Ug,Yu,VJ]at e2;exact hv<|(jz h).mp e2
def ml (M:Mt):List Int:=tl M.1++(tl M.2.1++tl M.2.2)
def mw (M:Mt):W:=.tup [.int M.1.1,.int M.1.2.1,.int M.1.2.2,.int M.2.1.1,.int M.2.1.2.1,.int M.2.1.2.2,.int M.2.2.1,.int M.2.2.2.1,.int M.2.2.2.2]
def mwl (M:Mt):W:=.lst [.int M.1.1,.int M.1.2.1,.int M.1.2.2,.int M.2.1.1,.int M.2.1.2.1,.int M.2.1.2.2,.int M.2.2.1,.int M.2.2.2.1,.int M.2.2.2.2]
def Ru (m:Nat)(M:Mt):Prop:=HB m M.1/\HB m M.2.1/\HB m M.2.2
theorem Ru.mono {m n M}(h:Ru m M)(e:m<=n):Ru n M:=⟨h.1.mono e,h.2.1.mono e,h.2.2.mono e⟩
theorem je (hp:HB m p)(hq:HB n q):Sm (m+n+2) (dt3 p q):=
 ((hp.1.mul hq.1).add (hp.2.1.mul hq.2.1)).add (hp.2.2.mul hq.2.2) |>.mono (by lia)
theorem mL {M v}(h:Ru m M)(hv:HB n v):HB (m+n+2) (vm M v):=⟨je h.1 hv,je h.2.1 hv,je h.2.2 hv⟩
theorem O7 {M}(h:Ru m M):Ru (m+m+1) (Rx M):=⟨eV h.2.1 h.2.2,eV h.2.2 h.1,eV h.1 h.2.1⟩
def vB (h:Gh)(w:W)(ns:List Int):Prop:=w=.lst (ns.map .int)\/w=.tup (ns.map .int)\/∃n,w=.loc n/\h.c n=Dn (.lst (ns.map .int))
theorem vB.src (e:vB h w ns):∃s,Ag h w=Dn s/\s.ws=ns.map .int/\∀h',vB h' w ns->∀P,P->s.go h' P:=by
 rcases e with rfl|rfl|⟨n,rfl,e⟩
 exact⟨_,rfl,rfl,λ_ _ _ p=>p⟩;exact⟨_,rfl,rfl,λ_ _ _ p=>p⟩;refine⟨⟨ns.map .int,Dn (n,ns.map .int)⟩,by simp[Ag,e],rfl,λh' e' P p=>⟨?_,p⟩⟩;rcases e' with e'|e'|⟨m,e',q⟩
 cases e'
 cases e'
 simp_all
theorem zbO {b}(hv:σ[i]?=Dn (Dn w))(e:vB h w ns)(I:Nat->Sw->Gh->Prop)
  (go:∀i σ h',I i σ h'->vB h' w ns)
  (step:∀i t σ h  (N),(∀σ' h',I (i+1) σ' h'->N σ' h')->ns[i]?=Dn t->I i σ h->g (.int t) σ h fun σ1 h1=>b {D with nx:=N,ct:=N,bk:=D.nx} σ1 h1)
  (fin:∀σ h,I ns.length σ h->D.nx σ h) (h0:I 0 σ h):vg (JT (ao i)) g b D σ h:=by
 unfold vg JT ao;rw[hv];dsimp only;obtain⟨s,es,ew,hg⟩:=e.src;rw[es];show fC s g b D _ σ h;rw[ew];refine Ej I (λi σ h' hi=>hg h'<|go i σ h' hi) (λi w σ h N hN e hi=>?_) (fun σ h q=>fin σ h<|by rwa[Hi]at q) h0;obtain⟨t,et,rfl⟩:=ints_get e;grind
theorem Kc (hv:σ[i]?=Dn (Dn w))(e:vB h w ns)(hz:ns.length<=Il)(I:Nat->List W->Gh->Prop)
  (go:∀i acc h',I i acc h'->vB h' w ns)
  (step:∀i t  (acc) (h) (N:List W->Gh->Prop),(∀acc' h',I (i+1) acc' h'->N acc' h')->ns[i]?=Dn t->I i acc h ->
   tt (Dn (.int t)::sI ix σ) h λc h1=>JQ c (te (Dn (.int t)::sI ix σ) h1 λv h2=>N (acc++[v]) h2) (N acc h1))
  (fin:∀acc h,I ns.length acc h->Q (.lst acc) h) (h0:I 0 [] h):JB JX ix (JT (ao i)) tt te σ h Q:=by
 unfold JB JT ao;rw[hv];dsimp only;obtain⟨s,es,ew,hg⟩:=e.src;rw[es];show gG _ _;rw[ew];refine gG.mk (by rwa[Hi])<|Bx I (λi acc h' hi=>hg h'<|go i acc h' hi) (λi w acc h N hN e hi=>?_) (λacc h q=>fin acc h<|by rwa[Hi]at q) h0
 obtain⟨t,et,rfl⟩:=ints_get e;exact⟨[.int t],rfl,step i t acc h N hN et hi⟩
def Fp (c:Ah):Prop:=∀{h:Gh}{w:W}{ns:List Int}{Q:WK}{E:Ce},vB h w ns->Q (.int (gL ns)) h->c [w] h Q E
def PB (c0:Ah):Prop:=∀{h:Gh}{w:W}{ns:List Int}{m:Nat}{Q:WK}{E:Ce},vB h w ns->NZ ns->(∀n∈ns,Sm m n)->m<=8000->ns.length<=1000 ->
 (∀(ms:List Int) (k:Int),k≠0->ns=ms.map (· * k)->Ml ms->(∀n∈ms,Sm m n)->Q (.tup (ms.map .int)) h)->c0 [w] h Q E
def lw (t:Tr):W:=.lst [.int t.1,.int t.2.1,.int t.2.2]
def Sq (b:Bool)(t:Tr):W:=if b then tw t else lw t
def MwB (b:Bool)(M:Mt):W:=if b then mw M else mwl M
def aex (c0:Ah):Prop:=∀{h:Gh}{p q:Tr}{m:Nat}{Q:WK}{E:Ce}(b b':Bool),m<=10000->HB m p->HB m q->Q (tw (crs p q)) h->c0 [Sq b p,Sq b' q] h Q E
def afl (c0:Ah):Prop:=∀{h:Gh}{p q:Tr}{m:Nat}{Q:WK}{E:Ce}(b b':Bool),m<=10000->HB m p->HB m q->Q (.int (dt3 p q)) h->c0 [Sq b p,Sq b' q] h Q E
theorem Hg:aex Bh:=by
 intro h p q m Q E b b' hm hp hq k;obtain⟨ha,hb,hc⟩:=hp;obtain⟨hx,hy,hz⟩:=hq;cases b<;>cases b'
 ·(repeat(refine And.intro (by exact fU.of (by trivial) (by trivial) (by lia) (by lia)) ?_;conv=>whnf))
  exact k
 ·(repeat(refine And.intro (by exact fU.of (by trivial) (by trivial) (by lia) (by lia)) ?_))
  exact k
 ·(repeat(refine And.intro (by exact fU.of (by trivial) (by trivial) (by lia) (by lia)) ?_))
  exact k
 ·(repeat(refine And.intro (by exact fU.of (by trivial) (by trivial) (by lia) (by lia)) ?_))
  exact k
theorem abn:afl Mr:=by
 intro h p q m Q E b b' hm hp hq k;obtain⟨ha,hb,hc⟩:=hp;obtain⟨hx,hy,hz⟩:=hq;cases b<;>cases b'
 ·(repeat(refine And.intro (fU.of (by trivial) (by trivial) (by lia) (by lia)) ?_))
  exact k
 ·(repeat(refine And.intro (fU.of (by trivial) (by trivial) (by lia) (by lia)) ?_))
  exact k
 ·(repeat(refine And.intro (by exact fU.of (by trivial) (by trivial) (by lia) (by lia)) ?_))
  exact k
 ·(repeat(refine And.intro (fU.of (by trivial) (by trivial) (by lia) (by lia)) ?_))
  exact k
def Gb (c0:Ah):Prop:=∀{h:Gh}{M:Mt}{Q:WK}{E:Ce}(b:Bool),Q (.lst [Sq b M.1,Sq b M.2.1,Sq b M.2.2]) h->c0 [MwB b M] h Q E
theorem Kz:Gb Ac:=by
 intro h M Q E b k;cases b;exact k;first
 | exact k
def wA (c0:Ah):Prop:=∀{h:Gh}{M:Mt}{m:Nat}{Q:WK}{E:Ce}(b:Bool),m<=10000->Ru m M->Q (mw (Rx M)) h->c0 [MwB b M] h Q E
variable {ro:Ah}
theorem zby (hcr:aex cr)(hro:Gb ro):wA (Fb cr ro):=by
 intro h M m Q E b hm hs k;exact hro b<|hcr b b hm hs.2.1 hs.2.2<|hcr b b hm hs.2.2 hs.1<|hcr b b hm hs.1 hs.2.1 k
def Uh (c0:Ah):Prop:=∀{h:Gh}{M:Mt}{m:Nat}{Q:WK}{E:Ce}(b:Bool),m<=4000->Ru m M->Q (.int (det M)) h->c0 [MwB b M] h Q E
def acL (c0:Ah):Prop:=∀{h:Gh}{p q r:Tr}{m:Nat}{Q:WK}{E:Ce}(b:Bool),m<=4000->HB m p->HB m q->HB m r->Q (.int (dt3 (crs p q) r)) h->c0 [Sq b p,Sq b q,Sq b r] h Q E
theorem akU (hdt:afl dt)(hcr:aex cr):acL (UW dt cr):=by
 intro h p q r m Q E b hm hp hq hr k;exact hcr b b (by lia) hp hq<|hdt true b (by lia) (eV hp hq) (hr.mono<|by lia) k
variable {tu:Ah}
theorem w_size (htu:acL tu)(hro:Gb ro):Uh (yq tu ro):=by
 intro h M m Q E b hm hs k;exact hro b<|htu b hm hs.1 hs.2.1 hs.2.2 k
def tK (Q:Bool->Gh->Prop):WK:=λw h=>match w with
 | .bl c=>Q c h
 | _=>False
def uK (Q:Bool->Gh->Prop):WK:=λw h=>match adF h w with
 | some b=>Q b h
 | none=>False
def aK (b:ME)(σ:Sw)(Q:WK):WK:=λx h=>match x with
 | .bl true=>b σ h Q
 | .bl false=>Q (.bl false) h
 | _=>False
def oK (b:ME)(σ:Sw)(Q:WK):WK:=λx h=>match x with
 | .bl false=>b σ h Q
 | .bl true=>Q (.bl true) h
 | _=>False
def nK (Q:WK):WK:=λx h=>match x with
 | .bl c=>Q (.bl (!c)) h
 | _=>False
def iK (R:Src->Gh->Prop):WK:=λw h=>match Ag h w with
 | some s=>R s h
 | none=>False
def xK (f:Str->Bool)(Q:WK):WK:=λw h=>match w with
 | .exc n=>Q (.bl (f n)) h
 | .exa n _=>Q (.bl (f n)) h
 | _=>False
def pK (Q:Option Int->Gh->Prop):WK:=λw h=>match w with
 | .int i=>Q (Dn i) h
 | _=>False
def afv (g:MG)(b:MS)(D:bK)(σ:Sw):Src->Gh->Prop:=λs h=>fC s g b D s.ws σ h
def lcK (own:W->Option (List W))(ix:List Nat)(tt:MT)(te:ME)(σ:Sw)(Q:WK):Src->Gh->Prop:=λs h=>gG s.ws.length (xO s own ix tt te σ Q s.ws [] h)
def rgK (R:Src->Gh->Prop):List W->Gh->Prop:=λws h=>match ws with
 | [.int j]=>Af j (R ⟨Ae 0 j.toNat,Go⟩ h)
 | _=>False
def zpK (R:Src->Gh->Prop):List W->Gh->Prop:=λws h=>match ws with
 | [x,y]=>(match Ur h x y with
  | some s=>R s h
  | none=>False)
 | _=>False
theorem bA {m u}(x:m {D with nx:=u D} σ h):aX m u D σ h:=x
variable {N:Sw->Gh->Prop}
theorem dX {b c r}(x:N σ h):bK.nx ⟨N,r,b,c⟩ σ h:=x
theorem agv {b c r}(x:b σ h):bK.bk ⟨N,r,b,c⟩ σ h:=x
theorem agm {b c r}(x:c σ h):bK.ct ⟨N,r,b,c⟩ σ h:=x
theorem Pz {b c:Sw->Gh->Prop}{r:WK}(x:r w h):bK.rt ⟨N,r,b,c⟩ w h:=x
theorem ajt (x:D.rt w h):bK.rt (bK.lost D) w h:=x
theorem ajf (x:D.nx (σ.map λ_=>Go) h):bK.nx (bK.lost D) σ h:=x
theorem cY (x:D.nx σ h):bD D σ h:=x
theorem bQ {m}(x:m σ h λw h1=>g w σ h1 D.nx):bI m g D σ h:=x
theorem gW {m}(x:m σ h λ_ h1=>D.nx σ h1):nG m D σ h:=x
theorem dN {m}(x:m σ h D.rt):bJ m D σ h:=x
theorem aiU {c}(x:E ⟨c,[]⟩ h):jQ c E D σ h:=x
theorem d9 {t:MT}{a b:MS}(x:t σ h λc h1=>br c (a D σ h1) (b D σ h1)):cT t a b D σ h:=x
theorem aey {t}{a b}(x:t σ h λc h1=>br c (a σ h1 Q) (b σ h1 Q)):mIf t a b σ h Q:=x
variable {mb:Ce->MS}
theorem abQ {d mh}(x:mb (λx h'=>JQ (KZ x.cls d) (mh D.lost (σ.set i (Dn (PJ x))) h') False) D σ h):aga i d mb mh D σ h:=x
theorem Mg {g}(e:w=.tup ws)(b:Qe ws.length n=true)(x:g ws σ h N):xr n g w σ h N:=by
 subst e;unfold xr;dsimp only
 rwa[b]
theorem ajX {g}(e:w=.lst ws)(b:Qe ws.length n=true)(x:g ws σ h N):xr n g w σ h N:=by
 subst e;unfold xr;dsimp only
 rwa[b]
theorem acI {g}(e:w=.tup ws)(b:Qe ws.length n=true)(x:g ws σ h N):afP n g w σ h N:=by
 subst e;unfold afP;dsimp only
 rwa[b]
theorem Bs {r}(x:g w σ h fun σ1 h1=>r ws σ1 h1 N):jK g r (w::ws) σ h N:=x
theorem Vb (x:N σ h):Zy [] σ h N:=x
theorem aA (e:σ[i]?=Dn (Dn w))(x:Q w h):ao i σ h Q:=by
 unfold ao
 rwa[e]
theorem cI (x:Q w h):mC w σ h Q:=x
theorem aW {r}{ma mb}(x:ma σ h λa h1=>mb σ h1 λb h2=>r a b h2 Q):Mk r ma mb σ h Q:=x
theorem Ss {r ma}(x:ma σ h λa h1=>r a h1 Q):mUn r ma σ h Q:=x
theorem Eo {i}(x:Q (.int (-i)) h):Zz (.int i) h Q:=x
theorem aB {a r}{Q}(x:a σ h λw h1=>r σ h1 λws h2=>Q (w::ws) h2):aj a r σ h Q:=x
theorem aJ {Q}(x:Q [] h):aG σ h Q:=x
theorem iJ {P:Prop}(e:Nat.ble n 1000=true)(x:P):gG n P:=by
 unfold gG
 rwa[e]
theorem yD {t}(x:t σ h λws h1=>gG ws.length (Q (.tup ws) h1)):tX t σ h Q:=x
theorem yN {t}(x:t σ h λws h1=>gG ws.length (Q (.lst ws) h1)):pP t σ h Q:=x
theorem bH {c}(x:ma σ h λws h1=>c ws h1 Q E):aF c E ma σ h Q:=x
theorem dg {r}(x:ma σ h λws h1=>r ws h1 Q):Io r ma σ h Q:=x
theorem bN {m}{Q}(x:m σ h (tK Q)):aR m σ h Q:=x
theorem pW {c}{Q}(x:Q c h):tK Q (.bl c) h:=x
theorem jP {m}{Q}(x:m σ h (uK Q)):uD m σ h Q:=x
theorem Pr {b:Bool}{Q:Bool->Gh->Prop}(e:adF h w=Dn b)(x:Q b h):uK Q w h:=by
 unfold uK
 rwa[e]
theorem lR {t}{Q}(x:t σ h λc h1=>Q (!c) h1):Az t σ h Q:=x
theorem zm {t u}{Q}(x:t σ h λc h1=>br c (u σ h1 Q) (Q false h1)):abZ t u σ h Q:=x
theorem yj {t u}{Q}(x:t σ h λc h1=>br c (Q true h1) (u σ h1 Q)):QG t u σ h Q:=x
theorem jW {Q}(x:Q true h):jF σ h Q:=x
theorem Bw {a b}(x:a σ h (aK b σ Q)):Bf a b σ h Q:=x
theorem abj {a b}(x:a σ h (oK b σ Q)):adP a b σ h Q:=x
theorem Ao {a}(x:a σ h (nK Q)):Qz a σ h Q:=x
theorem ae0 {b:ME}{c:Bool}(x:br c (b σ h Q) (Q (.bl false) h)):aK b σ Q (.bl c) h:=by
 cases c with
 | true=>exact x.1 rfl
 | false=>exact x.2 rfl
theorem af6 {b}{c}(x:br c (Q (.bl true) h) (b σ h Q)):oK b σ Q (.bl c) h:=by
 cases c with
 | true=>exact x.1 rfl
 | false=>exact x.2 rfl
theorem adL {c}(x:Q (.bl (!c)) h):nK Q (.bl c) h:=x
variable {f:Str->Bool}
theorem Ua {m}(x:m σ h (xK f Q)):adz f m σ h Q:=x
theorem agL {n}(x:Q (.bl (f n)) h):xK f Q (.exc n) h:=x
theorem afG {n}(x:Q (.bl (f n)) h):xK f Q (.exa n ws) h:=x
variable {a:Prop}
theorem Wh {b:Prop}(x:a):br true a b:=iU rfl x
theorem ace {b}(x:b):br false a b:=bM rfl x
theorem NK {b}(x:b):br (!true) a b:=ace x
theorem ZG {b}(x:a):br (!false) a b:=Wh x
theorem gC {b}(x:a):JQ true a b:=x
theorem uo {b}(x:b):JQ false a b:=x
theorem Uj {i}(x:Q (.int (i-j)) h):xJ (.int i) (.int j) h Q:=x
theorem eY {i}(x:Q (.int (i+j)) h):bR (.int i) (.int j) h Q:=x
theorem Vc {i:Int}(c:fU i j)(x:Q (.int (i*j)) h):cN (.int i) (.int j) h Q:=⟨c,x⟩
theorem Om {i}(c:MP i j)(x:Q (.int (i.fdiv j)) h):Jh (.int i) (.int j) h Q:=⟨c,x⟩
theorem yX {i}(c:j≠0)(x:Q (.int (i.fmod j)) h):Aj (.int i) (.int j) h Q:=⟨c,x⟩
theorem QT {i}(x:Q (.bl (decide (i<j))) h):kLt (.int i) (.int j) h Q:=x
theorem ac6 {i}(x:Q (.bl (decide (i>j))) h):Sv (.int i) (.int j) h Q:=x
theorem Cu {i}(x:Q (.bl (decide (i=j))) h):Ib (.int i) (.int j) h Q:=x
theorem Yd {i}(x:Q (.bl (decide (i≠j))) h):Ju (.int i) (.int j) h Q:=by
 have e:(!Iz (.int i) (.int j))=decide (i≠j):=by rw[bU];by_cases z:i=j<;>simp[z]
 show Q _ h
 rwa[e]
theorem ae7 {i j}(x:Q (.bl (decide (i=j))) h):Ib (.bl i) (.bl j) h Q:=x
theorem ad0 {i j:Bool}(x:Q (.bl (decide (i≠j))) h):Ju (.bl i) (.bl j) h Q:=by
 have e:(!Iz (.bl i) (.bl j))=decide (i≠j):=by cases i<;>cases j<;>rfl
 show Q _ h
 rwa[e]
theorem ac2 (x:Q (.bl (decide (p=q))) h):Ib (tw p) (tw q) h Q:=by
 show Q _ h
 rwa[Cy]
theorem acE (x:Q (.bl (decide (p≠q))) h):Ju (tw p) (tw q) h Q:=by
 have e:(!Iz (tw p) (tw q))=decide (p≠q):=by rw[Cy];by_cases z:p=q<;>simp
 show Q _ h
 rwa[e]
theorem aec {a b c}(x:Q (.bl (decide (p=(a,b,c)))) h):Ib (tw p) (.tup [.int a,.int b,.int c]) h Q:=ac2 x
theorem aeR {a b c}(x:Q (.bl (decide (p≠(a,b,c)))) h):Ju (tw p) (.tup [.int a,.int b,.int c]) h Q:=acE x
theorem gH {x}{i}(e:view h x=Dn ws)(a:Mv ws i=Dn w)(k:Q w h):Av x (.int i) h Q:=by
 unfold Av;simp_all
theorem zj {T b}(e:abA h w T=Dn b)(x:Q (.bl b) h):PL [w,.ty T] h Q:=by
 unfold PL;simp_all
theorem eE {xs}(e:view h w=Dn xs)(x:Q (.int (xs.length:Int)) h):JL [w] h Q:=by
 unfold JL;simp_all
theorem Gn (x:Q (.tup us) h):oG [.lst us] h Q:=x
variable {bs:List Bool}
theorem Uk (e:dU h w=Dn us)(b:JG us=Dn bs)(x:Q (.bl (bs.any id)) h):Ww [w] h Q:=by
 unfold Ww;simp_all
theorem aa6 (e:dU h w=Dn us)(b:JG us=Dn bs)(x:Q (.bl (bs.all id)) h):acp [w] h Q:=by
 unfold acp;simp_all
theorem UG (e:dU h w=Dn us)(b:xR us=Dn ns)(x:Q (.int ns.sum) h):Vm [w] h Q:=by
 unfold Vm;simp_all
theorem aag {i}(x:Q (.int (if i<0 then -i else i)) h):PX [.int i] h Q:=x
theorem ac9 {b:Bool}(x:Q (.int (if b then 1 else 0)) h):PN [.bl b] h Q:=x
theorem rH {mi b}(x:mi σ h (afv g b D σ)):vg mi g b D σ h:=x
variable {o:Option (Nat×List W)}
theorem qZ {b}(x:fC ⟨ws,o⟩ g b D ws σ h):afv g b D σ ⟨ws,o⟩ h:=x
theorem aiJ {b}(x:D.nx σ h):fC ⟨ws,Go⟩ g b D [] σ h:=x
theorem aky {r b}(x:g w σ h fun σ1 h1=>b {D with nx:=fC ⟨ws,Go⟩ g b D r,ct:=fC ⟨ws,Go⟩ g b D r,bk:=D.nx} σ1 h1):fC ⟨ws,Go⟩ g b D (w::r) σ h:=x
variable {R:Src->Gh->Prop}
theorem tB {m}(x:m σ h (iK R)):JT m σ h R:=x
theorem Ld (e:Ag h w=Dn ⟨ws,o⟩)(x:R ⟨ws,o⟩ h):iK R w h:=by
 unfold iK
 rwa[e]
theorem rM (x:ma σ h (rgK R)):qd ma σ h R:=x
theorem aeT (x:R ⟨[.int 0,.int 1,.int 2],Go⟩ h):rgK R [.int 3] h:=x
theorem aeO (x:R ⟨[.int 0,.int 1],Go⟩ h):rgK R [.int 2] h:=x
theorem acD (x:ma σ h (zpK R)):adv ma σ h R:=x
variable {as:List W}
theorem aeo {a b}{bs}(e:rB a=Dn as)(e':rB b=Dn bs)(z:uL as bs=zs)(x:R ⟨zs,Go⟩ h):zpK R [a,b] h:=by
 subst z;have es:Ur h a b=Dn ⟨uL as bs,Go⟩:=by unfold Ur;rw[e,e']
 unfold zpK;simp_all
theorem ael {b}{bs}(e:h.c n=Dn (.lst as))(e':rB b=Dn bs)(z:uL as bs=zs)(x:R ⟨zs,Dn (n,as)⟩ h):zpK R [.loc n,b] h:=by
 subst z;have es:Ur h (.loc n) b=Dn ⟨uL as bs,Dn (n,as)⟩:=by unfold Ur;rw[e'];dsimp [rB];rw[e]
 unfold zpK;simp_all
theorem afr {bs}:uL [] bs=[]:=rfl
theorem aft {a}:uL (a::as) []=[]:=rfl
theorem ae5 {a b:W}{bs l:List W}(e:uL as bs=l):uL (a::as) (b::bs)=.tup [a,b]::l:=by rw[uL,e]
theorem qH {mi}(x:mi σ h (lcK own ix tt te σ Q)):JB own ix mi tt te σ h Q:=x
theorem sX (e:Nat.ble ws.length 1000=true)(x:xO ⟨ws,o⟩ own ix tt te σ Q ws [] h):lcK own ix tt te σ Q ⟨ws,o⟩ h:=iJ e x
variable {acc:List W}
theorem ZV (x:Q (.lst acc) h):xO ⟨ws,Go⟩ own ix tt te σ Q [] acc h:=x
theorem aaZ {r vs}(e:own w=Dn vs)(x:tt (vs.map Dn++sI ix σ) h λc h1=>JQ c (te (vs.map Dn++sI ix σ) h1 λv h2=>xO ⟨ws,Go⟩ own ix tt te σ Q r (acc++[v]) h2) (xO ⟨ws,Go⟩ own ix tt te σ Q r acc h1)):xO ⟨ws,Go⟩ own ix tt te σ Q (w::r) acc h:=by
 show match own w with
  | some vs=>tt _ h λc h1=>JQ c _ _
  | none=>False
 rwa[e]
variable {body:Ce->MS}
theorem adT {N}(hl:Qe ws.length n=true)(x:body E {nx:=λ_ h'=>Q .non h',rt:=Q} (ws.map Dn++QW (N-ws.length) Go) h):IV n N false body ws h Q E:=by
 unfold IV
 rwa[hl]
variable {r:W->Option Int->Option Int->Gh->WK->Prop}
theorem nZ {m}{l u}(x:m σ h λa h1=>l σ h1 λlo h2=>u σ h2 λhi h3=>r a lo hi h3 Q):QF r m l u σ h Q:=x
theorem dH {m}{Q}(x:m σ h (pK Q)):fZ m σ h Q:=x
theorem Ig {i}{Q}(x:Q (Dn i) h):pK Q (.int i) h:=x
def p3K (i j k:Nat)(D:bK)(σ:Sw):List W->Gh->Prop:=λws h=>match ws with
 | [x,y,z]=>D.nx (((σ.set i (Dn x)).set j (Dn y)).set k (Dn z)) h
 | _=>False
theorem akR {j k ta}(x:ta σ h (p3K i j k D σ)):aek i j k ta D σ h:=x
theorem abE {xs:List W}{n}{b}(e:decide ((xs.length:Int)≠n)=false)(x:b):br (decide ((xs.length:Int)≠n)) a b:=bM e x
theorem aiW {b}(e:bs.all id=true)(x:b):br (!(bs.all id)) a b:=bM (by rw[e];rfl) x
theorem Oj {c:Prop}[Decidable c]{b:Prop}(x:¬c->a)(y:c->b):br (!decide c) a b:=⟨λe=>x (by simpa using e),λe=>y (by simpa using e)⟩
theorem aeG {n d b}(e:KZ n d=true)(x:a):JQ (KZ n d) a b:=Rj e x
theorem adS {n d b}(e:KZ n d=true)(x:a):br (KZ n d) a b:=iU e x
theorem ae2 {n d b}(e:KZ n d=false)(x:b):br (KZ n d) a b:=bM e x
theorem Zw {α:Type}{a x:α}{l}:(a::l).set 0 x=x::l:=rfl
theorem ZD {α:Type}{a x:α}{l l'}(e:l.set n x=l'):(a::l).set (n+1) x=a::l':=by simp_all
theorem rJ {σ':Sw}(e:σ.set i (Dn w)=σ')(x:N σ' h):kI i w σ h N:=by
 subst e;exact x
theorem nV {σ'}(x:N σ' h)(e:σ.set i (Dn w)=σ':=by repeat(first|with_reducible exact Zw|with_reducible apply ZD)):kI i w σ h N:=rJ e x
theorem afc {j k:Nat}{σ1 σ2 σ3:Sw}{x y z:W}(e1:σ.set i (Dn x)=σ1)(e2:σ1.set j (Dn y)=σ2)(e3:σ2.set k (Dn z)=σ3)(q:D.nx σ3 h):p3K i j k D σ [x,y,z] h:=by
 subst e1 e2 e3;exact q
def ini (ws:List W)(n:Nat):Sw:=ws.map Dn++QW (n-ws.length) Go
theorem af2:ini [] 0=[]:=rfl
theorem afy {l}(e:ini [] n=l):ini [] (n+1)=Go::l:=by
 subst e;rfl
theorem afO {l}(e:ini ws n=l):ini (w::ws) (n+1)=Dn w::l:=by
 subst e;unfold ini;simp_all
theorem qI {N}(hl:Qe ws.length n=true)(e:ini ws N=σ)(x:body E {nx:=λ_ h'=>Q .non h',rt:=Q} σ h):IV n N false body ws h Q E:=by
 subst e;exact adT hl x
theorem aer {n d}{fs}{mh:MS}{σ':Sw}(e:KZ n d=true)(s:σ.set i (Dn (PJ ⟨n,fs⟩))=σ')(x:mh D σ' h):JQ (KZ (Xw.mk n fs).cls d) (mh D (σ.set i (Dn (PJ (Xw.mk n fs)))) h) False:=by
 subst s;exact Rj e x
theorem ac5 {mi}(x:JB own ix mi tt te σ h (afD Q)):agj own ix mi tt te σ h Q:=x
theorem JV {mo mi:ME}{ms:ZC}(x:mo σ h λo h1=>mi σ h1 λi h2=>ms o i w h2 λh3=>N σ h3):Py mo mi ms w σ h N:=x
theorem Bt {j}{ws' N}(e:h.c n=Dn (.lst ws))(i:Qi ws.length k=Dn j)(s:ws.set j w=ws')(x:∀g,g.c n=Dn (.lst ws')->(∀m,m≠n->g.c m=h.c m)->g.nx=h.nx->N g):Ir (.loc n) (.int k) w h N:=by
 subst s;show(match h.c n with
  | some (Cell.lst ws)=>(match Qi _ k with
   | some j=>N _
   | none=>False)
  | _=>False)
 rw[e];dsimp only;exact i ▸ x _ (rP _ _ _) (λ_ e=>jY e) rfl
theorem zbL {r b}(e:h.c n=Dn (.lst us))(x:g w σ h fun σ1 h1=>b {D with nx:=fC ⟨ws,Dn (n,us)⟩ g b D r,ct:=fC ⟨ws,Dn (n,us)⟩ g b D r,bk:=D.nx} σ1 h1):fC ⟨ws,Dn (n,us)⟩ g b D (w::r) σ h:=⟨e,x⟩
theorem ajo {b}(e:h.c n=Dn (.lst us))(x:D.nx σ h):fC ⟨ws,Dn (n,us)⟩ g b D [] σ h:=⟨e,x⟩
theorem ajJ (e:h.c n=Dn (.lst us))(x:Q (.lst acc) h):xO ⟨ws,Dn (n,us)⟩ own ix tt te σ Q [] acc h:=⟨e,x⟩
theorem aiZ {r vs}(ec:h.c n=Dn (.lst us))(e:own w=Dn vs)(x:tt (vs.map Dn++sI ix σ) h λc h1=>JQ c (te (vs.map Dn++sI ix σ) h1 λv h2=>xO ⟨ws,Dn (n,us)⟩ own ix tt te σ Q r (acc++[v]) h2) (xO ⟨ws,Dn (n,us)⟩ own ix tt te σ Q r acc h1)):xO ⟨ws,Dn (n,us)⟩ own ix tt te σ Q (w::r) acc h:=by
 refine⟨ec,?_⟩
 rwa[e]
theorem agb (e:h.c n=Dn (.lst ws))(x:R ⟨ws,Dn (n,ws)⟩ h):iK R (.loc n) h:=Ld (by simp[Ag,e]) x
theorem afg {i}(e:h.c n=Dn (.lst ws))(a:Mv ws i=Dn w)(k:Q w h):Av (.loc n) (.int i) h Q:=gH (jG e) a k
theorem zP {N:Nat}(hl:Qe ws.length n=true)(e:ini ws N=σ)(x:body E {nx:=λ_ h'=>vH true h .non h' Q,rt:=λw h'=>vH true h w h' Q} σ h):IV n N true body ws h Q E:=by
 subst e;unfold IV
 rwa[hl]
theorem aiY {a b}(e:Nat.ble (a.length+b.length) 1000=true)(x:Q (.lst (a++b)) h):bR (.lst a) (.lst b) h Q:=iJ e x
theorem aeZ {a b}(x:Q (.bl (a==b)) h):kIs (.bl a) (.bl b) h Q:=x
theorem ajs {a b}(x:Q (.bl (!(a==b))) h):aeJ (.bl a) (.bl b) h Q:=x
theorem rC {a b}(x:Q (.bl (decide (a=b))) h):Ib (.str a) (.str b) h Q:=x
theorem aeN {a b}(x:Q (.bl (decide (a≠b))) h):Ju (.str a) (.str b) h Q:=by
 have e:(!Iz (.str a) (.str b))=decide (a≠b):=by rw[Iz];by_cases z:a=b<;>simp[z]
 show Q _ h
 rwa[e]
theorem aa3 {b}(e:bs.any id=false)(x:b):br (bs.any id) a b:=bM e x
local macro_rules | `(tactic| rfl') => `(tactic| repeat (first
 | with_reducible (first|refine bA ?_|refine bQ ?_|refine bH ?_|refine aB ?_|refine aJ ?_)
 | ((with_reducible apply aA);exact rfl)|with_reducible refine cI ?_|with_reducible refine aW ?_|with_reducible refine rJ (by repeat(first|with_reducible exact Zw|with_reducible apply ZD)) ?_|with_reducible (first|refine ajt ?_|refine ajf ?_|refine dX ?_|refine Pz ?_|refine agv ?_|refine agm ?_)
 | with_reducible (first|refine d9 ?_|refine aey ?_|refine dN ?_|refine gW ?_|refine cY ?_|refine abQ ?_|refine aiU ?_)
 | with_reducible (first|refine bN ?_|refine pW ?_|refine jP ?_)|((with_reducible apply Pr);exact rfl)|with_reducible (first|refine lR ?_|refine zm ?_|refine yj ?_|refine jW ?_)
 | with_reducible (first|refine Bw ?_|refine abj ?_|refine Ao ?_|refine ae0 ?_|refine af6 ?_|refine adL ?_|refine Ua ?_|refine agL ?_)
 | with_reducible (first|refine Wh ?_|refine ace ?_|refine NK ?_|refine ZG ?_|refine gC ?_|refine uo ?_)
 | with_reducible refine yD ?_|with_reducible refine yN ?_|((with_reducible apply iJ);exact rfl)|with_reducible (first|refine dg ?_|refine Ss ?_|refine Eo ?_)
 | ((with_reducible apply Mg);exact rfl;exact rfl)|((with_reducible apply ajX);exact rfl;exact rfl)|((with_reducible apply acI);exact rfl;exact rfl)|with_reducible refine Bs ?_|with_reducible refine Vb ?_
 | with_reducible refine Uj ?_|with_reducible refine eY ?_|((with_reducible apply Vc);exact fU.of (by trivial) (by trivial) (by lia) (by lia))|with_reducible refine QT ?_|with_reducible refine ac6 ?_
 | with_reducible (first|refine Cu ?_|refine Yd ?_|refine ae7 ?_|refine ad0 ?_|refine ac2 ?_|refine acE ?_|refine aec ?_|refine aeR ?_)
 | ((with_reducible apply gH);exact rfl;exact rfl)|((with_reducible apply zj);exact rfl)|((with_reducible apply eE);exact rfl)|with_reducible refine Gn ?_|((with_reducible apply Uk);exact rfl;exact rfl)|((with_reducible apply aa6);exact rfl;exact rfl)|((with_reducible apply UG);exact rfl;exact rfl)|with_reducible refine ac9 ?_|with_reducible refine aag ?_
 | with_reducible (first|refine rH ?_|refine qZ ?_|refine aiJ ?_|refine aky ?_|refine tB ?_)|((with_reducible apply Ld);exact rfl)|with_reducible (first|refine rM ?_|refine aeT ?_|refine aeO ?_|refine acD ?_)|((with_reducible apply aeo);exact rfl;exact rfl;(repeat(first|with_reducible exact afr|with_reducible exact aft|with_reducible apply ae5)))
 | with_reducible refine qH ?_|((with_reducible apply sX);exact rfl)|with_reducible refine ZV ?_|((with_reducible apply aaZ);exact rfl)|((with_reducible apply qI);exact rfl;repeat(first|with_reducible exact af2|with_reducible apply afO|with_reducible apply afy))|with_reducible (first|refine nZ ?_|refine dH ?_|refine Ig ?_|refine akR ?_)|with_reducible refine afc (by repeat(first|with_reducible exact Zw|with_reducible apply ZD)) (by repeat(first|with_reducible exact Zw|with_reducible apply ZD)) (by repeat(first|with_reducible exact Zw|with_reducible apply ZD)) ?_|((with_reducible apply abE);exact rfl)|((with_reducible apply aiW);exact rfl)|((with_reducible apply aer);decide +kernel;(repeat(first|with_reducible exact Zw|with_reducible apply ZD)))|((with_reducible apply aeG);decide +kernel)|((with_reducible apply adS);decide +kernel)|((with_reducible apply ae2);decide +kernel)|with_reducible refine ac5 ?_|with_reducible refine JV ?_|((with_reducible apply agb);(with_reducible assumption))|((with_reducible apply zbL);(with_reducible assumption))|((with_reducible apply ajo);(with_reducible assumption))|((with_reducible apply ajJ);(with_reducible assumption))|((with_reducible apply aiZ);(with_reducible assumption);exact rfl)|((with_reducible apply afg);(with_reducible assumption);exact rfl)|((with_reducible apply ael);(with_reducible assumption);exact rfl;(repeat(first|with_reducible exact afr|with_reducible exact aft|with_reducible apply ae5)))|((with_reducible apply zP);exact rfl;(repeat(first|with_reducible exact af2|with_reducible apply afO|with_reducible apply afy)))|((with_reducible apply aiY);exact rfl)|with_reducible (first|refine aeZ ?_|refine ajs ?_|refine rC ?_|refine aeN ?_)|((with_reducible apply aa3);decide +kernel)))
theorem zbZ (a b:Str):Iz (.str a) (.str b)=(a==b):=rfl
def Ph (h:Gh)(n:Nat):Prop:=∃a b,h.c n=Dn (.lst [.int a,.int b])/\0<=b/\b<2147483647
def Gw (c:Ah):Prop:=∀{h:Gh}{n:Nat}{many:Int}{Q:WK}{E:Ce},Ph h n->0<many->Sm 60 many->(∀d h',0<=d->d<many->Ph h' n->V2 n h h'->Q (.int d) h')->c [.loc n,.int many] h Q E
theorem Oa:Gw Es:=by
 intro h n many Q E hb hm hs k;obtain⟨a,b,e,b0,b1⟩:=hb;have hm0:many≠0:=by lia
 have ev:=jG e;have bag:∀{h':Gh}{a b:Int},h'.c n=Dn (.lst [.int a,.int b])->0<=b->b<2147483647->Ph h' n:=λe h0 h1=>⟨_,_,e,h0,h1⟩
 show(match view h (.loc n)with
  | some ws=>_
  | none=>False)
 rw[ev];refine yr (λ_=>?_)<|λ_=>?_
 show(match view h (.loc n)with
  | some ws=>_
  | none=>False)
 rw[ev];refine And.intro hm0 ?_;show(match view h (.loc n)with
  | some ws=>_
  | none=>False)
 rw[ev];refine And.intro ⟨hm0,60,by decide,hs⟩ ?_;show(match h.c n with
  | some (Cell.lst ws)=>_
  | _=>False)
 rw[e];rw[iC hm];exact k _ _ (XR _ hm0) (Y6 _ hm) (bag (rP _ _ _) b0 b1) V2.set;show(match view h (.loc n)with
  | some ws=>_
  | none=>False)
 rw[ev];refine And.intro (.of (m:=31) (n:=64) (Cr (by lia)<|by lia) (.lit rfl) (by decide)<|by decide) ?_;refine And.intro (show(2147483647:Int)≠0 by decide) ?_;show(match h.c n with
  | some (Cell.lst ws)=>_
  | _=>False)
 rw[e];have c0:0<=(b*48271+11).fmod 2147483647:=by rw[iC (by decide)];exact XR _ (by decide)
 have c1:(b*48271+11).fmod 2147483647<2147483647:=by rw[iC (by decide)];exact Y6 _ (by decide)
 have e2:(h.set n (.lst [.int a,.int ((b*48271+11).fmod 2147483647)])).c n=Dn (.lst [.int a,.int ((b*48271+11).fmod 2147483647)]):=rP _ _ _;have ev2:=jG e2;have o2:V2 n h (h.set n (.lst [.int a,.int ((b*48271+11).fmod 2147483647)])):=V2.set;show(match view (h.set n (.lst [.int a,.int ((b*48271+11).fmod 2147483647)])) (.loc n)with
  | some ws=>_
  | none=>False)
 rw[ev2];show(match view (h.set n (.lst [.int a,.int ((b*48271+11).fmod 2147483647)])) (.loc n)with
  | some ws=>_
  | none=>False)
 rw[ev2];generalize(b*48271+11).fmod 2147483647=c at *;refine And.intro ⟨by decide,64,by decide,.lit rfl⟩ ?_;have q0:0<=c.fdiv 65536:=by rw[Ga (by decide)];lia
 have q1:c.fdiv 65536<2147483647:=by rw[Ga (by decide)];lia
 refine And.intro (.of (m:=31) (n:=40) (Cr (by lia)<|by lia) (Cr (by lia)<|by omega) (by decide)<|by decide) ?_;refine And.intro (show(2147483629:Int)≠0 by decide) ?_;refine And.intro ⟨by decide,64,by decide,.lit rfl⟩ ?_;refine And.intro hm0 ?_;rw[iC hm];exact k _ _ (XR _ hm0) (Y6 _ hm) (bag e2 c0 c1) o2
def Bl (c:Ah):Prop:=∀{h:Gh}{ns:List Int}{k:Int}{Q:WK}{E:Ce},0<=k->Q (.int (ns.getD k.toNat 0)) h->c [.kls (ns.map .int),.int k] h Q E
theorem Tt:Bl Dq:=by
 intro h ns k Q E h0 q;refine yr (λhk=>?_)<|λhk=>?_
 conv=>whnf
 rwa[ajx h0 hk]
 have e:ns.getD k.toNat 0=0:=by
  simp_all
 rwa[e]at q
abbrev C6:=Int×Int×Int×Int×Int×Int
def Jp (c:C6):W:=.tup [.int c.1,.int c.2.1,.int c.2.2.1,.int c.2.2.2.1,.int c.2.2.2.2.1,.int c.2.2.2.2.2]
def M9 (c:C6):List Int:=[c.1,c.2.1,c.2.2.1,c.2.2.2.1,c.2.2.2.2.1,c.2.2.2.2.2]
def JK (m:Nat)(c:C6):Prop:=Sm m c.1/\Sm m c.2.1/\Sm m c.2.2.1/\Sm m c.2.2.2.1/\Sm m c.2.2.2.2.1/\Sm m c.2.2.2.2.2
def cU (c:C6):Mt:=((2*c.1,c.2.1,c.2.2.2.1),(c.2.1,2*c.2.2.1,c.2.2.2.2.1),(c.2.2.2.1,c.2.2.2.2.1,2*c.2.2.2.2.2))
theorem zF {x}(h:Sm m x):Sm (m+1) (2*x):=by
 unfold Sm at h|-
 lia
theorem cW {c}(h:JK m c):Ru (m+1) (cU c):=by
 obtain⟨h1,h2,h3,h4,h5,h6⟩:=h;exact⟨⟨zF h1,h2.mono<|by lia,h4.mono<|by lia⟩,⟨h2.mono<|by lia,zF h3,h5.mono<|by lia⟩,h4.mono<|by lia,h5.mono<|by lia,zF h6⟩
def TabOk (c0:Ah):Prop:=∀{h:Gh}{c:C6}{m:Nat}{Q:WK}{E:Ce},m<=5000->JK m c->Q (mw (cU c)) h->c0 [Jp c] h Q E
theorem w_tab:TabOk uT:=by
 intro h c m Q E hm hs k;obtain⟨h1,h2,h3,h4,h5,h6⟩:=hs
 (repeat(refine And.intro (fU.of (by trivial) (by trivial) (by lia) (by lia)) ?_))
 exact k
def Le (c0:Ah):Prop:=∀{h:Gh}{M:Mt}{p:Tr}{m:Nat}{Q:WK}{E:Ce},m<=5000->Ru m M->HB m p->Q (.lst [.int (vm M p).1,.int (vm M p).2.1,.int (vm M p).2.2]) h->c0 [mw M,tw p] h Q E
theorem aeB (hdt:qL dt)(hro:Gb ro):Le (gD dt ro):=by
 intro h M p m Q E hm hs hp k;exact hro true<|hdt (by lia) hs.1 hp<|hdt (by lia) hs.2.1 hp<|hdt (by lia) hs.2.2 hp k
def WX (c0:Ah):Prop:=∀{h:Gh}{t:Tr}{m:Nat}{Q:WK}{E:Ce},m<=8000->HB m t->(t≠(0,0,0)->∀u,Pl u->Je t u->HB m u->Q (tw u) h)->(t=(0,0,0)->Q .non h)->c0 [.lst [.int t.1,.int t.2.1,.int t.2.2]] h Q E
theorem ac8 (hpl:Jw pl):WX (jc pl):=by
 intro h t m Q E hm hs k k0;obtain⟨a,b,c⟩:=t;show br _ _ _;by_cases e:(a,b,c)=((0,0,0):Tr)
 refine bM (by rw[(congrArg (·.1) e),(congrArg (·.2.1) e),(congrArg (·.2.2) e)];rfl) ?_;exact k0 e;refine iU ?_<|hpl.tr (.inr rfl) e hs hm<|k e
 rw[bU,bU,bU];grind
def Lz (c0:Ah):Prop:=∀{h:Gh}{c:C6}{p:Tr}{m:Nat}{Q:WK}{E:Ce},m<=3000->JK m c->HB m p->(vm (cU c) p≠(0,0,0)->∀u,Pl u->Je (vm (cU c) p) u->HB (m+m+4) u->Q (tw u) h)->(vm (cU c) p=(0,0,0)->E ⟨"Knot",[]⟩ h)->c0 [Jp c,tw p] h Q E
theorem acG {tt ta po}(htt:Le tt)(hta:TabOk ta)(hpo:WX po):Lz (oM tt ta po):=by
 intro h c p m Q E hm hc hp k kx;exact hta (by lia) hc<|htt (by lia) (cW hc) (hp.mono<|by lia)<|hpo (by lia) ((mL (cW hc)<|hp.mono<|show m<=m+1 by lia).mono (by lia)) (λe u pu par su=>(bM rfl<|k e u pu par su)) λe=>(iU rfl<|kx e)
def vA (p q:Tr):C6:=(p.1*q.1,p.1*q.2.1+p.2.1*q.1,p.2.1*q.2.1,p.1*q.2.2+p.2.2*q.1,p.2.1*q.2.2+p.2.2*q.2.1,p.2.2*q.2.2)
theorem JK.mono {m n c}(h:JK m c)(e:m<=n):JK n c:=⟨h.1.mono e,h.2.1.mono e,h.2.2.1.mono e,h.2.2.2.1.mono e,h.2.2.2.2.1.mono e,h.2.2.2.2.2.mono e⟩
theorem vD (hp:HB m p)(hq:HB m q):JK (m+m+1) (vA p q):=
 ⟨(hp.1.mul hq.1).mono (by lia),((hp.1.mul hq.2.1).add (hp.2.1.mul hq.1)).mono (by lia),(hp.2.1.mul hq.2.1).mono (by lia),((hp.1.mul hq.2.2).add (hp.2.2.mul hq.1)).mono (by lia),((hp.2.1.mul hq.2.2).add (hp.2.2.mul hq.2.1)).mono (by lia),(hp.2.2.mul hq.2.2).mono (by lia)⟩
theorem JK.all {c:C6}(h:JK m c):∀n∈M9 c,Sm m n:=by
 intro n hn;simp[M9]at hn;rcases hn with rfl|rfl|rfl|rfl|rfl|rfl
 exact h.1;exact h.2.1;exact h.2.2.1;exact h.2.2.2.1;exact h.2.2.2.2.1;exact h.2.2.2.2.2
def Hv (c:C6)(p:Tr):Int:=c.1*p.1*p.1+c.2.2.1*p.2.1*p.2.1+c.2.2.2.2.2*p.2.2*p.2.2+c.2.1*p.1*p.2.1+c.2.2.2.1*p.1*p.2.2+c.2.2.2.2.1*p.2.1*p.2.2
def abL (c0:Ah):Prop:=∀{h:Gh}{c:C6}{p:Tr}{m:Nat}{Q:WK}{E:Ce},m<=4000->JK m c->HB m p->Q (.int (Hv c p)) h->c0 [Jp c,tw p] h Q E
theorem aiG:abL BW:=by
 intro h c p m Q E hm hc hp k;obtain⟨h1,h2,h3,h4,h5,h6⟩:=hc;obtain⟨hx,hy,hz⟩:=hp;unfold BW;rfl'
 exact k
def afC (c0:Ah):Prop:=∀{h:Gh}{c:C6}{p:Tr}{m:Nat}{Q:WK}{E:Ce},m<=4000->JK m c->HB m p->Q (.bl (decide (Hv c p=0))) h->c0 [Jp c,tw p] h Q E
theorem w_on {wo}(hwo:abL wo):afC (mG wo):=by
 intro h c p m Q E hm hc hp k;exact hwo hm hc hp k
theorem aee (c)(p):Hv (c.1*k,c.2.1*k,c.2.2.1*k,c.2.2.2.1*k,c.2.2.2.2.1*k,c.2.2.2.2.2*k) p=Hv c p*k:=by
 simp[Hv];grind
def kC (k:Int)(c:C6):C6:=(c.1*k,c.2.1*k,c.2.2.1*k,c.2.2.2.1*k,c.2.2.2.2.1*k,c.2.2.2.2.2*k)
theorem Jw.c6p (hpl:Jw c0){c:C6}(hw:w=.lst [.int c.1,.int c.2.1,.int c.2.2.1,.int c.2.2.2.1,.int c.2.2.2.2.1,.int c.2.2.2.2.2]\/w=Jp c)(hz:NZ (M9 c))(hs:JK m c)(hm:m<=8000)(k:∀(x:C6) (j:Int),j≠0->c=kC j x->Ml (M9 x)->JK m x->Q (Jp x) h):c0 [w] h Q E:=by
 refine hpl (ns:=M9 c) hw hz hs.all hm (by show 6<=1000;decide) λms j hj em pm sm=>?_;have hl:ms.length=6:=by have:=congrArg Tc em;rw[Hi]at this;exact this.symm
 match ms,hl,sm,em,pm with
 | [x1,x2,x3,x4,x5,x6],_,sm,em,pm=>
  refine k (x1,x2,x3,x4,x5,x6) j hj ?_ pm ⟨sm _<|by simp,sm _<|by simp,sm _<|by simp,sm _<|by simp,sm _<|by simp,sm _<|by simp⟩;obtain⟨u1,u2,u3,u4,u5,u6⟩:=c
  simpa[M9,kC]using em
theorem zcc {x y}{s t}(hx:Ml (M9 x))(hy:Ml (M9 y))(hs:s≠0)(ht:t≠0)(e:kC s x=kC t y):x=y:=by
 obtain⟨u1,u2,u3,u4,u5,u6⟩:=x;obtain⟨v1,v2,v3,v4,v5,v6⟩:=y
 simpa[M9]using(Nu hx hy hs ht (congrArg M9 e))
theorem acK (k)(c)(p):Hv (kC k c) p=Hv c p*k:=aee c p
theorem pR (l o s):Hv (vA l o) s=dt3 l s*dt3 o s:=by
 simp[Hv,vA,dt3];grind
def Y0 (c0:Ah):Prop:=∀{h:Gh}{c:C6}{m:Nat}{Q:WK}{E:Ce},m<=2000->JK m c->Q (.bl (decide (det (cU c)≠0))) h->c0 [Jp c] h Q E
theorem ahN {sz ta}(hsz:Uh sz)(hta:TabOk ta):Y0 (uR sz ta):=by
 intro h c m Q E hm hc k;refine hta (by lia) hc<|hsz true (by lia) (cW hc) ?_
 rfl'
 exact k
def mX (c0:Ah):Prop:=∀{h:Gh}{p q:Tr}{m:Nat}{Q:WK}{E:Ce},m<=3900->HB m p->HB m q->Pl p->Pl q->(p≠q->∀t:Tr,Pl t->Je (crs p q) t->HB (m+m+1) t->Q (tw t) h)->(p=q->E ⟨"Alike",[]⟩ h)->c0 [tw p,tw q] h Q E
theorem yS (hpl:Jw pl)(hcr:wj cr):mX (iw pl cr):=by
 intro h p q m Q E hm sp sq pp pq k kx;by_cases e:p=q
 show br _ _ _;rw[Cy];exact iU (decide_eq_true e)<|kx e
 exact Eb hpl hcr hm sp sq pp pq e<|k e
theorem aje {pc:Ah}(hpc:mX pc):mX (TY pc):=by
 assumption
theorem zca {pc}(hpc:mX pc):mX (Km pc):=by
 assumption
theorem Z8 (a b c):crs (a,b,c) (1,0,0)=(0,c,-b):=by simp[crs]
theorem Z2 (a b c):crs (a,b,c) (0,1,0)=(-c,0,a):=by simp[crs]
theorem ada (a b c):crs (a,b,c) (0,0,1)=(b,-a,0):=by simp[crs]
variable {l:Tr}
theorem ac3 (l0:l≠(0,0,0))(h1:crs l (1,0,0)=(0,0,0)\/Je (crs l (1,0,0)) p)(h2:crs l (0,1,0)=(0,0,0)\/Je (crs l (0,1,0)) p)(h3:crs l (0,0,1)=(0,0,0)\/Je (crs l (0,0,1)) p):False:=by
 obtain⟨a,b,c⟩:=l;obtain⟨x,y,z⟩:=p;rw[Z8]at h1;rw[Z2]at h2;rw[ada]at h3;simp only[Je,sc,Prod.mk.injEq]at h1 h2 h3;by_cases a0:a=0
 by_cases b0:b=0
 have c0:c≠0:=λc0=>l0 (by rw[a0,b0,c0])
 rcases h1 with h1|⟨k,hk,e1,e2,e3⟩
 lia;rcases h2 with h2|⟨j,hj,f1,f2,f3⟩
 lia;rw[((R0.mp e1.symm).resolve_right hk)]at f1;lia;rcases h1 with h1|⟨k,hk,e1,e2,e3⟩
 lia;rcases h3 with h3|⟨j,hj,f1,f2,f3⟩
 exact b0 h3.1;rw[((R0.mp e1.symm).resolve_right hk)]at f1;lia;rcases h2 with h2|⟨k,hk,e1,e2,e3⟩
 exact a0 h2.2.2;rcases h3 with h3|⟨j,hj,f1,f2,f3⟩
 exact a0<|by lia
 rw[((R0.mp e2.symm).resolve_right hk)]at f2;lia
theorem mj {r}{mo}(x:mo σ h λx h1=>IW h1 x (ma σ h1 λxs h2=>r x xs h2 Q)):yK r mo ma σ h Q:=x
theorem gQ {P:Prop}(e:h.c n=Dn (.lst us))(p:P):IW h (.loc n) P:=by
 simp[IW,e];exact p
theorem qC (hm:∀R,ma σ h R=R ws h)(hz:Nat.ble ws.length 1000=true)(x:∀g,g.c h.nx=Dn (.lst ws)->(∀n,n≠h.nx->g.c n=h.c n)->g.nx=h.nx+1->Q (.loc h.nx) g):pH ma σ h Q:=by
 unfold pH;rw[hm];exact iJ hz<|x _ (Ba _ _) (λ_ e=>oZ e) rfl
theorem aeI (e:h.c n=Dn (.lst us))(hz:us.length+zs.length<=1000)(k:∀g,g.c n=Dn (.lst (us++zs))->(∀m,m≠n->g.c m=h.c m)->g.nx=h.nx->Q .non g):jk (.loc n) [.lst zs] h Q:=
 aaj e (Ja hz (by decide)) (k _ (rP _ _ _) (λ_ e=>jY e) rfl)
theorem Ay (e:h.c n=Dn (.lst us))(hz:us.length<=1000)(k:∀g,g.c n=Dn (.lst (us++[w]))->(∀m,m≠n->g.c m=h.c m)->g.nx=h.nx->Q .non g):cV (.loc n) [w] h Q:=
 abx e (XJ hz (by decide)) (k _ (rP _ _ _) (λ_ e=>jY e) rfl)
def rng (a m:Nat):List Nat:=List.range' a (m-a)
theorem JH {a x}:x∈rng a m↔a<=x/\x<m:=by
 unfold rng;grind
theorem Gz (a m:Nat):Ae (a) ((m)-(a:Int)).toNat=(rng a m).map λx:Nat=>W.int (x):=by
 unfold Ae rng;rw[List.range'_eq_map_range];simp
theorem ahs (m):Ae 0 ((m:Nat):Int).toNat=(rng 0 m).map λx:Nat=>W.int (x):=by
 have:=Gz 0 m
 exact this
def afp (R:Src->Gh->Prop):List W->Gh->Prop:=λws h=>match ws with
 | [.int i,.int j]=>Af i (Af j (R ⟨Ae i (j-i).toNat,Go⟩ h))
 | _=>False
theorem Bo (x:ma σ h (afp R)):BP ma σ h R:=x
theorem Nb {a}(ha:a=(n:Int))(h1:n<=1000)(h2:m<=1000)(x:R ⟨(rng n m).map λx:Nat=>W.int (x),Go⟩ h):afp R [.int a,.int (m)] h:=by
 subst ha;rw[<-Gz]at x;exact Af.mk (by lia) (by lia)<|Af.mk (by lia) (by lia) x
theorem Jx (h2:m<=1000)(x:R ⟨(rng 0 m).map λx:Nat=>W.int (x),Go⟩ h):rgK R [.int (m)] h:=by
 rw[<-ahs]at x;exact Af.mk (by lia) (by lia) x
def nxt (l:List Nat):Nat:=match l.getLast? with
 | none=>0
 | some x=>x+1
def grow (m:Nat)(l:List Nat):List (List Nat):=(rng (nxt l) m).map λp=>l++[p]
def J3 (m:Nat):Nat->List (List Nat)
 | 0=>[[]]
 | k+1=>(J3 m k).flatMap (grow m)
def vQ (l:List Nat):W:=.tup (l.map λx:Nat=>.int (x:Int))
theorem w6 {m:Nat}:∀{k:Nat}{l:List Nat},l∈J3 m k->l.length=k
 | 0,l,h=>by
  rw[J3,R8]at h;rw[h];rfl
 | k+1,l,h=>by
  rw[J3,List.mem_flatMap]at h;obtain⟨u,hu,hl⟩:=h;obtain⟨p,_,rfl⟩:=Ni.mp hl;rw[KJ,w6 hu];rfl
theorem ZL:∀{k}{l},l∈J3 m k->nxt l<=m
 | 0,l,h=>by
  rw[J3,R8]at h;exact h ▸ Rb _
 | k+1,l,h=>by
  rw[J3,List.mem_flatMap]at h;obtain⟨u,hu,hl⟩:=h;obtain⟨p,hp,rfl⟩:=Ni.mp hl;have:=(JH.mp hp).2
  unfold nxt;simp;lia
theorem uG:∀m,m<=12->∀k,k<=4->(J3 m k).length<=1000:=by
 have:(P0 13).all (λm=>(P0 5).all λk=>decide ((J3 m k).length<=1000))=true:=by decide +kernel
 intro m hm k hk;rw[Rm]at this;have h1:=this m (VH.mpr (by lia));grind
def adn (h:Gh)(w:W)(ws:List W):Prop:=w=.lst ws\/∃n,w=.loc n/\h.c n=Dn (.lst ws)
theorem aiD {b}{α:Type}{v}{xs:List α}(hv:σ[i]?=Dn (Dn w))(e:adn h w (xs.map v))(I:Nat->Sw->Gh->Prop)
  (go:∀i σ h',I i σ h'->adn h' w (xs.map v))
  (step:∀i x  (σ) (h) (N),(∀σ' h',I (i+1) σ' h'->N σ' h')->xs[i]?=Dn x->I i σ h->g (v x) σ h fun σ1 h1=>b {D with nx:=N,ct:=N,bk:=D.nx} σ1 h1)
  (fin:∀σ h,I xs.length σ h->D.nx σ h) (h0:I 0 σ h):vg (JT (ao i)) g b D σ h:=by
 unfold vg JT ao;rw[hv];dsimp only;have gen:∀s:Src,Ag h w=Dn s->s.ws=xs.map v->(∀h',adn h' w (xs.map v)->∀P:Prop,P->s.go h' P)->(match Ag h w with
   | some s=>fC s g b D s.ws σ h
   | none=>False):=by
  intro s es ew hg;rw[es];show fC s g b D _ σ h;rw[ew];refine Ej I (λi σ h' hi=>hg h'<|go i σ h' hi) (λi w σ h N hN e hi=>?_) (fun σ h q=>fin σ h<|by rwa[Hi]at q) h0;rw[Jm]at e;cases q:xs[i]? with
  | none=>rw[q]at e;cases e
  | some x=>
   rw[q]at e;cases e;exact step i x σ h N hN q hi
 rcases e with rfl|⟨n,rfl,e⟩
 exact gen ⟨xs.map v,Go⟩ rfl rfl λ_ _ _ p=>p;refine gen ⟨xs.map v,Dn (n,xs.map v)⟩ (by simp[Ag,e]) rfl λh' e' P p=>⟨?_,p⟩;rcases e' with e'|⟨n',e',q⟩
 cases e'
 simp_all
theorem ahK {a b}(hz:a.length+b.length<=1000)(x:Q (.tup (a++b)) h):bR (.tup a) (.tup b) h Q:=by
 cases a with
 | nil=>exact x
 | cons a0 a=>exact gG.mk (Ja (by simpa using hz) (by decide:1000<=Il)) x
theorem aiQ {l}(hm:m<=12)(hl:l.length<=4)(hn:nxt l<=m)(h5:σ[5]?=Dn (Dn (vQ l)))(h6:σ[6]?=Dn (Dn (.int (nxt l))))(h0:σ[0]?=Dn (Dn (.int (m))))(x:Q (.lst ((grow m l).map vQ)) h):
  JB JX [5] (BP (aj (ao 6) (aj (ao 0) aG))) jF (Mk bR (ao 1) (tX (aj (ao 0) aG))) σ h Q:=by
 refine qH<|Bo<|aB<|aA h6<|aB<|aA h0<|aJ ?_
 refine Nb rfl (by lia) (by lia) ?_;have hb:sI [5] σ=[Dn (vQ l)]:=by
  show[(σ[5]?).getD Go]=_;rw[h5];rfl
 have hz:((rng (nxt l) m).map λx:Nat=>W.int (x:Int)).length<=Il:=by
  rw[Hi];unfold rng;rw[XQ];exact Ja (by lia) (by decide:12<=Il)
 refine gG.mk hz ?_;refine dR (λi acc h'=>h'=h/\acc=(((rng (nxt l) m).take i).map λp=>l++[p]).map vQ) ?_ ?_ ⟨rfl,rfl⟩;rintro i w acc h' N hN e ⟨rfl,rfl⟩;rw[Jm]at e;cases q:(rng (nxt l) m)[i]? with
 | none=>rw[q]at e;cases e
 | some p=>
  rw[q]at e;cases e;refine⟨[W.int (p:Int)],rfl,?_⟩;rw[hb];refine jW<|gC<|aW<|aA rfl<|yD<|aB<|aA rfl<|aJ<|iJ rfl ?_
  refine ahK (a:=l.map λx:Nat=>.int (x:Int)) (by rw[Hi];simp;lia) ?_;refine hN _ _ ⟨rfl,?_⟩;rw[N7,q];simp[vQ]
 rintro acc h' ⟨rfl,rfl⟩;rw[Hi,Q9];exact x
def Og (c0:Ah):Prop:=∀{h:Gh}{m k:Nat}{Q:WK}{E:Ce},m<=12->k<=4->Q (.lst ((J3 m k).map vQ)) h->c0 [.int (m:Int),.int (k:Int)] h Q E
theorem zbW {l:List Nat}(h:l.length=i+1):∃x,l.getLast?=Dn x/\Mv (l.map λx:Nat=>W.int (x:Int)) (i:Int)=Dn (.int (x:Int)):=by
 have hi:i<l.length:=by lia
 refine⟨l[i],(by rw[List.getLast?_eq_getElem?,h,Nat.add_sub_cancel,N5 hi]),?_⟩;exact bZ (by rw[Jm,N5 hi];rfl)
theorem afR (n):∀l:List Nat,Nv n (l.map λx:Nat=>W.int (x))
 | []=>by simp[Nv]
 | x::l=>by
  have:=afR n l
  exact⟨by simp[Lo],this⟩
theorem akk (n)(l):Lo n (vQ l):=afR n l
theorem vK (n):∀ls:List (List Nat),Nv n (ls.map vQ)
 | []=>by simp[Nv]
 | l::ls=>by
  have:=vK n ls
  exact⟨akk n l,this⟩
theorem lC {a x}(e:(rng a m)[i]?=Dn x):x=a+i/\x<m:=by
 unfold rng at e;grind
theorem aiq:Og Fy:=by
 intro h m k Q E hm hk q;refine zP rfl (σ:=[Dn<|.int (m:Int),Dn<|.int (k:Int),Go,Go,Go,Go,Go]) rfl ?_;refine nV<|dX ?_
 refine bA<|rH<|rM<|aB<|aA rfl<|aJ<|Jx (by lia)<|qZ ?_
 refine jf (λi σ h'=>∃w s3 s4 s5 s6,σ=[Dn<|.int (m:Int),Dn<|.int (k:Int),Dn w,s3,s4,s5,s6]/\(w=.lst ((J3 m i).map vQ)\/∃n,w=.loc n/\h.nx<=n/\n<h'.nx/\h'.c n=Dn (.lst<|(J3 m i).map vQ))/\h.nx<=h'.nx/\∀n,n<h.nx->h'.c n=h.c n) ?_ ?_ ⟨_,_,_,_,_,rfl,.inl rfl,IK _,λ_ _=>rfl⟩;rintro i w0 σ h' N hN e ⟨w,s3,s4,s5,s6,rfl,hw,hx,ho⟩;rw[Jm]at e;cases qe:(rng 0 k)[i]? with
 | none=>rw[qe]at e;cases e
 | some i'=>
  rw[qe]at e;cases e;obtain⟨ei,hik⟩:=lC qe;rw[WT]at ei;subst ei;refine bA<|bQ<|qC (ws:=[]) (λR=>rfl) rfl λg eg og xg=>?_
  have sw:∀g':Gh,(∀n,n≠h'.nx->g'.c n=h'.c n)->adn g' w ((J3 m i').map vQ):=by
   intro g' hg;rcases hw with rfl|⟨n,rfl,h1,h2,h3⟩
   exact .inl rfl;exact .inr ⟨n,rfl,by rw[hg n<|by lia];exact h3⟩
  refine aiD (i:=2) (w:=w) (v:=vQ) (xs:=J3 m i') rfl (sw g og) (λj σ g'=>∃s5 s6,σ=[Dn<|.int (m:Int),Dn<|.int (k:Int),Dn w,Dn<|.int (i':Int),Dn<|.loc h'.nx,s5,s6]/\g'.c h'.nx=Dn (.lst<|(((J3 m i').take j).flatMap (grow m)).map vQ)/\g'.nx=h'.nx+1/\∀n,n≠h'.nx->g'.c n=h'.c n) ?_ ?_ ?_ ⟨_,_,rfl,eg,xg,og⟩;rintro j σ g' ⟨s5,s6,rfl,h1,h2,h3⟩;exact sw g' h3;rintro j l σ g' N2 hN2 el ⟨s5,s6,rfl,h1,h2,h3⟩;have ml:=RN el;have ll:=w6 ml;have ln:=ZL ml;have fin:∀σ,σ=[Dn (.int (m:Int)),Dn (.int (k:Int)),Dn w,Dn (.int (i':Int)),Dn (.loc h'.nx),Dn (vQ l),Dn (.int (nxt l:Int))]->nG (yK jk (ao 4) (aj (JB JX [5] (BP (aj (ao 6) (aj (ao 0) aG))) jF (Mk bR (ao 1) (tX (aj (ao 0) aG)))) aG)) {nx:=N2,rt:=λw h'=>vH true h w h' Q,bk:=λ_ _=>False,ct:=N2} σ g':=by
   rintro σ rfl;refine gW<|mj<|aA rfl<|gQ h1<|aB<|aiQ hm (by lia) ln rfl rfl rfl<|aJ<|aeI h1 ?_ λg2 e2 o2 x2=>?_
   rw[Hi,Hi,<-KJ,show grow m l=[l].flatMap (grow m) by simp,<-List.flatMap_append];have hp:(J3 m i').take (j+1)=(J3 m i').take j++[l]:=by rw[N7,el];rfl
   rw[<-hp];have hr:=uG m hm (i'+1) (by lia);rw[J3,<-List.take_append_drop (j+1) (J3 m i'),List.flatMap_append,KJ]at hr;lia;refine hN2 _ _ ⟨_,_,rfl,?_,by rw[x2];exact h2,λn hn=>by rw[o2 n hn];exact h3 n hn⟩;rw[e2,N7,el,List.flatMap_append,R7];simp
  refine yr (λhp=>?_) λhp=>?_;obtain⟨x,ex,ax⟩:=zbW (l:=l) (i:=i'-1) (by lia);have en:nxt l=x+1:=by unfold nxt;rw[ex]
  refine aW<|aW<|aA rfl<|aW<|aA rfl<|cI<|Uj<|gH (x:=vQ l) (i:=(i':Int)-1) (w:=.int (x:Int)) rfl ?_<|cI<|eY ?_
  rw[show(i':Int)-1=((i'-1:Nat):Int) by lia];exact ax;refine rJ (σ':=[Dn<|.int (m:Int),Dn<|.int (k:Int),Dn w,Dn<|.int (i':Int),Dn<|.loc h'.nx,Dn<|vQ l,Dn<|.int (nxt l:Int)]) (by rw[en];rfl)<|dX<|fin _ rfl
  have l0:l=[]:=List.eq_nil_of_length_eq_zero (by lia);have en:nxt l=0:=by rw[l0];rfl
  refine cI ?_;refine rJ (σ':=[Dn<|.int (m:Int),Dn<|.int (k:Int),Dn w,Dn<|.int (i':Int),Dn<|.loc h'.nx,Dn<|vQ l,Dn<|.int (nxt l:Int)]) (by rw[en];rfl)<|dX<|fin _ rfl
  rintro σ g' ⟨s5,s6,rfl,h1,h2,h3⟩;rw[Q9]at h1;refine dX ?_;refine bQ ?_;refine aA rfl ?_;refine nV<|dX ?_
  exact hN _ _ ⟨_,_,_,_,_,rfl,.inr ⟨_,rfl,hx,by lia,h1⟩,by lia,λn hn=>by rw[h3 n<|by lia];exact ho n hn⟩
 rintro σ h' ⟨w,s3,s4,s5,s6,rfl,hw,hx,ho⟩;have hl:((rng 0 k).map λx:Nat=>W.int (x:Int)).length=k:=by
  rw[Hi];unfold rng;rw[XQ];lia
 rw[hl]at hw;unfold uF;refine dX ?_;refine dN ?_;refine aA rfl ?_;refine Pz ?_;refine⟨λn c hn e=>by rw[ho n hn];exact e,?_⟩;rcases hw with rfl|⟨n,rfl,h1,h2,h3⟩
 exact .inl ⟨by rw[Lo];exact vK _ _,q⟩;exact .inr ⟨n,_,rfl,h1,h3,vK _ _,q⟩
def gt (ts:List Tr)(i:Nat):Tr:=ts.getD i (0,0,0)
def OkT (m:Nat)(ts:List Tr):Prop:=∀t∈ts,Pl t/\HB m t
theorem Dk (hi:i<ts.length):gt ts i∈ts:=by
 unfold gt;simp_all
theorem acZ (hi:i<ts.length):ts[i]?=Dn (gt ts i):=by
 unfold gt;simp_all
theorem Ca.at (e:Ca h w ts)(hi:i<ts.length)(k:Q (tw (gt ts i)) h):Av w (.int (i)) h Q:=
 gH e.src.1 (bZ (by rw[Jm,acZ hi];rfl)) k
theorem Z5 (e:Ca h w ts)(k:Q (.int (ts.length:Int)) h):JL [w] h Q:=by
 refine eE e.src.1 ?_
 rwa[Hi]
def acF (c0:Ah):Prop:=∀{h:Gh}{w:W}{ts:List Tr}{l:List Nat}{Q:WK}{E:Ce},Ca h w ts->(∀i∈l,i<ts.length)->l.length<=1000->Q (.lst ((l.map (gt ts)).map tw)) h->c0 [w,vQ l] h Q E
theorem zbE:acF Eh:=by
 intro h w ts l Q E e hl hz q;refine gG.mk (by rw[Hi];exact Ja hz (by decide)) ?_;refine dR (λi acc h'=>h'=h/\acc=((l.take i).map (gt ts)).map tw) ?_ ?_ ⟨rfl,rfl⟩;rintro i w2 acc h' N hN e2 ⟨rfl,rfl⟩;rw[Jm]at e2;cases qe:l[i]? with
 | none=>rw[qe]at e2;cases e2
 | some p=>
  rw[qe]at e2;cases e2;refine⟨[W.int _],rfl,(jW<|aW<|aA rfl<|aA rfl<|e.at (hl p<|RN qe)<|hN _ _ ⟨rfl,?_⟩)⟩;rw[N7,qe];simp
 rintro acc h' ⟨rfl,rfl⟩
 rwa[Hi,Q9]
theorem Kq {m}:∀{k}{l},l∈J3 m k->∀i∈l,i<m
 | 0,l,h=>by
  rw[J3]at h;simp_all
 | k+1,l,h=>by
  rw[J3,List.mem_flatMap]at h;obtain⟨u,hu,hl⟩:=h;obtain⟨p,hp,rfl⟩:=Ni.mp hl;intro i hi;rcases Vz.mp hi with hi|hi
  exact Kq hu i hi;exact R8.mp hi ▸ (JH.mp hp).2
theorem alg {us:List Bool}(k:Q (.bl (us.any id)) h):Ww [.lst (us.map .bl)] h Q:=Uk rfl (CK us) k
theorem kO (hp:HB m p)(hq:HB n q):HB (m+n+1) (crs p q):=
 ⟨((hp.2.1.mul hq.2.2).sub (hp.2.2.mul hq.2.1)).mono (by lia),((hp.2.2.mul hq.1).sub (hp.1.mul hq.2.2)).mono (by lia),((hp.1.mul hq.2.1).sub (hp.2.1.mul hq.1)).mono (by lia)⟩
theorem bW {Q}(x:Q Go h):cM σ h Q:=x
theorem Ma {lo hi}(e:Gf ws lo hi=us)(x:Q (.lst us) h):uN (.lst ws) lo hi h Q:=by
 subst e;exact x
def r6 (a b c d e f:Tr):W:=.lst [tw a,tw b,tw c,tw d,tw e,tw f]
structure Rd (a b c d e f:Tr):Prop where
 pa:Pl a
 pb:Pl b
 pc:Pl c
 pd:Pl d
 pe:Pl e
 pf:Pl f
 sa:HB 60 a
 sb:HB 60 b
 sc:HB 60 c
 sd:HB 60 d
 se:HB 60 e
 sf:HB 1800 f
def Bc (a b c:Tr):Int:=dt3 (crs a b) c
theorem pl1 (a b c d e f):Bc a b c*Bc d e f=Bc d b c*Bc a e f+Bc a d c*Bc b e f+Bc a b d*Bc c e f:=by
 simp[Bc,crs,dt3];grind
theorem agK (u v w):Bc u v w=Bc v w u:=by
 simp[Bc,crs,dt3];grind
def uz (c0:Ah):Prop:=∀{h:Gh}{p q r:Tr}{m:Nat}{Q:WK}{E:Ce},m<=4000->HB m p->HB m q->HB m r->Q (.int (dt3 (crs p q) r)) h->c0 [tw p,tw q,tw r] h Q E
def z3 (ts:List Tr)(i j k:Nat):Option Unit:=if dt3 (crs (gt ts i) (gt ts j)) (gt ts k)=0 then Dn ()else Go
def Zo (a b c d:Tr):C6:=vA (crs a b) (crs c d)
def Zr (a b c d:Tr):C6:=vA (crs a c) (crs b d)
theorem Dd {c}(hc:JK m c)(hp:HB n p):Sm (m+n+n+5) (Hv c p):=by
 obtain⟨h1,h2,h3,h4,h5,h6⟩:=hc;obtain⟨hx,hy,hz⟩:=hp;exact((((((h1.mul hx).mul hx).add ((h3.mul hy).mul hy)).add ((h6.mul hz).mul hz)).add ((h2.mul hx).mul hy)).add ((h4.mul hx).mul hz)).add ((h5.mul hy).mul hz) |>.mono (by lia)
def aed (h t:Int)(o n:C6):C6:=(h*o.1-t*n.1,h*o.2.1-t*n.2.1,h*o.2.2.1-t*n.2.2.1,h*o.2.2.2.1-t*n.2.2.2.1,h*o.2.2.2.2.1-t*n.2.2.2.2.1,h*o.2.2.2.2.2-t*n.2.2.2.2.2)
theorem alf (h t)(o n)(x):Hv (aed h t o n) x=h*Hv o x-t*Hv n x:=by
 simp only[Hv,aed];grind
theorem uf {c x}(h:Hv c x≠0):NZ (M9 c):=by
 obtain⟨c1,c2,c3,c4,c5,c6⟩:=c;by_cases z:c1=0/\c2=0/\c3=0/\c4=0/\c5=0/\c6=0
 obtain⟨rfl,rfl,rfl,rfl,rfl,rfl⟩:=z;refine absurd ?_ h;simp[Hv];have:∃n∈[c1,c2,c3,c4,c5,c6],n≠0:=by
  by_cases z1:c1=0
  by_cases z2:c2=0
  by_cases z3:c3=0
  by_cases z4:c4=0
  by_cases z5:c5=0
  by_cases z6:c6=0
  lia;exact⟨c6,by simp,z6⟩;exact⟨c5,by simp,z5⟩;exact⟨c4,by simp,z4⟩;exact⟨c3,by simp,z3⟩;exact⟨c2,by simp,z2⟩;exact⟨c1,by simp,z1⟩
 exact this
def PK (s t:Int)(p q:Tr):Tr:=(s*p.1-t*q.1,s*p.2.1-t*q.2.1,s*p.2.2-t*q.2.2)
theorem eN (x y):Bc x y y=0/\Bc x x y=0/\Bc x y x=0:=by
 refine⟨?_,?_,?_⟩<;>simp[Bc,crs,dt3]<;>grind
theorem brr (s t)(u v p q):Bc p q (PK s t u v)=s*Bc p q u-t*Bc p q v:=by
 simp[Bc,dt3,PK];grind
theorem eU (a b c):Bc b c a=Bc a b c:=(agK a b c).symm
theorem fG (a b c):Bc a c b=- Bc a b c:=by
 simp[Bc,crs,dt3];grind
theorem f1 (a b c d e):Bc b d e*Bc a c d-Bc a d e*Bc b c d=Bc a b d*Bc c d e:=by
 simp[Bc,crs,dt3];grind
theorem f2 (a b c d e):Bc a c e*Bc a b d-Bc a d e*Bc a b c=Bc a b e*Bc a c d:=by
 simp[Bc,crs,dt3];grind
theorem f3 (a b c d e):Bc a b c*Bc c d e+Bc a c e*Bc b c d=Bc a c d*Bc b c e:=by
 simp[Bc,crs,dt3];grind
theorem f4 (a b c d e:Tr):Bc a b e*Bc b c d+Bc a b c*Bc b d e=Bc a b d*Bc b c e:=by
 simp[Bc,crs,dt3];grind
def ug (a b c d e:Tr):C6:=aed (Hv (Zo a b c d) e) (Hv (Zr a b c d) e) (Zr a b c d) (Zo a b c d)
theorem Ko (a b c d e x):Hv (ug a b c d e) x=Bc a b e*Bc c d e*(Bc a c x*Bc b d x)-Bc a c e*Bc b d e*(Bc a b x*Bc c d x):=by
 have v1:∀x,Hv (Zo a b c d) x=Bc a b x*Bc c d x:=λx=>pR _ _ _
 have v2:∀x,Hv (Zr a b c d) x=Bc a c x*Bc b d x:=λx=>pR _ _ _
 unfold ug;rw[alf,v1,v2,v1,v2]
section
variable {a b c d e:Tr}
end
variable {b d e:Tr}
structure G5 (ts:List Tr):Prop where
 pl:∀t∈ts,Pl t
 nd:ts.Nodup
 four:∀n:Tr,n≠(0,0,0)->∀x∈ts,∃y∈ts,y≠x/\dt3 n y≠0
theorem G5.no (G:G5 ts){r s t:Tr}(h:∀y∈ts,y=p\/y=q\/y=r\/y=s\/y=t)(hp:p∈ts)(hq:q∈ts)(ht:t∈ts)(pq:p≠q):¬(Bc p q r=0/\Bc p q s=0):=λz=>by
 obtain⟨y,hy,ne,d⟩:=G.four _ (fJ (G.pl p hp) (G.pl q hq) pq) t ht;rcases h y hy with rfl|rfl|rfl|rfl|rfl
 exact d<|lX _ _
 exact d<|vR _ _
 exact d z.1;exact d z.2;exact ne rfl
structure Br (a b c d e:Tr):Prop where
 n1:¬(Bc a b c=0/\Bc a b d=0)
 n2:¬(Bc a b c=0/\Bc a b e=0)
 n3:¬(Bc a b d=0/\Bc a b e=0)
 n4:¬(Bc a b c=0/\Bc a c d=0)
 n5:¬(Bc a b c=0/\Bc a c e=0)
 n6:¬(Bc a c d=0/\Bc a c e=0)
 n7:¬(Bc a b d=0/\Bc a c d=0)
 n8:¬(Bc a b d=0/\Bc a d e=0)
 n9:¬(Bc a c d=0/\Bc a d e=0)
 n10:¬(Bc a b e=0/\Bc a c e=0)
 n11:¬(Bc a b e=0/\Bc a d e=0)
 n12:¬(Bc a c e=0/\Bc a d e=0)
 n13:¬(Bc a b c=0/\Bc b c d=0)
 n14:¬(Bc a b c=0/\Bc b c e=0)
 n15:¬(Bc b c d=0/\Bc b c e=0)
 n16:¬(Bc a b d=0/\Bc b c d=0)
 n17:¬(Bc a b d=0/\Bc b d e=0)
 n18:¬(Bc b c d=0/\Bc b d e=0)
 n19:¬(Bc a b e=0/\Bc b c e=0)
 n20:¬(Bc a b e=0/\Bc b d e=0)
 n21:¬(Bc b c e=0/\Bc b d e=0)
 n22:¬(Bc a c d=0/\Bc b c d=0)
 n23:¬(Bc a c d=0/\Bc c d e=0)
 n24:¬(Bc b c d=0/\Bc c d e=0)
 n25:¬(Bc a c e=0/\Bc b c e=0)
 n26:¬(Bc a c e=0/\Bc c d e=0)
 n27:¬(Bc b c e=0/\Bc c d e=0)
 n28:¬(Bc a d e=0/\Bc b d e=0)
 n29:¬(Bc a d e=0/\Bc c d e=0)
 n30:¬(Bc b d e=0/\Bc c d e=0)
theorem G5.n5 {a c}(G:G5 [a,b,c,d,e])(p q r s t)(z1:Bc p q r=0)(z2:Bc p q s=0)(pq:p≠q)(h:∀y∈[a,b,c,d,e],y=p\/y=q\/y=r\/y=s\/y=t:=by simp)(hp:p∈[a,b,c,d,e]:=by simp)(hq:q∈[a,b,c,d,e]:=by simp)(ht:t∈[a,b,c,d,e]:=by simp):False:=G.no h hp hq ht pq ⟨z1,z2⟩
theorem Br.of {a c}(G:G5 [a,b,c,d,e]):Br a b c d e:=by
 have nd:=G.nd;simp only[S8,K5,Ot,or_false,not_or,not_false_eq_true,List.nodup_nil,and_true]at nd;obtain⟨⟨ab,ac,ad,ae⟩,⟨bc,bd,be⟩,⟨cd,ce⟩,de⟩:=nd;exact{
  n1:=λz=>G.n5 a b c d e z.1 z.2 ab
  n2:=λz=>G.n5 a b c e d z.1 z.2 ab
  n3:=λz=>G.n5 a b d e c z.1 z.2 ab
  n4:=λz=>G.n5 a c b d e (by rw[fG a b c,z.1];rfl) z.2 ac
  n5:=λz=>G.n5 a c b e d (by rw[fG a b c,z.1];rfl) z.2 ac
  n6:=λz=>G.n5 a c d e b z.1 z.2 ac
  n7:=λz=>G.n5 a d b c e (by rw[fG a b d,z.1];rfl) (by rw[fG a c d,z.2];rfl) ad
  n8:=λz=>G.n5 a d b e c (by rw[fG a b d,z.1];rfl) z.2 ad
  n9:=λz=>G.n5 a d c e b (by rw[fG a c d,z.1];rfl) z.2 ad
  n10:=λz=>G.n5 a e b c d (by rw[fG a b e,z.1];rfl) (by rw[fG a c e,z.2];rfl) ae
  n11:=λz=>G.n5 a e b d c (by rw[fG a b e,z.1];rfl) (by rw[fG a d e,z.2];rfl) ae
  n12:=λz=>G.n5 a e c d b (by rw[fG a c e,z.1];rfl) (by rw[fG a d e,z.2];rfl) ae
  n13:=λz=>G.n5 b c a d e (by rw[eU a b c];exact z.1) z.2 bc
  n14:=λz=>G.n5 b c a e d (by rw[eU a b c];exact z.1) z.2 bc
  n15:=λz=>G.n5 b c d e a z.1 z.2 bc
  n16:=λz=>G.n5 b d a c e (by rw[eU a b d];exact z.1) (by rw[fG b c d,z.2];rfl) bd
  n17:=λz=>G.n5 b d a e c (by rw[eU a b d];exact z.1) z.2 bd
  n18:=λz=>G.n5 b d c e a (by rw[fG b c d,z.1];rfl) z.2 bd
  n19:=λz=>G.n5 b e a c d (by rw[eU a b e];exact z.1) (by rw[fG b c e,z.2];rfl) be
  n20:=λz=>G.n5 b e a d c (by rw[eU a b e];exact z.1) (by rw[fG b d e,z.2];rfl) be
  n21:=λz=>G.n5 b e c d a (by rw[fG b c e,z.1];rfl) (by rw[fG b d e,z.2];rfl) be
  n22:=λz=>G.n5 c d a b e (by rw[eU a c d];exact z.1) (by rw[eU b c d];exact z.2) cd
  n23:=λz=>G.n5 c d a e b (by rw[eU a c d];exact z.1) z.2 cd
  n24:=λz=>G.n5 c d b e a (by rw[eU b c d];exact z.1) z.2 cd
  n25:=λz=>G.n5 c e a b d (by rw[eU a c e];exact z.1) (by rw[eU b c e];exact z.2) ce
  n26:=λz=>G.n5 c e a d b (by rw[eU a c e];exact z.1) (by rw[fG c d e,z.2];rfl) ce
  n27:=λz=>G.n5 c e b d a (by rw[eU b c e];exact z.1) (by rw[fG c d e,z.2];rfl) ce
  n28:=λz=>G.n5 d e a b c (by rw[eU a d e];exact z.1) (by rw[eU b d e];exact z.2) de
  n29:=λz=>G.n5 d e a c b (by rw[eU a d e];exact z.1) (by rw[eU c d e];exact z.2) de
  n30:=λz=>G.no (p:=d) (q:=e) (r:=b) (s:=c) (t:=a) (λy hy=>by simp only[K5,Ot,or_false]at hy;rcases hy with h|h|h|h|h<;>simp[h]) (by simp) (by simp) (by simp) de ⟨(by rw[eU b d e];exact z.1),(by rw[eU c d e];exact z.2)⟩}
section
variable {a c:Tr}
theorem ail (a b c d e):∀x∈[a,b,c,d,e],Hv (ug a b c d e) x=0:=by
 intro x hx;simp at hx;rw[Ko];rcases hx with rfl|rfl|rfl|rfl|rfl
 rw[(eN x c).2.2,(eN x b).2.2];simp;rw[(eN x d).2.2,(eN a x).1];simp;rw[(eN a x).1,(eN x d).2.2];simp;rw[(eN b x).1,(eN c x).1];simp;grind
theorem Qd (p q u v):Bc p q (PK 1 (-1) u v)=Bc p q u+Bc p q v:=by
 rw[brr];lia
theorem Jf {x y:Int}(hx:x≠0)(hy:y≠0):x*y≠0:=Int.mul_ne_zero hx hy
theorem U5 (B:Br a b c d e):NZ (M9 (ug a b c d e)):=by
 have x1:Hv (ug a b c d e) (PK 1 (-1) a b)=- (Bc a b e*Bc c d e*(Bc a b c*Bc a b d)):=by
  rw[Ko,Qd,Qd,Qd,Qd,(eN a c).2.2,(eN b d).2.2,(eN a b).2.2,(eN a b).1,fG a b c,eU a b d];grind
 have x2:Hv (ug a b c d e) (PK 1 (-1) c d)=- (Bc a b e*Bc c d e*(Bc a c d*Bc b c d)):=by
  rw[Ko,Qd,Qd,Qd,Qd,(eN a c).1,(eN b d).1,(eN c d).2.2,(eN c d).1,fG b c d];grind
 have x3:Hv (ug a b c d e) (PK 1 (-1) b d)=- (Bc a c e*Bc b d e*(Bc a b d*Bc b c d)):=by
  rw[Ko,Qd,Qd,Qd,Qd,(eN b d).2.2,(eN b d).1,(eN a b).1,(eN c d).1,eU b c d];simp_all
 have x4:Hv (ug a b c d e) (PK 1 (-1) a c)=- (Bc a c e*Bc b d e*(Bc a b c*Bc a c d)):=by
  rw[Ko,Qd,Qd,Qd,Qd,(eN a c).2.2,(eN a c).1,(eN a b).2.2,(eN c d).2.2,eU a c d];simp_all
 have neg:∀{i:Int},i≠0->-i≠0:=λh z=>h (by lia)
 by_cases H:Bc a b e*Bc c d e=0
 have K:Bc a c e*Bc b d e≠0:=λK=>by
  rcases R0.mp H with h|h<;>rcases R0.mp K with k|k
  exact B.n10 ⟨h,k⟩;exact B.n20 ⟨h,k⟩;exact B.n26 ⟨k,h⟩;exact B.n30 ⟨k,h⟩
 by_cases z:Bc a b d=0
 exact uf (x:=PK 1 (-1) a c) (by rw[x4];exact neg (Jf K<|Jf (λy=>B.n1 ⟨y,z⟩) λy=>B.n7 ⟨z,y⟩));by_cases z2:Bc b c d=0
 exact uf (x:=PK 1 (-1) a c) (by rw[x4];exact neg (Jf K<|Jf (λy=>B.n13 ⟨y,z2⟩) λy=>B.n22 ⟨y,z2⟩));exact uf (by rw[x3];exact neg (Jf K<|Jf z z2));by_cases z:Bc a b c=0
 exact uf (by rw[x2];exact neg (Jf H<|Jf (λy=>B.n4 ⟨z,y⟩) λy=>B.n13 ⟨z,y⟩));by_cases z2:Bc a b d=0
 exact uf (by rw[x2];exact neg (Jf H<|Jf (λy=>B.n7 ⟨z2,y⟩) λy=>B.n16 ⟨z2,y⟩));exact uf (x:=PK 1 (-1) a b) (by rw[x1];exact neg (Jf H<|Jf z z2))
def uu (a b c x:Tr):Tr:=(Bc x b c*Bc a x c,Bc x b c*Bc a b x,Bc a x c*Bc a b x)
theorem f5 (a b c d e):Bc a b e*Bc c d e-Bc a c e*Bc b d e=- (Bc a d e*Bc b c e):=by
 simp[Bc,crs,dt3];grind
end
theorem xV:∀(l acc:List (List Int)),((l.foldl Q0 acc).length=acc.length+l.length↔(∀k∈l,k∉acc)/\l.Nodup)
 | [],acc=>by simp
 | k::r,acc=>by
  rw[Xo];have le:=gA r (Q0 acc k);by_cases hk:k∈acc
  have e:Q0 acc k=acc:=by unfold Q0;rw[if_pos hk]
  rw[e]at le|-
  constructor;grind
  simp_all
  have e:Q0 acc k=acc++[k]:=by unfold Q0;rw[if_neg hk]
  have ih:=xV r (acc++[k]);rw[e];rw[KJ,Rz]at ih;rw[Nq,show _+(r.length+1)=acc.length+1+r.length by lia,ih,S8];grind
theorem acB:tl p=tl q↔p=q:=by
 obtain⟨a,b,c⟩:=p;obtain⟨d,e,f⟩:=q;simp[tl]
theorem Kw:∀ts:List Tr,Ab (ts.map tw)=Dn (ts.map tl)
 | []=>rfl
 | t::ts=>by
  rw[Nj,tw,Ab,Kw ts];rfl
theorem aaz:∀{ts:List Tr},(ts.map tl).Nodup↔ts.Nodup
 | []=>by simp
 | t::ts=>by
  rw[Nj,S8,S8,aaz];have:tl t∈ts.map tl↔t∈ts:=by
   rw[Ni];constructor;rintro⟨u,hu,e⟩;rw[acB]at e
   rwa[<-e]
   grind
  rw[this]
theorem Ou (ts:List Tr):decide (((Qc (ts.map tl)).length:Int)<(ts.length:Int))=!decide ts.Nodup:=by
 have le:=gA (ts.map tl) [];have iff:=xV (ts.map tl) [];rw[aaz]at iff;simp at le iff;unfold Qc;lia
theorem Ca.vl (e:Ca h w ts):dU h w=Dn (ts.map tw):=by
 rcases e with rfl|⟨n,rfl,ec⟩
 rfl;exact ahH ec
theorem afY (e:Ca h w ts)(hl:ts.length<=5)(k:Q (.int ((Qc (ts.map tl)).length:Nat)) h):jD [w] h Q:=by
 show(match dU h w with
  | some us=>(match Ab us with
   | some kss=>kss.length<=5/\Q _ h
   | none=>False)
  | none=>False)
 rw[e.vl];dsimp only;rw[Kw];simp_all
def T5 (c0:Ah):Prop:=∀{h:Gh}{w:W}{ts:List Tr}{Q:WK}{E:Ce},Ca h w ts->ts.length<=5->Q (.bl (!decide ts.Nodup)) h->c0 [w] h Q E
theorem zbx:T5 rF:=by
 intro h w ts Q E e hl k;refine qI rfl rfl ?_;rfl'
 refine afY e hl ?_;rfl'
 refine Z5 e ?_;rfl'
 rwa[Ou]
noncomputable def Mq (ts:List Tr):List Nat->Bool
 | [a,b,c,d]=>iW [gt ts a,gt ts b,gt ts c,gt ts d]
 | _=>false
noncomputable def yg (ts:List Tr):Bool:=((J3 ts.length 4).map (Mq ts)).any id
def af0 (c0:Ah):Prop:=∀{h:Gh}{w:W}{us:List Tr}{m:Nat}{Q:WK}{E:Ce},m<=4000->Ca h w us->us.length<=12->OkT m us->Q (.bl (yg us)) h->c0 [w,.int 4] h Q E
theorem abk {ol ri pi}(hol:nJ ol)(hri:Og ri)(hpi:acF pi):af0 (lN ol ri pi):=by
 intro h w us m Q E hm e hl hs k;refine qI rfl (σ:=[Dn w,Dn<|.int 4]) rfl<|dN<|dg<|aB<|qH<|tB<|bH<|aB<|dg<|aB<|aA rfl<|aJ<|Z5 e ?_
 refine aB<|aA rfl<|aJ<|hri (m:=us.length) (k:=4) hl (by decide)<|Ld rfl ?_
 refine gG.mk (by rw[Hi];exact Ja (uG _ hl 4<|by decide) (by decide)) ?_;refine dR (λi acc h'=>h'=h/\acc=(((J3 us.length 4).take i).map (Mq us)).map W.bl) ?_ ?_ ⟨rfl,rfl⟩;rintro i w2 acc h' N hN e2 ⟨rfl,rfl⟩;rw[Jm]at e2;cases qe:(J3 us.length 4)[i]? with
 | none=>rw[qe]at e2;cases e2
 | some l=>
  rw[qe]at e2;cases e2;have ml:=RN qe;have ll:=w6 ml;have li:=Kq ml;refine⟨[vQ l],rfl,?_⟩;have fin:∀b:Bool,b=Mq us l->N ((((J3 us.length 4).take i).map (Mq us)).map W.bl++[W.bl b]) h':=λb hb=>hN _ _ ⟨rfl,by rw[N7,qe,hb];simp⟩
  match l,ll with
  | [a,b,c,d],_=>
   refine jW<|gC<|bH<|aB<|bH<|aB<|aA rfl<|aB<|aA rfl<|aJ<|hpi e li (by simp) ?_
   refine aJ<|hol (ts:=[gt us a,gt us b,gt us c,gt us d]) (M:=m) (.inl rfl) (by simp) hm ?_<|fin _ rfl
   intro t ht;simp only[K5,Ot,or_false]at ht;rcases ht with rfl|rfl|rfl|rfl
   exact hs _<|Dk<|li a<|by simp
   exact hs _<|Dk<|li b<|by simp
   exact hs _<|Dk<|li c<|by simp
   exact hs _<|Dk<|li d<|by simp
 rintro acc h' ⟨rfl,rfl⟩;rw[Hi,Q9];refine aJ<|alg ?_
 exact Pz k
theorem aaY:J3 5 4=[[0,1,2,3],[0,1,2,4],[0,1,3,4],[0,2,3,4],[1,2,3,4]]:=rfl
theorem ado (a b c d e):yg [a,b,c,d,e]=(iW [a,b,c,d]||(iW [a,b,c,e]||(iW [a,b,d,e]||(iW [a,c,d,e]||iW [b,c,d,e])))):=by
 unfold yg;rw[show([a,b,c,d,e]:List Tr).length=5 from rfl,aaY];simp[Mq,gt]
theorem yZ {n:Tr}(hn:n≠(0,0,0))(h:∀t∈ts,dt3 n t=0):AllP ts:=λp hp q hq r hr=>flat hn (h q hq) (h r hr) (h p hp)
theorem oV {n:Tr}(hn:n≠(0,0,0))(h:iW ts=false):∃y∈ts,dt3 n y≠0:=by
 apply Ro;intro q;rw[rW (yZ hn λt ht=>Ro λz=>q ⟨t,ht,z⟩)]at h;cases h
theorem aaA {a c}(pl:∀t∈[a,b,c,d,e],Pl t)(nd:[a,b,c,d,e].Nodup)(h:yg [a,b,c,d,e]=false):G5 [a,b,c,d,e]:=by
 refine⟨pl,nd,λn hn x hx=>?_⟩;rw[ado]at h;simp at h;obtain⟨h1,h2,h3,h4,h5⟩:=h;simp at nd;obtain⟨⟨ab,ac,ad,ae⟩,⟨bc,bd,be⟩,⟨cd,ce⟩,de⟩:=nd;simp at hx;rcases hx with rfl|rfl|rfl|rfl|rfl
 obtain⟨y,hy,d0⟩:=oV hn h5;grind
 obtain⟨y,hy,d0⟩:=oV hn h4;grind
 obtain⟨y,hy,d0⟩:=oV hn h3;simp at hy;rcases hy with rfl|rfl|rfl|rfl
 simp_all
 exact⟨y,by simp,bc,d0⟩;exact⟨y,by simp,Jc cd,d0⟩;exact⟨y,by simp,Jc ce,d0⟩;obtain⟨y,hy,d0⟩:=oV hn h2;simp at hy;rcases hy with rfl|rfl|rfl|rfl
 exact⟨y,by simp,ad,d0⟩;exact⟨y,by simp,bd,d0⟩;exact⟨y,by simp,cd,d0⟩;exact⟨y,by simp,Jc de,d0⟩;obtain⟨y,hy,d0⟩:=oV hn h1;simp at hy;rcases hy with rfl|rfl|rfl|rfl
 exact⟨y,by simp,ae,d0⟩;exact⟨y,by simp,be,d0⟩;exact⟨y,by simp,ce,d0⟩;exact⟨y,by simp,de,d0⟩
theorem ahR {r s}(hp:Pl p)(hq:Pl q)(pq:p≠q):iW [p,q,r,s]=true↔Bc p q r=0/\Bc p q s=0/\Bc p r s=0/\Bc q r s=0:=by
 constructor;intro h;have all:=Ro λz=>by rw[Bj z]at h;cases h
 refine⟨all r (by simp) p (by simp) q<|by simp,all s (by simp) p (by simp) q<|by simp,all s (by simp) p (by simp) r<|by simp,all s (by simp) q (by simp) r<|by simp⟩;rintro⟨h1,h2,_,_⟩;refine rW<|yZ (fJ hp hq pq) λt ht=>?_
 simp at ht;rcases ht with rfl|rfl|rfl|rfl
 exact lX _ _;exact vR _ _;exact h1;exact h2
def ac4 (c0:Ah):Prop:=∀{h:Gh}{p q:Tr}{m:Nat}{Q:WK}{E:Ce},m<=4000->HB m p->HB m q->Q (Jp (vA p q)) h->c0 [tw p,tw q] h Q E
theorem adO:ac4 nF:=by
 intro h p q m Q E hm sp sq k;obtain⟨a1,a2,a3⟩:=sp;obtain⟨b1,b2,b3⟩:=sq;unfold nF;rfl'
 exact k
def Zx (m:Nat):Nat:=10*m+15
theorem akX {a c}(sa:HB m a)(sb:HB m b)(sc:HB m c)(sd:HB m d)(se:HB m e):JK (Zx m) (ug a b c d e):=by
 have so6:JK (4*m+3) _:=JK.mono (vD (eV sa sb) (eV sc sd)) (by lia);have st6:JK (4*m+3) _:=JK.mono (vD (eV sa sc) (eV sb sd)) (by lia);have hh:Sm (6*m+8) _:=(Dd so6 se).mono (by lia);have ht:Sm (6*m+8) _:=(Dd st6 se).mono (by lia);unfold ug Zx;exact⟨((hh.mul st6.1).sub (ht.mul so6.1)).mono (by lia),((hh.mul st6.2.1).sub (ht.mul so6.2.1)).mono (by lia),((hh.mul st6.2.2.1).sub (ht.mul so6.2.2.1)).mono (by lia),((hh.mul st6.2.2.2.1).sub (ht.mul so6.2.2.2.1)).mono (by lia),((hh.mul st6.2.2.2.2.1).sub (ht.mul so6.2.2.2.2.1)).mono (by lia),((hh.mul st6.2.2.2.2.2).sub (ht.mul so6.2.2.2.2.2)).mono (by lia)⟩
def c6L (c:C6):W:=.lst [.int c.1,.int c.2.1,.int c.2.2.1,.int c.2.2.2.1,.int c.2.2.2.2.1,.int c.2.2.2.2.2]
def afS (c0:Ah):Prop:=∀{h:Gh}{w:W}{a b c d e:Tr}{m:Nat}{Q:WK}{E:Ce},Ca h w [a,b,c,d,e]->m<=790->HB m a->HB m b->HB m c->HB m d->HB m e->Q (c6L (ug a b c d e)) h->c0 [w] h Q E
theorem ajS {to}(hdt:qL dt)(hcr:wj cr)(hto:ac4 to):afS (Cd dt cr to):=by
 intro h w a b c d e m Q E src hm sa sb sc sd se k;have at0:∀{Q:WK},Q (tw a) h->Av w (.int 0) h Q:=λ{Q} k=>src.at (i:=0) (by simp) k
 have at1:∀{Q:WK},Q (tw b) h->Av w (.int 1) h Q:=λ{Q} k=>src.at (i:=1) (by simp) k
 have at2:∀{Q:WK},Q (tw c) h->Av w (.int 2) h Q:=λ{Q} k=>src.at (i:=2) (by simp) k
 have at3:∀{Q:WK},Q (tw d) h->Av w (.int 3) h Q:=λ{Q} k=>src.at (i:=3) (by simp) k
 have at4:∀{Q:WK},Q (tw e) h->Av w (.int 4) h Q:=λ{Q} k=>src.at (i:=4) (by simp) k
 have s1:=eV sa sb;have s2:=eV sc sd;have s3:=eV sa sc;have s4:=eV sb sd;have d1:=je s1 se;have d2:=je s2 se;have d3:=je s3 se;have d4:=je s4 se;have so6:JK (4*m+3) (Zo a b c d):=JK.mono (vD s1 s2) (by lia);have st6:JK (4*m+3) (Zr a b c d):=JK.mono (vD s3 s4) (by lia);have v1:Hv (Zo a b c d) e=dt3 (crs a b) e*dt3 (crs c d) e:=pR _ _ _;have v2:Hv (Zr a b c d) e=dt3 (crs a c) e*dt3 (crs b d) e:=pR _ _ _;unfold ug at k;rw[v1,v2]at k;unfold Cd;refine qI rfl (σ:=[Dn w,Go,Go,Go,Go,Go,Go]) rfl ?_;rfl'
 refine at0 ?_;rfl'
 refine at1 ?_;rfl'
 refine hcr (m:=m) (by lia) sa sb ?_;rfl'
 refine at2 ?_;rfl'
 refine at3 ?_;rfl'
 refine hcr (m:=m) (by lia) sc sd ?_;rfl'
 refine at0 ?_;rfl'
 refine at2 ?_;rfl'
 refine hcr (m:=m) (by lia) sa sc ?_;rfl'
 refine at1 ?_;rfl'
 refine at3 ?_;rfl'
 refine hcr (m:=m) (by lia) sb sd ?_;rfl'
 refine at4 ?_;rfl'
 refine hdt (m:=m+m+1) (by lia) s1 (se.mono<|by lia) ?_;rfl'
 refine at4 ?_;rfl'
 refine hdt (m:=m+m+1) (by lia) s2 (se.mono<|by lia) ?_;rfl'
 refine at4 ?_;rfl'
 refine hdt (m:=m+m+1) (by lia) s3 (se.mono<|by lia) ?_;rfl'
 refine at4 ?_;rfl'
 refine hdt (m:=m+m+1) (by lia) s4 (se.mono<|by lia) ?_;have hh:Sm (8*m+10) (dt3 (crs a b) e*dt3 (crs c d) e):=(d1.mul d2).mono (by lia);have ht:Sm (8*m+10) (dt3 (crs a c) e*dt3 (crs b d) e):=(d3.mul d4).mono (by lia);rfl'
 refine hto (m:=m+m+1) (by lia) s3 s4 ?_;rfl'
 refine hto (m:=m+m+1) (by lia) s1 s2 ?_;generalize dt3 (crs a b) e*dt3 (crs c d) e=hr at hh k;generalize dt3 (crs a c) e*dt3 (crs b d) e=th at ht k;unfold Zo at k so6;unfold Zr at k st6;generalize vA (crs a b) (crs c d)=o at so6 k;generalize vA (crs a c) (crs b d)=t at st6 k;obtain⟨o1,o2,o3,o4,o5,o6⟩:=o;obtain⟨t1,t2,t3,t4,t5,t6⟩:=t;obtain⟨so1,so2,so3,so4,so5,so6⟩:=so6;obtain⟨st1,st2,st3,st4,st5,st6⟩:=st6;simp only at so1 so2 so3 so4 so5 so6 st1 st2 st3 st4 st5 st6;rfl'
 exact k
def Li (c0:Ah):Prop:=∀{h:Gh}{w:W}{a b c d e:Tr}{m:Nat}{Q:WK}{E:Ce},Ca h w [a,b,c,d,e]->m<=790->OkT m [a,b,c,d,e]->(G5 [a,b,c,d,e]->∀(C:C6) (k:Int),k≠0->ug a b c d e=kC k C->Ml (M9 C)->JK (Zx m) C->Q (Jp C) h)->(¬[a,b,c,d,e].Nodup->E ⟨"Alike",[]⟩ h)->([a,b,c,d,e].Nodup->yg [a,b,c,d,e]=true->E ⟨"FourOnLine",[]⟩ h)->c0 [w] h Q E
theorem aib {al ho mi:Ah}(hpl:Jw pl)(hal:T5 al)(hho:af0 ho)(hmi:afS mi):Li (zK pl al ho mi):=by
 intro h w a b c d e m Q E src hm hs k k1 k2;refine qI rfl (σ:=[Dn w]) rfl ?_;rfl'
 refine hal src (by simp) ?_;by_cases nd:[a,b,c,d,e].Nodup
 ·rw[decide_eq_true nd];unfold qP;rfl'
  refine hho (m:=m) (by lia) src (by simp) hs ?_;by_cases f:yg [a,b,c,d,e]=true
  ·rw[f];rfl'
   exact k2 nd f
  ·have f:=by simpa using f
   have G:=aaA (λt ht=>(hs t ht).1) nd f;rw[f];rfl'
   refine hmi src hm (hs a<|by simp).2 (hs b<|by simp).2 (hs c<|by simp).2 (hs d<|by simp).2 (hs e<|by simp).2 ?_;refine hpl.c6p (m:=Zx m) (.inl rfl) (U5<|Br.of G) (akX (hs a<|by simp).2 (hs b<|by simp).2 (hs c<|by simp).2 (hs d<|by simp).2 (hs e<|by simp).2) (by unfold Zx;lia) λC j j0 eC pC sC=>?_;exact k G C j j0 eC pC sC
 ·rw[decide_eq_false nd];rfl'
  exact k1 nd
def pom (c:C6)(p q:Tr):Int:=dt3 p (vm (cU c) q)
def K4 (x:Int)(p:Tr)(y:Int)(q:Tr):Tr:=(x*p.1+y*q.1,x*p.2.1+y*q.2.1,x*p.2.2+y*q.2.2)
theorem vX (c)(p q)(x y):Hv c (K4 x p y q)=x*x*Hv c p+y*y*Hv c q+x*y*pom c p q:=by
 simp[Hv,pom,dt3,vm,cU,K4];grind
theorem akI (c)(p q)(x y):pom c p (K4 x p y q)=x*(2*Hv c p)+y*pom c p q:=by
 simp[Hv,pom,dt3,vm,cU,K4];grind
theorem Lf (c)(k)(p):Hv c (sc k p)=k*k*Hv c p:=by
 simp[Hv,sc];grind
theorem ac7 (c)(k)(p q):pom c p (sc k q)=k*pom c p q:=by
 simp[pom,dt3,vm,sc];grind
theorem wk (c)(p):pom c p p=2*Hv c p:=by
 simp[pom,dt3,vm,cU,Hv];grind
theorem Pa (l p q:Tr)(x y:Int):dt3 l (K4 x p y q)=x*dt3 l p+y*dt3 l q:=by
 simp[dt3,K4];grind
theorem J8 (p q)(x y z w):crs (K4 x p y q) (K4 z p w q)=sc (x*w-y*z) (crs p q):=by
 simp[crs,K4,sc];grind
theorem aef {t:Tr}(h:t≠(0,0,0)):dt3 t t≠0:=by
 obtain⟨a,b,c⟩:=t;intro e;simp[dt3]at e;have n:∀x:Int,0<=x*x:=λx=>by
  rcases Int.le_total 0 x with q|q
  exact Int.mul_nonneg q q;have:=Int.mul_nonneg (show 0<=-x by lia) (show 0<=-x by lia)
  rwa[Int.neg_mul_neg]at this
 have ea:=n a;have eb:=n b;have ec:=n c;have z:∀x:Int,x*x=0->x=0:=λx h=>(R0.mp h).elim id id
 exact h<|by rw[z a<|by lia,z b<|by lia,z c<|by lia]
theorem span {x}(l0:l≠(0,0,0))(hp:Pl p)(hb:Pl b)(ne:b≠p)(lp:dt3 l p=0)(lb:dt3 l b=0)(lx:dt3 l x=0):∃k s t,k≠0/\sc k x=K4 s p t b:=by
 have d0:=flat l0 lp lb lx;refine⟨dt3 _ _,dt3 (crs x b)<|crs p b,dt3 (crs p x)<|crs p b,aef<|fJ hp hb λe=>ne e.symm,?_⟩;obtain⟨b1,b2,b3⟩:=b;simp[dt3,crs]at d0;simp[sc,K4,dt3,crs];grind
theorem T8 {x}{s t}(hp:Pl p)(hx:Pl x)(k0:k≠0)(e:sc k x=K4 s p t b)(ne:x≠p):t≠0:=by
 rintro rfl;have e':sc k x=sc s p:=by
  rw[e];simp[K4,sc];grind
 have s0:s≠0:=by
  rintro rfl;refine hx.ne<|(jz k0).mp ?_
  rw[e'];simp[sc]
 exact ne<|Np hx hp ⟨k,k0,rfl⟩ ⟨s,s0,e'⟩
def InC (c:C6)(l:Tr):Prop:=∀x,dt3 l x=0->Hv c x=0
def Tf (c:C6)(p l u:Tr):Prop:=Pl u/\dt3 l u=0/\Hv c u=0/\(∀x,Pl x->dt3 l x=0->Hv c x=0->x=p\/x=u)/\∀x,Pl x->dt3 l x=0->x≠p->(u=p↔pom c p x=0)
theorem mz {a b:Int}(h:a*b=0)(h0:a≠0):b=0:=(R0.mp h).resolve_left h0
theorem M7 {c:C6}(l0:l≠(0,0,0))(hp:Pl p)(hb:Pl b)(ne:b≠p)(lp:dt3 l p=0)(lb:dt3 l b=0)(wp:Hv c p=0)(wb:Hv c b=0)(g:pom c p b=0):InC c l:=by
 intro x lx;obtain⟨k,s,t,k0,e⟩:=span l0 hp hb ne lp lb lx;have w:=Lf c k x;rw[e,vX,wp,wb,g]at w;refine mz ?_<|Int.mul_ne_zero k0 k0
 lia
theorem Yj {c}(lp:dt3 l p=0)(lb:dt3 l b=0)(i:InC c l):pom c p b=0:=by
 have e:=vX c p b 1 1;rw[i _ lp,i _ lb,i _ (by rw[Pa,lp,lb];rfl)]at e;lia
theorem acw {c}(lp:dt3 l p=0)(lb:dt3 l b=0)(i:InC c l):K4 (pom c b b) p (-(2*pom c p b)) b=(0,0,0):=by
 rw[Yj lp lb i,Yj lb lb i];simp[K4]
theorem K9 {c}(l0:l≠(0,0,0))(hp:Pl p)(hb:Pl b)(ne:b≠p)(lp:dt3 l p=0)(lb:dt3 l b=0)(wp:Hv c p=0)(hu:Pl u)(par:Je (K4 (pom c b b) p (-(2*pom c p b)) b) u):Tf c p l u:=by
 have c0:crs p b≠(0,0,0):=fJ hp hb λe=>ne e.symm
 have lu:dt3 l u=0:=by
  rw[<-J7 par,Pa,lp,lb];simp
 obtain⟨j,j0,e⟩:=par;rw[wk]at e;have cE:∀s t:Int,crs (K4 s p t b) u=(0,0,0)↔s*pom c p b+t*Hv c b=0:=by
  intro s t;have q:crs (K4 s p t b) (sc j u)=sc (-2*(s*pom c p b+t*Hv c b)) (crs p b):=by
   rw[<-e,J8];grind
  have q1:crs (K4 s p t b) (sc j u)=sc j (crs (K4 s p t b) u):=by
   have:=Lj 1 j (K4 s p t b) u
   simp only[Int.one_mul]at this;rw[<-this];simp[sc]
  rw[q1]at q;constructor;intro z;rw[z]at q;have:-2*(s*pom c p b+t*Hv c b)=0:=Ro λn=>c0 ((jz n).mp (by rw[<-q];simp[sc]))
  lia;intro z;refine(jz j0).mp ?_;rw[q,z];simp[sc]
 have onlyx:∀x,Pl x->dt3 l x=0->Hv c x=0->x=p\/x=u:=by
  intro x px lx wx;obtain⟨k,s,t,k0,ex⟩:=span l0 hp hb ne lp lb lx;by_cases xp:x=p
  exact .inl xp;have t0:=T8 hp px k0 ex xp;have w:=Lf c k x;rw[ex,vX,wp,wx]at w;have z:s*pom c p b+t*Hv c b=0:=mz (a:=t) (by grind) t0;have:=(cE s t).mpr z
  rw[<-ex]at this;refine .inr<|wg px hu<|(jz k0).mp ?_
  have q:=Lj k 1 x u;have u1:sc 1 u=u:=by simp[sc]
  rw[u1,this,Int.mul_one]at q;exact q.symm
 have up:u=p↔pom c p b=0:=by
  constructor;rintro rfl;have:crs (K4 1 u 0 b) u=(0,0,0):=by
   have:K4 1 u 0 b=u:=by simp[K4]
   rw[this,FP]
  have:=(cE 1 0).mp this
  lia;intro g;refine(wg hp hu ?_).symm;have:K4 1 p 0 b=p:=by simp[K4]
  rw[<-this];exact(cE 1 0).mpr (by lia)
 refine⟨hu,lu,?_,onlyx,?_⟩;have w:=Lf c j u;rw[<-e,vX,wp]at w;refine mz (a:=j*j) ?_<|Int.mul_ne_zero j0 j0
 grind
 intro x px lx xp;obtain⟨k,s,t,k0,ex⟩:=span l0 hp hb ne lp lb lx;have t0:=T8 hp px k0 ex xp;have w:=ac7 c k p x;rw[ex,akI,wp]at w;rw[up];constructor;intro g;rw[g]at w;exact mz (a:=k) (by lia) k0;intro g;rw[g]at w;exact mz (a:=t) (by lia) t0
theorem zaV {c v}(hb:Pl b)(lb:dt3 l b=0)(ne:b≠p)(h1:Tf c p l u)(h2:Tf c p l v):u=v:=by
 obtain⟨a1,a2,a3,a4,a5⟩:=h1;obtain⟨b1,b2,b3,b4,b5⟩:=h2;grind
def aaM (c0:Ah):Prop:=∀{h:Gh}{Q:WK}{E:Ce},Q (.lst (([(1,0,0),(0,1,0),(0,0,1),(1,1,1)]:List Tr).map tw)) h->c0 [] h Q E
theorem akJ:aaM Nt:=by
 intro h Q E k;exact k
def aaG (c0:Ah):Prop:=∀{h:Gh}{l p:Tr}{m:Nat}{Q:WK}{E:Ce},1<=m->m<=2000->HB m l->Pl l->Pl p->(∀b,Pl b->dt3 l b=0->b≠p->HB (m+m+1) b->Q (tw b) h)->c0 [tw l,tw p] h Q E
variable {me ti:Ah}
theorem adI (hme:JoinOk me)(hti:aaM ti):aaG (fY me ti):=by
 intro h l p m Q E h1 hm hl pl pp k;have s1:Sm m 1:=.mono (m:=1) (by unfold Sm;decide) h1;have s0:Sm m 0:=.mono (m:=1) (by unfold Sm;decide) h1;have se:∀e∈([(1,0,0),(0,1,0),(0,0,1)]:List Tr),HB m e/\Pl e:=by
  intro e he;simp only[K5,Ot,or_false]at he;rcases he with rfl|rfl|rfl
  exact⟨⟨s1,s0,s0⟩,by unfold Pl Ml;decide +kernel⟩;exact⟨⟨s0,s1,s0⟩,by unfold Pl Ml;decide +kernel⟩;exact⟨⟨s0,s0,s1⟩,by unfold Pl Ml;decide +kernel⟩
 unfold fY;rfl'
 refine hti ?_;refine bW ?_;rfl'
 refine Ma (us:=([(1,0,0),(0,1,0),(0,0,1)]:List Tr).map tw) rfl ?_;refine Ld rfl<|sX rfl ?_
 refine dR (λi acc h'=>h'=h/\∃ts:List Tr,acc=ts.map tw/\ts.length<=i/\(∀t∈ts,Pl t/\dt3 l t=0/\HB (m+m+1) t)/\∀j,j<i->∀e,([(1,0,0),(0,1,0),(0,0,1)]:List Tr)[j]?=Dn e->(crs l e=(0,0,0)\/∃t∈ts,Je (crs l e) t)) ?_ ?_ ⟨rfl,[],rfl,IK _,λt ht=>absurd ht<|by simp,λj hj=>absurd hj<|by lia⟩
 ·rintro i w acc h' N hN ew ⟨rfl,ts,rfl,amy,good,old⟩;obtain⟨e,ee,rfl⟩:=zp ew;obtain⟨hse,ple⟩:=se e (RN ee);refine⟨[tw e],rfl,?_⟩;have nxt:∀ts':List Tr,ts'.length<=ts.length+1->(∀t∈ts,t∈ts')->(∀t∈ts',Pl t/\dt3 l t=0/\HB (m+m+1) t)->(crs l e=(0,0,0)\/∃t∈ts',Je (crs l e) t)->N (ts'.map tw) h':=λts' q1 q2 q3 q4=>hN _ _ ⟨rfl,ts',rfl,by lia,q3,λj hj e' he'=>by
   by_cases q:j<i
   exact(old j q e' he').imp id λ⟨t,ht,pt⟩=>⟨t,q2 t ht,pt⟩;have ej:j=i:=by lia
   rw[ej,ee]at he';cases he'
   exact q4⟩
  rfl'
  refine aaV (λz=>?_) λz=>?_
  ·rfl'
   refine hme (m:=m) (by lia) hl hse pl ple (λq=>z q.symm) λt pt par st=>?_;have:=nxt (ts++[t]) (by simp) (λx hx=>Yg _ hx) (λx hx=>by
    rcases Vz.mp hx with q|q
    exact good x q;rw[R8.mp q];exact⟨pt,(J7 par).mp (by rw[vI];exact lX _ _),st⟩) (.inr ⟨t,by simp,par⟩)
   rw[R7]at this;exact this
  have el:e=l:=Ro λq=>z q
  subst el;exact nxt ts (by lia) (λ_ h=>h) good<|.inl<|FP _
 ·rintro acc h' ⟨rfl,ts,rfl,amy,good,old⟩;have ex:∃t∈ts,t≠p:=Ro λn=>by
   have al:∀t∈ts,t=p:=λt ht=>Ro λq=>n ⟨t,ht,q⟩
   have o:∀j,j<3->∀e,([(1,0,0),(0,1,0),(0,0,1)]:List Tr)[j]?=Dn e->(crs l e=(0,0,0)\/Je (crs l e) p):=λj hj e he=>(old j hj e he).imp id λ⟨t,ht,pt⟩=>by rw[<-al t ht];exact pt
   exact ac3 pl.ne (o 0 (by decide) _ rfl) (o 1 (by decide) _ rfl)<|o 2 (by decide) _ rfl
  have amy:ts.length<=3:=amy;rfl'
  refine sX (Nat.ble_eq_true_of_le (by rw[Hi];lia)) ?_;refine dR (λi acc h2=>h2=h'/\acc=((ts.take i).filter (·≠p)).map tw) ?_ ?_ ⟨rfl,rfl⟩
  ·rintro i w acc h2 N hN ew ⟨rfl,rfl⟩;obtain⟨t,et,rfl⟩:=zp ew;refine⟨[tw t],rfl,?_⟩;rfl'
   refine aaV (λz=>?_) λz=>?_
   ·rfl'
    refine hN _ _ ⟨rfl,?_⟩;rw[N7,et];simp[z]
   refine hN _ _ ⟨rfl,?_⟩;rw[N7,et];simp[Classical.not_not.mp z]
  ·rintro acc h2 ⟨rfl,rfl⟩;rw[Hi,Q9];cases q:ts.filter (·≠p)with
   | nil=>
    obtain⟨t,ht,tp⟩:=ex;have:t∈ts.filter (·≠p):=Vn.mpr ⟨ht,by simp[tp]⟩
    rw[q]at this;exact absurd this<|by simp
   | cons b r=>
    have hb:b∈ts.filter (·≠p):=by rw[q];exact RM
    obtain⟨hb1,hb2⟩:=Vn.mp hb;obtain⟨g1,g2,g3⟩:=good b hb1;rw[Nj];refine gH (x:=.lst (tw b::r.map tw)) (i:=0) (w:=tw b) (ws:=tw b::r.map tw) rfl (by unfold Mv Qi;simp) ?_;rfl'
    exact k b g1 g2 (by simpa using hb2) g3
theorem aaI:Fp rA:=by
 intro h w ns Q E hw q;suffices key:vg (JT (ao 0)) _ _
   {nx:=lQ E {nx:=λ_ h'=>Q .non h',rt:=λw h'=>Q w h'},rt:=λw h'=>Q w h'} [Dn w,Dn _,Go,Go] h from key
 refine zbO rfl hw (λi σ h'=>h'=h/\∃o2 o3,σ=[Dn w,Dn<|.int<|gL<|ns.take i,o2,o3]) (λi σ h' e=>e.1 ▸ hw) ?_ ?_ ⟨rfl,Go,Go,rfl⟩;rintro i n σ h' N hN en ⟨rfl,o2,o3,rfl⟩;have f0:=aaB (ns.take i);generalize hf:gL _=f at f0;refine⟨λm σ h2=>h2=h'/\∃x y,σ=[Dn w,Dn<|.int x,Dn _,Dn<|.int y]/\0<=x/\0<=y/\RL x y=RL n f/\m=y.toNat,⟨_,rfl,f,_,rfl,f0,Oq n,?_,rfl⟩,?_⟩;rw[abs_eq,Int.gcd_comm];simp[RL];rintro m σ h2 ⟨rfl,x,y,rfl,x0,y0,hg,rfl⟩;refine⟨λe=>?_,λe=>?_⟩;have hy:=by simpa using e
 obtain⟨g1,g2,g3⟩:=Gy x0 hy;refine⟨by lia,(⟨(x.fmod y).toNat,by lia,rfl,y,x.fmod y,rfl,y0,g2,g1.trans hg,rfl⟩)⟩;have hy:y=0:=by
  have:=by simpa using e
  lia
 subst hy;refine hN _ _ ⟨rfl,Dn<|.int n,Dn<|.int 0,?_⟩;have:gL (ns.take (i+1))=x:=by rw[Lb en,hf];unfold gF;rw[<-hg];exact qJ x0
 rw[this];rintro σ h' ⟨rfl,o2,o3,rfl⟩
 rwa[Q9]
theorem akL {ld}(hld:Fp ld):PB (zU ld):=by
 intro h w ns m Q E hw h0 hs hm hl q;have hz:ns.length<=Il:=Ja hl (by decide);have fin:∀by',(by'=if iy ns<0 then 0-gL ns else gL ns)->∀o2,q9 ld E {nx:=λ_ h'=>Q .non h',rt:=λw h'=>Q w h'} [Dn w,Dn (.int by'),o2] h:=by
  intro by' e o2
  obtain⟨hn,pl,eq⟩:=G4 h0 e;show JB JX [1] (JT (ao 0)) jF _ [Dn w,Dn (.int by'),o2] h _;refine Kc (w:=w) rfl hw hz (λi acc h'=>h'=h/\acc=((ns.take i).map (·.fdiv by')).map W.int) (λi acc h' e=>e.1 ▸ hw) ?_ ?_ ⟨rfl,rfl⟩;rintro i t acc h' N hN et ⟨rfl,rfl⟩;refine And.intro ⟨hn,m,hm,(by refine(ZK hs).le ?_;rw[e];split<;>lia)⟩ ?_;refine hN _ _ ⟨rfl,?_⟩;rw[N7,et];simp;rintro acc h' ⟨rfl,rfl⟩;rw[Q9];exact q _ by' hn eq pl<|Dy hs hn eq
 refine hld hw ?_;show JB JX [] (JT (ao 0)) _ (ao 0) [Dn w,Dn _,Go] h _;refine Kc (w:=w) rfl hw hz (λi acc h'=>h'=h/\acc=((ns.take i).filter (·≠0)).map W.int) (λi acc h' e=>by rw[e.1];exact hw) ?_ ?_ ⟨rfl,rfl⟩;rintro i n acc h' N hN en ⟨rfl,rfl⟩;show JQ _ _ _;rw[bU];by_cases h0:n=0
 refine adk (by simp[h0])<|hN _ _ ⟨rfl,?_⟩
 rw[N7,en];simp[h0];refine Rj (by simp[h0])<|hN _ _ ⟨rfl,?_⟩
 rw[N7,en];simp[h0];rintro acc h' ⟨rfl,rfl⟩;rw[Q9];have el:=aiR h0;generalize(ns.filter (·≠0)).map W.int=F at el;show(match Mv F (-1)with
   | some w=>_
   | none=>False)
 rw[el];refine yr (λhl=>?_)<|λhl=>?_
 exact fin _ (by rw[if_pos hl]) _;exact fin _ (by rw[if_neg hl]) _
theorem PB.tr (hc:PB c0)(hw:h.c n=Dn (.lst [.int u.1,.int u.2.1,.int u.2.2]))(h0:u≠(0,0,0))(hs:HB m u)(hm:m<=8000)(k:∀t,Pl t->HB m t->Q (tw t) h):c0 [.loc n] h Q E:=by
 refine hc (ns:=tl u) (.inr<|.inr ⟨n,rfl,hw⟩) (YM h0) hs.all hm (by simp[tl]) λms f f0 e pm sm=>?_;obtain⟨v,rfl,_⟩:=KD e;exact k v pm ⟨sm _<|by simp[tl],sm _<|by simp[tl],sm _<|by simp[tl]⟩
def Wv (c0:Ah):Prop:=∀{h:Gh}{a:Int}{Q:WK}{E:Ce},(∀h',Ph h' h.nx->h'.nx=h.nx+1->(∀m,m≠h.nx->h'.c m=h.c m)->Q (.loc h.nx) h')->c0 [.int a] h Q E
theorem ab6:Wv Mp:=by
 intro h a Q E k;refine And.intro ⟨by decide,by decide,by decide⟩<|And.intro (.inr<|.inr ?_) ?_
 have g:∀b:Bool,Sm 64 (if b=true then(1:Int)else 0):=λb=>by
  cases b;exact Sm.zero;exact .lit rfl
 exact g _;refine And.intro (show _≠0 by decide)<|k _ ⟨_,_,Ba _ _,?_,(by lia)⟩ rfl λm hm=>oZ hm
 rw[iC (by decide)];exact XR _ (by decide)
theorem M5 {t}(x:t σ h λws h1=>gG ws.length (Q (.loc h1.nx) (h1.new (.lst ws)))):pH t σ h Q:=x
theorem ix8 {d:Int}(h0:0<=d)(h1:d<8)(k:∀j:Int,0<=j->j<=3->Q (.int j) h):Av (.lst [.int 0,.int 1,.int 1,.int 1,.int 2,.int 1,.int 3,.int 1]) (.int d) h Q:=by
 rcases(show d=0\/d=1\/d=2\/d=3\/d=4\/d=5\/d=6\/d=7 by lia)with rfl|rfl|rfl|rfl|rfl|rfl|rfl|rfl
 exact k 0 (by decide)<|by decide
 exact k 1 (by decide)<|by decide
 exact k 1 (by decide)<|by decide
 exact k 1 (by decide)<|by decide
 exact k 2 (by decide)<|by decide
 exact k 1 (by decide)<|by decide
 exact k 3 (by decide)<|by decide
 exact k 1 (by decide)<|by decide
theorem abI {a b c}(e:h.c n=Dn (.lst [.int a,.int b,.int c]))(k:Q (.bl (decide ((a,b,c)=((0,0,0):Tr)))) h):Ib (.loc n) (.lst [.int 0,.int 0,.int 0]) h Q:=by
 have d:Bu h (.loc n)=Dn (.lst [.int a,.int b,.int c]):=by
  show(match h.c n with
   | some (.lst ws)=>Dn _
   | _=>Go)=_
  rw[e]
 unfold Ib;rw[d];show Q _ h
 rwa[afk,show decide _=decide ((a,b,c)=((0,0,0):Tr))from decide_eq_decide.mpr (by simp)]
def acN (c0:Ah):Prop:=∀{h:Gh}{n:Nat}{top:Int}{Q:WK}{E:Ce},Ph h n->n<h.nx->top=0\/top=1000000000->(∀t h',Pl t->HB 30 t->Ph h' n->h.nx<=h'.nx->(∀m,m<h.nx->m≠n->h'.c m=h.c m)->Q (tw t) h')->c0 [.loc n,.int top] h Q E
theorem Za {dr}(hdr:Gw dr)(hpl:PB pl):acN (vh dr pl):=by
 intro h n top Q E hb hn htop k;have sml:∀{x:Int},-1000000000<=x->x<1000000000->Sm 30 x:=λh1 h2=>Cr (by lia) (by lia)
 have t3:∀{g:Gh}{r:Nat}{u:Tr}{s1:Option W},g.c r=Dn (.lst [.int u.1,.int u.2.1,.int u.2.2])->u≠(0,0,0)->HB 30 u->Ph g n->h.nx<=g.nx->(∀m,m<h.nx->m≠n->g.c m=h.c m)->nP dr pl E {nx:=λ_ h'=>Q .non h',rt:=λw h'=>Q w h'} [Dn (.loc n),s1,Dn (.loc r)] g:=by
  intro g r u s1 e u0 su bg hx ho;refine hpl.tr e u0 su (by decide) λt pt st=>?_;exact k t g pt st bg hx ho
 have t2:∀{g:Gh}{r:Nat}{a b c:Int}{s1:Option W},g.c r=Dn (.lst [.int a,.int b,.int c])->HB 30 (a,b,c)->Ph g n->h.nx<=r->r<g.nx->(∀m,m<h.nx->m≠n->g.c m=h.c m)->nW dr pl E {nx:=λ_ h'=>Q .non h',rt:=λw h'=>Q w h'} [Dn (.loc n),s1,Dn (.loc r)] g:=by
  intro g r a b c s1 e su bg hx hr ho;unfold nW;rfl'
  refine abI e ?_;rfl'
  refine yr (λz=>?_) λz=>?_
  ·simp only[Prod.mk.injEq]at z;obtain⟨rfl,rfl,rfl⟩:=z;have o:Sm 30 1:=sml (by decide) (by decide);have o0:Sm 30 0:=sml (by decide) (by decide);rfl'
   refine hdr (n:=n) (many:=3) bg (by decide) (by unfold Sm;decide +kernel) λj g2 j0 j1 b2 o2=>?_;have e2:g2.c r=Dn (.lst [.int 0,.int 0,.int 0]):=by rw[o2.2 r (by lia)];exact e
   have fin:∀{g3:Gh}{u:Tr},g3.c r=Dn (.lst [.int u.1,.int u.2.1,.int u.2.2])->u≠(0,0,0)->HB 30 u->(∀m,m≠r->g3.c m=g2.c m)->g3.nx=g2.nx->nP dr pl E {nx:=λ_ h'=>Q .non h',rt:=λw h'=>Q w h'} [Dn (.loc n),s1,Dn (.loc r)] g3:=by
    intro g3 u e3 u0 su o3 x3;refine t3 e3 u0 su ?_ (by rw[x3,o2.1];lia) λm hm hmn=>?_;obtain⟨x,y,ex,y0,y1⟩:=b2;exact⟨x,y,by rw[o3 n<|by lia];exact ex,y0,y1⟩;rw[o3 m (by lia),o2.2 m hmn];exact ho m hm hmn
   rcases(show j=0\/j=1\/j=2 by lia)with rfl|rfl|rfl
   refine Bt e2 (j:=0) rfl rfl λg3 e3 o3 x3=>?_;exact fin (u:=(1,0,0)) e3 (by decide) ⟨o,o0,o0⟩ o3 x3;refine Bt e2 (j:=1) rfl rfl λg3 e3 o3 x3=>?_;exact fin (u:=(0,1,0)) e3 (by decide) ⟨o0,o,o0⟩ o3 x3;refine Bt e2 (j:=2) rfl rfl λg3 e3 o3 x3=>?_;exact fin (u:=(0,0,1)) e3 (by decide) ⟨o0,o0,o⟩ o3 x3
  ·rfl'
   exact t3 (u:=(a,b,c)) e z su bg (by lia) ho
 unfold vh;rfl'
 refine M5 ?_;rfl'
 refine hdr (n:=n) (many:=5) hb (by decide) (by unfold Sm;decide +kernel) λd1 g1 a0 a1 b1 o1=>?_;rfl'
 refine hdr (n:=n) (many:=5) b1 (by decide) (by unfold Sm;decide +kernel) λd2 g2 c0 c1 b2 o2=>?_;rfl'
 refine hdr (n:=n) (many:=8) b2 (by decide) (by unfold Sm;decide +kernel) λd3 g3 f0 f1 b3 o3=>?_;refine ix8 f0 f1 λj j0 j1=>?_;have x3:g3.nx=h.nx:=by rw[o3.1,o2.1,o1.1]
 have u3:∀m,m≠n->g3.c m=h.c m:=λm hm=>by rw[o3.2 m hm,o2.2 m hm,o1.2 m hm]
 rfl'
 have en:=Ba g3 (.lst [.int (d1-2),.int (d2-2),.int j]);have ex:(g3.new (.lst [.int (d1-2),.int (d2-2),.int j])).nx=g3.nx+1:=rfl;have eo:∀m,m≠g3.nx->(g3.new (.lst [.int (d1-2),.int (d2-2),.int j])).c m=g3.c m:=λm hm=>oZ hm
 generalize(g3.new (.lst [.int (d1-2),.int (d2-2),.int j]))=g4 at en ex eo;have b4:Ph g4 n:=by
  obtain⟨x,y,e,y0,y1⟩:=b3;exact⟨x,y,by rw[eo n<|by lia];exact e,y0,y1⟩
 have sT:Sm 30 top:=by
  rcases htop with e|e<;>rw[e]
  exact sml (by decide)<|by decide
  exact Cr (by decide)<|by decide
 have s2:Sm 60 (2*top):=by
  rcases htop with e|e<;>rw[e]
  exact Cr (by decide)<|by decide
  exact Cr (by decide)<|by decide
 rfl'
 refine yr (λhp=>?_) λhp=>?_
 ·have htop:top=1000000000:=htop.resolve_left (by lia);rfl'
  refine M5 ?_;rfl'
  refine hdr (n:=n) (many:=2*top) b4 (by lia) s2 λd5 g5 p0 p1 b5 o5=>?_;rfl'
  refine hdr (n:=n) (many:=2*top) b5 (by lia) s2 λd6 g6 q0 q1 b6 o6=>?_;rfl'
  refine hdr (n:=n) (many:=top) b6 (by lia) (sT.mono<|by decide) λd7 g7 r0 r1 b7 o7=>?_;have x7:g7.nx=h.nx+1:=by rw[o7.1,o6.1,o5.1];lia
  have u7:∀m,m<h.nx->m≠n->g7.c m=h.c m:=λm hm hmn=>by rw[o7.2 m hmn,o6.2 m hmn,o5.2 m hmn,eo m (by lia)];exact u3 m hmn
  rfl'
  refine t2 (Ba g7 _) ⟨sml (by show _<=d5-top;lia) (by show d5-top<_;lia),sml (by show _<=d6-top;lia) (by show d6-top<_;lia),sml (by show _<=d7;lia) (by show d7<_;lia)⟩ ?_ (by lia) (by show g7.nx<g7.nx+1;lia) λm hm hmn=>by rw[oZ (by lia)];exact u7 m hm hmn
  obtain⟨x,y,e,y0,y1⟩:=b7;exact⟨x,y,by rw[oZ<|by lia];exact e,y0,y1⟩
 ·rfl'
  exact t2 en ⟨sml (by show _<=d1-2;lia) (by show d1-2<_;lia),sml (by show _<=d2-2;lia) (by show d2-2<_;lia),sml (by show _<=j;lia) (by show j<_;lia)⟩ b4 (by lia) (by lia) λm hm hmn=>by rw[eo m (by lia)];exact u3 m hmn
def O5:List Str:=["free", "join", "meet", "curve", "about", "pole", "other"]
def lF (x:Str):List Str:=if x = "join" then["spot", "spot"]else if x = "meet" then["line", "line"]else if x = "about" then["curve", "spot"]else
 if x = "curve" then["spot", "spot", "spot", "spot", "spot"]else if x = "pole" then["curve", "line"]else if x = "other" then["curve", "spot", "spot"]else[]
def Nw1 (h h':Gh):Prop:=(∀m,m≠h.nx->h'.c m=h.c m)/\h'.nx=h.nx+1
def V0 (c0:Ah):Prop:=∀{h:Gh}{x:Str}{Q:WK}{E:Ce},x∈O5->(∀h',Nw1 h h'->Q (.lst ((lF x).map .str)) h')->c0 [.str x] h Q E
def afI:List (Key×W):=[(.inr "free",.lst []),(.inr "join",.lst [.str "spot",.str "spot"]),(.inr "meet",.lst [.str "line",.str "line"]),(.inr "about",.lst [.str "curve",.str "spot"]),
 (.inr "curve",.lst [.str "spot",.str "spot",.str "spot",.str "spot",.str "spot"]),(.inr "pole",.lst [.str "curve",.str "line"]),(.inr "other",.lst [.str "curve",.str "spot",.str "spot"])]
theorem akc (hx:x∈O5):pJ afI (.inr x)=Dn (.lst ((lF x).map .str)):=by
 unfold O5 at hx;simp at hx;rcases hx with e|e|e|e|e|e|e<;>subst e<;>rfl
theorem aa7:V0 Em:=by
 intro h x Q E hx k;show(match(h.new _).c h.nx with
  | some (.dct [])=>_
  | _=>False)
 rw[Ba];show(match(((h.new (.dct [])).set h.nx _).c h.nx)with
  | some (.dct kvs)=>_
  | _=>False)
 rw[rP];show(match((((h.new (.dct [])).set h.nx _).set h.nx _).c h.nx)with
  | some (.dct kvs)=>_
  | _=>False)
 rw[rP];show(match(((((h.new _).set h.nx (.dct _)).set h.nx _).set h.nx _).c h.nx)with
  | some (.dct kvs)=>_
  | _=>False)
 rw[rP];show(match((((((h.new (.dct [])).set h.nx _).set h.nx _).set h.nx _).set h.nx _).c h.nx)with
  | some (.dct kvs)=>_
  | _=>False)
 rw[rP];show(match pJ afI (.inr x)with
  | some w=>_
  | none=>False)
 rw[akc hx];refine k _ ⟨λm hm=>?_,rfl⟩;rw[jY hm,jY hm,jY hm,jY hm,oZ hm]
def lJ (x:Str):Str:=if x = "join" then "line" else if x = "about" then "line" else if x = "curve" then "curve" else "spot"
def JW (c0:Ah):Prop:=∀{h:Gh}{x:Str}{ws:List W}{Q:WK}{E:Ce},x∈O5->Q (.str (lJ x)) h->c0 [.tup (.str x::ws)] h Q E
theorem U6:JW vN:=by
 intro h x ws Q E hx k;unfold lJ at k;have ix:∀{Q':WK}{h':Gh},Q' (.str x) h'->Av (.tup (.str x::ws)) (.int 0) h' Q':=λz=>gH rfl (bZ rfl) z
 unfold vN;rfl'
 refine ix<|cI<|rC<|pW<|yr (λe=>?_)<|λe=>?_
 ·rw[if_pos e]at k;rfl'
  exact k
 ·rw[if_neg e]at k;rfl'
  refine ix<|cI<|rC<|pW<|yr (λe=>?_)<|λe=>?_
  rw[if_pos e]at k;exact k
  ·rw[if_neg e]at k;unfold ur;rfl'
   refine ix<|cI<|rC ?_
   by_cases e:x=("curve" : Str)
   rw[if_pos e]at k;rw[decide_eq_true e];exact k;rw[if_neg e]at k;rw[decide_eq_false e];exact k
def Row (w:W):Prop:=∃x ns,x∈O5/\w=.tup (.str x::(ns:List Int).map .int)
def Qa:W->Str
 | .tup (.str x::_)=>lJ x
 | _ => ""
theorem Row.sort (r:Row w)(hc:JW c0)(k:Q (.str (Qa w)) h):c0 [w] h Q E:=by
 obtain⟨x,ns,hx,e⟩:=r;subst e;exact hc hx k
inductive Th (h:Gh):W->Prop
 | int {i:Int}:Th h (.int i)
 | bl {b:Bool}:Th h (.bl b)
 | str {s:Str}:Th h (.str s)
 | non:Th h .non
 | tup {ws:List W}:Th h (.tup ws)
 | lst {ws:List W}:Th h (.lst ws)
 | loc {n:Nat}{ws:List W}(e:h.c n=Dn (.lst ws)) (l:n<h.nx):Th h (.loc n)
def agX:W->Bool
 | .int _=>true
 | _=>false
def ag0:W->Bool
 | .bl _=>true
 | _=>false
def nth (ss:List Str):W->Option Str
 | .int i=>if 0<=i then ss[i.toNat]? else Go
 | _=>Go
variable {ss:List Str}
theorem adh {v}(e:0<=v):nth ss (.int v)=ss[v.toNat]?:=by
 show(if 0<=v then ss[v.toNat]? else Go)=_;rw[if_pos e]
def X3 (c0:Ah):Prop:=∀{h:Gh}{b n:Nat}{rws:List W}{s:Str}{Q:WK}{E:Ce},Ph h b->h.c n=Dn (.lst rws)->b≠n->(∀r∈rws,Row r)->rws.length<=24->(∃r∈rws,Qa r=s) ->
 (∀(j:Nat) h',(rws.map Qa)[j]?=Dn s->Ph h' b->V2 b h h'->Q (.int j) h')->c0 [.loc b,.loc n,.str s] h Q E
theorem ajj {c1:Ah}(hd:Gw c0)(hs:JW c1):X3 (wR c0 c1):=by
 intro h b n rws s Q E hb hn ne hr hl hex k;have ev:=jG hn;unfold wR;rfl'
 refine eE ev<|aJ<|Jx (m:=rws.length) (by lia)<|sX (by rw[Hi];unfold rng;rw[XQ];exact Nat.ble_eq.mpr (by lia)) ?_
 refine dR (λi acc h'=>h'=h/\∃js:List Nat,acc=js.map (λj:Nat=>W.int (j:Int))/\js.length<=i/\((∃k,k<i/\∃r,rws[k]?=Dn r/\Qa r=s)->js≠[])/\∀j∈js,(rws.map Qa)[j]?=Dn s) ?_ ?_ ⟨rfl,[],rfl,IK _,λ⟨_,z,_⟩=>absurd z<|VL _,λj hj=>absurd hj<|by simp⟩;rintro i w acc h' N hN e ⟨rfl,js,rfl,jl,jn,jo⟩;rw[Jm]at e;obtain⟨x,ex,rfl⟩:=S6.mp e;have e0:=(lC ex).1;have hx:=(lC ex).2;rw[WT]at e0;subst e0;have hri:rws[x]?=Dn rws[x]:=N5 hx;refine⟨[.int (x:Int)],rfl,?_⟩;refine bN<|aW<|bH<|aB<|aW<|aA rfl<|aA rfl<|gH ev (bZ hri)<|aJ<|(hr _<|XS hx).sort hs (aA rfl<|rC<|pW ?_)
 by_cases z:Qa rws[x]=s
 rw[decide_eq_true z];refine gC<|aA rfl<|hN _ _ ⟨rfl,js++[x],by rw[R7];rfl,by rw[KJ];exact Nat.succ_le_succ jl,λ_ y=>?_,λj hj=>?_⟩
 exact absurd (congrArg Tc y) (by rw[KJ];exact Nat.succ_ne_zero _);rcases Vz.mp hj with hj|hj
 exact jo j hj;rw[R8.mp hj,Jm,hri,Option.map_some,z];rw[decide_eq_false z];refine uo<|hN _ _ ⟨rfl,js,rfl,Nat.le_succ_of_le jl,λ⟨q,hq,r,e1,e2⟩=>jn ⟨q,?_,r,e1,e2⟩,jo⟩
 rcases Nat.lt_or_ge q x with y|y
 exact y;have:q=x:=by lia
 subst this;rw[hri]at e1;cases e1;exact absurd e2 z
 ·rintro acc h' ⟨rfl,js,rfl,jl,jn,jo⟩;have hj:js≠[]:=by
   obtain⟨r,h1,h2⟩:=hex;obtain⟨q,hq,e⟩:=List.getElem_of_mem h1;refine jn ⟨q,?_,r,by rw[N5 hq,e],h2⟩;rw[Hi];unfold rng;rw[XQ];exact hq
  have hjl:js.length<=24:=by
   rw[Hi]at jl;unfold rng at jl;rw[XQ]at jl;lia
  have hj0:0<js.length:=List.length_pos_iff.mpr hj;rfl'
  rw[Hi];refine hd hb (by lia) (by unfold Sm;lia) λd h2 d0 d1 hb2 ho=>?_;obtain⟨dn,rfl⟩:=Yr d0;have hdn:dn<js.length:=by lia
  refine gH (ws:=js.map λj:Nat=>W.int (j:Int)) (w:=.int (js[dn]:Int)) rfl (bZ (by rw[Jm,N5 hdn];rfl)) ?_;exact k _ _ (jo _<|XS hdn) hb2 ho
def Gr (b:Nat)(h h':Gh):Prop:=h.nx<=h'.nx/\∀m,m<h.nx->m≠b->h'.c m=h.c m
theorem Gr.trans {b}{h h1 h2}(x:Gr b h h1)(y:Gr b h1 h2):Gr b h h2:=⟨Ja x.1 y.1,λm hm ne=>(y.2 m (Jq hm x.1) ne).trans (x.2 m hm ne)⟩
theorem V2.gr {b h1}(x:V2 b h h1):Gr b h h1:=⟨Nat.le_of_eq x.1.symm,λm _ ne=>x.2 m ne⟩
theorem Nw1.gr {b h1}(x:Nw1 h h1):Gr b h h1:=⟨x.2 ▸ Wc _,λm hm _=>x.1 m (JM hm)⟩
theorem Nw1.bag {b h1}(x:Nw1 h h1)(hb:Ph h b)(hl:b<h.nx):Ph h1 b:=by
 obtain⟨p,q,e,r⟩:=hb;exact⟨p,q,(x.1 b<|JM hl).trans e,r⟩
variable {rws:List W}
theorem aad {c1}(hs:JW c1)(hn:h.c n=Dn (.lst rws))(hr:∀r∈rws,Row r)(hl:rws.length<=24)(q:Q (.lst (rws.map λr=>.str (Qa r))) h):
  lcK JX [] jF (aF c1 E (aj (ao 0) aG)) σ Q ⟨rws,Dn (n,rws)⟩ h:=by
 refine gG.mk (Ja hl<|by decide)<|Bx (λi acc h'=>h'=h/\acc=(rws.take i).map λr=>.str<|Qa r) ?_ ?_ (by simp_all) ⟨rfl,rfl⟩
 rintro i acc h' ⟨rfl,_⟩ P p;exact⟨hn,p⟩;rintro i w acc h' N hN ew ⟨rfl,rfl⟩;refine⟨[w],rfl,jW<|gC<|bH<|aB<|aA rfl<|aJ<|(hr w<|RN ew).sort hs (hN _ _ ⟨rfl,?_⟩)⟩;rw[N7,ew,R7];rfl
theorem agE {y:W}{us:List Str}{a:Str}(e:dU h y=Dn (us.map .str))(k:Q (.bl (!decide (a∈us))) h):HX (.str a) y h Q:=by
 have e1:(Hq 20 (.str a)&&(us.map W.str).all (Hq 20))=true:=by
  rw[Qn];refine⟨rfl,Rm.mpr λw hw=>?_⟩;obtain⟨x,_,rfl⟩:=Ni.mp hw;rfl
 have e2:((us.map W.str).any λu=>Iz u (.str a))=decide (a∈us):=by
  rw[Bool.eq_iff_iff,YL,decide_eq_true_iff];constructor;rintro⟨w,hw,he⟩;obtain⟨x,hx,rfl⟩:=Ni.mp hw
  rwa[<-eq_of_beq he]
  intro ha;exact⟨.str a,Ni.mpr ⟨a,ha,rfl⟩,beq_self_eq_true a⟩
 unfold HX;rw[e];show JQ _ _ _
 rwa[e1,e2]
theorem ae9 {us:List Str}(hσ:sI ix σ=[Dn (.lst (ss.map .str))])(hl:us.length<=24)(q:∀ls,(ls=[]->∀u∈us,u∈ss)->ls.length<=24->Q (.lst (ls.map .str)) h):
  lcK JX ix (aR (Mk HX (ao 0) (ao 1))) (ao 0) σ Q ⟨us.map .str,Go⟩ h:=by
 refine gG.mk (by rw[Hi];exact Ja hl (by decide)) ?_;refine dR (λi acc h'=>h'=h/\∃ls:List Str,acc=ls.map .str/\ls.length<=i/\(ls=[]->∀u∈us.take i,u∈ss)) ?_ ?_ ⟨rfl,[],rfl,IK _,λ_ u hu=>by simp at hu⟩;rintro i w acc h' N hN e ⟨rfl,ls,rfl,ll,lh⟩;rw[Jm]at e;obtain⟨u,eu,rfl⟩:=S6.mp e;refine⟨[.str u],rfl,?_⟩;rw[hσ];refine bN<|aW<|aA rfl<|aA rfl<|agE rfl<|pW ?_
 by_cases z:u∈ss
 rw[decide_eq_true z];refine uo<|hN _ _ ⟨rfl,ls,rfl,Nat.le_succ_of_le ll,λe v hv=>?_⟩
 rw[N7]at hv;rcases Vz.mp hv with hv|hv
 simp_all
 simp_all
 rw[decide_eq_false z];refine gC<|aA rfl<|hN _ _ ⟨rfl,ls++[u],by rw[R7];rfl,KJ ▸ Nat.succ_le_succ ll,λy=>?_⟩
 exact absurd (congrArg Tc y)<|KJ ▸ Nat.succ_ne_zero _
 rintro acc h' ⟨rfl,ls,rfl,ll,lh⟩;rw[Hi]at ll lh;rw[Q9]at lh;exact q ls lh<|Ja ll hl
theorem qM (hx:x∈O5):(lF x).length<=24:=by
 unfold O5 at hx;simp at hx;rcases hx with e|e|e|e|e|e|e<;>subst e<;>decide
theorem Wz {a b}(hz:a.length+b.length<=1000)(x:Q (.lst (a++b)) h):bR (.lst a) (.lst b) h Q:=gG.mk (Ja hz (by decide:1000<=Il)) x
theorem Mz {c1 c2 c3}(ha:V0 c1)(hp:X3 c3){b}{a2 a3 a4 a6}(hb:Ph h b)(hn:h.c n=Dn (.lst rws))(ne:b≠n)(bl:b<h.nx)(nl:n<h.nx)
  (hr:∀r∈rws,Row r) (hl:rws.length<=24) (hx:x∈O5) (hs:∀s∈lF x,∃r∈rws,Qa r=s) (k:∀(ns:List Int) h',(ns.map W.int).map (nth (rws.map Qa))=(lF x).map Dn->Ph h' b->Gr b h h'->D.rt (.tup (.str x::ns.map .int)) h') :
  zH c0 c1 c2 c3 E D [Dn (.loc b),Dn (.loc n),a2,a3,a4,Dn (.str x),a6] h:=by
 refine ha hx λh2 n2=>?_;refine gG.mk (by rw[Hi];exact Ja (qM hx) (by decide)) ?_;refine dR (λi acc h'=>Ph h' b/\V2 b h2 h'/\∃ns:List Int,acc=ns.map .int/\ns.length=i/\(ns.map W.int).map (nth<|rws.map Qa)=((lF x).take i).map Dn) ?_ ?_ ⟨(n2.bag hb bl),⟨rfl,λ_ _=>rfl⟩,[],rfl,rfl,rfl⟩;rintro i w acc h' N hN e ⟨hb',o',ns,rfl,el,em⟩;rw[Jm]at e;obtain⟨u,eu,rfl⟩:=S6.mp e;refine⟨[.str u],rfl,jW<|gC<|bH<|aB<|aA rfl<|aB<|aA rfl<|aB<|aA rfl<|aJ<|hp hb' ((o'.2 n<|Jc ne).trans ((n2.1 n<|JM nl).trans hn)) ne hr hl (hs u<|RN eu) λj h3 jo hb3 o3=>?_ ⟩;exact hN _ _ ⟨hb3,⟨o3.1.trans o'.1,λm hm=>(o3.2 m hm).trans (o'.2 m hm)⟩,ns++[(j:Int)],by rw[R7];rfl,by rw[KJ,el];rfl,by rw[R7,R7,em,N7,eu,R7];show _++[nth _ _]=_;rw[adh<|Int.natCast_nonneg _,Int.toNat_natCast,jo];rfl⟩;rintro acc h' ⟨hb',o',ns,rfl,el,em⟩;have amy:ns.length<=24:=by rw[el,Hi];exact qM hx
 refine Wz (by rw[Hi];show 1+ns.length<=1000;lia) ?_;exact k ns h' (by rw[em,Hi,Q9]) hb'<|n2.gr.trans o'.gr
def ok1 (ss:List Str):W->Bool
 | .tup (.str x::ns)=>decide (x∈O5)&&decide (ns.map (nth ss)=(lF x).map Dn)
 | _=>false
def Hw:W->Bool
 | .tup (.str x::_)=>decide (x = "free")
 | _=>false
theorem YX {ns}(hx:x∈O5)(e:ns.map (nth ss)=(lF x).map Dn):ok1 ss (.tup (.str x::ns))=true:=by
 show(decide _&&decide _)=true;simp_all
def V6:List Str:=["join", "meet", "curve", "about", "pole", "other", "join", "meet", "join", "meet"]
theorem akG:∀i:Fin V6.length,V6[i]∈O5:=by decide +kernel
def afA (c0:Ah):Prop:=∀{h:Gh}{b n:Nat}{rws:List W}{fr:Int}{Q:WK}{E:Ce},Ph h b->h.c n=Dn (.lst rws)->b≠n->b<h.nx->n<h.nx->(∀r∈rws,Row r)->rws.length<=23 ->
 ((rws.length:Int)<fr\/∃r∈rws,Qa r = "spot")->(∀r h',Row r->((rws.length:Int)<fr->Qa r = "spot")->ok1 (rws.map Qa) r=true->Hw r=decide ((rws.length:Int)<fr)->Ph h' b->Gr b h h'->Q r h')->c0 [.loc b,.loc n,.int fr] h Q E
theorem aeE {c1 c2 c3}(hd:Gw c0)(ha:V0 c1)(hs:JW c2)(hp:X3 c3):afA (Bp c0 c1 c2 c3):=by
 intro h b n rws fr Q E hb hn ne bl nl hr hl hsp k;unfold Bp;rfl'
 refine aad hs hn hr (by lia) ?_;rfl'
 refine hd hb (by decide) (by unfold Sm;decide) λd h1 d0 d1 hb1 o1=>?_;obtain⟨dn,rfl⟩:=Yr d0;have hdn:dn<V6.length:=by show dn<10;lia
 have hx:V6[dn]∈O5:=akG ⟨dn,hdn⟩;have nf:("free" : Str)∉V6:=by decide
 generalize ew:V6[dn]=x at hx;have g1:Gr b h h1:=o1.gr;have hn1:h1.c n=Dn (.lst rws):=(o1.2 n (Jc ne)).trans hn;rfl'
 refine gH (ws:=V6.map W.str) (w:=.str x) rfl (bZ (by rw[Jm,N5 hdn,ew];rfl)) ?_;rfl'
 refine ha hx λh2 n2=>?_;have nl1:n<h1.nx:=Jq nl g1.1;have bl1:b<h1.nx:=Jq bl g1.1;have hn2:h2.c n=Dn (.lst rws):=(n2.1 n (JM nl1)).trans hn1;have hb2:Ph h2 b:=n2.bag hb1 bl1;have g2:Gr b h h2:=g1.trans n2.gr;have v2:=jG hn2;rfl'
 refine ae9 (ss:=rws.map Qa) (by rw[W8];rfl) (qM hx) λls lh ll=>?_;have nl2:n<h2.nx:=Jq nl g2.1;have bl2:b<h2.nx:=Jq bl g2.1;rfl'
 refine eE v2 ?_;rfl'
 refine yr (λe=>?_)<|λe=>?_
 ·rfl'
  refine eE v2 ?_;rfl'
  rw[decide_eq_true e];refine Mz (c0:=c0) (c2:=c2) (x := "free") ha hp hb2 hn2 ne bl2 nl2 hr (by lia) (by decide) (λs hs=>absurd (show s∈([]:List Str)from hs)<|by simp) λns h3 eo hb3 g3=>?_;exact k _ _ ⟨"free",ns,by decide,rfl⟩ (λ_=>rfl) (YX (by decide) eo) (by rw[decide_eq_true e];rfl) hb3<|g2.trans g3
 ·rfl'
  refine yr (λe'=>?_)<|λe'=>?_
  ·rfl'
   refine eE v2 ?_;rfl'
   rw[decide_eq_false e];refine Mz (c0:=c0) (c2:=c2) (x := "join") ha hp hb2 hn2 ne bl2 nl2 hr (by lia) (by decide) (λs hs=>?_) λns h3 eo hb3 g3=>?_;have es:s = "spot":=by
    have h0:s∈(["spot", "spot"]:List Str):=hs
    simpa using h0
   rw[es];exact hsp.resolve_left e;exact k _ _ ⟨"join",ns,by decide,rfl⟩ (λz=>absurd z e) (YX (by decide) eo) (by rw[decide_eq_false e];rfl) hb3<|g2.trans g3
  have el:ls=[]:=by
   rw[Hi]at e';exact List.length_eq_zero_iff.mp<|by lia
  refine Mz (c0:=c0) (c2:=c2) (x:=x) ha hp hb2 hn2 ne bl2 nl2 hr (by lia) hx (λs hs=>?_) λns h3 eo hb3 g3=>?_;obtain⟨r,h1,h2⟩:=Ni.mp (lh el s hs);exact⟨r,h1,h2⟩;exact k _ _ ⟨x,ns,hx,rfl⟩ (λz=>absurd z e) (YX hx eo) (by rw[decide_eq_false e];exact decide_eq_false (λz=>nf<|z ▸ ew ▸ XS hdn)) hb3<|g2.trans g3
theorem zbj {a:List Int}:iZ (a.map .int) (a.map .int)=true:=by
 induction a with
 | nil=>rfl
 | cons x a ih=>
  show(Iz _ _&&iZ _ _)=true;rw[ih,bU,beq_self_eq_true];rfl
theorem acv {r}(hr:Row r):Iz r r=true:=by
 obtain⟨x,ns,_,rfl⟩:=hr;show(Iz _ _&&iZ _ _)=true;rw[zbj,zbZ,beq_self_eq_true];rfl
theorem Z4 {r}(hr:Row r):Hq (n+2) r=true:=by
 obtain⟨x,ns,_,rfl⟩:=hr;show((W.str x::ns.map .int).all _)=true;rw[List.all_cons,Qn];refine⟨rfl,Rm.mpr λw hw=>?_⟩;obtain⟨y,_,rfl⟩:=Ni.mp hw;rfl
theorem O2:∀{rws},(∀r∈rws,Row r)->iZ rws rws=true
 | [],_=>rfl
 | r::rws,h=>by
  show(Iz r r&&iZ rws rws)=true;rw[acv (h r RM),O2 λr hr=>h r (Qp _ hr)];rfl
theorem Bq {i:Int}(c:Kl i j)(x:Q (.int (i*j)) h):zq (.int i) (.int j) h Q:=⟨c,x⟩
theorem abp {i}(x:Q (.int (if j>i then j else i)) h):ady [.int i,.int j] h Q:=x
def afo (c0:Ah):Prop:=∀{h:Gh}{p q:Tr}{m:Nat}{Q:WK}{E:Ce},m<=10000->HB m p->HB m q->Q (.int (dt3 p q)) h->c0 [tw p,.lst [.int q.1,.int q.2.1,.int q.2.2]] h Q E
theorem abw:afo Mr:=by
 intro h p q m Q E hm hp hq k;obtain⟨h1,h2,h3⟩:=hp;obtain⟨h4,h5,h6⟩:=hq;unfold Mr;rfl'
 exact k
def LR (c0:Ah):Prop:=∀{h:Gh}{M:Mt}{p q:Tr}{m:Nat}{Q:WK}{E:Ce},m<=4000->Ru m M->HB m p->HB m q->Q (.int (dt3 p (vm M q))) h->c0 [mw M,tw p,tw q] h Q E
theorem aaL {tt}(hdt:afo dt)(htt:Le tt):LR (oJ dt tt):=by
 intro h M p q m Q E hm hM hp hq k;exact htt (by lia) hM hq<|hdt (by lia) (hp.mono<|by lia) (mL hM hq) k
def Told (thg:List W)(js:List Nat)(ws:List W):Prop:=js.map (λj=>thg[j]?)=ws.map Dn
variable {js:List Nat}{thg:List W}
theorem Told.len (t:Told thg js ws):js.length=ws.length:=by
 have:=congrArg Tc t
 rwa[Hi,Hi]at this
theorem Told.at {thg ws js}(t:Told thg js ws){i j:Nat}(e:js[i]?=Dn j):∃w,ws[i]?=Dn w/\thg[j]?=Dn w:=by
 have:=congrArg (λl=>l[i]?) t
 simp[e]at this;cases h:ws[i]? with
 | none=>rw[h]at this;cases this
 | some w=>
  simp_all
variable {w1:W}
theorem RK (hσ:sI ix σ=[Dn w1])(hv:view h w1=Dn thg)(t:Told thg js ws)(hl:js.length<=100)(q:Q (.lst ws) h):
  lcK JX ix jF (Mk Av (ao 1) (ao 0)) σ Q ⟨js.map λj:Nat=>W.int (j),Go⟩ h:=by
 refine sX (by rw[Hi];exact Nat.ble_eq.mpr (by lia)) ?_;refine dR (λi acc h'=>h'=h/\acc=ws.take i) ?_ ?_ ⟨rfl,rfl⟩;rintro i u acc h' N hN e ⟨rfl,rfl⟩;rw[Jm]at e;obtain⟨j,ej,rfl⟩:=S6.mp e;obtain⟨w,ew,et⟩:=t.at ej;refine⟨[.int _],rfl,?_⟩;rw[hσ];refine jW<|gC<|aW<|aA rfl<|aA rfl<|gH hv (bZ et)<|hN _ _ ⟨rfl,?_⟩
 rw[N7,ew];rfl;rintro acc h' ⟨rfl,rfl⟩
 rwa[Hi,t.len,Q9]
theorem agf {u}{ns}:Gf (u::ns) (Dn 1) Go=ns:=by
 unfold Gf;rw[show(1:Int)=((1:Nat):Int)from rfl,HT.Cg,HT.G9,Nq,Nat.min_eq_left (by lia),List.drop_succ_cons,List.drop_zero,List.take_of_length_le (by lia)]
theorem nH {u}{ns}(x:Q (.tup ns) h):uN (.tup (u::ns)) (Dn 1) Go h Q:=by
 show Q _ h
 rwa[agf]
variable {h':Gh}
theorem Ii {ns R}(q:R (.str x) h'):Av (.tup (.str x::ns)) (.int 0) h' R:=gH rfl (bZ rfl) q
theorem aeY {a:W}{ns:List W}{R:WK}(q:R a h'):Av (.lst (a::ns)) (.int 0) h' R:=gH rfl (bZ rfl) q
theorem ae1 {a b}{ns R}(q:R b h'):Av (.lst (a::b::ns)) (.int 1) h' R:=gH rfl (bZ rfl) q
theorem ajw {d}{mh}(x:mb (λx h'=>JQ (KZ x.cls d) (mh E D σ h') False) D σ h):X4 d mb mh E D σ h:=x
theorem zaQ {f ma}(k:ma σ h λw h1=>E ⟨x,[(f,w)]⟩ h1):CN x f ma E D σ h:=k
def Kp (h h':Gh):Prop:=h.nx<=h'.nx/\∀m,m<h.nx->h'.c m=h.c m
def Mk1 (c0:Ah)(gold:List W)(r w:W):Prop:=∀{h:Gh}{n:Nat}{Q:WK}{E:Ce},h.c n=Dn (.lst gold)->Q w h->c0 [r,.loc n] h Q E
def Rf (c0:Ah)(gold:List W)(r:W):Prop:=∀{h:Gh}{n:Nat}{Q:WK}{E:Ce},h.c n=Dn (.lst gold)->(∀x,E ⟨x,[]⟩ h)->c0 [r,.loc n] h Q E
structure Hu (c0:Ah) (rws sps gold:List W):Prop where
 len:rws.length<=30
 le:gold.length<=rws.length
 shp:∀r∈rws,∃x ns,r=.tup (.str x::ns)
 fr:∀i r,i<gold.length->rws[i]?=Dn r->Hw r=true->sps[(rws.take i).countP Hw]?=gold[i]?
 frx:∀r,rws[gold.length]?=Dn r->Hw r=false
 mak:∀i r w,i<gold.length->rws[i]?=Dn r->Hw r=false->gold[i]?=Dn w->Mk1 c0 (gold.take i) r w
theorem aiE {ns:List W}:Hw (.tup (.str x::ns))=Iz (.str x) (.str "free"):=rfl
theorem aio {r}(e:rws[i]?=Dn r):(rws.take (i+1)).countP Hw=(rws.take i).countP Hw+(if Hw r then 1 else 0):=by
 rw[N7,e];simp
variable {gold:List W}
theorem zbs {mr}{sps}(P:Hu mr rws sps gold)(kf:gold.length=rws.length->∀g,g.c h.nx=Dn (.lst gold)->g.nx=h.nx+1->(∀m,m<h.nx->g.c m=h.c m)->Q (.loc h.nx) g)
  (kr:∀r,rws[gold.length]?=Dn r->Rf mr gold r/\∀h',Kp h h'->E ⟨"Stuck",[("at",.int (gold.length:Nat))]⟩ h'):uX mr [.lst rws,.lst sps] h Q E:=by
 have amy:=P.len;have hle:=P.le;refine qI rfl (σ:=[Dn<|.lst rws,Dn<|.lst sps,Go,Go,Go,Go,Go]) rfl ?_;refine bA<|bQ<|qC (ws:=[]) (λR=>rfl) rfl λg eg og xg=>?_
 refine jf (λi σ h'=>∃f s4 s5 s6,σ=[Dn<|.lst rws,Dn<|.lst sps,Dn<|.loc h.nx,Dn<|.int f,s4,s5,s6]/\f=(((rws.take i).countP Hw:Nat):Int)/\i<=gold.length/\h'.c h.nx=Dn (.lst<|gold.take i)/\h'.nx=h.nx+1/\∀m,m<h.nx->h'.c m=h.c m) ?_ ?_ ⟨_,_,_,_,rfl,rfl,Rb _,eg,xg,λm hm=>og m<|JM hm⟩;rintro i w0 σ h' N hN e ⟨f,s4,s5,s6,rfl,hf,hi,hc,hx,ho⟩;obtain⟨r,er,rfl⟩:=Cw e;rw[WT];refine Mg rfl rfl<|Bs<|nV ?_
 refine Bs<|nV<|Vb ?_
 have cs:=aio er;obtain⟨x,ns,rfl⟩:=P.shp r (RN er);refine bN<|aW<|aW<|aA rfl<|cI<|Ii<|cI ?_
 cases fr:Hw (.tup (.str x::ns))with
 | true=>
  rw[fr,if_pos rfl]at cs;have il:i<gold.length:=by
   rcases Nat.lt_or_ge i gold.length with z|z
   exact z;have ei:i=gold.length:=by lia
   rw[ei]at er;rw[P.frx _ er]at fr;cases fr
  have eg:gold[i]?=Dn gold[i]:=N5 il;have es:=P.fr i _ il er fr;refine iU fr ?_;refine bA<|gW<|mj<|aA rfl<|gQ hc<|aB<|aW<|aA rfl<|aA rfl ?_
  subst hf;refine gH (ws:=sps) (w:=gold[i]) rfl (bZ<|by rw[es,eg])<|aJ ?_
  refine Ay hc (by rw[Ti];lia) λg2 e2 o2 x2=>?_;refine dX<|bQ<|aW<|aA rfl<|cI<|eY ?_
  refine nV<|dX ?_
  refine hN _ _ ⟨_,_,_,_,rfl,by rw[cs];lia,by lia,by rw[e2,N7,eg];rfl,by rw[x2];exact hx,λm hm=>by rw[o2 m<|JM hm];exact ho m hm⟩
 | false=>
  rw[fr,if_neg (by decide)]at cs;have fr0:=fr;rw[aiE]at fr;refine bM fr ?_;refine bA<|ajw<|bQ<|bH<|aB<|aA rfl<|aB<|aA rfl<|aJ ?_
  by_cases hl:i<gold.length
  have eg:gold[i]?=Dn gold[i]:=N5 hl;refine P.mak i _ _ hl er fr0 eg hc ?_;refine nV<|dX<|gW<|mj<|aA rfl<|gQ hc<|aB<|aA rfl<|aJ ?_
  refine Ay hc (by rw[Ti];lia) λg2 e2 o2 x2=>?_;refine dX<|hN _ _ ⟨_,_,_,_,rfl,by rw[cs];exact hf,by lia,by rw[e2,N7,eg];rfl,by rw[x2];exact hx,λm hm=>by rw[o2 m<|JM hm];exact ho m hm⟩
  have ei:i=gold.length:=by lia
  subst ei;rw[Q9]at hc;obtain⟨k1,k2⟩:=kr _ er;refine k1 hc λy=>?_;have:KZ y "EaselError" = true:=by unfold KZ;simp
  show JQ (KZ y "EaselError") _ False;rw[this];refine gC<|zaQ<|aA rfl ?_
  exact k2 _ ⟨by lia,ho⟩
 rintro σ h' ⟨f,s4,s5,s6,rfl,hf,hi,hc,hx,ho⟩;rw[Cm]at hi hc;have el:gold.length=rws.length:=Nat.le_antisymm P.le hi;rw[<-el,Q9]at hc;refine dX ?_;unfold tO;exact dN<|aA rfl<|Pz<|kf el _ hc hx ho
theorem CP (c):Rx (cU c)=adj (cU c):=by
 unfold adj;simp[Rx,tr,cU,crs];grind
def Kg (c0:Ah):Prop:=∀{h:Gh}{c:C6}{l:Tr}{m:Nat}{Q:WK}{E:Ce},m<=2000->JK m c->HB m l->l≠(0,0,0)->(det (cU c)≠0->∀u,Pl u->Je (vm (adj (cU c)) l) u->HB (3*m+5) u->Q (tw u) h)->(det (cU c)=0->E ⟨"NotRound",[]⟩ h)->c0 [Jp c,tw l] h Q E
theorem aip {tt ta}(hpl:Jw pl)(htt:Le tt)(htu:wA tu)(hta:TabOk ta)(hro:Y0 ro):Kg (o9 pl tt tu ta ro):=by
 intro h c l m Q E hm hc hl l0 k kx;refine hro (by lia) hc<|Oj (λe=>(kx<|Decidable.not_not.mp e))<|λe=>(hta (by lia) hc<|htu true (by lia) (cW hc)<|htt (by lia) (O7<|cW hc) (hl.mono<|by lia) ?_)
 have v0:vm (Rx (cU c)) l≠(0,0,0):=by
  rw[CP];exact Xy (Bd e) l0
 exact hpl.tr (.inr rfl) v0 ((mL (O7<|cW hc) hl).mono (by lia)) (by lia) λt pt par st=>(k e t pt (by rwa[<-CP]) st)
theorem ajp (c)(v):vm (cU c) (vm (adj (cU c)) v)=sc (det (cU c)) v:=by
 rw[<-Wy,Ue,Yu,VJ]
theorem abM {M:Mt}{v:Tr}(h:Je u v):Je (vm M u) (vm M v):=by
 obtain⟨k,hk,rfl⟩:=h;exact⟨k,hk,zbb _ _ _⟩
def Jr (c0:Ah):Prop:=∀{h:Gh}{c:C6}{p l:Tr}{n mc ml:Nat}{Q:WK}{E:Ce},n+mc+2*ml+2<=4000->n+mc+4*ml+10<=8000->1<=ml->ml<=1999->JK mc c->HB n p->HB ml l->Pl p->Pl l->(Hv c p=0->dt3 p l=0->¬InC c l->∀u,Tf c p l u->HB (n+mc+4*ml+10) u->Q (tw u) h)->(Hv c p≠0\/dt3 p l≠0->E ⟨"NotOn",[]⟩ h)->(Hv c p=0->dt3 p l=0->InC c l->E ⟨"InCurve",[]⟩ h)->c0 [Jp c,tw p,tw l] h Q E
theorem Uo {s t}(hp:Pl p)(hb:Pl b)(ne:b≠p)(e:K4 s p t b=(0,0,0)):s=0/\t=0:=by
 have k:∀x y:Int,s*y-t*x=0:=λx y=>Ro λn=>(fJ hp hb λe=>ne e.symm) ((jz n).mp (by
  rw[<-J8,e];simp[crs]))
 have h1:=k 0 1;have h2:=k 1 0;lia
variable {li:Ah}
theorem adi {on ta bo po an}(hli:Ud li)(hon:afC on)(hta:TabOk ta)(hbo:LR bo)(hpo:WX po)(han:aaG an):Jr (lE li on ta bo po an):=by
 intro h c p l n mc ml Q E hn hmc hml1 hml hc hp hl pp pl k k1 k2;unfold lE;rfl'
 refine hon (m:=n+mc) (by lia) (hc.mono<|by lia) (hp.mono<|by lia) ?_;refine Oj (λe=>?_)<|λwp=>?_
 ·rfl'
  exact k1<|.inl e
 rfl'
 refine hli (m:=n+ml) (by lia) (hp.mono<|by lia) (hl.mono<|by lia) ?_;rfl'
 refine Oj (λe=>?_)<|λlp=>?_
 ·rfl'
  exact k1<|.inr e
 have lp':dt3 l p=0:=by rw[vI];exact lp
 rfl'
 unfold mV;rfl'
 refine hta (m:=mc) (by lia) hc ?_;rfl'
 refine han (m:=ml) (by lia) (by lia) hl pl pp λb pb lb bp sb=>?_;have hM:Ru (mc+1) (cU c):=cW hc;have sb:HB (ml+ml+1) b:=sb;have smv:HB (mc+2*ml+4) (vm (cU c) b):=(mL hM sb).mono (by lia);have so:Sm (mc+4*ml+7) (pom c b b):=(je sb smv).mono (by lia);have sg:Sm (n+mc+2*ml+6) (pom c p b):=(je hp smv).mono (by lia);have s2:Sm (n+mc+2*ml+7) (2*pom c p b):=zF sg;rfl'
 refine hbo (m:=mc+2*ml+2) (by lia) (hM.mono<|by lia) (sb.mono<|by lia) (sb.mono<|by lia) ?_;rfl'
 refine hbo (m:=n+mc+2*ml+2) (by lia) (hM.mono<|by lia) (hp.mono<|by lia) (sb.mono<|by lia) ?_;have eO:dt3 b (vm (cU c) b)=pom c b b:=rfl;have eG:dt3 p (vm (cU c) b)=pom c p b:=rfl;rw[eO,eG];have sE:HB (n+mc+4*ml+10) (K4 (pom c b b) p (-(2*pom c p b)) b):=by
  have sn:Sm (n+mc+2*ml+7) (-(2*pom c p b)):=s2.le (by lia);exact⟨((so.mul hp.1).add (sn.mul sb.1)).mono (by lia),((so.mul hp.2.1).add (sn.mul sb.2.1)).mono (by lia),((so.mul hp.2.2).add (sn.mul sb.2.2)).mono (by lia)⟩
 have fin1:K4 (pom c b b) p (-(2*pom c p b)) b≠(0,0,0)->∀u,Pl u->Je (K4 (pom c b b) p (-(2*pom c p b)) b) u->HB (n+mc+4*ml+10) u->Q (tw u) h:=λE0 u pu par su=>k wp lp (λi=>E0 (acw (b:=b) lp' lb i)) u (K9 pl.ne pp pb bp lp' lb wp pu par) su
 have fin2:K4 (pom c b b) p (-(2*pom c p b)) b=(0,0,0)->E ⟨"InCurve",[]⟩ h:=λE0=>k2 wp lp (by
  obtain⟨e1,e2⟩:=Uo pp pb bp E0;rw[wk]at e1;exact M7 pl.ne pp pb bp lp' lb wp (by lia) (by lia))
 generalize pom c b b=o at *;generalize pom c p b=g at *;obtain⟨p1,p2,p3⟩:=p;obtain⟨b1,b2,b3⟩:=b;obtain⟨hp1,hp2,hp3⟩:=hp;obtain⟨hb1,hb2,hb3⟩:=sb;simp only at hp1 hp2 hp3 hb1 hb2 hb3;rfl'
 have ee:∀x y z w:Int,x*y-z*w=x*y + -z*w:=λx y z w=>by rw[Int.sub_eq_add_neg,Int.neg_mul]
 rw[ee,ee,ee];refine hpo (t:=K4 o (p1,p2,p3) (-(2*g)) (b1,b2,b3)) (m:=n+mc+4*ml+10) (by lia) sE (λE0 u pu par su=>?_) λE0=>?_
 ·rfl'
  refine bM rfl ?_;rfl'
  unfold mZ;rfl'
  exact fin1 E0 u pu par su
 ·rfl'
  refine iU rfl ?_;rfl'
  exact fin2 E0
noncomputable def Qh (t:Tr):Tr:=Classical.epsilon λu=>Pl u/\Je t u
theorem rG {t}(p:Pl u)(h:Je t u):u=Qh t:=by
 have z:=YW (p:=λu=>Pl u/\Je t u) ⟨u,p,h⟩;exact Np p z.1 h z.2
noncomputable def adx (a b c d e:Tr):C6:=Classical.epsilon λC=>∃k:Int,k≠0/\ug a b c d e=kC k C/\Ml (M9 C)
variable {C:C6}
theorem acP {a c}(k0:k≠0)(e0:ug a b c d e=kC k C)(p:Ml (M9 C)):C=adx a b c d e:=by
 obtain⟨j,j0,e1,p1⟩:=YW (p:=λC=>∃k:Int,k≠0/\ug a b c d e=kC k C/\Ml (M9 C)) ⟨C,k,k0,e0,p⟩;exact zcc p p1 k0 j0<|e0.symm.trans e1
theorem abJ {a c}(k0:k≠0)(e0:ug a b c d e=kC k C):∀x∈[a,b,c,d,e],Hv C x=0:=λx hx=>by
 have:=ail a b c d e x hx
 rw[e0,acK]at this;exact(R0.mp this).resolve_right k0
theorem nM (h:Je (crs p q) l):dt3 l p=0/\dt3 l q=0:=by
 obtain⟨k,k0,e⟩:=h;have z1:dt3 (crs p q) p=0:=lX _ _;have z2:dt3 (crs p q) q=0:=vR _ _;rw[e,ux]at z1 z2;exact⟨(R0.mp z1).resolve_right k0,(R0.mp z2).resolve_right k0⟩
theorem ajP (pq:Pl q)(ne:p≠q)(h:Je (crs p q) l)(o:Tf C p l u):u=p↔pom C p q=0:=o.2.2.2.2 q pq (nM h).2 λe=>ne e.symm
theorem CV (h0:u≠(0,0,0)):∃t,Pl t/\Je u t:=by
 obtain⟨b0,pl,e⟩:=G4 (YM h0) rfl;obtain⟨t,et,e'⟩:=KD e;exact⟨t,by unfold Pl;rw[<-et];exact pl,_,b0,e'⟩
theorem jT (h0:u≠(0,0,0)):Pl (Qh u)/\Je u (Qh u):=YW (CV h0)
theorem Ng {t}(h:Je u t)(s:HB m u):HB m t:=by
 obtain⟨k,k0,rfl⟩:=h;exact⟨gj s.1 rfl k0,gj s.2.1 rfl k0,gj s.2.2 rfl k0⟩
theorem adK {c:C6}(hz:NZ (M9 c)):∃C:C6,∃k:Int,k≠0/\c=kC k C/\Ml (M9 C):=by
 obtain⟨b0,pl,em⟩:=G4 hz rfl;generalize hms:(M9 c).map _=ms at *;have hl:ms.length=6:=by rw[<-hms];rfl
 match ms,hl,em,pl with
 | [x1,x2,x3,x4,x5,x6],_,em,pm=>
  refine⟨(x1,x2,x3,x4,x5,x6),_,b0,?_,pm⟩;obtain⟨u1,u2,u3,u4,u5,u6⟩:=c
  simpa[M9,kC]using em
def dB (x:Str)(js:List Nat):W:=.tup (.str x::js.map λj:Nat=>W.int (j:Int))
theorem vw (e:h.c n=Dn (.lst ws)):view h (.loc n)=Dn ws:=by simp[view,dU,e]
theorem fl4 {us}(h:iW us=true)(hs:∀t∈ts,t∈us):AllP ts:=λp hp q hq r hr=>by
 have z:AllP us:=by
  refine Ro λn=>?_;rw[Bj n]at h;cases h
 exact z p (hs p hp) q (hs q hq) r<|hs r hr
theorem qx {a c r s t}(G:G5 [a,b,c,d,e])(m:∀y∈[a,b,c,d,e],y=p\/y=q\/y=r\/y=s\/y=t)(hp:p∈[a,b,c,d,e])(hq:q∈[a,b,c,d,e])(ht:t∈[a,b,c,d,e])(ne:p≠q):iW [p,q,r,s]=false:=by
 cases h:iW [p,q,r,s]with
 | false=>rfl
 | true=>
  have z:=fl4 h λ_ h=>h
  exact absurd ⟨z r (by simp) p (by simp) q<|by simp,z s (by simp) p (by simp) q<|by simp⟩<|G.no m hp hq ht ne
theorem Od {a c}(G:G5 [a,b,c,d,e]):yg [a,b,c,d,e]=false:=by
 have nd:=G.nd;simp only[S8,K5,Ot,not_or]at nd;obtain⟨⟨ab,ac,ad,ae⟩,⟨bc,bd,be⟩,⟨cd,ce⟩,de,_⟩:=nd;rw[ado,qx G (λy hy=>by simpa using hy) (by simp) (by simp) (by simp) ab,qx G (t:=d) (λy hy=>by grind) (by simp) (by simp) (by simp) ab,qx G (t:=c) (λy hy=>by grind) (by simp) (by simp) (by simp) ab,qx G (t:=b) (λy hy=>by grind) (by simp) (by simp) (by simp) ac,qx G (t:=a) (λy hy=>by grind) (by simp) (by simp) (by simp) bc];rfl
noncomputable def oen (C:C6)(p l:Tr):Tr:=Classical.epsilon λu=>Tf C p l u
theorem Tz (pq:Pl q)(ne:p≠q)(h:Je (crs p q) l)(o:Tf C p l u):u=oen C p l:=zaV pq (nM h).2 (λe=>ne e.symm) o (YW ⟨u,o⟩)
theorem JZ (ni:¬InC C l)(w:Hv C p=0)(pp:Pl p)(pq:Pl q)(pl:Pl l)(ne:p≠q)(h:Je (crs p q) l):Tf C p l (oen C p l)/\Je (K4 (pom C q q) p (-(2*pom C p q)) q) (oen C p l):=by
 obtain⟨l1,l2⟩:=nM h;have n':q≠p:=λe=>ne e.symm
 have c0:K4 (pom C q q) p (-(2*pom C p q)) q≠(0,0,0):=λz=>by
  obtain⟨e1,e2⟩:=Uo pp pq n' z;rw[wk]at e1;exact ni<|M7 pl.ne pp pq n' l1 l2 w (by lia)<|by lia
 obtain⟨u,pu,par⟩:=CV c0;have o:=K9 pl.ne pp pq n' l1 l2 w pu par;exact(Tz pq ne h o) ▸ ⟨o,par⟩
inductive Out:Str->List W->Option W->Prop
 | join {p q:Tr}(ne:p≠q):Out "join" [tw p,tw q] (Dn (tw (Qh (crs p q))))
 | joinN {p:Tr}:Out "join" [tw p,tw p] Go
 | meet {p q:Tr}(ne:p≠q):Out "meet" [tw p,tw q] (Dn (tw (Qh (crs p q))))
 | meetN {p:Tr}:Out "meet" [tw p,tw p] Go
 | curve {a b c d e:Tr}(G:G5 [a,b,c,d,e]):Out "curve" [tw a,tw b,tw c,tw d,tw e] (Dn (Jp (adx a b c d e)))
 | curveN {a b c d e:Tr}(z:¬([a,b,c,d,e].Nodup/\yg [a,b,c,d,e]=false)):Out "curve" [tw a,tw b,tw c,tw d,tw e] Go
 | about {C:C6}{p:Tr}(n0:vm (cU C) p≠(0,0,0)):Out "about" [Jp C,tw p] (Dn (tw (Qh (vm (cU C) p))))
 | aboutN {C:C6}{p:Tr}(z:vm (cU C) p=(0,0,0)):Out "about" [Jp C,tw p] Go
 | pole {C:C6}{l:Tr}(hd:det (cU C)≠0):Out "pole" [Jp C,tw l] (Dn (tw (Qh (vm (adj (cU C)) l))))
 | poleN {C:C6}{l:Tr}(hd:det (cU C)=0):Out "pole" [Jp C,tw l] Go
 | other {C:C6}{p q:Tr}(ne:p≠q) (w0:Hv C p=0) (ni:¬InC C (Qh (crs p q))):Out "other" [Jp C,tw p,tw q] (Dn (tw (oen C p (Qh (crs p q)))))
 | otherN {C:C6}{p q:Tr}(z:p=q\/Hv C p≠0\/InC C (Qh (crs p q))):Out "other" [Jp C,tw p,tw q] Go
def Tg (s:Str)(n:Nat)(w:W):Prop:=(s = "curve"/\10<=n/\∃C:C6,w=Jp C/\Ml (M9 C)/\JK (33*n-3) C)\/(s ≠ "curve"/\1<=n/\∃t:Tr,w=tw t/\Pl t/\HB (33*n-3) t)
theorem Tg.pos {s}(h:Tg s n w):1<=n:=by
 rcases h with⟨_,h,_⟩|⟨_,h,_⟩
 lia;exact h
theorem Tg.t {s n w}(h:Tg s n w)(e:s ≠ "curve"):∃t,w=tw t/\Pl t/\HB (33*n-3) t:=by
 rcases h with⟨z,_⟩|⟨_,_,h⟩
 grind
 exact h
theorem Tg.c (h:Tg "curve" n w):10<=n/\∃C,w=Jp C/\Ml (M9 C)/\JK (33*n-3) C:=by
 rcases h with⟨_,h⟩|⟨z,_⟩
 exact h;grind
def wtF (x:Str)(l:List Nat):Nat:=if x = "free" then 1 else if x = "curve" then 2*l.sum else if x = "pole" then 2*l.getD 0 0+l.getD 1 0 else if x = "other" then l.getD 0 0+l.getD 1 0+2*l.getD 2 0 else l.sum
inductive QM:List Str->List Nat->List W->Prop
 | nil:QM [] [] []
 | cons {s:Str}{n:Nat}{w:W}{ss:List Str}{ns:List Nat}{ws:List W}(h:Tg s n w) (t:QM ss ns ws):QM (s::ss) (n::ns) (w::ws)
theorem agu {a c:Tr}(z:[a,b,c,d,e].Nodup/\yg [a,b,c,d,e]=false)(pl:∀t∈[a,b,c,d,e],Pl t):G5 [a,b,c,d,e]:=aaA pl z.1 z.2
theorem FT (hp:HB m p)(hq:HB n q):JK (m+n+1) (vA p q):=
 ⟨(hp.1.mul hq.1).mono (by lia),((hp.1.mul hq.2.1).add (hp.2.1.mul hq.1)).mono (by lia),(hp.2.1.mul hq.2.1).mono (by lia),((hp.1.mul hq.2.2).add (hp.2.2.mul hq.1)).mono (by lia),((hp.2.1.mul hq.2.2).add (hp.2.2.mul hq.2.1)).mono (by lia),(hp.2.2.mul hq.2.2).mono (by lia)⟩
theorem ajv {a c}{ma mb mc md me N}(sa:HB ma a)(sb:HB mb b)(sc:HB mc c)(sd:HB md d)(se:HB me e)(hN:ma+mb+mc+md<=N):JK (2*N+2*me+14) (ug a b c d e):=by
 have so6:JK (N+3) _:=JK.mono (FT (kO sa sb) (kO sc sd)) (by lia);have st6:JK (N+3) _:=JK.mono (FT (kO sa sc) (kO sb sd)) (by lia);have hh:Sm (N+2*me+9) _:=(Dd so6 se).mono (by lia);have ht:Sm (N+2*me+9) _:=(Dd st6 se).mono (by lia);exact⟨((hh.mul st6.1).sub (ht.mul so6.1)).mono (by lia),((hh.mul st6.2.1).sub (ht.mul so6.2.1)).mono (by lia),((hh.mul st6.2.2.1).sub (ht.mul so6.2.2.1)).mono (by lia),((hh.mul st6.2.2.2.1).sub (ht.mul so6.2.2.2.1)).mono (by lia),((hh.mul st6.2.2.2.2.1).sub (ht.mul so6.2.2.2.2.1)).mono (by lia),((hh.mul st6.2.2.2.2.2).sub (ht.mul so6.2.2.2.2.2)).mono (by lia)⟩
theorem Ux {a c}(G:G5 [a,b,c,d,e]):∃k,k≠0/\ug a b c d e=kC k (adx a b c d e)/\Ml (M9 (adx a b c d e)):=
 YW (adK (U5 (Br.of G)))
theorem ad3 {c}(k0:k≠0)(e:c=kC k C)(s:JK m c):JK m C:=by
 rw[e]at s;exact⟨gj s.1 rfl k0,gj s.2.1 rfl k0,gj s.2.2.1 rfl k0,gj s.2.2.2.1 rfl k0,gj s.2.2.2.2.1 rfl k0,gj s.2.2.2.2.2 rfl k0⟩
theorem agw:lF "join" = (["spot", "spot"]:List Str):=rfl
theorem ad2:lF "meet" = (["line", "line"]:List Str):=rfl
theorem Wk:lF "curve" = (["spot", "spot", "spot", "spot", "spot"]:List Str):=rfl
theorem Xu:lF "about" = (["curve", "spot"]:List Str):=rfl
theorem Xg:lF "pole" = (["curve", "line"]:List Str):=rfl
theorem Xx:lF "other" = (["curve", "spot", "spot"]:List Str):=rfl
theorem agH (h:x∈O5)(n:x ≠ "free"):x = "join"\/x = "meet"\/x = "curve"\/x = "about"\/x = "pole"\/x = "other":=by
 unfold O5 at h
 simp_all
theorem QM.two {s1 s2}{ns}(h:QM [s1,s2] ns ws):∃n1 n2 w1 w2,ns=[n1,n2]/\ws=[w1,w2]/\Tg s1 n1 w1/\Tg s2 n2 w2:=by
 cases h with
 | cons h1 t=>cases t with
  | cons h2 t=>cases t;exact⟨_,_,_,_,rfl,rfl,h1,h2⟩
theorem QM.three {s1 s2 s3 ns}(h:QM [s1,s2,s3] ns ws):∃n1 n2 n3 w1 w2 w3,ns=[n1,n2,n3]/\ws=[w1,w2,w3]/\Tg s1 n1 w1/\Tg s2 n2 w2/\Tg s3 n3 w3:=by
 cases h with
 | cons h1 t=>
  obtain⟨n2,n3,w2,w3,rfl,rfl,h2,h3⟩:=t.two;grind
theorem QM.five {s1 s2 s3 s4 s5 ns}(h:QM [s1,s2,s3,s4,s5] ns ws):∃n1 n2 n3 n4 n5 w1 w2 w3 w4 w5,ns=[n1,n2,n3,n4,n5]/\ws=[w1,w2,w3,w4,w5]/\Tg s1 n1 w1/\Tg s2 n2 w2/\Tg s3 n3 w3/\Tg s4 n4 w4/\Tg s5 n5 w5:=by
 cases h with
 | cons h1 t=>cases t with
  | cons h2 t=>
   obtain⟨n3,n4,n5,w3,w4,w5,rfl,rfl,h3,h4,h5⟩:=t.three;exact⟨_,_,_,_,_,_,_,_,_,_,rfl,rfl,h1,h2,h3,h4,h5⟩
theorem HY:("spot" : Str) ≠ "curve":=nofun
theorem QS:("line" : Str) ≠ "curve":=nofun
open Classical in
theorem Out.ex {ns}(hx:x∈O5)(nf:x ≠ "free")(h:QM (lF x) ns ws):∃o,Out x ws o:=by
 rcases agH hx nf with rfl|rfl|rfl|rfl|rfl|rfl
 obtain⟨_,_,_,_,rfl,rfl,h1,h2⟩:=h.two;obtain⟨p,rfl,_⟩:=h1.t HY;obtain⟨q,rfl,_⟩:=h2.t HY;by_cases e:p=q
 subst e;exact⟨_,.joinN⟩;exact⟨_,.join e⟩;obtain⟨_,_,_,_,rfl,rfl,h1,h2⟩:=h.two;obtain⟨p,rfl,_⟩:=h1.t QS;obtain⟨q,rfl,_⟩:=h2.t QS;by_cases e:p=q
 subst e;exact⟨_,.meetN⟩;exact⟨_,.meet e⟩;rw[Wk]at h;obtain⟨_,_,_,_,_,_,_,_,_,_,rfl,rfl,h1,h2,h3,h4,h5⟩:=h.five;obtain⟨a,rfl,pa,_⟩:=h1.t HY;obtain⟨b,rfl,pb,_⟩:=h2.t HY;obtain⟨c,rfl,pc,_⟩:=h3.t HY;obtain⟨d,rfl,pd,_⟩:=h4.t HY;obtain⟨e,rfl,pe,_⟩:=h5.t HY;by_cases z:[a,b,c,d,e].Nodup/\yg [a,b,c,d,e]=false
 refine⟨_,.curve<|agu z λt ht=>?_⟩;simp at ht;rcases ht with rfl|rfl|rfl|rfl|rfl<;>assumption
 exact⟨_,.curveN z⟩;rw[Xu]at h;obtain⟨_,_,_,_,rfl,rfl,h1,h2⟩:=h.two;obtain⟨_,C,rfl,_⟩:=h1.c;obtain⟨p,rfl,_⟩:=h2.t HY;by_cases e:vm (cU C) p=(0,0,0)
 exact⟨_,.aboutN e⟩;exact⟨_,.about e⟩;rw[Xg]at h;obtain⟨_,_,_,_,rfl,rfl,h1,h2⟩:=h.two;obtain⟨_,C,rfl,_⟩:=h1.c;obtain⟨p,rfl,_⟩:=h2.t QS;by_cases e:det (cU C)=0
 exact⟨_,.poleN e⟩;exact⟨_,.pole e⟩;rw[Xx]at h;obtain⟨_,_,_,_,_,_,rfl,rfl,h1,h2,h3⟩:=h.three;obtain⟨_,C,rfl,_⟩:=h1.c;obtain⟨p,rfl,_⟩:=h2.t HY;obtain⟨q,rfl,_⟩:=h3.t HY;by_cases e:p=q\/Hv C p≠0\/InC C (Qh (crs p q))
 exact⟨_,.otherN e⟩;exact⟨_,.other (λz=>e<|.inl z) (Ro λz=>e<|.inr<|.inl z) λz=>e<|.inr<|.inr z⟩
theorem abz (h:tw p=tw q):p=q:=by
 obtain⟨a,b,c⟩:=p;simp[tw]at h;simp[h]
theorem ZS {p q}(h:Jp p=Jp q):p=q:=by
 obtain⟨a,b,c,d,e,f⟩:=p;simp[Jp]at h;simp[h]
theorem tgt {s}(h:Tg s n (tw p))(e:s ≠ "curve"):Pl p/\HB (33*n-3) p:=by
 obtain⟨t,et,r⟩:=h.t e;cases abz et
 exact r
theorem Pq (h:Tg "curve" n (Jp C)):10<=n/\Ml (M9 C)/\JK (33*n-3) C:=by
 obtain⟨n10,t,et,r⟩:=h.c;cases ZS et
 simp_all
theorem El (h0:u≠(0,0,0))(s:HB m u):Pl (Qh u)/\Je u (Qh u)/\HB m (Qh u):=⟨(jT h0).1,(jT h0).2,Ng (jT h0).2 s⟩
theorem aaC {mc mp mq}(hC:JK mc C)(hp:HB mp p)(hq:HB mq q):HB (mc+mp+2*mq+7) (K4 (pom C q q) p (-(2*pom C p q)) q):=by
 have hv:HB (mc+mq+3) _:=(mL (cW hC) hq).mono (by lia);have so:Sm (mc+2*mq+5) _:=(je hq hv).mono (by lia);have sg:Sm (mc+mp+mq+5) (pom C p q):=(je hp hv).mono (by lia);have sn:Sm _ (-(2*pom C p q)):=(zF sg).le (by lia);exact⟨((so.mul hp.1).add (sn.mul hq.1)).mono (by lia),((so.mul hp.2.1).add (sn.mul hq.2.1)).mono (by lia),((so.mul hp.2.2).add (sn.mul hq.2.2)).mono (by lia)⟩
variable {n1 n2:Nat}
theorem vf:wtF "join" [n1,n2]=n1+n2:=rfl
theorem wI:wtF "meet" [n1,n2]=n1+n2:=rfl
theorem jC:wtF "about" [n1,n2]=n1+n2:=rfl
theorem jE {n3 n4 n5}:wtF "curve" [n1,n2,n3,n4,n5]=2*(n1+(n2+(n3+(n4+n5)))):=rfl
theorem oh:wtF "pole" [n1,n2]=2*n1+n2:=rfl
theorem jH {n3}:wtF "other" [n1,n2,n3]=n1+n2+2*n3:=rfl
theorem Pk:wtF "free" []=1:=rfl
theorem aao:lJ "join" ≠ "curve"/\lJ "meet" ≠ "curve"/\lJ "about" ≠ "curve"/\lJ "pole" ≠ "curve"/\lJ "other" ≠ "curve"/\lJ "curve" = "curve":=by decide
theorem Out.tg {ns}(o:Out x ws (Dn w))(h:QM (lF x) ns ws):Tg (lJ x) (wtF x ns) w:=by
 obtain⟨j1,j2,j3,j4,j5,j6⟩:=aao;cases o with
 | @join p q ne=>
  obtain⟨n1,n2,_,_,rfl,e,h1,h2⟩:=h.two;cases e;obtain⟨pp,sp⟩:=tgt h1 HY;obtain⟨pq,sq⟩:=tgt h2 HY;have l1:=h1.pos;have l2:=h2.pos;obtain⟨a,_,c⟩:=El (fJ pp pq ne) (kO sp sq);have ew:wtF "join" [n1,n2]=n1+n2:=vf;exact .inr ⟨j1,by lia,_,rfl,a,c.mono<|by lia⟩
 | @meet p q ne=>
  obtain⟨n1,n2,_,_,rfl,e,h1,h2⟩:=h.two;cases e;obtain⟨pp,sp⟩:=tgt h1 QS;obtain⟨pq,sq⟩:=tgt h2 QS;have l1:=h1.pos;have l2:=h2.pos;obtain⟨a,_,c⟩:=El (fJ pp pq ne) (kO sp sq);have ew:wtF "meet" [n1,n2]=n1+n2:=wI;exact .inr ⟨j2,by lia,_,rfl,a,c.mono<|by lia⟩
 | @curve a b c d e G=>
  rw[Wk]at h;obtain⟨n1,n2,n3,n4,n5,_,_,_,_,_,rfl,e0,h1,h2,h3,h4,h5⟩:=h.five;cases e0;have l1:=h1.pos;have l2:=h2.pos;have l3:=h3.pos;have l4:=h4.pos;have l5:=h5.pos;obtain⟨k,k0,ek,pk⟩:=Ux G;have s:=ajv (tgt h1 HY).2 (tgt h2 HY).2 (tgt h3 HY).2 (tgt h4 HY).2 (tgt h5 HY).2 (IK _);have ew:wtF "curve" [n1,n2,n3,n4,n5]=2*(n1+(n2+(n3+(n4+n5)))):=jE;rw[ew,j6];exact .inl ⟨rfl,by lia,_,rfl,pk,(ad3 k0 ek s).mono (by lia)⟩
 | @about C p n0=>
  rw[Xu]at h;obtain⟨n1,n2,_,_,rfl,e,h1,h2⟩:=h.two;cases e;obtain⟨l1,_,sc⟩:=Pq h1;obtain⟨pp,sp⟩:=tgt h2 HY;have l2:=h2.pos;obtain⟨a,_,c⟩:=El n0 (mL (cW sc) sp);have ew:wtF "about" [n1,n2]=n1+n2:=jC;rw[ew];exact .inr ⟨j3,by lia,_,rfl,a,c.mono<|by lia⟩
 | @pole C l hd=>
  rw[Xg]at h;obtain⟨n1,n2,_,_,rfl,e,h1,h2⟩:=h.two;cases e;obtain⟨l1,_,sc⟩:=Pq h1;obtain⟨pp,sp⟩:=tgt h2 QS;have l2:=h2.pos;have sv:HB (2*(33*n1-3)+(33*n2-3)+5) (vm (adj (cU C)) l):=by
   rw[<-CP];exact(mL (O7<|cW sc) sp).mono (by lia)
  obtain⟨a,_,c⟩:=El (Xy (Bd hd) pp.ne) sv;have ew:wtF "pole" [n1,n2]=2*n1+n2:=oh;rw[ew];exact .inr ⟨j4,by lia,_,rfl,a,c.mono<|by lia⟩
 | @other C p q ne w0 ni=>
  rw[Xx]at h;obtain⟨n1,n2,n3,_,_,_,rfl,e,h1,h2,h3⟩:=h.three;cases e;obtain⟨l1,_,sc⟩:=Pq h1;obtain⟨pp,sp⟩:=tgt h2 HY;obtain⟨pq,sq⟩:=tgt h3 HY;have l2:=h2.pos;have l3:=h3.pos;have z:=jT (fJ pp pq ne);obtain⟨oe,par⟩:=JZ ni w0 pp pq z.1 ne z.2;have ew:wtF "other" [n1,n2,n3]=n1+n2+2*n3:=jH;rw[ew];exact .inr ⟨j5,by lia,_,rfl,oe.1,(Ng par<|aaC sc sp sq).mono (by lia)⟩
section
variable {jo th sp oe:Ah}
theorem jA {x}{ws}(hv:view h w1=Dn thg)(t:Told thg js ws)(hl:js.length<=100) (k:(aX (cT (aR (Mk Ib (Mk Av (ao 0) (mC (.int 0))) (mC (.str "join")))) (bJ (aF jo E (aj (Mk Av (ao 2) (mC (.int 0))) (aj (Mk Av (ao 2) (mC (.int 1))) aG)))) bD)
  (bO jo me th li sp oe E)) {nx:=λ_ h'=>Q .non h',rt:=λw h'=>Q w h'} [Dn (.tup (.str x::js.map λj:Nat=>W.int (j))),Dn w1,Dn (.lst ws)] h):aM jo me th li sp oe [.tup (.str x::js.map λj:Nat=>W.int (j)),w1] h Q E:=by
 unfold aM;refine qI rfl rfl<|bA<|bQ<|qH<|tB<|nZ<|aA rfl<|dH<|cI<|Ig<|bW<|nH<|Ld rfl<|RK rfl hv t hl ?_
 assumption
theorem af3 {a b c}{ns R}(q:R c h'):Av (.lst (a::b::c::ns)) (.int 2) h' R:=gH rfl (bZ rfl) q
theorem Mw (hj:mX jo)(hv:view h w1=Dn thg)(t:Told thg js [tw p,tw q])(hm:m<=3900)(sp':HB m p)(sq:HB m q)(pp:Pl p)(pq:Pl q)(k:p≠q->∀t,Pl t->Je (crs p q) t->HB (m+m+1) t->Q (tw t) h)(kx:p=q->E ⟨"Alike",[]⟩ h):
  aM jo me th li sp oe [.tup (.str "join"::js.map λj:Nat=>W.int (j)),w1] h Q E:=by
 refine jA hv t (t.len ▸ QB rfl) ?_;rfl'
 exact Ii<|iU (by decide +kernel)<|hj hm sp' sq pp pq (λne t pt pa st=>(k ne t pt pa st)) kx
theorem JC (hj:mX me)(hv:view h w1=Dn thg)(t:Told thg js [tw p,tw q])(hm:m<=3900)(sp':HB m p)(sq:HB m q)(pp:Pl p)(pq:Pl q)(k:p≠q->∀t,Pl t->Je (crs p q) t->HB (m+m+1) t->Q (tw t) h)(kx:p=q->E ⟨"Alike",[]⟩ h):
  aM jo me th li sp oe [.tup (.str "meet"::js.map λj:Nat=>W.int (j)),w1] h Q E:=by
 refine jA hv t (t.len ▸ QB rfl) ?_;rfl'
 refine Ii<|bM (by decide +kernel) ?_
 unfold bO;rfl'
 exact Ii<|iU (by decide +kernel)<|hj hm sp' sq pp pq (λne t pt pa st=>(k ne t pt pa st)) kx
theorem Oo (ht:Li th){a c:Tr}(hv:view h w1=Dn thg)(t:Told thg js [tw a,tw b,tw c,tw d,tw e])(hm:m<=790)(ok:OkT m [a,b,c,d,e])(k:G5 [a,b,c,d,e]->∀(C:C6) (k:Int),k≠0->ug a b c d e=kC k C->Ml (M9 C)->JK (Zx m) C->Q (Jp C) h)
  (kx:¬[a,b,c,d,e].Nodup->E ⟨"Alike",[]⟩ h) (ky:[a,b,c,d,e].Nodup->yg [a,b,c,d,e]=true->E ⟨"FourOnLine",[]⟩ h) :
  aM jo me th li sp oe [.tup (.str "curve"::js.map λj:Nat=>W.int (j:Int)),w1] h Q E:=by
 refine jA hv t (t.len ▸ QB rfl) ?_;rfl'
 refine Ii<|bM (by decide +kernel) ?_
 unfold bO;rfl'
 refine Ii<|bM (by decide +kernel) ?_
 unfold cG;rfl'
 exact Ii<|iU (by decide +kernel)<|ht (.inl rfl) hm ok k kx ky
theorem Mh (hl:Lz li){c}(hv:view h w1=Dn thg)(t:Told thg js [Jp c,tw p])(hm:m<=3000)(hc:JK m c)(hp:HB m p)(k:vm (cU c) p≠(0,0,0)->∀u,Pl u->Je (vm (cU c) p) u->HB (m+m+4) u->Q (tw u) h)(kx:vm (cU c) p=(0,0,0)->E ⟨"Knot",[]⟩ h):
  aM jo me th li sp oe [.tup (.str "about"::js.map λj:Nat=>W.int (j)),w1] h Q E:=by
 refine jA hv t (by rw[t.len];exact QB rfl) ?_;rfl'
 refine Ii ?_;refine bM (by decide +kernel) ?_;unfold bO;rfl'
 refine Ii ?_;refine bM (by decide +kernel) ?_;unfold cG;rfl'
 refine Ii ?_;refine bM (by decide +kernel) ?_;unfold c7;rfl'
 refine Ii ?_;refine iU (by decide +kernel) ?_;exact hl hm hc hp k kx
theorem Ui (hs:Kg sp){c}(hv:view h w1=Dn thg)(t:Told thg js [Jp c,tw l])(hm:m<=2000)(hc:JK m c)(hl:HB m l)(l0:l≠(0,0,0))(k:det (cU c)≠0->∀u,Pl u->Je (vm (adj (cU c)) l) u->HB (3*m+5) u->Q (tw u) h)(kx:det (cU c)=0->E ⟨"NotRound",[]⟩ h):
  aM jo me th li sp oe [.tup (.str "pole"::js.map λj:Nat=>W.int (j)),w1] h Q E:=by
 refine jA hv t (by rw[t.len];exact QB rfl) ?_;rfl'
 refine Ii ?_;refine bM (by decide +kernel) ?_;unfold bO;rfl'
 refine Ii ?_;refine bM (by decide +kernel) ?_;unfold cG;rfl'
 refine Ii ?_;refine bM (by decide +kernel) ?_;unfold c7;rfl'
 refine Ii ?_;refine bM (by decide +kernel) ?_;unfold eX;rfl'
 refine Ii ?_;rfl'
 refine iU (by decide +kernel) ?_;rfl'
 exact hs hm hc hl l0 k kx
theorem m_other (hj:mX jo)(ho:Jr oe){c}{mc mp mq}(hv:view h w1=Dn thg)(t:Told thg js [Jp c,tw p,tw q])(b1:mp+mc+2*(mp+mq+1)+2<=4000)(b2:mp+mc+4*(mp+mq+1)+10<=8000)(b3:mp+mq+1<=1999)(hc:JK mc c)(hp:HB mp p)(hq:HB mq q)(pp:Pl p)(pq:Pl q)
  (k:p≠q->Hv c p=0->∀l,Pl l->Je (crs p q) l->¬InC c l->∀u,Tf c p l u->Q (tw u) h) (k1:p=q->E ⟨"Alike",[]⟩ h) (k2:p≠q->Hv c p≠0->E ⟨"NotOn",[]⟩ h) (k3:p≠q->Hv c p=0->∀l,Pl l->Je (crs p q) l->InC c l->E ⟨"InCurve",[]⟩ h) :
  aM jo me th li sp oe [.tup (.str "other"::js.map λj:Nat=>W.int (j)),w1] h Q E:=by
 refine jA hv t (by rw[t.len];exact QB rfl) ?_;rfl'
 refine Ii ?_;refine bM (by decide +kernel) ?_;unfold bO;rfl'
 refine Ii ?_;refine bM (by decide +kernel) ?_;unfold cG;rfl'
 refine Ii ?_;refine bM (by decide +kernel) ?_;unfold c7;rfl'
 refine Ii ?_;refine bM (by decide +kernel) ?_;rfl'
 unfold eX;rfl'
 refine Ii ?_;rfl'
 refine bM (by decide +kernel) ?_;rfl'
 unfold ju;rfl'
 refine hj (m:=mp+mq) (by lia) (hp.mono<|by lia) (hq.mono<|by lia) pp pq (λne l pl pa _=>?_) k1;have d:dt3 p l=0:=by
  obtain⟨j,j0,e⟩:=pa;have z:dt3 p (crs p q)=0:=by rw[vI];exact lX _ _
  rw[e,lA]at z;exact(R0.mp z).resolve_right j0
 have sl:HB (mp+mq+1) l:=Ng pa (kO hp hq);rfl'
 exact ho (n:=mp) (mc:=mc) (ml:=mp+mq+1) b1 b2 (by lia) b3 hc hp sl pp pl (λw0 _ i u o _=>k ne w0 l pl pa i u o) (λz=>z.elim (λz=>k2 ne z) λz=>absurd d z) λw0 _ z=>k3 ne w0 l pl pa z
end
variable {jo oe sp th:Ah}
section
variable (hj:mX jo)(hme:mX me)(ht:Li th)(hl:Lz li)(hs:Kg sp)(ho:Jr oe)
include hj hme ht hl hs ho
theorem Out.run {ns o}(O:Out x ws o)(h:QM (lF x) ns ws)(hw:wtF x ns<=48)(t:Told gold js ws){hh}(ec:hh.c n=Dn (.lst gold))(k:∀w,o=Dn w->Q w hh)(kx:o=Go->∀y,E ⟨y,[]⟩ hh):aM jo me th li sp oe [dB x js,.loc n] hh Q E:=by
 cases O with
 | @join p q ne=>
  obtain⟨n1,n2,_,_,rfl,e,h1,h2⟩:=h.two;cases e;rw[vf]at hw;obtain⟨pp,sp⟩:=tgt h1 HY;obtain⟨pq,sq⟩:=tgt h2 HY;exact Mw hj (vw ec) t (m:=33*48) (by decide) (sp.mono<|by lia) (sq.mono<|by lia) pp pq (λ_ u pu par _=>by rw[rG pu par];exact k _ rfl)<|λe=>absurd e ne
 | @joinN p=>
  obtain⟨n1,n2,_,_,rfl,e,h1,h2⟩:=h.two;cases e;rw[vf]at hw;obtain⟨pp,sp⟩:=tgt h1 HY;exact Mw hj (vw ec) t (m:=33*48) (by decide) (sp.mono<|by lia) (sp.mono<|by lia) pp pp (λne _ _ _ _=>absurd rfl ne)<|λ_=>kx rfl _
 | @meet p q ne=>
  rw[ad2]at h;obtain⟨n1,n2,_,_,rfl,e,h1,h2⟩:=h.two;cases e;rw[wI]at hw;obtain⟨pp,sp⟩:=tgt h1 QS;obtain⟨pq,sq⟩:=tgt h2 QS;exact JC hme (vw ec) t (m:=33*48) (by decide) (sp.mono<|by lia) (sq.mono<|by lia) pp pq (λ_ u pu par _=>by rw[rG pu par];exact k _ rfl)<|λe=>absurd e ne
 | @meetN p=>
  rw[ad2]at h;obtain⟨n1,n2,_,_,rfl,e,h1,h2⟩:=h.two;cases e;rw[wI]at hw;obtain⟨pp,sp⟩:=tgt h1 QS;exact JC hme (vw ec) t (m:=33*48) (by decide) (sp.mono<|by lia) (sp.mono<|by lia) pp pp (λne _ _ _ _=>absurd rfl ne)<|λ_=>kx rfl _
 | @curve a b c d e G=>
  rw[Wk]at h;obtain⟨n1,n2,n3,n4,n5,_,_,_,_,_,rfl,e0,h1,h2,h3,h4,h5⟩:=h.five;cases e0;rw[jE]at hw;have l1:=h1.pos;have l2:=h2.pos;have l3:=h3.pos;have l4:=h4.pos;have l5:=h5.pos;refine Oo ht (vw ec) t (m:=660) (by decide) (λx hx=>?_) (λ_ C k' k0 e0 p _=>by rw[acP k0 e0 p];exact k _ rfl) (λz=>absurd G.nd z)<|λ_ z=>absurd ((Od G).symm.trans z)<|by decide
  simp only[K5,Ot,or_false]at hx;rcases hx with rfl|rfl|rfl|rfl|rfl
  exact⟨(tgt h1 HY).1,(tgt h1 HY).2.mono (by lia)⟩;exact⟨(tgt h2 HY).1,(tgt h2 HY).2.mono (by lia)⟩;exact⟨(tgt h3 HY).1,(tgt h3 HY).2.mono (by lia)⟩;exact⟨(tgt h4 HY).1,(tgt h4 HY).2.mono (by lia)⟩;exact⟨(tgt h5 HY).1,(tgt h5 HY).2.mono (by lia)⟩
 | @curveN a b c d e z=>
  rw[Wk]at h;obtain⟨n1,n2,n3,n4,n5,_,_,_,_,_,rfl,e0,h1,h2,h3,h4,h5⟩:=h.five;cases e0;rw[jE]at hw;have l1:=h1.pos;have l2:=h2.pos;have l3:=h3.pos;have l4:=h4.pos;have l5:=h5.pos;refine Oo ht (vw ec) t (m:=660) (by decide) (λx hx=>?_) (λG C k' k0 e0 p _=>absurd ⟨G.nd,Od G⟩ z) (λ_=>kx rfl _)<|λ_ _=>kx rfl _
  simp only[K5,Ot,or_false]at hx;rcases hx with rfl|rfl|rfl|rfl|rfl
  exact⟨(tgt h1 HY).1,(tgt h1 HY).2.mono (by lia)⟩;exact⟨(tgt h2 HY).1,(tgt h2 HY).2.mono (by lia)⟩;exact⟨(tgt h3 HY).1,(tgt h3 HY).2.mono (by lia)⟩;exact⟨(tgt h4 HY).1,(tgt h4 HY).2.mono (by lia)⟩;exact⟨(tgt h5 HY).1,(tgt h5 HY).2.mono (by lia)⟩
 | @about C p n0=>
  rw[Xu]at h;obtain⟨n1,n2,_,_,rfl,e,h1,h2⟩:=h.two;cases e;rw[jC]at hw;obtain⟨l1,_,sc⟩:=Pq h1;obtain⟨pp,sp⟩:=tgt h2 HY;exact Mh hl (vw ec) t (m:=33*48) (by decide) (sc.mono<|by lia) (sp.mono<|by lia) (λ_ u pu par _=>by rw[rG pu par];exact k _ rfl)<|λe=>absurd e n0
 | @aboutN C p z=>
  rw[Xu]at h;obtain⟨n1,n2,_,_,rfl,e,h1,h2⟩:=h.two;cases e;rw[jC]at hw;obtain⟨l1,_,sc⟩:=Pq h1;obtain⟨pp,sp⟩:=tgt h2 HY;exact Mh hl (vw ec) t (m:=33*48) (by decide) (sc.mono<|by lia) (sp.mono<|by lia) (λn0=>absurd z n0)<|λ_=>kx rfl _
 | @pole C l hd=>
  rw[Xg]at h;obtain⟨n1,n2,_,_,rfl,e,h1,h2⟩:=h.two;cases e;rw[oh]at hw;obtain⟨l1,_,sc⟩:=Pq h1;obtain⟨pp,sp⟩:=tgt h2 QS;exact Ui hs (vw ec) t (m:=33*48) (by decide) (sc.mono<|by lia) (sp.mono<|by lia) pp.ne (λ_ u pu par _=>by rw[rG pu par];exact k _ rfl)<|λe=>absurd e hd
 | @poleN C l hd=>
  rw[Xg]at h;obtain⟨n1,n2,_,_,rfl,e,h1,h2⟩:=h.two;cases e;rw[oh]at hw;obtain⟨l1,_,sc⟩:=Pq h1;obtain⟨pp,sp⟩:=tgt h2 QS;exact Ui hs (vw ec) t (m:=33*48) (by decide) (sc.mono<|by lia) (sp.mono<|by lia) pp.ne (λz=>absurd hd z)<|λ_=>kx rfl _
 | @other C p q ne w0 ni=>
  rw[Xx]at h;obtain⟨n1,n2,n3,_,_,_,rfl,e,h1,h2,h3⟩:=h.three;cases e;rw[jH]at hw;obtain⟨l1,_,sc⟩:=Pq h1;obtain⟨pp,sp⟩:=tgt h2 HY;obtain⟨pq,sq⟩:=tgt h3 HY;have l2:=h2.pos;have l3:=h3.pos;exact m_other hj ho (vw ec) t (by lia) (by lia) (by lia) sc sp sq pp pq (λ_ _ l pl par _ u o=>by rw[Tz pq ne par o,rG pl par];exact k _ rfl) (λe=>absurd e ne) (λ_ z=>absurd w0 z)<|λ_ _ l pl par i=>absurd (rG pl par ▸ i) ni
 | @otherN C p q z=>
  rw[Xx]at h;obtain⟨n1,n2,n3,_,_,_,rfl,e,h1,h2,h3⟩:=h.three;cases e;rw[jH]at hw;obtain⟨l1,_,sc⟩:=Pq h1;obtain⟨pp,sp⟩:=tgt h2 HY;obtain⟨pq,sq⟩:=tgt h3 HY;have l2:=h2.pos;have l3:=h3.pos;refine m_other hj ho (vw ec) t (by lia) (by lia) (by lia) sc sp sq pp pq (λne w0 l pl par i u o=>?_) (λ_=>kx rfl _) (λ_ _=>kx rfl _)<|λ_ _ l pl par i=>kx rfl _
  rcases z with z|z|z
  exact absurd z ne;exact absurd w0 z;exact absurd (rG pl par ▸ z) i
end
theorem aeH {a b}(da:Bu h a=Dn a)(db:Bu h b=Dn b)(pa:Hq 30 a=true)(pb:Hq 30 b=true)(k:Q (.bl (Iz a b)) h):Ib a b h Q:=by
 unfold Ib;rw[da,db];show JQ _ _ False
 rwa[pa,pb]
theorem acA {a b}(da:Bu h a=Dn a)(db:Bu h b=Dn b)(pa:Hq 30 a=true)(pb:Hq 30 b=true)(k:Q (.bl (!Iz a b)) h):Ju a b h Q:=by
 unfold Ju;rw[da,db];show JQ _ _ False
 rwa[pa,pb]
theorem aaU:wj qO:=by
 intro h p q m Q E hm hp hq k;obtain⟨h1,h2,h3⟩:=hp;obtain⟨h4,h5,h6⟩:=hq;unfold qO;rfl'
 exact k
theorem RB:qL Aw:=by
 intro h p q m Q E hm hp hq k;obtain⟨h1,h2,h3⟩:=hp;obtain⟨h4,h5,h6⟩:=hq;unfold Aw;rfl'
 exact k
theorem ajc (hcr:wj cr)(hdt:qL dt):uz (CW cr dt):=by
 intro h p q r m Q E hm sp sq sr k;exact hcr (by lia) sp sq<|hdt (by lia) (eV sp sq) (sr.mono<|by lia) k
def GF (c0:Ah):Prop:=∀{h:Gh}{c:C6}{m:Nat}{Q:WK}{E:Ce},m<=4000->JK m c->Q (.lst [tw (cU c).1,tw (cU c).2.1,tw (cU c).2.2]) h->c0 [Jp c] h Q E
theorem Kf:GF lg:=by
 intro h c m Q E hm hc k;obtain⟨h1,h2,h3,h4,h5,h6⟩:=hc;unfold lg;rfl'
 exact k
def Jo (c0:Ah):Prop:=∀{h:Gh}{c:C6}{p:Tr}{m:Nat}{Q:WK}{E:Ce},m<=4000->JK m c->HB m p->Q (tw (vm (cU c) p)) h->c0 [Jp c,tw p] h Q E
theorem zbJ (hdt:qL dt)(hro:GF ro):Jo (zQ dt ro):=by
 intro h c p m Q E hm hc hp k;have st:=cW hc;exact hro (by omega) hc<|hdt (by lia) st.1 (hp.mono<|by lia)<|hdt (by lia) st.2.1 (hp.mono<|by lia)<|hdt (by lia) st.2.2 (hp.mono<|by lia) k
theorem wJ (c)(p):dt3 p (vm (cU c) p)=2*Hv c p:=by
 simp[dt3,vm,cU,Hv];grind
theorem ZJ {a b c d}(k:Q (.bl (decide (a=0/\b=0/\c=0/\d=0))) h):Ib (.lst [.int a,.int b,.int c,.int d]) (.lst [.int 0,.int 0,.int 0,.int 0]) h Q:=by
 refine aeH rfl rfl rfl rfl ?_;have e:Iz (.lst [.int a,.int b,.int c,.int d]) (.lst [.int 0,.int 0,.int 0,.int 0])=decide (a=0/\b=0/\c=0/\d=0):=by
  rw[Iz,iZ,iZ,iZ,iZ,iZ,bU,bU,bU,bU];grind
 rwa[e]
theorem Fj (us)(k:Nat):Gf us Go (Dn (k))=us.take k:=by
 unfold Gf;rw[HT.Cg,HT.G9];simp_all
theorem ait (us)(k:Nat):Gf us (Dn (k)) Go=us.drop k:=by
 unfold Gf;rw[HT.Cg];by_cases h:k<=us.length
 rw[Nat.min_eq_left h,List.take_of_length_le (List.length_drop ▸ IK _)];rw[Nat.min_eq_right (by lia),List.drop_length,List.drop_of_length_le (by lia)];simp
noncomputable def VD (ts:List Tr)(k:Nat):Bool:=iW (ts.take k++ts.drop (k+1))
def l5 (a b c d e:Tr):W:=.lst [tw a,tw b,tw c,tw d,tw e]
def aeU (c0:Ah):Prop:=∀{h:Gh}{a b c d e:Tr}{Q:WK}{E:Ce},OkT 1584 [a,b,c,d,e]->[a,b,c,d,e].Nodup->Q (.bl (yg [a,b,c,d,e])) h->c0 [l5 a b c d e] h Q E
theorem aah (htu:uz tu):aeU (dZ tu):=by
 intro h a b c d e Q E hs nd q;have ft:∀k,k<5->VD [a,b,c,d,e] k=true->yg [a,b,c,d,e]=true:=λk hk z=>by
  rw[ado];rcases(show k=0\/k=1\/k=2\/k=3\/k=4 by lia)with rfl|rfl|rfl|rfl|rfl<;>(simp only[VD,List.take,List.drop,List.nil_append,List.cons_append]at z;simp[z])
 have fe:(∀k,k<5->VD [a,b,c,d,e] k=false)->yg [a,b,c,d,e]=false:=λz=>by
  have z0:=z 0 (by decide);have z1:=z 1 (by decide);have z2:=z 2 (by decide);have z3:=z 3 (by decide);have z4:=z 4 (by decide);simp only[VD,List.take,List.drop,List.nil_append,List.cons_append]at z0 z1 z2 z3 z4;rw[ado,z0,z1,z2,z3,z4];rfl
 have ex:∀k,k<5->∃p q r s,[a,b,c,d,e].take k++[a,b,c,d,e].drop (k+1)=[p,q,r,s]/\p∈[a,b,c,d,e]/\q∈[a,b,c,d,e]/\r∈[a,b,c,d,e]/\s∈[a,b,c,d,e]/\p≠q:=λk hk=>by
  simp only[S8,K5,Ot,or_false,not_or]at nd;obtain⟨⟨ab,ac,ad,ae⟩,⟨bc,bd,be⟩,⟨cd,ce⟩,de,_⟩:=nd;rcases(show k=0\/k=1\/k=2\/k=3\/k=4 by lia)with rfl|rfl|rfl|rfl|rfl
  exact⟨b,c,d,e,rfl,by simp,by simp,by simp,by simp,bc⟩;exact⟨a,c,d,e,rfl,by simp,by simp,by simp,by simp,ac⟩;exact⟨a,b,d,e,rfl,by simp,by simp,by simp,by simp,ab⟩;exact⟨a,b,c,e,rfl,by simp,by simp,by simp,by simp,ab⟩;exact⟨a,b,c,d,rfl,by simp,by simp,by simp,by simp,ab⟩
 have el:l5 a b c d e=.lst ([a,b,c,d,e].map tw):=rfl;rw[el];generalize[a,b,c,d,e]=ts at *;unfold dZ;refine qI rfl (σ:=[Dn<|.lst<|ts.map tw,Go,Go,Go]) rfl<|bA<|rH<|rM<|aB<|cI<|aJ<|Jx (m:=5) (by decide)<|qZ ?_
 refine jf (λi σ h'=>∃s1 s2 s3,σ=[Dn<|.lst<|ts.map tw,s1,s2,s3]/\h'=h/\∀k,k<i->VD ts k=false) ?_ ?_ ⟨_,_,_,rfl,rfl,λk hk=>absurd hk<|VL k⟩
 ·rintro i w σ h' N hN ew ⟨s1,s2,s3,rfl,rfl,hf⟩;rw[Jm]at ew;obtain⟨j,ej,rfl⟩:=S6.mp ew;obtain⟨ei,hik⟩:=lC ej;rw[WT]at ei;subst ei;obtain⟨p,q',r,s,e4,mp,mq,mr,ms,ne⟩:=ex j (by lia);refine nV ?_;refine bA<|bQ<|aW<|nZ<|aA rfl<|bW<|dH<|aA rfl<|Ig<|Ma (Fj _ _) ?_
  refine nZ<|aA rfl<|dH<|aW<|aA rfl<|cI<|eY<|Ig<|bW<|Ma (us:=(ts.map tw).drop (j+1)) ?_ ?_
  exact ait _<|j+1
  have e5:(ts.map tw).take j++(ts.map tw).drop (j+1)=[tw p,tw q',tw r,tw s]:=by
   rw[<-List.map_take,<-List.map_drop,<-R7,e4];rfl
  refine Wz (by rw[<-KJ,e5];exact QB rfl) ?_;rw[e5];refine nV<|dX ?_
  rfl'
  refine htu (m:=1584) (by decide) (hs _ mp).2 (hs _ mq).2 (hs _ mr).2 ?_;rfl'
  refine htu (m:=1584) (by decide) (hs _ mp).2 (hs _ mq).2 (hs _ ms).2 ?_;rfl'
  refine htu (m:=1584) (by decide) (hs _ mp).2 (hs _ mr).2 (hs _ ms).2 ?_;rfl'
  refine htu (m:=1584) (by decide) (hs _ mq).2 (hs _ mr).2 (hs _ ms).2 ?_;rfl'
  refine ZJ ?_;have f4:=ahR (r:=r) (s:=s) (hs _ mp).1 (hs _ mq).1 ne;have ef:VD ts j=iW [p,q',r,s]:=by unfold VD;rw[e4]
  rfl'
  refine yr (λz=>?_) λz=>?_
  ·rfl'
   have:=ft j (by lia) (by rw[ef,f4];exact z)
   rw[this]at q;exact q
  ·rfl'
   refine hN _ _ ⟨_,_,_,rfl,rfl,λk hk=>?_⟩;by_cases hkj:k<j
   exact hf k hkj;have:k=j:=by lia
   subst this;rw[ef];cases hb:iW [p,q',r,s]with
   | false=>rfl
   | true=>exact absurd (f4.mp hb) z
 ·rintro σ h' ⟨s1,s2,s3,rfl,rfl,hf⟩;have hl:((rng 0 5).map λx:Nat=>W.int (x:Int)).length=5:=rfl;rw[hl]at hf;rw[fe hf]at q;unfold fK;rfl'
  exact q
theorem acM (k:Q (.bl (decide (p≠q))) h):Ju (tw p) (tw q) h Q:=by
 refine acA rfl rfl rfl rfl ?_;rw[Cy];simp_all
def abb (c0:Ah):Prop:=∀{h:Gh}{w1:W}{gold ws:List W}{js ns:List Nat}{x:Str}{o:Option W}{Q:WK}{E:Ce},Out x ws o->QM (lF x) ns ws->wtF x ns<=48->view h w1=Dn gold->Told gold js ws->Q (.bl o.isSome) h->c0 [dB x js,w1] h Q E
def afV (c0:Ah):Prop:=∀{h:Gh}{w1:W}{gold:List W}{Q:WK}{E:Ce},view h w1=Dn gold->Q (.bl true) h->c0 [dB "free" [],w1] h Q E
section
variable {fo:Ah}
theorem qb {x}{ws}(hv:view h w1=Dn gold)(t:Told gold js ws)(hl:js.length<=100) (k:(aX (cT (QG (aR (Mk Ib (Mk Av (ao 0) (mC (.int 0))) (mC (.str "join")))) (aR (Mk Ib (Mk Av (ao 0) (mC (.int 0))) (mC (.str "meet"))))) (bJ (Mk Ju (Mk Av (ao 2) (mC (.int 0))) (Mk Av (ao 2) (mC (.int 1))))) bD)
  (gP dt tu ro ti fo E)) {nx:=λ_ h'=>Q .non h',rt:=λw h'=>Q w h'} [Dn (dB x js),Dn w1,Dn (.lst ws),Go,Go] h):fV dt tu ro ti fo [dB x js,w1] h Q E:=by
 unfold fV;exact qI rfl (σ:=[Dn _,Dn w1,Go,Go,Go]) rfl<|bA<|bQ<|qH<|tB<|nZ<|aA rfl<|dH<|cI<|Ig<|bW<|nH<|Ld rfl<|RK rfl hv t hl<|nV<|dX k
end
theorem pL {p}[Decidable p](h:p):decide p=true:=decide_eq_true h
theorem nu {p}[Decidable p](h:¬p):decide p=false:=decide_eq_false h
section
variable {fo:Ah}(hdt:qL dt)(htu:uz tu)(hro:GF ro)(hti:Jo ti)(hfo:aeU fo)
theorem acn:afV (fV dt tu ro ti fo):=by
 intro h w1 gold Q E hv k;refine bM (by decide +kernel)<|bM (by decide +kernel)<|bM (by decide +kernel)<|bM (by decide +kernel) ?_
 rfl'
 refine bM (by decide +kernel) ?_;rfl'
 unfold qQ;rfl'
 refine bM (by decide +kernel) ?_;rfl'
 unfold yc;rfl'
 exact k
theorem FW (hx:x = "join"\/x = "meet")(hv:view h w1=Dn gold)(t:Told gold js [tw p,tw q])(k:Q (.bl (decide (p≠q))) h):fV dt tu ro ti fo [dB x js,w1] h Q E:=by
 refine qb hv t (by rw[t.len];exact QB rfl) ?_;rcases hx with rfl|rfl
 ·rfl'
  refine Ii ?_;refine iU (by decide +kernel) ?_;rfl'
  exact k
 ·rfl'
  refine Ii ?_;refine bM (by decide +kernel) ?_;rfl'
  refine Ii ?_;refine iU (by decide +kernel) ?_;rfl'
  exact k
include hfo in
theorem U7 {a c}(ok:OkT 1584 [a,b,c,d,e])(hv:view h w1=Dn gold)(t:Told gold js [tw a,tw b,tw c,tw d,tw e])(k:Q (.bl (decide [a,b,c,d,e].Nodup&&!yg [a,b,c,d,e])) h):fV dt tu ro ti fo [dB "curve" js,w1] h Q E:=by
 refine qb hv t (by rw[t.len];exact QB rfl) ?_;unfold dB;rfl'
 refine Ii ?_;rfl'
 refine bM (by decide +kernel) ?_;rfl'
 refine Ii ?_;rfl'
 refine bM (by decide +kernel) ?_;rfl'
 unfold gP;rfl'
 refine Ii ?_;rfl'
 refine iU (by decide +kernel) ?_;refine dN<|Bw<|aW<|dg<|aB<|aA rfl<|aJ ?_
 refine afY (ts:=[a,b,c,d,e]) (.inl rfl) (IK 5) ?_;have dl:=Ou [a,b,c,d,e];have le:(Qc ([a,b,c,d,e].map tl)).length<=5:=by have:=gA ([a,b,c,d,e].map tl) [];simpa[Qc]using this
 refine cI<|Cu<|ae0 ?_
 by_cases nd:[a,b,c,d,e].Nodup
 rw[pL nd]at dl k;have e5:((Qc ([a,b,c,d,e].map tl)).length:Int)=5:=by
  have:=of_decide_eq_false dl
  simp only[Nq,List.length_nil]at this;lia
 refine iU (pL e5) ?_;refine Ao<|bH<|aB<|aA rfl<|aJ ?_
 exact hfo ok nd<|adL<|Pz k
 rw[nu nd]at dl k;have e5:¬((Qc ([a,b,c,d,e].map tl)).length:Int)=5:=by
  have:=of_decide_eq_true dl
  simp only[Nq,List.length_nil]at this;lia
 refine bM (nu e5) ?_;exact Pz k
include hti in
theorem U9 (sc:JK 1584 C)(sp:HB 1584 p)(hv:view h w1=Dn gold)(t:Told gold js [Jp C,tw p])(k:Q (.bl (decide (vm (cU C) p≠(0,0,0)))) h):fV dt tu ro ti fo [dB "about" js,w1] h Q E:=by
 refine qb hv t (by rw[t.len];exact QB rfl) ?_;unfold dB;rfl'
 refine Ii ?_;rfl'
 refine bM (by decide +kernel) ?_;rfl'
 refine Ii ?_;rfl'
 refine bM (by decide +kernel) ?_;rfl'
 unfold gP;rfl'
 refine Ii ?_;rfl'
 refine bM (by decide +kernel) ?_;rfl'
 unfold mU;rfl'
 refine Ii ?_;rfl'
 refine iU (by decide +kernel) ?_;rfl'
 refine hti (m:=1584) (by decide) sc sp ?_;rfl'
 exact k
include hro htu in
theorem Uu (sc:JK 1584 C)(hv:view h w1=Dn gold)(t:Told gold js [Jp C,tw l])(k:Q (.bl (decide (det (cU C)≠0))) h):fV dt tu ro ti fo [dB "pole" js,w1] h Q E:=by
 refine qb hv t (by rw[t.len];exact QB rfl) ?_;have st:=cW sc;unfold dB;rfl'
 refine Ii ?_;rfl'
 refine bM (by decide +kernel) ?_;rfl'
 refine Ii ?_;rfl'
 refine bM (by decide +kernel) ?_;rfl'
 unfold gP;rfl'
 refine Ii ?_;rfl'
 refine bM (by decide +kernel) ?_;rfl'
 unfold mU;rfl'
 refine Ii ?_;rfl'
 refine bM (by decide +kernel) ?_;rfl'
 unfold rO;rfl'
 refine Ii ?_;rfl'
 refine iU (by decide +kernel) ?_;rfl'
 refine hro (m:=1584) (by decide) sc ?_;rfl'
 refine htu (m:=1585) (by decide) st.1 st.2.1 st.2.2 ?_;rfl'
 exact k
include hti hdt in
theorem Vd (sc:JK 1584 C)(sp:HB 1584 p)(sq:HB 1584 q)(hv:view h w1=Dn gold)(t:Told gold js [Jp C,tw p,tw q])(k:Q (.bl (decide (p≠q/\Hv C p=0/\(pom C p q≠0\/Hv C q≠0)))) h):fV dt tu ro ti fo [dB "other" js,w1] h Q E:=by
 refine qb hv t (by rw[t.len];exact QB rfl) ?_;have vp:HB 3200 (vm (cU C) p):=(mL (cW sc) sp).mono (by decide);have vq:HB 3200 (vm (cU C) q):=(mL (cW sc) sq).mono (by decide);unfold dB;rfl'
 refine Ii ?_;rfl'
 refine bM (by decide +kernel) ?_;rfl'
 refine Ii ?_;rfl'
 refine bM (by decide +kernel) ?_;rfl'
 unfold gP;rfl'
 refine Ii ?_;rfl'
 refine bM (by decide +kernel) ?_;rfl'
 unfold mU;rfl'
 refine Ii ?_;rfl'
 refine bM (by decide +kernel) ?_;rfl'
 unfold rO;rfl'
 refine Ii ?_;rfl'
 refine bM (by decide +kernel) ?_;rfl'
 unfold qQ;rfl'
 refine Ii ?_;rfl'
 refine iU (by decide +kernel) ?_;refine bA<|bQ ?_
 rfl'
 refine hti (m:=1584) (by decide) sc sq ?_;rfl'
 refine yr (λe=>?_) λe=>?_
 ·rfl'
  rw[nu (λz=>z.1 e)]at k;exact k
 ·rfl'
  refine hti (m:=1584) (by decide) sc sp ?_;rfl'
  refine hdt (m:=3200) (by decide) (sp.mono<|by decide) vp ?_;rw[wJ];rfl'
  refine yr (λz=>?_) λz=>?_
  ·rfl'
   rw[nu (λy=>z (by rw[y.2.1];rfl))]at k;exact k
  ·have w0:Hv C p=0:=by lia
   rfl'
   refine hdt (m:=3200) (by decide) (sp.mono<|by decide) vq ?_;have eg:dt3 p (vm (cU C) q)=pom C p q:=rfl;rw[eg];rfl'
   by_cases g:pom C p q=0
   ·refine bM (nu λz=>z g) ?_;rfl'
    refine hdt (m:=3200) (by decide) (sq.mono<|by decide) vq ?_;rw[wJ];rfl'
    have ed:decide (2*Hv C q≠0)=decide (p≠q/\Hv C p=0/\(pom C p q≠0\/Hv C q≠0)):=by
     by_cases wq:Hv C q=0
     rw[nu (λz=>z (by rw[wq];rfl)),nu (λz=>z.2.2.elim (λy=>y g) λy=>y wq)];rw[pL (show 2*Hv C q≠0 by lia),pL ⟨e,w0,.inr wq⟩]
    rw[ed];exact k
   ·refine iU (pL g) ?_;rfl'
    rw[pL ⟨e,w0,.inl g⟩]at k;exact k
end
theorem ZR (h:dn ns=1){a b}(ha:a∈ns)(hb:b∈ns):a=b:=by
 have er:(P0 ns.length).map (λi=>ns.getD i 0)=ns:=by
  apply List.ext_getElem (by simp);grind
 have key:∀k,(V9 ns _).any _=ns.any (·==k):=λk=>by
  have:=PyProof.Rows.firstMet_any (λi=>ns.getD i 0) ns.length k
  rwa[er]at this
 unfold dn at h;match e:V9 ns _,h with
 | [c],_=>
  have f:=λk hk=>by
   have:=key k
   rw[e]at this;have t:ns.any (·==k)=true:=YL.mpr ⟨k,hk,beq_self_eq_true k⟩;rw[t]at this
   simpa using this
  grind
theorem PB.self (hc:PB c0)(p:Ml ns)(hs:∀n∈ns,Sm m n)(hm:m<=8000)(hl:ns.length<=1000)(k:Q (.tup (ns.map .int)) h):c0 [.tup (ns.map .int)] h Q E:=by
 refine hc (.inr<|.inl rfl) p.nz hs hm hl λms j j0 e pm _=>?_;rw[Nu pm p j0 (show(1:Int)≠0 by decide) (by rw[<-e];simp)];exact k
theorem Dz:∀ns:List Int,tH (ns.map W.int)=Dn ns
 | []=>rfl
 | a::ns=>by rw[Nj,tH,Dz ns];rfl
theorem lsI (hl:ns.length<=100)(k:Q (.int (dn ns)) h):mH [.tup (ns.map .int)] h Q:=by
 show(match tH _ with
  | some ns=>ns.length<=100/\Q _ h
  | none=>False)
 rw[Dz];grind
theorem G6:∀ns:List Int,iZ (ns.map W.int) (ns.map W.int)=true
 | []=>rfl
 | a::ns=>by rw[Nj,iZ,G6 ns,Iz];simp
theorem ajg (k:Q (.bl false) h):Ju (.tup (ns.map .int)) (.tup (ns.map .int)) h Q:=by
 refine acA rfl rfl (by simp[Hq]) (by simp[Hq]) ?_;rw[Iz,G6];exact k
section
theorem yt (hpl:PB pl)(hv:view h w1=Dn gold)(t:Told gold js ws)(hl:js.length<=100)(en:ns.length=if x = "curve" then 6 else 3)(p:Ml ns)(hs:∀n∈ns,Sm 1584 n)
  (k:bT pl cr dt tu ti E {nx:=λ_ h'=>Q .non h',rt:=λw h'=>Q w h'} [Dn (dB x js),Dn w1,Dn (.tup (ns.map .int)),Dn (.lst ws),Go] h):cJ pl cr dt tu ti [dB x js,w1,.tup (ns.map .int)] h Q E:=by
 have n6:ns.length<=6:=by rw[en];split<;>lia
 have n3:3<=ns.length:=by rw[en];split<;>lia
 refine qI rfl (σ:=[Dn<|dB x js,Dn w1,Dn<|.tup<|ns.map .int,Go,Go]) rfl ?_;refine bA<|bQ<|qH<|tB<|nZ<|aA rfl<|dH<|cI<|Ig<|bW<|nH<|Ld (ws:=js.map λj:Nat=>W.int (j:Int)) (o:=Go) rfl ?_
 refine RK rfl hv t hl ?_;refine nV<|dX ?_
 refine bA<|d9<|yj<|lR<|jP<|dg<|aB<|aA rfl<|aB<|cI<|aJ<|zj (b:=true) rfl<|Pr rfl<|bM rfl ?_
 refine bN<|aW<|dg<|aB<|aA rfl<|aJ<|eE (xs:=ns.map .int) rfl ?_
 refine aW<|cI<|aW<|cI<|dg<|aB<|aW<|aW<|aA rfl<|cI<|Ii<|cI ?_
 have t2:iD pl cr dt tu ti E {nx:=λ_ h'=>Q .non h',rt:=λw h'=>Q w h'} [Dn (dB x js),Dn w1,Dn (.tup (ns.map .int)),Dn (.lst ws),Go] h:=by
  refine sX (by rw[Hi];exact Nat.ble_eq.mpr (by lia)) ?_;refine dR (λi acc h'=>h'=h/\acc=[]) ?_ ?_ ⟨rfl,rfl⟩;rintro i w acc h' N hN e ⟨rfl,rfl⟩;rw[Jm]at e;obtain⟨a,ea,rfl⟩:=S6.mp e;refine⟨[.int a],rfl,?_⟩;refine yj<|lR<|jP<|dg<|aB<|aA rfl<|aB<|cI<|aJ<|zj (b:=true) rfl<|Pr rfl<|bM rfl ?_
  refine jP<|dg<|aB<|aA rfl<|aB<|cI<|aJ<|zj (b:=false) rfl<|Pr rfl ?_
  exact uo<|hN _ _ ⟨rfl,rfl⟩
  ·rintro acc h' ⟨rfl,rfl⟩;refine aJ<|eE (xs:=[]) rfl<|cI ?_
   rfl'
   refine bM (by decide) ?_;rfl'
   unfold sy;refine bA<|d9<|yj<|zm<|bN<|aW<|dg<|aB<|aA rfl<|aJ<|lsI (by lia)<|cI<|Cu<|pW ?_
   have last:(aR (Mk Ju (aF pl E (aj (ao 2) aG)) (ao 2))) [Dn (dB x js),Dn w1,Dn (.tup (ns.map .int)),Dn (.lst ws),Go] h' (λc h1=>br c (bJ (mC (.bl false)) {nx:=bT pl cr dt tu ti E {nx:=λ_ h'=>Q .non h',rt:=λw h'=>Q w h'},rt:=λw h'=>Q w h'} [Dn (dB x js),Dn w1,Dn (.tup (ns.map .int)),Dn (.lst ws),Go] h1) (bD {nx:=bT pl cr dt tu ti E {nx:=λ_ h'=>Q .non h',rt:=λw h'=>Q w h'},rt:=λw h'=>Q w h'} [Dn (dB x js),Dn w1,Dn (.tup (ns.map .int)),Dn (.lst ws),Go] h1)):=by
    refine bN<|aW<|bH<|aB<|aA rfl<|aJ ?_
    refine hpl.self p hs (by decide) (by lia)<|aA rfl<|ajg<|pW<|bM rfl<|cY<|dX k
   by_cases d1:(dn ns:Int)=1
   refine iU (pL d1) ?_;have d1':dn ns=1:=by lia
   obtain⟨a,b,c,r,rfl⟩:∃a b c r,ns=a::b::c::r:=by
    match ns,n3 with
    | a::b::c::r,_=>exact⟨a,b,c,r,rfl⟩
   have a0:a≠0:=λz=>by
    obtain⟨y,hy,y0⟩:=p.nz;exact y0<|(ZR d1' hy<|RM ..).trans z
   refine bN<|aW<|aW<|aA rfl<|cI<|gH (ws:=(a::b::c::r).map .int) (w:=.int a) rfl (bZ (j:=0) rfl)<|cI<|Cu<|pW ?_
   refine bM (nu a0) ?_;exact last;refine bM (nu d1)<|bM rfl ?_
   exact last
 have fin:∀c:Bool,c=decide (x = "curve")->(PN [.bl c] h λw h1=>zq (.int 3) w h1 λw2 h2=>bR (.int 3) w2 h2 λw3 h3=>Ju (.int ((ns.map W.int).length:Nat)) w3 h3 (tK λc h1=>br c (bJ (mC (.bl false)) {nx:=iD pl cr dt tu ti E {nx:=λ_ h'=>Q .non h',rt:=λw h'=>Q w h'},rt:=λw h'=>Q w h'} [Dn (dB x js),Dn w1,Dn (.tup (ns.map .int)),Dn (.lst ws),Go] h1) (bD {nx:=iD pl cr dt tu ti E {nx:=λ_ h'=>Q .non h',rt:=λw h'=>Q w h'},rt:=λw h'=>Q w h'} [Dn (dB x js),Dn w1,Dn (.tup (ns.map .int)),Dn (.lst ws),Go] h1))):=by
  intro c ec;by_cases z:x = "curve"
  ·rw[pL z]at ec;rw[if_pos z]at en;subst ec;rfl'
   refine Bq (.inr<|.inl<|Sm.lit rfl) ?_;rfl'
   refine yr (λz=>absurd (by rw[Hi,en];rfl) z) λ_=>?_;rfl'
   exact t2
  ·rw[nu z]at ec;rw[if_neg z]at en;subst ec;rfl'
   refine Bq (.inr<|.inl<|Sm.lit rfl) ?_;rfl'
   refine yr (λz=>absurd (by rw[Hi,en];rfl) z) λ_=>?_;rfl'
   exact t2
 refine rC<|aJ ?_
 exact fin _ rfl
end
theorem ajl {t}(h:Je u t):crs t u=(0,0,0):=by
 obtain⟨k,_,rfl⟩:=h;simp only[crs,sc];grind
theorem akF (h:Je (vm (adj (cU C)) l) u):crs l (vm (cU C) u)=(0,0,0):=by
 have h1:=abM (M:=cU C) h;rw[ajp]at h1;obtain⟨k,k0,e⟩:=h1;have z:sc k (crs l (vm (cU C) u))=(0,0,0):=by
  have:crs l (sc k (vm (cU C) u))=(0,0,0):=by
   rw[<-e];simp[crs,sc];grind
  rw[<-this];simp only[crs,sc];grind
 exact(jz k0).mp z
theorem ac0 {x}(h:Je u l)(z:dt3 l x=0):dt3 u x=0:=by
 obtain⟨k,_,rfl⟩:=h;rw[ux,z,Int.zero_mul]
def Ol (c0:Ah):Prop:=∀{h:Gh}{w1 w:W}{gold ws:List W}{js ns:List Nat}{x:Str}{Q:WK}{E:Ce},Out x ws (Dn w)->QM (lF x) ns ws->wtF x ns<=48->view h w1=Dn gold->Told gold js ws->Q (.bl true) h->c0 [dB x js,w1,w] h Q E
def TJ (c0:Ah):Prop:=∀{h:Gh}{w1:W}{t:Tr}{gold:List W}{Q:WK}{E:Ce},Pl t->HB 1584 t->view h w1=Dn gold->Q (.bl true) h->c0 [dB "free" [],w1,tw t] h Q E
section
variable (hpl:PB pl)(hcr:wj cr)(hdt:qL dt)(htu:uz tu)(hti:Jo ti)
include hpl
theorem rD {t}(nx:x ≠ "curve")(hv:view h w1=Dn gold)(td:Told gold js ws)(hl:js.length<=100)(p:Pl t)(hs:HB 1584 t)
  (k:bT pl cr dt tu ti E {nx:=λ_ h'=>Q .non h',rt:=λw h'=>Q w h'} [Dn (dB x js),Dn w1,Dn (tw t),Dn (.lst ws),Go] h):cJ pl cr dt tu ti [dB x js,w1,tw t] h Q E:=by
 obtain⟨a,b,c⟩:=t;refine yt hpl (ns:=[a,b,c]) hv td hl (by rw[if_neg nx];rfl) p (λn hn=>?_) k;simp[or_false]at hn;rcases hn with rfl|rfl|rfl
 exact hs.1;exact hs.2.1;exact hs.2.2
theorem ahB:TJ (cJ pl cr dt tu ti):=by
 intro h w1 t gold Q E p hs hv k;refine rD hpl (ws:=[]) (by decide) hv rfl (by decide) p hs<|bM (by decide +kernel)<|bM (by decide +kernel)<|bM (by decide +kernel)<|bM (by decide +kernel)<|bM (by decide +kernel) ?_
 rfl'
 unfold lK;rfl'
 refine bM (by decide +kernel) ?_;rfl'
 assumption
include hdt in
theorem DY (hx:x = "join"\/x = "meet")(hv:view h w1=Dn gold)(td:Told gold js [tw p,tw q])(pl':Pl l)(sl:HB 1584 l)(sp:HB 1584 p)(sq:HB 1584 q)(z:dt3 l p=0/\dt3 l q=0)(k:Q (.bl true) h):cJ pl cr dt tu ti [dB x js,w1,tw l] h Q E:=by
 refine rD hpl (by rcases hx with rfl|rfl<;>decide) hv td (by rw[td.len];exact QB rfl) pl' sl ?_;have fin:bJ (Bf (Mk Ib (aF dt E (aj (ao 2) (aj (Mk Av (ao 3) (mC (.int 0))) aG))) (mC (.int 0))) (Mk Ib (aF dt E (aj (ao 2) (aj (Mk Av (ao 3) (mC (.int 1))) aG))) (mC (.int 0)))) {nx:=dD pl cr dt tu ti E {nx:=λ_ h'=>Q .non h',rt:=λw h'=>Q w h'},rt:=λw h'=>Q w h'} [Dn (dB x js),Dn w1,Dn (tw l),Dn (.lst [tw p,tw q]),Go] h:=by
  rfl'
  refine hdt (m:=1584) (by decide) sl sp ?_;rw[z.1];rfl'
  refine iU rfl ?_;rfl'
  refine hdt (m:=1584) (by decide) sl sq ?_;rw[z.2];rfl'
  exact k
 unfold bT;unfold dB at fin|-
 rcases hx with rfl|rfl
 ·rfl'
  refine Ii ?_;rfl'
  exact iU (by decide +kernel)<|iU rfl fin
 ·rfl'
  refine Ii ?_;rfl'
  refine bM (by decide +kernel) ?_;rfl'
  refine Ii ?_;rfl'
  exact iU (by decide +kernel) fin
include hdt hti in
theorem alk {a c}(hv:view h w1=Dn gold)(td:Told gold js [tw a,tw b,tw c,tw d,tw e])(pC:Ml (M9 C))(sC:JK 1584 C)(ok:∀t∈[a,b,c,d,e],HB 1584 t/\Hv C t=0)(k:Q (.bl true) h):cJ pl cr dt tu ti [dB "curve" js,w1,Jp C] h Q E:=by
 refine yt hpl (x := "curve") (ns:=M9 C) hv td (by rw[td.len];exact QB rfl) (by rw[if_pos rfl];rfl) pC sC.all ?_;have e6:(W.tup ((M9 C).map .int))=Jp C:=rfl;rw[e6];have el:[tw a,tw b,tw c,tw d,tw e]=[a,b,c,d,e].map tw:=rfl;have e5:[a,b,c,d,e].length=5:=rfl;rw[el];generalize[a,b,c,d,e]=ts at ok e5;unfold bT dB;rfl'
 refine Ii ?_;rfl'
 refine bM (by decide +kernel) ?_;rfl'
 refine Ii ?_;rfl'
 refine bM (by decide +kernel) ?_;rfl'
 unfold dD;rfl'
 refine Ii ?_;rfl'
 refine iU (by decide +kernel)<|dN<|aW<|dg<|aB<|qH<|tB<|aA rfl<|Ld (ws:=ts.map tw) (o:=Go) rfl ?_
 refine sX (by rw[Hi,e5];rfl) ?_;refine dR (λi acc h'=>h'=h/\acc=[]) ?_ ?_ ⟨rfl,rfl⟩;rintro i w acc h' N hN ew ⟨rfl,rfl⟩;obtain⟨t,et,rfl⟩:=zp ew;obtain⟨st,wt⟩:=ok t (RN et);refine⟨[tw t],rfl,(bN<|aW<|bH<|aB<|aA rfl<|aB<|bH<|aB<|aA rfl<|aB<|aA rfl<|aJ<|hti (m:=1584) (by decide) sC st<|aJ<|hdt (m:=3200) (by decide) (st.mono<|by decide) ((mL (cW sC) st).mono (by decide)) ?_)⟩;rw[wJ,wt];exact cI<|Yd<|pW<|uo<|hN _ _ ⟨rfl,rfl⟩
 rintro acc h' ⟨rfl,rfl⟩;exact aJ<|eE (xs:=[]) rfl<|cI<|Cu<|Pz k
include hcr hti in
theorem ahJ (hv:view h w1=Dn gold)(td:Told gold js [Jp C,tw p])(pl':Pl l)(sl:HB 1584 l)(sC:JK 1584 C)(sp:HB 1584 p)(z:crs l (vm (cU C) p)=(0,0,0))(k:Q (.bl true) h):cJ pl cr dt tu ti [dB "about" js,w1,tw l] h Q E:=by
 refine rD hpl (by decide) hv td (by rw[td.len];exact QB rfl) pl' sl ?_;unfold bT dB;rfl'
 refine Ii ?_;rfl'
 refine bM (by decide +kernel) ?_;rfl'
 refine Ii ?_;rfl'
 refine bM (by decide +kernel) ?_;rfl'
 unfold dD;rfl'
 refine Ii ?_;rfl'
 refine bM (by decide +kernel) ?_;rfl'
 unfold iz;rfl'
 refine Ii ?_;rfl'
 refine iU (by decide +kernel) ?_;rfl'
 refine hti (m:=1584) (by decide) sC sp ?_;rfl'
 refine hcr (m:=3200) (by decide) (sl.mono<|by decide) ((mL (cW sC) sp).mono (by decide)) ?_;rw[z];rfl'
 exact k
include hcr hti in
theorem zbu (hv:view h w1=Dn gold)(td:Told gold js [Jp C,tw l])(pu:Pl u)(su:HB 1584 u)(sC:JK 1584 C)(sl:HB 1584 l)(z:crs l (vm (cU C) u)=(0,0,0))(k:Q (.bl true) h):cJ pl cr dt tu ti [dB "pole" js,w1,tw u] h Q E:=by
 refine rD hpl (by decide) hv td (by rw[td.len];exact QB rfl) pu su ?_;unfold bT dB;rfl'
 refine Ii ?_;rfl'
 refine bM (by decide +kernel) ?_;rfl'
 refine Ii ?_;rfl'
 refine bM (by decide +kernel) ?_;rfl'
 unfold dD;rfl'
 refine Ii ?_;rfl'
 refine bM (by decide +kernel) ?_;rfl'
 unfold iz;rfl'
 refine Ii ?_;rfl'
 refine bM (by decide +kernel) ?_;rfl'
 unfold lH;rfl'
 refine Ii ?_;rfl'
 refine iU (by decide +kernel) ?_;rfl'
 refine hti (m:=1584) (by decide) sC su ?_;rfl'
 refine hcr (m:=3200) (by decide) (sl.mono<|by decide) ((mL (cW sC) su).mono (by decide)) ?_;rw[z];rfl'
 exact k
include hdt hti htu in
theorem ahU (hv:view h w1=Dn gold)(td:Told gold js [Jp C,tw p,tw q])(pu:Pl u)(su:HB 1584 u)(sC:JK 1584 C)(sp:HB 1584 p)(sq:HB 1584 q)(z1:Hv C u=0)(z2:u=p↔pom C p q=0)(z3:dt3 (crs p q) u=0)(k:Q (.bl true) h):cJ pl cr dt tu ti [dB "other" js,w1,tw u] h Q E:=by
 refine rD hpl (by decide) hv td (by rw[td.len];exact QB rfl) pu su ?_;have vq:HB 3200 (vm (cU C) q):=(mL (cW sC) sq).mono (by decide);have vu:HB 3200 (vm (cU C) u):=(mL (cW sC) su).mono (by decide);unfold bT dB;rfl'
 refine Ii ?_;rfl'
 refine bM (by decide +kernel) ?_;rfl'
 refine Ii ?_;rfl'
 refine bM (by decide +kernel) ?_;rfl'
 unfold dD;rfl'
 refine Ii ?_;rfl'
 refine bM (by decide +kernel) ?_;rfl'
 unfold iz;rfl'
 refine Ii ?_;rfl'
 refine bM (by decide +kernel) ?_;rfl'
 unfold lH;rfl'
 refine Ii ?_;rfl'
 refine bM (by decide +kernel) ?_;rfl'
 unfold lK;rfl'
 refine Ii ?_;rfl'
 refine iU (by decide +kernel) ?_;rfl'
 refine hti (m:=1584) (by decide) sC sq ?_;rfl'
 refine hdt (m:=3200) (by decide) (sp.mono<|by decide) vq ?_;have eg:dt3 p (vm (cU C) q)=pom C p q:=rfl;rw[eg];rfl'
 refine hti (m:=1584) (by decide) sC su ?_;rfl'
 refine hdt (m:=3200) (by decide) (su.mono<|by decide) vu ?_;rw[wJ,z1];rfl'
 refine bM rfl ?_;rfl'
 have eb:decide (u=p)=decide (pom C p q=0):=by
  by_cases g:pom C p q=0
  rw[pL g,pL (z2.mpr g)];rw[nu g,nu (λy=>g (z2.mp y))]
 rw[eb];refine bM (nu λz=>z rfl) ?_;rfl'
 refine htu (m:=1584) (by decide) sp sq su ?_;rw[z3];rfl'
 exact k
end
theorem M8 (pp:Pl p)(pq:Pl q)(ne:p≠q)(w:Hv C p=0):InC C (Qh (crs p q))↔¬(pom C p q≠0\/Hv C q≠0):=by
 have z:=jT (fJ pp pq ne);obtain⟨l1,l2⟩:=nM z.2;constructor;rintro i (y|y);exact y<|Yj l1 l2 i
 exact y<|i q l2
 intro y;exact M7 z.1.ne pp pq (λe=>ne e.symm) l1 l2 w (Ro λz=>y<|.inr z)<|Ro λz=>y<|.inl z
section
variable {fo:Ah}(hpl:PB pl)(hcr:wj cr)(hdt:qL dt)(htu:uz tu)(hro:GF ro)(hti:Jo ti)(hfo:aeU fo)
include hdt htu hro hti hfo in
theorem aeS:abb (fV dt tu ro ti fo):=by
 intro h w1 gold ws js ns x o Q E O tg hw hv td k;cases O with
 | join ne=>exact FW (.inl rfl) hv td (by rw[pL ne];exact k)
 | joinN=>exact FW (.inl rfl) hv td (by rw[nu (λz=>z rfl)];exact k)
 | meet ne=>exact FW (.inr rfl) hv td (by rw[pL ne];exact k)
 | meetN=>exact FW (.inr rfl) hv td (by rw[nu (λz=>z rfl)];exact k)
 | @curve a b c d e G=>
  rw[Wk]at tg;obtain⟨n1,n2,n3,n4,n5,_,_,_,_,_,rfl,e0,h1,h2,h3,h4,h5⟩:=tg.five;cases e0;rw[jE]at hw;refine U7 hfo (λt ht=>?_) hv td (by rw[pL G.nd,Od G];exact k);simp only[K5,Ot,or_false]at ht;rcases ht with rfl|rfl|rfl|rfl|rfl
  exact⟨(tgt h1 HY).1,(tgt h1 HY).2.mono (by lia)⟩;exact⟨(tgt h2 HY).1,(tgt h2 HY).2.mono (by lia)⟩;exact⟨(tgt h3 HY).1,(tgt h3 HY).2.mono (by lia)⟩;exact⟨(tgt h4 HY).1,(tgt h4 HY).2.mono (by lia)⟩;exact⟨(tgt h5 HY).1,(tgt h5 HY).2.mono (by lia)⟩
 | @curveN a b c d e z=>
  rw[Wk]at tg;obtain⟨n1,n2,n3,n4,n5,_,_,_,_,_,rfl,e0,h1,h2,h3,h4,h5⟩:=tg.five;cases e0;rw[jE]at hw;have ez:(decide [a,b,c,d,e].Nodup&&!yg [a,b,c,d,e])=false:=by
   by_cases nd:[a,b,c,d,e].Nodup
   cases f4:yg [a,b,c,d,e]with
   | true=>rw[Bool.not_true,Wo]
   | false=>exact absurd ⟨nd,f4⟩ z
   rw[nu nd,Bool.false_and]
  refine U7 hfo (λt ht=>?_) hv td (by rw[ez];exact k);simp only[K5,Ot,or_false]at ht;rcases ht with rfl|rfl|rfl|rfl|rfl
  exact⟨(tgt h1 HY).1,(tgt h1 HY).2.mono (by lia)⟩;exact⟨(tgt h2 HY).1,(tgt h2 HY).2.mono (by lia)⟩;exact⟨(tgt h3 HY).1,(tgt h3 HY).2.mono (by lia)⟩;exact⟨(tgt h4 HY).1,(tgt h4 HY).2.mono (by lia)⟩;exact⟨(tgt h5 HY).1,(tgt h5 HY).2.mono (by lia)⟩
 | @about C p n0=>
  rw[Xu]at tg;obtain⟨n1,n2,_,_,rfl,e,h1,h2⟩:=tg.two;cases e;rw[jC]at hw;exact U9 hti ((Pq h1).2.2.mono (by lia)) ((tgt h2 HY).2.mono (by lia)) hv td (by rw[pL n0];exact k)
 | @aboutN C p z=>
  rw[Xu]at tg;obtain⟨n1,n2,_,_,rfl,e,h1,h2⟩:=tg.two;cases e;rw[jC]at hw;exact U9 hti ((Pq h1).2.2.mono (by lia)) ((tgt h2 HY).2.mono (by lia)) hv td (by rw[nu<|λy=>y z];exact k)
 | @pole C l hd=>
  rw[Xg]at tg;obtain⟨n1,n2,_,_,rfl,e,h1,h2⟩:=tg.two;cases e;rw[oh]at hw;exact Uu htu hro ((Pq h1).2.2.mono (by lia)) hv td (by rw[pL hd];exact k)
 | @poleN C l hd=>
  rw[Xg]at tg;obtain⟨n1,n2,_,_,rfl,e,h1,h2⟩:=tg.two;cases e;rw[oh]at hw;exact Uu htu hro ((Pq h1).2.2.mono (by lia)) hv td (by rw[nu<|λy=>y hd];exact k)
 | @other C p q ne w0 ni=>
  rw[Xx]at tg;obtain⟨n1,n2,n3,_,_,_,rfl,e,h1,h2,h3⟩:=tg.three;cases e;rw[jH]at hw;refine Vd hdt hti ((Pq h1).2.2.mono (by lia)) ((tgt h2 HY).2.mono (by lia)) ((tgt h3 HY).2.mono (by lia)) hv td ?_;rw[M8 (tgt h2 HY).1 (tgt h3 HY).1 ne w0]at ni;rw[pL ⟨ne,w0,Classical.not_not.mp ni⟩];exact k
 | @otherN C p q z=>
  rw[Xx]at tg;obtain⟨n1,n2,n3,_,_,_,rfl,e,h1,h2,h3⟩:=tg.three;cases e;rw[jH]at hw;refine Vd hdt hti ((Pq h1).2.2.mono (by lia)) ((tgt h2 HY).2.mono (by lia)) ((tgt h3 HY).2.mono (by lia)) hv td ?_;rw[nu (λy=>?_)];exact k;rcases z with z|z|z
  exact y.1 z;exact z y.2.1;exact(M8 (tgt h2 HY).1 (tgt h3 HY).1 y.1 y.2.1).mp z y.2.2
include hpl hcr hdt htu hti in
theorem zbU:Ol (cJ pl cr dt tu ti):=by
 intro h w1 w gold ws js ns x Q E O tg hw hv td k;have rt:=O.tg tg;obtain⟨j1,j2,j3,j4,j5,j6⟩:=aao;cases O with
 | @join p q ne=>
  rw[agw]at tg;obtain⟨n1,n2,_,_,rfl,e,h1,h2⟩:=tg.two;cases e;rw[vf]at hw rt;obtain⟨pr,sr⟩:=tgt rt j1;exact DY hpl hdt (.inl rfl) hv td pr (sr.mono<|by lia) ((tgt h1 HY).2.mono (by lia)) ((tgt h2 HY).2.mono (by lia)) (nM (jT<|fJ (tgt h1 HY).1 (tgt h2 HY).1 ne).2) k
 | @meet p q ne=>
  rw[ad2]at tg;obtain⟨n1,n2,_,_,rfl,e,h1,h2⟩:=tg.two;cases e;rw[wI]at hw rt;obtain⟨pr,sr⟩:=tgt rt j2;exact DY hpl hdt (.inr rfl) hv td pr (sr.mono<|by lia) ((tgt h1 QS).2.mono (by lia)) ((tgt h2 QS).2.mono (by lia)) (nM (jT<|fJ (tgt h1 QS).1 (tgt h2 QS).1 ne).2) k
 | @curve a b c d e G=>
  rw[Wk]at tg;obtain⟨n1,n2,n3,n4,n5,_,_,_,_,_,rfl,e0,h1,h2,h3,h4,h5⟩:=tg.five;cases e0;rw[jE]at hw rt;rw[j6]at rt;obtain⟨_,pr,sr⟩:=Pq rt;obtain⟨kk,k0,ek,_⟩:=Ux G;refine alk hpl hdt hti hv td pr (sr.mono<|by lia) (λt ht=>⟨?_,abJ k0 ek t ht⟩) k;simp only[K5,Ot,or_false]at ht;rcases ht with rfl|rfl|rfl|rfl|rfl
  exact(tgt h1 HY).2.mono (by lia);exact(tgt h2 HY).2.mono (by lia);exact(tgt h3 HY).2.mono (by lia);exact(tgt h4 HY).2.mono (by lia);exact(tgt h5 HY).2.mono (by lia)
 | @about C p n0=>
  rw[Xu]at tg;obtain⟨n1,n2,_,_,rfl,e,h1,h2⟩:=tg.two;cases e;rw[jC]at hw rt;obtain⟨pr,sr⟩:=tgt rt j3;exact ahJ hpl hcr hti hv td pr (sr.mono<|by lia) ((Pq h1).2.2.mono (by lia)) ((tgt h2 HY).2.mono (by lia)) (ajl (jT n0).2) k
 | @pole C l hd=>
  rw[Xg]at tg;obtain⟨n1,n2,_,_,rfl,e,h1,h2⟩:=tg.two;cases e;rw[oh]at hw rt;obtain⟨pr,sr⟩:=tgt rt j4;exact zbu hpl hcr hti hv td pr (sr.mono<|by lia) ((Pq h1).2.2.mono (by lia)) ((tgt h2 QS).2.mono (by lia)) (akF (jT<|Xy (Bd hd) (tgt h2 QS).1.ne).2) k
 | @other C p q ne w0 ni=>
  rw[Xx]at tg;obtain⟨n1,n2,n3,_,_,_,rfl,e,h1,h2,h3⟩:=tg.three;cases e;rw[jH]at hw rt;obtain⟨pr,sr⟩:=tgt rt j5;have z:=jT (fJ (tgt h2 HY).1 (tgt h3 HY).1 ne);have oe:=(JZ ni w0 (tgt h2 HY).1 (tgt h3 HY).1 z.1 ne z.2).1;exact ahU hpl hdt htu hti hv td pr (sr.mono<|by lia) ((Pq h1).2.2.mono (by lia)) ((tgt h2 HY).2.mono (by lia)) ((tgt h3 HY).2.mono (by lia)) oe.2.2.1 (ajP (tgt h3 HY).1 ne z.2 oe) (ac0 z.2 oe.2.1) k
end
abbrev Ps:=List (Str×List Nat)
def aP (ps:Ps):List W:=ps.map λp=>dB p.1 p.2
def nA (ps:Ps):List Str:=ps.map λp=>lJ p.1
def KH (ps:Ps)(i:Nat):Nat:=(ps.take i).countP λp=>decide (p.1=("free" : Str))
structure Dr (M:Nat) (ps:Ps) (wt:List Nat):Prop where
 len:wt.length=ps.length
 wd:∀(i:Nat) (x:Str) (js:List Nat),ps[i]?=Dn (x,js)->x∈O5
 lt:∀(i:Nat) (x:Str) (js:List Nat),ps[i]?=Dn (x,js)->∀j∈js,j<i
 ss:∀(i:Nat) (x:Str) (js:List Nat),ps[i]?=Dn (x,js)->js.map (λj=>(nA ps)[j]?)=(lF x).map Dn
 wt:∀(i:Nat) (x:Str) (js:List Nat),ps[i]?=Dn (x,js)->wt.getD i 0=wtF x (js.map λj=>wt.getD j 0)/\wt.getD i 0<=M
variable {wt:List Nat}{M:Nat}
theorem Dr.free {M ps}{wt}(D:Dr M ps wt){i:Nat}{js}(e:ps[i]?=Dn (("free" : Str),js)):js=[]:=by
 have:=D.ss i _ _ e
 have ask:lF "free" = ([]:List Str):=by decide
 simp_all
theorem Dr.cut {ps}(D:Dr M ps wt)(n):Dr M (ps.take n) (wt.take n):=by
 have up:∀{i p},(ps.take n)[i]?=Dn p->ps[i]?=Dn p/\i<n:=λ{i p} e=>by
  grind
 have gw:∀{i},i<n->(wt.take n).getD i 0=wt.getD i 0:=λ{i} h=>by
  rw[SJ,SJ,YB,if_pos h]
 refine⟨by rw[Ti,Ti,D.len],λi x js e=>D.wd i x js (up e).1,λi x js e=>D.lt i x js (up e).1,λi x js e=>?_,λi x js e=>?_⟩;rw[<-D.ss i x js (up e).1];apply Ry;intro j hj;have:=D.lt i x js (up e).1 j hj
 unfold nA;rw[Jm,Jm,YB,if_pos (by have:=(up e).2;lia)];rw[gw (up e).2];have em:(js.map λj=>(wt.take n).getD j 0)=js.map λj=>wt.getD j 0:=by
  apply Ry;intro j hj;have:=D.lt i x js (up e).1 j hj
  grind
 exact em ▸ D.wt i x js (up e).1
structure Gd (ps:Ps) (wt:List Nat) (sps:List Tr) (gold:List W):Prop where
 le:gold.length<=ps.length
 tg:∀(i:Nat) (x:Str) (js:List Nat),i<gold.length->ps[i]?=Dn (x,js)->∃w,gold[i]?=Dn w/\Tg (lJ x) (wt.getD i 0) w
 fr:∀(i:Nat) (js:List Nat),i<gold.length->ps[i]?=Dn (("free" : Str),js)->∃t,sps[KH ps i]?=Dn t/\gold[i]?=Dn (tw t)/\Pl t/\HB 30 t
 mkd:∀(i:Nat) (x:Str) (js:List Nat),i<gold.length->ps[i]?=Dn (x,js)->x ≠ "free"->∃ws w,Told gold js ws/\gold[i]?=Dn w/\Out x ws (Dn w)/\QM (lF x) (js.map λj=>wt.getD j 0) ws
def Rt (ps:Ps)(wt:List Nat)(gold:List W):Prop:=∃(x:Str) (js:List Nat) (ws:List W),ps[gold.length]?=Dn (x,js)/\x ≠ "free"/\Told gold js ws/\Out x ws Go/\QM (lF x) (js.map λj=>wt.getD j 0) ws
theorem T3 {wt:List Nat}{ss0:List Str}{gold}(hg:∀j s,j<gold.length->ss0[j]?=Dn s->∃w,gold[j]?=Dn w/\Tg s (wt.getD j 0) w):∀{js ss},(∀j∈js,j<gold.length)->js.map (λj=>ss0[j]?)=ss.map Dn->∃ws,Told gold js ws/\QM ss (js.map λj=>wt.getD j 0) ws
 | [],[],_,_=>⟨[],rfl,.nil⟩
 | j::js,s::ss,hj,e=>by
  injection e with e1 e2
  obtain⟨ws,t1,t2⟩:=T3 hg (λj h=>hj j (Qp _ h)) e2;obtain⟨w,ew,tw'⟩:=hg j s (hj j (RM ..)) e1;refine⟨w::ws,?_,.cons tw' t2⟩;unfold Told at t1|-
  grind
theorem GR (h:∀j∈js,j<gold.length)(t:Told gold js ws):Told (gold++[w]) js ws:=by
 unfold Told at t|-
 rw[<-t];apply Ry;grind
theorem aiM (h:∀j∈js,j<i)(t:Told gold js ws):Told (gold.take i) js ws:=by
 unfold Told at t|-
 rw[<-t];apply Ry;grind
theorem mF {ps}(e:ps[i]?=Dn (x,js)):KH ps (i+1)=KH ps i+(if x = "free" then 1 else 0):=by
 unfold KH;rw[N7,e];simp
variable {sps:List Tr}
theorem Gd.ex {M ps}{wt sps}(D:Dr M ps wt)(hs:∀t∈sps,Pl t/\HB 30 t)(hf:KH ps ps.length<=sps.length):∃gold,Gd ps wt sps gold/\(gold.length=ps.length\/Rt ps wt gold):=by
 have mono:∀i,i<=ps.length->KH ps i<=KH ps ps.length:=λi hi=>by
  exact List.Sublist.countP_le (by rw[Q9];exact List.take_sublist _ _)
 have step:∀n,n<=ps.length->∃gold,Gd ps wt sps gold/\gold.length<=n/\(gold.length=n\/Rt ps wt gold):=by
  intro n;induction n with
  | zero=>exact λ_=>⟨[],⟨Rb _,λi _ _ h=>absurd h (VL _),λi _ h=>absurd h (VL _),λi _ _ h=>absurd h (VL _)⟩,IK _,.inl rfl⟩
  | succ n ih=>
   intro hn;obtain⟨gold,G,gl,gs⟩:=ih (by lia);rcases gs with gs|gs
   obtain⟨x,js,e⟩:∃x js,ps[n]?=Dn (x,js):=⟨_,_,N5 (by lia)⟩
   have hjl:∀j∈js,j<gold.length:=λj hj=>by rw[gs];exact D.lt n x js e j hj
   have ext:∀w,Tg (lJ x) (wt.getD n 0) w->(x = "free"->∃t,sps[KH ps n]?=Dn t/\w=tw t/\Pl t/\HB 30 t)->(x ≠ "free"->∃ws,Told gold js ws/\Out x ws (Dn w)/\QM (lF x) (js.map λj=>wt.getD j 0) ws)->Gd ps wt sps (gold++[w]):=by
    intro w tg kf km;have ol:∀i,i<(gold++[w]).length->i<gold.length\/i=n:=λi h=>by
     rw[KJ,Rz]at h;lia
    have gl':∀i,i<gold.length->(gold++[w])[i]?=gold[i]?:=λi h=>Rn h
    have gn:(gold++[w])[n]?=Dn w:=by rw[<-gs,SQ (IK _),Nat.sub_self];rfl
    refine⟨by rw[KJ,Rz];lia,λi x' js' h e'=>?_,λi js' h e'=>?_,λi x' js' h e' nf=>?_⟩;rcases ol i h with h|rfl
    obtain⟨w',a,b⟩:=G.tg i x' js' h e';exact⟨w',by rw[gl' i h];exact a,b⟩;rw[e]at e';cases e';exact⟨w,gn,tg⟩;rcases ol i h with h|rfl
    obtain⟨t,a,b,c⟩:=G.fr i js' h e';exact⟨t,a,by rw[gl' i h];exact b,c⟩;rw[e]at e';cases e';obtain⟨t,a,b,c⟩:=kf rfl;exact⟨t,a,by rw[gn,b],c⟩;rcases ol i h with h|rfl
    obtain⟨ws,w',a,b,c,d⟩:=G.mkd i x' js' h e' nf;exact⟨ws,w',GR (λj hj=>by have:=D.lt i x' js' e' j hj;lia) a,by rw[gl' i h];exact b,c,d⟩;rw[e]at e';cases e';obtain⟨ws,a,b,c⟩:=km nf;exact⟨ws,w,GR hjl a,gn,b,c⟩
   by_cases xf:x = "free"
   subst xf;have fs:=mF e;rw[if_pos rfl]at fs;have:=mono (n+1) hn
   obtain⟨t,et⟩:∃t,sps[KH ps n]?=Dn t:=⟨_,N5 (by lia)⟩
   obtain⟨pt,st⟩:=hs t (RN et);have w1:wt.getD n 0=1:=by rw[(D.wt n _ _ e).1,D.free e,List.map_nil,Pk]
   refine⟨gold++[tw t],ext _ (.inr ⟨by decide,by lia,t,rfl,pt,by rw[w1];exact st⟩) (λ_=>⟨t,et,rfl,pt,st⟩)<|λz=>absurd rfl z,by rw[KJ,Rz];lia,.inl (by rw[KJ,Rz];lia)⟩;obtain⟨ws,td,ts⟩:=T3 (wt:=wt) (ss0:=nA ps) (gold:=gold) (λj s hj es=>by
    unfold nA at es;rw[Jm]at es;obtain⟨⟨x',js'⟩,e',rfl⟩:=S6.mp es;exact G.tg j x' js' hj e') hjl (D.ss n x js e)
   obtain⟨o,O⟩:=Out.ex (D.wd n x js e) xf ts;cases o with
   | none=>exact⟨gold,G,by lia,.inr ⟨x,js,ws,by rw[gs];exact e,xf,td,O,ts⟩⟩
   | some w=>
    have tg:=O.tg ts;rw[<-(D.wt n x js e).1]at tg;exact⟨gold++[w],ext w tg (λz=>absurd z xf)<|λ_=>⟨ws,td,O,ts⟩,by rw[KJ,Rz];lia,.inl (by rw[KJ,Rz];lia)⟩
   exact⟨gold,G,by lia,.inr gs⟩
 obtain⟨gold,G,_,s⟩:=step ps.length (IK _);exact⟨gold,G,s⟩
theorem rZ {ps r}(e:(aP ps)[i]?=Dn r):∃x js,ps[i]?=Dn (x,js)/\r=dB x js:=by
 unfold aP at e;rw[Jm]at e;grind
theorem ahL:Hw (dB x js)=decide (x = "free"):=rfl
theorem akm (ps)(i):((aP ps).take i).countP Hw=KH ps i:=by
 unfold aP KH;rw[<-List.map_take,List.countP_map];rfl
section
variable (hj:mX jo)(hme:mX me)(ht:Li th)(hl:Lz li)(hs:Kg sp)(ho:Jr oe)
include hj hme ht hl hs ho
theorem Gd.plan {ps}(D:Dr 48 ps wt)(G:Gd ps wt sps gold)(s:gold.length=ps.length\/Rt ps wt gold)(l30:ps.length<=30):Hu (aM jo me th li sp oe) (aP ps) (sps.map tw) gold:=by
 refine⟨by unfold aP;rw[Hi];exact l30,by unfold aP;rw[Hi];exact G.le,λr hr=>?_,λi r h e f=>?_,λr e=>?_,λi r w h e f ew=>?_⟩;obtain⟨p,_,rfl⟩:=Ni.mp hr;exact⟨_,_,rfl⟩;obtain⟨x,js,e',rfl⟩:=rZ e;cases of_decide_eq_true f
 obtain⟨t,a,b,_⟩:=G.fr i js h e';rw[akm,Jm,a,b];rfl;obtain⟨x,js,e',rfl⟩:=rZ e;rcases s with s|⟨x',js',ws,e2,nf,_⟩
 grind
 rw[e']at e2;cases e2;exact decide_eq_false nf;obtain⟨x,js,e',rfl⟩:=rZ e;obtain⟨ws,w',td,ew',O,ts⟩:=G.mkd i x js h e' (of_decide_eq_false f);rw[ew]at ew';cases ew'
 have:=D.wt i x js e'
 intro hh n Q E ec q;exact O.run hj hme ht hl hs ho ts (this.1 ▸ this.2) (aiM (D.lt i x js e') td) ec (λw2 e2=>by cases e2;exact q) nofun
theorem Rt.rf {ps}(D:Dr 48 ps wt)(s:Rt ps wt gold){r}(e:(aP ps)[gold.length]?=Dn r):Rf (aM jo me th li sp oe) gold r:=by
 obtain⟨x,js,e',rfl⟩:=rZ e;obtain⟨x2,js2,ws,e2,nf,td,O,ts⟩:=s;rw[e']at e2;cases e2;have:=D.wt _ x js e'
 intro hh n Q E ec q;exact O.run hj hme ht hl hs ho ts (this.1 ▸ this.2) td ec nofun<|λ_ y=>q y
end
theorem aa2 (e:h.c n=Dn (.lst (w::us)))(k:∀g,g.c n=Dn (.lst us)->(∀m,m≠n->g.c m=h.c m)->g.nx=h.nx->Q w g):Mi (.loc n) [.int 0] h Q:=by
 show(match h.c n with
  | some (.lst (w::us))=>Q w _
  | _=>False)
 exact e ▸ k _ (rP _ _ _) (λm hm=>jY hm) rfl
theorem zbH (k:∀g,g.c h.nx=Dn (.lst us)->(∀m,m≠h.nx->g.c m=h.c m)->g.nx=h.nx+1->Q (.loc h.nx) g):Gm [.lst us] h Q:=k _ (Ba _ _) (λ_ e=>oZ e) rfl
def WalkX (c0:Ah):Prop:=∀{h:Gh}{ps:Ps}{wt:List Nat}{sps:List Tr}{gold:List W}{n:Nat}{Q:WK}{E:Ce},Dr 48 ps wt->Gd ps wt sps gold->gold.length=ps.length->ps.length<=30->h.c n=Dn (.lst gold)->n<h.nx->Q (.bl true) h->c0 [.lst (aP ps),.lst (sps.map tw),.loc n] h Q E
theorem zbr {ca ri}(hca:abb ca)(hcf:afV ca)(hri:Ol ri)(hrf:TJ ri):WalkX (tR ca ri):=by
 intro h ps wt sps gold n Q E D G el l30 hn nl q;have lr:(aP ps).length=ps.length:=by unfold aP;rw[Hi]
 refine zP rfl (σ:=[Dn<|.lst<|aP ps,Dn<|.lst<|sps.map tw,Dn<|.loc n,Go,Go]) rfl ?_;refine bA<|d9<|yj<|lR<|jP<|dg<|aB<|aA rfl<|aB<|cI<|aJ<|zj (b:=true) (by simp only[abA,dU,hn];rfl)<|Pr rfl<|bM rfl ?_
 refine bN<|aW<|dg<|aB<|aA rfl<|aJ<|eE (vw hn)<|dg<|aB<|aA rfl<|aJ<|eE (xs:=aP ps) rfl<|Yd<|pW ?_
 refine bM (nu λz=>z<|by rw[el,lr])<|cY<|dX ?_
 refine bA<|bQ<|dg<|aB<|aA rfl<|aJ<|zbH λg eg og xg=>?_
 refine nV<|dX ?_
 refine bA<|rH<|rM<|aB<|dg<|aB<|aA rfl<|aJ<|eE (xs:=aP ps) rfl<|aJ ?_
 rw[lr];refine Jx (m:=ps.length) (by lia)<|qZ ?_
 refine jf (λi σ h'=>∃s4,σ=[Dn<|.lst<|aP ps,Dn<|.lst<|sps.map tw,Dn<|.loc n,Dn<|.loc h.nx,s4]/\h'.c h.nx=Dn (.lst<|(sps.map tw).drop (KH ps i))/\∀m,m<h.nx->h'.c m=h.c m) ?_ ?_ ⟨_,rfl,eg,λm hm=>og m<|JM hm⟩;rintro i w σ h' N hN ew ⟨s4,rfl,hc,ho⟩;rw[Jm]at ew;obtain⟨j,ej,rfl⟩:=S6.mp ew;obtain⟨ei,hik⟩:=lC ej;rw[WT]at ei;subst ei;have hi:j<ps.length:=by simpa using hik
 obtain⟨x,js,e⟩:∃x js,ps[j]?=Dn (x,js):=⟨_,_,N5 hi⟩
 have er:(aP ps)[j]?=Dn (dB x js):=by unfold aP;rw[Jm,e];rfl
 have hn':h'.c n=Dn (.lst gold):=(ho n nl).trans hn;have ixr:∀{R:WK},R (dB x js) h'->Av (.lst (aP ps)) (.int (j:Int)) h' R:=λq=>gH (ws:=aP ps) rfl (bZ er) q
 have fs:=mF e;obtain⟨w,gw,_⟩:=G.tg j x js (by lia) e;have ixg:∀{R:WK},R w h'->Av (.loc n) (.int (j:Int)) h' R:=λq=>gH (vw hn') (bZ gw) q
 by_cases xf:x = "free"
 subst xf;have ejs:=D.free e;subst ejs;obtain⟨t,et,gt',pt,st⟩:=G.fr j _ (by lia) e;rw[gw]at gt';cases gt'
 refine bA<|d9<|yj<|lR<|jP<|bH<|aB<|aW<|aA rfl<|aA rfl<|ixr<|aB<|aA rfl<|aJ ?_
 refine hcf (vw hn')<|Pr rfl<|bM rfl ?_
 refine lR<|jP<|bH<|aB<|aW<|aA rfl<|aA rfl<|ixr<|aB<|aA rfl<|aB<|aW<|aA rfl<|aA rfl<|ixg<|aJ ?_
 refine hrf pt (st.mono<|by decide) (vw hn')<|Pr rfl<|bM rfl ?_
 refine cY<|dX ?_
 refine d9<|zm<|bN<|aW<|aW<|aW<|aA rfl<|aA rfl<|ixr<|cI<|Ii<|cI<|rC<|pW<|iU (pL rfl) ?_
 refine bN<|aW<|aW<|aA rfl<|aA rfl<|ixg<|mj<|aA rfl<|gQ hc<|aB<|cI<|aJ ?_
 have ed:(sps.map tw).drop (KH ps j)=tw t::(sps.map tw).drop (KH ps j+1):=by
  rw[YZ (by rw[Hi];exact(Ob.mp et).1)];congr 1
  have:=(Ob.mp et).2
  simp[this]
 rw[ed]at hc;refine aa2 hc λg2 e2 o2 x2=>?_;refine acM<|pW<|bM (nu λz=>z rfl)<|cY<|dX ?_
 refine hN _ _ ⟨_,rfl,by rw[fs];exact e2,λm hm=>by rw[o2 m<|JM hm];exact ho m hm⟩;rw[if_neg xf]at fs;obtain⟨ws,w2,td,gw2,O,ts⟩:=G.mkd j x js (by lia) e xf;rw[gw]at gw2;cases gw2;have hw:=D.wt j x js e;refine bA<|d9<|yj<|lR<|jP<|bH<|aB<|aW<|aA rfl<|aA rfl<|ixr<|aB<|aA rfl<|aJ ?_
 refine hca O ts (by rw[<-hw.1];exact hw.2) (vw hn') td<|Pr rfl<|bM rfl ?_
 refine lR<|jP<|bH<|aB<|aW<|aA rfl<|aA rfl<|ixr<|aB<|aA rfl<|aB<|aW<|aA rfl<|aA rfl<|ixg<|aJ ?_
 refine hri O ts (by rw[<-hw.1];exact hw.2) (vw hn') td<|Pr rfl<|bM rfl ?_
 refine cY<|dX ?_
 refine d9<|zm<|bN<|aW<|aW<|aW<|aA rfl<|aA rfl<|ixr<|cI<|Ii<|cI<|rC<|pW<|bM (nu xf)<|bM rfl ?_
 refine cY<|dX ?_
 refine hN _ _ ⟨_,rfl,by rw[fs];exact hc,ho⟩;rintro σ h' ⟨s4,rfl,hc,ho⟩;refine dX ?_;unfold pA;exact dN<|cI<|Pz ⟨λm c hm e=>by rw[ho m hm];exact e,.inl ⟨by simp[Lo],q⟩⟩
def uM (wt:List Nat):List W:=wt.map λk:Nat=>W.int (k:Int)
theorem ajC (h:∀j∈js,j<wt.length):Told (uM wt) js (uM (js.map λj=>wt.getD j 0)):=by
 unfold Told uM
 simp_all
theorem Zc (h:∀k∈wt,k<=M)(j):wt.getD j 0<=M:=by
 rw[SJ];cases e:wt[j]? with
 | none=>exact Rb _
 | some k=>exact h k (RN e)
theorem Ox (h0:0<=j)(h1:j<=10000)(x:Q (.int (2*j)) h):cN (.int 2) (.int j) h Q:=Vc (fU.of (n:=64) (Sm.lit rfl) (by unfold Sm;lia) (by decide) (by decide)) x
theorem len1 {l:List Nat}(h:l.length=2):∃a b,l=[a,b]:=by
 match l,h with
 | [a,b],_=>exact⟨a,b,rfl⟩
theorem agx {l:List Nat}(h:l.length=3):∃a b c,l=[a,b,c]:=by
 match l,h with
 | [a,b,c],_=>exact⟨a,b,c,rfl⟩
theorem agq {l:List Nat}(h:l.length=5):∃a b c d e,l=[a,b,c,d,e]:=by
 match l,h with
 | [a,b,c,d,e],_=>exact⟨a,b,c,d,e,rfl⟩
theorem Gp:∀l,xR (uM l)=Dn (l.map λk:Nat=>(k:Int))
 | []=>rfl
 | a::l=>by
  show(xR (uM l)).map _=_;rw[Gp l];rfl
theorem sum_nat:∀l:List Nat,(l.map λk:Nat=>(k:Int)).sum=((l.sum:Nat):Int)
 | []=>rfl
 | a::l=>by
  rw[Nj,List.sum_cons,sum_nat l];grind
theorem Ez {l R}(q:R (.int ((l.sum:Nat):Int)) h):Vm [.lst (uM l)] h R:=UG rfl (Gp l) (by rwa[sum_nat])
theorem QD {y}{ns}{s0 s1 s3 b c}(ne:x≠y)(k:c D [s0,s1,Dn (.tup (.str x::ns)),s3] h):aX (cT (aR (Mk Ib (Mk Av (ao 2) (mC (.int 0))) (mC (.str y)))) b bD) c D [s0,s1,Dn (.tup (.str x::ns)),s3] h:=bA (d9 (bN (aW (aW (aA rfl (cI (Ii (cI (rC (pW (bM (nu ne) (cY (dX k)))))))))))))
theorem hit {ns}{s0 s1 s3 b c}(k:b {D with nx:=c D} [s0,s1,Dn (.tup (.str x::ns)),s3] h):aX (cT (aR (Mk Ib (Mk Av (ao 2) (mC (.int 0))) (mC (.str x)))) b bD) c D [s0,s1,Dn (.tup (.str x::ns)),s3] h:=bA (d9 (bN (aW (aW (aA rfl (cI (Ii (cI (rC (pW (iU (pL rfl) k)))))))))))
def WtX (c0:Ah):Prop:=∀{h:Gh}{w0:W}{n:Nat}{wt js:List Nat}{x:Str}{Q:WK}{E:Ce},h.c n=Dn (.lst (uM wt))->(∀k∈wt,k<=48)->(∀j∈js,j<wt.length)->js.length=(lF x).length->x∈O5->Q (.int ((wtF x (js.map λj=>wt.getD j 0):Nat):Int)) h->c0 [w0,.loc n,dB x js] h Q E
theorem zbt:WtX ud:=by
 intro h w0 n wt js x Q E hn hw hj hl hx k;have t:=ajC hj;have hb:∀v∈(js.map λj=>wt.getD j 0),v<=48:=λv hv=>by
  obtain⟨j,_,rfl⟩:=Ni.mp hv;exact Zc hw j
 have ll:(js.map λj=>wt.getD j 0).length=(lF x).length:=by rw[Hi];exact hl
 have l100:js.length<=100:=by have:=qM hx;lia
 refine qI rfl (σ:=[Dn w0,Dn<|.loc n,Dn<|dB x js,Go]) rfl ?_;refine bA<|bQ<|qH<|tB<|nZ<|aA rfl<|dH<|cI<|Ig<|bW<|nH<|Ld (ws:=js.map λj:Nat=>W.int (j:Int)) (o:=Go) rfl ?_
 refine RK rfl (vw hn) t l100 ?_;generalize(js.map λj=>wt.getD j 0)=l at ll hb k t|-
 have k':∀v:Int,v=((wtF x l:Nat):Int)->Q (.int v) h:=λv e=>by rw[e];exact k
 unfold O5 at hx;simp only[K5,Ot,or_false]at hx;have s5:∀{x:Str},x∉(["free", "curve", "pole", "other"]:List Str)->l.sum=wtF x l:=λ{x} hx=>by
  unfold wtF;simp only[K5,Ot,or_false,not_or]at hx;rw[if_neg hx.1,if_neg hx.2.1,if_neg hx.2.2.1,if_neg hx.2.2.2]
 rcases hx with rfl|rfl|rfl|rfl|rfl|rfl|rfl
 exact hit<|dN<|cI<|k' _ rfl
 exact QD (by decide)<|QD (by decide)<|QD (by decide)<|QD (by decide)<|dN<|dg<|aB<|aA rfl<|aJ<|Ez<|k' _<|by rw[s5 (x := "join")<|by decide]
 exact QD (by decide)<|QD (by decide)<|QD (by decide)<|QD (by decide)<|dN<|dg<|aB<|aA rfl<|aJ<|Ez<|k' _<|by rw[s5 (x := "meet")<|by decide]
 obtain⟨a,b,c,d,e,rfl⟩:=agq ll;simp only[K5,Ot,or_false,forall_eq_or_imp,forall_eq]at hb;refine QD (by decide)<|hit<|dN<|aW<|cI<|dg<|aB<|aA rfl<|aJ<|Ez<|Ox (by lia) (by simp only[List.sum_cons,List.sum_nil];lia)<|k' _ ?_
 show _=((2*_:Nat):Int);lia;exact QD (by decide)<|QD (by decide)<|QD (by decide)<|QD (by decide)<|dN<|dg<|aB<|aA rfl<|aJ<|Ez<|k' _<|by rw[s5 (x := "about")<|by decide]
 obtain⟨a,b,rfl⟩:=len1 ll;simp only[K5,Ot,or_false,forall_eq_or_imp,forall_eq]at hb;refine QD (by decide)<|QD (by decide)<|hit<|dN<|aW<|aW<|cI<|aW<|aA rfl<|cI<|aeY<|Ox (by lia) (by lia)<|aW<|aA rfl<|cI<|ae1<|eY<|k' _ ?_
 show _=((2*a+b:Nat):Int);lia;obtain⟨a,b,c,rfl⟩:=agx ll;simp only[K5,Ot,or_false,forall_eq_or_imp,forall_eq]at hb;refine QD (by decide)<|QD (by decide)<|QD (by decide)<|hit<|dN<|aW<|aW<|aW<|aA rfl<|cI<|aeY<|aW<|aA rfl<|cI<|ae1<|eY<|aW<|cI<|aW<|aA rfl<|cI<|af3<|Ox (by lia) (by lia)<|eY<|k' _ ?_
 show _=((a+b+2*c:Nat):Int);lia
theorem abF {r:W}(hr:Row r)(ok:ok1 ss r=true):∃x js,r=dB x js/\x∈O5/\js.map (λj=>ss[j]?)=(lF x).map Dn:=by
 obtain⟨x,ns,hx,rfl⟩:=hr;have ok:(decide _&&decide _)=true:=ok;rw[Qn]at ok;have e:=of_decide_eq_true ok.2;rw[W8]at e;have pos:∀i∈ns,0<=i:=λi hi=>by
  obtain⟨s,_,es⟩:=Ni.mp (e ▸ Ni.mpr ⟨i,hi,rfl⟩);have es:Dn s=(if 0<=i then ss[i.toNat]? else Go):=es;lia
 refine⟨x,ns.map Int.toNat,?_,hx,?_⟩;unfold dB;rw[W8];congr 2
 apply Ry;grind
 rw[<-e,W8];apply Ry;intro i hi;show ss[i.toNat]?=(if 0<=i then ss[i.toNat]? else Go);simp_all
theorem Jv {us:List Str}(e:js.map (λj=>ss[j]?)=us.map Dn):∀j∈js,j<ss.length:=λj hj=>by
 obtain⟨s,_,es⟩:=Ni.mp (e ▸ Ni.mpr ⟨j,hj,rfl⟩);grind
theorem Dr.snoc {ps}(D:Dr M ps wt)(hx:x∈O5)(e:js.map (λj=>(nA ps)[j]?)=(lF x).map Dn)(hw:wtF x (js.map λj=>wt.getD j 0)<=M):Dr M (ps++[(x,js)]) (wt++[wtF x (js.map λj=>wt.getD j 0)]):=by
 have sl:(nA ps).length=ps.length:=by unfold nA;rw[Hi]
 have hj:=sl ▸ Jv e;have up:∀{i p},(ps++[(x,js)])[i]?=Dn p->(i<ps.length/\ps[i]?=Dn p)\/(i=ps.length/\p=(x,js)):=λ{i p} e=>by
  rcases Nat.lt_or_ge i _ with h|h
  rw[Rn h]at e;exact .inl ⟨h,e⟩;have h1:=(Ob.mp e).1;rw[KJ,Rz]at h1;have h2:i=ps.length:=by lia
  subst h2;rw[SQ h,Nat.sub_self]at e;exact .inr ⟨rfl,(Lr e).symm⟩
 have gl:∀{i},i<ps.length->(wt++[wtF x (js.map λj=>wt.getD j 0)]).getD i 0=wt.getD i 0:=λ{i} h=>by
  rw[SJ,SJ,Rn (D.len ▸ h)]
 have gn:(wt++[wtF x (js.map λj=>wt.getD j 0)]).getD ps.length 0=wtF x (js.map λj=>wt.getD j 0):=by
  rw[SJ,SQ (D.len ▸ IK _),D.len,Nat.sub_self];rfl
 have gs:∀{i},i<ps.length->(nA (ps++[(x,js)]))[i]?=(nA ps)[i]?:=λ{i} h=>by
  unfold nA;rw[R7,Rn (by rwa[Hi])]
 have cg:∀{js':List Nat}{i:Nat},i<=ps.length->(∀j∈js',j<i)->js'.map _=js'.map (λj=>(nA ps)[j]?)/\(js'.map λj=>(wt++[wtF x _]).getD j 0)=js'.map λj=>wt.getD j 0:=λ{js' i} hi h=>
  ⟨Ry λj hj=>gs (by have:=h j hj;lia),Ry λj hj=>gl (by have:=h j hj;lia)⟩
 refine⟨by rw[KJ,KJ,D.len];rfl,λi x' js' h=>?_,λi x' js' h=>?_,λi x' js' h=>?_,λi x' js' h=>?_⟩;rcases up h with⟨_,h⟩|⟨_,hh⟩
 exact D.wd i x' js' h;cases hh;exact hx
 rcases up h with⟨_,h⟩|⟨rfl,hh⟩
 exact D.lt i x' js' h;cases hh;exact hj
 rcases up h with⟨hi,h⟩|⟨rfl,hh⟩
 rw[(cg (W7 hi) (D.lt i x' js' h)).1];exact D.ss i x' js' h;cases hh;rw[(cg (IK _) hj).1];exact e;rcases up h with⟨hi,h⟩|⟨rfl,hh⟩
 rw[(cg (W7 hi) (D.lt i x' js' h)).2,gl hi];exact D.wt i x' js' h;cases hh;rw[(cg (IK _) hj).2,gn];exact⟨rfl,hw⟩
theorem Dr.le {ps}(D:Dr M ps wt):∀k∈wt,k<=M:=λk hk=>by
 obtain⟨i,hi,e⟩:=List.getElem_of_mem hk;have:=(D.wt i _ _ (N5 (D.len ▸ hi))).2
 rwa[SJ,N5 hi,e]at this
theorem Dr.nil:Dr M [] []:=⟨rfl,λi _ _ e=>(by cases e),λi _ _ e=>(by cases e),λi _ _ e=>(by cases e),λi _ _ e=>(by cases e)⟩
def V3 (f:Nat)(ps:Ps):Prop:=∀(i:Nat) (x:Str) (js:List Nat),ps[i]?=Dn (x,js)->(x = "free"↔i<f)
theorem V3.snoc {f ps}(F:V3 f ps)(h:x = "free"↔ps.length<f):V3 f (ps++[(x,js)]):=by
 intro i x' js' e;rcases Nat.lt_or_ge i _ with h1|h1
 rw[Rn h1]at e;exact F i x' js' e;have h2:=(Ob.mp e).1;rw[KJ,Rz]at h2;have h3:i=ps.length:=by lia
 simp_all
theorem wQ {ps}:aP ps++[dB x js]=aP (ps++[(x,js)]):=by
 unfold aP;simp_all
theorem aki (ps:Ps):(aP ps).map Qa=nA ps:=by
 unfold aP nA;rw[W8];rfl
theorem KQ {k:Nat}:uM wt++[W.int (k)]=uM (wt++[k]):=by
 unfold uM;grind
theorem DP (N):∀js,Nv N (uM js)
 | []=>by simp[uM,Nv]
 | a::js=>by
  show Nv N (W.int a::uM js);simp[Nv,Lo];exact DP N js
theorem CT (N):∀ps,Nv N (aP ps)
 | []=>by simp[aP,Nv]
 | p::ps=>by
  show Nv N (W.tup _::aP ps);simp[Nv,Lo];exact⟨DP N _,CT N ps⟩
theorem af4 (n):((rng 0 n).map λx:Nat=>W.int (x)).length=n:=by unfold rng;rw[Hi,XQ];lia
def acT (c0:Ah):Prop:=∀{h:Gh}{ns:List Int}{sz fr M:Nat}{Q:WK}{E:Ce},1<=M->M<=48->2<=fr->fr<=7->sz<=24->(∀ps wt,Dr 48 ps wt->ps.length=sz->V3 fr ps->Q (.lst (aP ps)) h)->c0 [.kls (ns.map .int),.int (sz:Int),.int (fr:Int),.int (M:Int)] h Q E
theorem aa0 {i}(x:Q (.int (if j<i then j else i)) h):adA [.int i,.int j] h Q:=x
theorem aiT {ce ba we}(hc:Bl ce)(hb:Wv ba)(hr:afA ro)(hw:WtX we):acT (Hf ce ba ro we):=by
 intro h ns sz fr M Q E m1 m48 f2 f7 s24 k;refine zP rfl (σ:=[Dn<|.kls<|ns.map .int,Dn<|.int (sz:Int),Dn<|.int (fr:Int),Dn<|.int (M:Int),Go,Go,Go,Go]) rfl<|bA<|bQ<|qC (ws:=[]) (λR=>rfl) rfl λg1 gc1 go1 gn1=>(nV<|dX ?_)
 refine bA<|bQ<|qC (ws:=[]) (λR=>rfl) rfl λg2 gc2 go2 gn2=>(nV<|dX ?_)
 obtain⟨a,ea⟩:∃a,a=h.nx:=⟨_,rfl⟩
 obtain⟨b,eb⟩:∃b,b=g1.nx:=⟨_,rfl⟩
 rw[<-ea]at gc1 go1 gn1|-
 rw[<-eb]at gc2 go2 gn2|-
 refine bA<|rH<|rM<|aB<|aA rfl<|aJ<|Jx (m:=sz) (by lia)<|qZ ?_
 refine jf (λi σ h'=>∃ps wt a6 a7,Dr 48 ps wt/\ps.length=i/\V3 fr ps/\σ=[Dn<|.kls<|ns.map .int,Dn<|.int (sz:Int),Dn<|.int (fr:Int),Dn<|.int (M:Int),Dn<|.loc a,Dn<|.loc b,a6,a7]/\h'.c a=Dn (.lst<|aP ps)/\h'.c b=Dn (.lst<|uM wt)/\b<h'.nx/\∀m,m<h.nx->h'.c m=h.c m) ?_ ?_ ⟨[],[],Go,Go,.nil,rfl,λi _ _ e=>(by cases e),rfl,by rw[go2 a<|by lia];exact gc1,gc2,by lia,λm hm=>by rw[go2 m<|by lia,go1 m<|by lia]⟩
 ·rintro i w σ h' N hN ew ⟨ps,wt,a6,a7,D,pl,F,rfl,ca,cb,bx,ho⟩;rw[Jm]at ew;obtain⟨j,ej,rfl⟩:=S6.mp ew;obtain⟨ei,hik⟩:=lC ej;rw[WT]at ei;subst ei;have rl:(aP ps).length=ps.length:=by unfold aP;rw[Hi]
  have hrow:∀r∈aP ps,Row r:=λr hr=>by
   obtain⟨p,hp,rfl⟩:=Ni.mp hr;obtain⟨q,eq⟩:=Ye hp;refine⟨p.1,p.2.map λk:Nat=>(k:Int),D.wd q p.1 p.2 eq,?_⟩;unfold dB;rw[W8];rfl
  refine nV<|bA<|bQ<|bH<|aB<|bH<|aB<|bH<|aB<|aA rfl<|aB<|aW<|cI<|aA rfl<|eY<|aJ<|hc (k:=3+(j:Int)) (by lia)<|aJ<|hb λh1 bf n1 o1=>?_
  obtain⟨bg,ebg⟩:∃bg,bg=h'.nx:=⟨_,rfl⟩
  rw[<-ebg]at bf n1 o1|-
  have ca1:h1.c a=Dn (.lst (aP ps)):=(o1 a (by lia)).trans ca;have cb1:h1.c b=Dn (.lst (uM wt)):=(o1 b (by lia)).trans cb;refine aB<|aA rfl<|aB<|aA rfl<|aJ ?_
  have first:∀q,q<fr->q<ps.length->ps[q]?=Dn (("free" : Str),([]:List Nat)):=λq h1 h2=>by
   obtain⟨x,js,e⟩:∃x js,ps[q]?=Dn (x,js):=⟨_,_,N5 h2⟩
   have:=(F q x js e).mpr h1
   subst this;rw[e,D.free e]
  refine hr bf ca1 (by lia) (by lia) (by lia) hrow (by lia) ?_ λr h2 rr _ ro rf bg2 gr2=>nV<|dX ?_
  by_cases c:((aP ps).length:Int)<fr
  exact .inl c;refine .inr ⟨dB "free" [],RN (i:=0) ?_,rfl⟩;unfold aP;rw[Jm,first 0 (by lia) (by lia)];rfl;rw[aki]at ro;rw[rl,pl]at rf;obtain⟨x,js,rfl,hx,es⟩:=abF rr ro;have sl:(nA ps).length=ps.length:=by unfold nA;rw[Hi]
  have hj:∀q∈js,q<wt.length:=by rw[D.len,<-sl];exact Jv es
  have jl:js.length=(lF x).length:=by have:=congrArg Tc es;rw[Hi,Hi]at this;exact this
  have fx:x = "free"↔ps.length<fr:=by
   rw[ahL]at rf;rw[pl];constructor;intro e;rw[decide_eq_true e]at rf;have:=of_decide_eq_true rf.symm
   lia;intro e;rw[decide_eq_true (show(j:Int)<fr by lia)]at rf;exact of_decide_eq_true rf
  have ca2:h2.c a=Dn (.lst (aP ps)):=(gr2.2 a (by lia) (by lia)).trans ca1;have cb2:h2.c b=Dn (.lst (uM wt)):=(gr2.2 b (by lia) (by lia)).trans cb1;have bx2:b<h2.nx:=by have:=gr2.1;lia
  have ho2:∀m,m<h.nx->h2.c m=h.c m:=λm hm=>by rw[gr2.2 m (by lia) (by lia),o1 m (by lia),ho m hm]
  have rest:∀{x:Str}{js:List Nat},x∈O5->js.map (λj=>(nA ps)[j]?)=(lF x).map Dn->(x = "free"↔ps.length<fr)->wtF x (js.map λj=>wt.getD j 0)<=48->(aX (nG (yK cV (ao 5) (aj (aF we E (aj (ao 4) (aj (ao 5) (aj (ao 7) aG)))) aG)))
   (nG (yK cV (ao 4) (aj (ao 7) aG)))) {nx:=N,rt:=λw h'=>vH true h w h' Q} [Dn (.kls (ns.map .int)),Dn (.int (sz:Int)),Dn (.int (fr:Int)),Dn (.int (M:Int)),Dn (.loc a),Dn (.loc b),Dn (.int (j:Int)),Dn (dB x js)] h2:=by
   intro x js hx es fx wl;have hj:∀q∈js,q<wt.length:=by rw[D.len,<-sl];exact Jv es
   have jl:js.length=(lF x).length:=by have:=congrArg Tc es;rw[Hi,Hi]at this;exact this
   refine bA<|gW<|mj<|aA rfl<|gQ cb2<|aB<|bH<|aB<|aA rfl<|aB<|aA rfl<|aB<|aA rfl<|aJ<|hw cb2 D.le hj jl hx<|aJ ?_
   refine Ay cb2 (by unfold uM;rw[Hi,D.len];lia) λg3 gc3 go3 gn3=>dX ?_;have ca3:g3.c a=Dn (.lst (aP ps)):=(go3 a (by lia)).trans ca2;refine gW<|mj<|aA rfl<|gQ ca3<|aB<|aA rfl<|aJ ?_
   refine Ay ca3 (by rw[rl];lia) λg4 gc4 go4 gn4=>dX<|hN _ _ ⟨ps++[(x,js)],wt++[wtF x<|js.map λj=>wt.getD j 0],_,_,D.snoc hx es wl,by rw[KJ,pl];rfl,F.snoc fx,rfl,by rw[gc4,wQ],by rw[go4 b<|by lia,gc3,KQ],by lia,λm hm=>by rw[go4 m<|by lia,go3 m<|by lia,ho2 m hm]⟩
  refine bA<|d9<|bN<|aW<|bH<|aB<|aA rfl<|aB<|aA rfl<|aB<|aA rfl<|aJ<|hw cb2 D.le hj jl hx<|aA rfl<|ac6<|pW ?_
  by_cases c:wtF x (js.map λj=>wt.getD j 0)<=M
  refine bM (nu<|by lia)<|cY<|dX ?_
  exact rest hx es fx<|Ja c m48
  ·refine iU (pL<|by lia) ?_;have nf:¬ps.length<fr:=λz=>by
    have e0:=fx.mpr z;subst e0;exact c<|show 1<=M from m1
   rfl'
   refine aa0 ?_;rw[if_neg (by lia)];rfl'
   have f0:=first 0 (by lia) (by lia)
   have f1:=first 1 (by lia) (by lia)
   refine rest (x := "join") (js:=[0,1]) (by decide) ?_ ⟨λz=>absurd z<|by decide,λz=>absurd z nf⟩ ?_;unfold nA;simp only[Nj,List.map_nil,Jm,f0,f1];rfl;have e0:=(D.wt 0 _ _ f0).1;have e1:=(D.wt 1 _ _ f1).1;rw[List.map_nil,Pk]at e0 e1;simp only[Nj,List.map_nil,e0,e1];decide
 rintro σ h' ⟨ps,wt,a6,a7,D,pl,F,rfl,ca,cb,bx,ho⟩;rw[af4]at pl;refine dX ?_;unfold uJ;exact dN<|aA rfl<|Pz ⟨λm c hm e=>by rw[ho m hm];exact e,.inr ⟨a,aP ps,rfl,by lia,ca,CT _ _,k ps wt D pl F⟩⟩
variable {kvs:List (Key×W)}
theorem yM {k}(h:pJ kvs k=Go):kvs.find? (λkv=>decide (kv.1=k))=Go:=by
 unfold pJ at h;cases e:kvs.find? (λkv=>decide (kv.1=k))with
 | none=>rfl
 | some v=>rw[e]at h;cases h
theorem aiH {k}(h:pJ kvs k=Go):Zk kvs k w=kvs++[(k,w)]:=by
 unfold Zk;rw[if_neg];intro z;obtain⟨kv,h1,h2⟩:=YL.mp z;exact List.find?_eq_none.mp (yM h) kv h1 h2
theorem wU {k k'}(h:pJ kvs k=Go):pJ (kvs++[(k,w)]) k'=if k=k' then Dn w else pJ kvs k':=by
 by_cases c:k=k'
 subst c;unfold pJ;rw[List.find?_append,yM h];simp;rw[if_neg c];unfold pJ;grind
theorem MN {i}{N}(e:h.c n=Dn (.dct kvs))(hz:kvs.length+1<=1000)(p:pJ kvs (.inl i)=Go)(k:∀g,g.c n=Dn (.dct (kvs++[(.inl i,w)]))->(∀m,m≠n->g.c m=h.c m)->g.nx=h.nx->N g):zx (.loc n) (.int i) w h N:=by
 show(match h.c n with
  | some (.dct kvs)=>gG _ _
  | _=>False)
 rw[e];dsimp only;exact aiH p ▸ gG.mk (Ja hz (by decide:1000<=Il)) (k _ (rP _ _ _) (λ_ e=>jY e) rfl)
theorem aaP {i}(e:h.c n=Dn (.dct kvs))(v:pJ kvs (.inl i)=Dn w)(k:Q w h):Zi (.loc n) (.int i) h Q:=by
 show(match h.c n with
  | some (.dct kvs)=>(match pJ kvs _ with
   | some w=>Q w h
   | none=>False)
  | _=>False)
 simp_all
def tE (kvs:List (Key×W))(js js':List Nat):Prop:=js.map (λj:Nat=>pJ kvs (.inl (j:Int)))=js'.map λj:Nat=>Dn (W.int (j:Int))
structure Am (fr:Nat) (ps:Ps) (wt:List Nat) (k a:Nat) (kvs:List (Key×W)) (qs:Ps) (vt:List Nat):Prop where
 d:Dr 48 qs vt
 len:qs.length+fr=a+k
 kl:kvs.length=qs.length
 v:∀n:Nat,n<a\/(fr<=n/\n<k)->∃j:Nat,pJ kvs (.inl (n:Int))=Dn (.int (j:Int))/\j<qs.length/\(nA qs)[j]?=(nA ps)[n]?/\vt.getD j 0=wt.getD n 0
 nv:∀n:Nat,¬(n<a\/(fr<=n/\n<k))->pJ kvs (.inl (n:Int))=Go
 af:a<=fr
 fk:fr<=k
 fn:KH qs qs.length=a
variable {qs:Ps}
theorem yI:(∀j,j<qs.length->(nA (qs++[(x,js)]))[j]?=(nA qs)[j]?)/\(nA (qs++[(x,js)]))[qs.length]?=Dn (lJ x):=by
 unfold nA;rw[R7];refine⟨λj hj=>Rn<|by rwa[Hi],?_⟩;rw[SQ (by rw[Hi];exact IK _),Hi,Nat.sub_self];rfl
variable {vt:List Nat}
theorem JN {k}:(∀j,j<vt.length->(vt++[k]).getD j 0=vt.getD j 0)/\(vt++[k]).getD vt.length 0=k:=by
 refine⟨λj hj=>by rw[SJ,SJ,Rn hj],?_⟩;grind
theorem Di:KH (qs++[(x,js)]) (qs++[(x,js)]).length=KH qs qs.length+(if x = "free" then 1 else 0):=by
 unfold KH;rw[Q9];simp
variable {fr:Nat}
theorem Am.snoc {ps}{k a k' a'}(A:Am fr ps wt k a kvs qs vt)(nn:¬(n<a\/(fr<=n/\n<k)))
  (new:∀m,(m<a'\/(fr<=m/\m<k'))↔(m<a\/(fr<=m/\m<k))\/m=n) (le:a'+k'=a+k+1) (af:a'<=fr) (fk:fr<=k') (fa:a'=a+if x = "free" then 1 else 0)
  (D:Dr 48 (qs++[(x,js)]) (vt++[wtF x (js.map λj=>vt.getD j 0)])) (es:(nA ps)[n]?=Dn (lJ x)) (ew:wt.getD n 0=wtF x (js.map λj=>vt.getD j 0)) :
  Am fr ps wt k' a' (kvs++[(.inl (n),.int (qs.length:Int))]) (qs++[(x,js)]) (vt++[wtF x (js.map λj=>vt.getD j 0)]):=by
 have vl:=A.d.len;refine⟨D,?_,?_,λm hm=>?_,λm hm=>?_,af,fk,(by rw[Di,A.fn,fa])⟩;rw[KJ,Rz];have:=A.len
 lia;rw[KJ,KJ,A.kl];rfl;rw[wU (A.nv n nn)];by_cases c:m=n
 subst c;rw[if_pos rfl];refine⟨qs.length,rfl,by rw[KJ,Rz];lia,by rw[yI.2,es],?_⟩;rw[<-vl,JN.2,ew];rw[if_neg (λz=>c (by injection z with z;lia))];obtain⟨j,h1,h2,h3,h4⟩:=A.v m (((new m).mp hm).resolve_right c);exact⟨j,h1,by rw[KJ];lia,by rw[yI.1 j h2,h3],by rw[JN.1 j<|by lia,h4]⟩;rw[wU (A.nv n nn)];have h0:=λz=>hm ((new m).mpr z)
 rw[if_neg (λz=>h0 (.inr (by injection z with z;lia)))];exact A.nv m λz=>h0<|.inl z
theorem Am.free {fr ps}{wt k a}{kvs qs}{vt}(A:Am fr ps wt k a kvs qs vt)(D:Dr 48 ps wt)(F:V3 fr ps)(ha:a<fr)(hl:fr<=ps.length) :
  ∃vt',Am fr ps wt k (a+1) (kvs++[(.inl (a),.int (qs.length:Int))]) (qs++[(("free" : Str),([]:List Nat))]) vt':=by
 obtain⟨x,js,e⟩:∃x js,ps[a]?=Dn (x,js):=⟨_,_,N5 (by lia)⟩
 cases(F a x js e).mpr ha
 refine⟨_,A.snoc (by lia) (λm=>by lia) (by lia) ha A.fk (by simp) (A.d.snoc (by decide) rfl<|show 1<=48 by decide) ?_ (D.wt a _ _ e).1⟩;unfold nA;rw[Jm,e];rfl
theorem Nm {kvs:List (Key×W)}{S S':List Str}{vt wt:List Nat}:∀{js:List Nat},(∀j∈js,∃j':Nat,pJ kvs (.inl (j:Int))=Dn (.int (j':Int))/\S'[j']?=S[j]?/\vt.getD j' 0=wt.getD j 0) ->
  ∃js',tE kvs js js'/\js'.map (λj=>S'[j]?)=js.map (λj=>S[j]?)/\(js'.map λj=>vt.getD j 0)=js.map λj=>wt.getD j 0
 | [],_=>⟨[],rfl,rfl,rfl⟩
 | j::js,h=>by
  obtain⟨js',h1,h2,h3⟩:=Nm λj hj=>h j (Qp _ hj)
  obtain⟨j',a1,a2,a3⟩:=h j (RM ..);refine⟨j'::js',?_,(by rw[Nj,Nj,h2,a2]),(by rw[Nj,Nj,h3,a3])⟩;unfold tE;rw[Nj,Nj,h1,a1]
theorem Am.row {ps}{k a}(A:Am fr ps wt k a kvs qs vt)(D:Dr 48 ps wt)(F:V3 fr ps)(e:ps[k]?=Dn (x,js))(hj:∀j∈js,j<a\/fr<=j):
  ∃js' vt',tE (kvs++[(.inl (k),.int (qs.length:Int))]) js js'/\Am fr ps wt (k+1) a (kvs++[(.inl (k),.int (qs.length:Int))]) (qs++[(x,js')]) vt':=by
 obtain⟨js',h1,h2,h3⟩:=Nm (kvs:=kvs) (S:=nA ps) (S':=nA qs) (vt:=vt) (wt:=wt) (js:=js) λj hj'=>by
  obtain⟨j',a1,_,a2,a3⟩:=A.v j (by have:=hj j hj';have:=D.lt k x js e j hj';lia);exact⟨j',a1,a2,a3⟩
 have w:=D.wt k x js e;have fk:=A.fk;have af:=A.af;have nf:x ≠ "free":=λz=>by
  have:=(F k x js e).mp z
  lia
 have h1':tE (kvs++[(.inl (k:Int),.int (qs.length:Int))]) js js':=by
  unfold tE at h1|-
  rw[<-h1];apply Ry;intro j hj';have:=D.lt k x js e j hj'
  rw[wU (A.nv k (by lia)),if_neg (λz=>by injection z with z;lia)]
 refine⟨js',_,h1',A.snoc (n:=k) (by lia) (λm=>by lia) (by lia) af (by lia) (by rw[if_neg nf];rfl) (A.d.snoc (D.wd k x js e) (by rw[h2];exact D.ss k x js e) (by rw[h3,<-w.1];exact w.2)) ?_ (by rw[h3];exact w.1)⟩;unfold nA;rw[Jm,e];rfl
theorem Am.nil {fr ps}{wt}:Am fr ps wt fr 0 [] [] []:=⟨.nil,by simp,rfl,λn h=>by lia,λn _=>rfl,Rb _,IK _,rfl⟩
theorem Dr.frees {qs}{vt}(D:Dr 48 qs vt):∀n,∃vt',Dr 48 (qs++QW n (("free" : Str),([]:List Nat))) vt'/\KH (qs++QW n (("free" : Str),([]:List Nat))) (qs++QW n (("free" : Str),([]:List Nat))).length=KH qs qs.length+n
 | 0=>⟨vt,by simpa using D,by simp⟩
 | n+1=>by
  obtain⟨vt',D',f⟩:=D.frees n;refine⟨_,by rw[List.replicate_succ',<-List.append_assoc];exact D'.snoc (by decide) rfl (show 1<=48 by decide),?_⟩;rw[List.replicate_succ',<-List.append_assoc,Di,f];rfl
theorem abD (x:∀g,g.c h.nx=Dn (.dct [])->(∀m,m≠h.nx->g.c m=h.c m)->g.nx=h.nx+1->Q (.loc h.nx) g):V1 σ h Q:=x _ (Ba _ _) (λ_ e=>oZ e) rfl
theorem abT {i}(x:Q (.bl (decide (i<=j))) h):kLe (.int i) (.int j) h Q:=x
variable {js':List Nat}
theorem tE.at {kvs js js'}(t:tE kvs js js'){i j:Nat}(e:js[i]?=Dn j):∃j',js'[i]?=Dn j'/\pJ kvs (.inl (j))=Dn (.int (j')):=by
 have:=congrArg (λl=>l[i]?) t
 simp at this;grind
theorem tE.len (t:tE kvs js js'):js.length=js'.length:=by
 have:=congrArg Tc t
 rwa[Hi,Hi]at this
theorem adX (hσ:sI ix σ=[Dn (.loc n)])(hv:h.c n=Dn (.dct kvs))(t:tE kvs js js')(hl:js.length<=100)(q:Q (.lst (uM js')) h):
  lcK JX ix jF (Mk Zi (ao 1) (ao 0)) σ Q ⟨js.map λj:Nat=>W.int (j),Go⟩ h:=by
 refine sX (by rw[Hi];exact Nat.ble_eq.mpr (by lia)) ?_;refine dR (λi acc h'=>h'=h/\acc=uM (js'.take i)) ?_ ?_ ⟨rfl,rfl⟩;rintro i u acc h' N hN e ⟨rfl,rfl⟩;rw[Jm]at e;obtain⟨j,ej,rfl⟩:=S6.mp e;obtain⟨w,ew,et⟩:=t.at ej;refine⟨[.int _],rfl,?_⟩;rw[hσ];refine jW<|gC<|aW<|aA rfl<|aA rfl<|aaP hv et<|hN _ _ ⟨rfl,?_⟩
 rw[N7,ew];exact KQ;rintro acc h' ⟨rfl,rfl⟩
 rwa[Hi,t.len,Q9]
theorem ae3 {a b}(e:h.c n=Dn (.lst a))(hz:a.length+b.length<=1000)(x:Q (.lst (a++b)) h):bR (.loc n) (.lst b) h Q:=by
 show(match Px h _,Px h _ with
  | some a,Dn b=>gG _ _
  | _,_=>False)
 have e1:Px h (.loc n)=Dn a:=by simp[Px,e]
 have e2:Px h (.lst b)=Dn b:=rfl;exact e1 ▸ gG.mk (Ja hz (by decide:1000<=Il)) x
theorem wL (a n):((rng a n).map λx:Nat=>W.int (x)).length=n-a:=by unfold rng;rw[Hi,XQ]
theorem dz (ps):(aP ps).length=ps.length:=by unfold aP;rw[Hi]
def ab5 (c0:Ah):Prop:=∀{h:Gh}{ps:Ps}{wt:List Nat}{fr:Nat}{Q:WK}{E:Ce},Dr 48 ps wt->V3 fr ps->fr<=ps.length->ps.length<=24->(∀qs vt,Dr 48 qs vt->qs.length=ps.length->KH qs qs.length=fr->Q (.lst (aP qs)) h)->c0 [.lst (aP ps),.int (fr:Int)] h Q E
theorem abu:ab5 Ec:=by
 intro h ps wt fr Q E D F fl l24 k;have rl:=dz ps;refine zP rfl (σ:=[Dn<|.lst<|aP ps,Dn<|.int (fr:Int),Go,Go,Go,Go,Go]) rfl<|bA<|bQ<|abD λg1 gc1 go1 gn1=>(nV<|dX ?_)
 refine bA<|bQ<|qC (ws:=[]) (λR=>rfl) rfl λg2 gc2 go2 gn2=>(nV<|dX ?_)
 obtain⟨P,eP⟩:∃P,P=h.nx:=⟨_,rfl⟩
 obtain⟨L,eL⟩:∃L,L=g1.nx:=⟨_,rfl⟩
 rw[<-eP]at gc1 go1 gn1|-
 rw[<-eL]at gc2 go2 gn2|-
 refine bA<|bQ<|cI<|nV<|dX ?_
 refine bA<|rH<|Bo<|aB<|aA rfl<|aB<|dg<|aB<|aA rfl<|aJ<|eE (xs:=aP ps) rfl<|aJ ?_
 rw[rl];refine Nb (n:=fr) rfl (by lia) (by lia)<|qZ ?_
 refine jf (λi σ h'=>∃a kvs qs vt s5 s6,Am fr ps wt (fr+i) a kvs qs vt/\σ=[Dn<|.lst<|aP ps,Dn<|.int (fr:Int),Dn<|.loc P,Dn<|.loc L,Dn<|.int ((a:Nat):Int),s5,s6]/\h'.c P=Dn (.dct kvs)/\h'.c L=Dn (.lst<|aP qs)/\∀m,m<h.nx->h'.c m=h.c m) ?_ ?_ ⟨0,[],[],[],Go,Go,.nil,rfl,by rw[go2 P<|by lia];exact gc1,gc2,λm hm=>by rw[go2 m<|by lia,go1 m<|by lia]⟩
 ·rintro i w σ h' N hN ew ⟨a,kvs,qs,vt,s5,s6,A,rfl,cP,cL,ho⟩;rw[Jm]at ew;obtain⟨j,ej,rfl⟩:=S6.mp ew;obtain⟨ei,hik⟩:=lC ej;subst ei;obtain⟨x,js,e⟩:∃x js,ps[fr+i]?=Dn (x,js):=⟨_,_,N5 hik⟩
  have er:(aP ps)[fr+i]?=Dn (dB x js):=by unfold aP;rw[Jm,e];rfl
  have ixr:∀{h':Gh}{R:WK},R (dB x js) h'->Av (.lst (aP ps)) (.int ((fr+i:Nat):Int)) h' R:=λq=>gH (ws:=aP ps) rfl (bZ er) q
  have jl:js.length<=24:=by
   have:=congrArg Tc (D.ss _ x js e)
   rw[Hi,Hi]at this;rw[this];exact qM<|D.wd _ x js e
  refine nV<|bA<|rH<|tB<|nZ<|aW<|aA rfl<|aA rfl<|ixr<|dH<|cI<|Ig<|bW<|nH<|Ld (ws:=js.map λj:Nat=>W.int (j:Int)) (o:=Go) rfl<|qZ ?_
  refine jf (λq σ h'=>∃a kvs qs vt s6,Am fr ps wt (fr+i) a kvs qs vt/\(∀j∈js.take q,j<a\/fr<=j)/\σ=[Dn<|.lst<|aP ps,Dn<|.int (fr:Int),Dn<|.loc P,Dn<|.loc L,Dn<|.int ((a:Nat):Int),Dn<|.int ((fr+i:Nat):Int),s6]/\h'.c P=Dn (.dct kvs)/\h'.c L=Dn (.lst<|aP qs)/\∀m,m<h.nx->h'.c m=h.c m) ?_ ?_ ⟨a,kvs,qs,vt,_,A,by simp,rfl,cP,cL,ho⟩
  ·rintro q w σ h' N hN ew ⟨a,kvs,qs,vt,s6,A,hq,rfl,cP,cL,ho⟩;rw[Jm]at ew;obtain⟨j,ej,rfl⟩:=S6.mp ew;refine nV ?_;refine⟨λm σ h'=>∃a kvs qs vt,m+a=fr/\Am fr ps wt (fr+i) a kvs qs vt/\(∀j∈js.take q,j<a\/fr<=j)/\σ=[Dn<|.lst<|aP ps,Dn<|.int (fr:Int),Dn<|.loc P,Dn<|.loc L,Dn<|.int ((a:Nat):Int),Dn<|.int ((fr+i:Nat):Int),Dn<|.int (j:Int)]/\h'.c P=Dn (.dct kvs)/\h'.c L=Dn (.lst<|aP qs)/\∀m,m<h.nx->h'.c m=h.c m,⟨fr-a,a,kvs,qs,vt,by have:=A.af;lia,A,hq,rfl,cP,cL,ho⟩,?_⟩;rintro m σ h' ⟨a,kvs,qs,vt,ma,A,hq,rfl,cP,cL,ho⟩;have ql:=A.len;have done:j<a\/fr<=j->N [Dn (.lst (aP ps)),Dn (.int (fr:Int)),Dn (.loc P),Dn (.loc L),Dn (.int ((a:Nat):Int)),Dn (.int ((fr+i:Nat):Int)),Dn (.int (j:Int))] h':=λz=>hN _ _ ⟨a,kvs,qs,vt,_,A,λj' hj'=>by
    rw[N7,ej]at hj';rcases Vz.mp hj' with h1|h1
    exact hq j' h1;rw[Option.toList_some,R8]at h1;rw[h1];exact z,rfl,cP,cL,ho⟩
   refine zm<|bN<|aW<|aA rfl<|aA rfl<|QT<|pW ?_
   by_cases c1:j<fr
   ·refine iU (pL<|by lia) ?_;refine bN<|aW<|aA rfl<|aA rfl<|abT<|pW ?_
    by_cases c2:a<=j
    refine iU (pL<|by lia) ?_;obtain⟨vt',A'⟩:=A.free D F (by lia) fl;refine bA<|bQ<|dg<|aB<|aA rfl<|aJ<|eE (vw cL) ?_
    rw[dz];refine JV<|aA rfl<|aA rfl<|MN cP (by rw[A.kl];lia) (A.nv a<|by lia) λg3 gc3 go3 gn3=>dX ?_
    have cL3:g3.c L=Dn (.lst (aP qs)):=(go3 L (by lia)).trans cL;refine bA<|gW<|mj<|aA rfl<|gQ cL3<|aB<|yD<|aB<|cI<|aJ<|iJ rfl<|aJ ?_
    refine Ay cL3 (by rw[dz];lia) λg4 gc4 go4 gn4=>dX ?_;refine bQ<|aW<|aA rfl<|cI<|eY<|nV ?_
    exact⟨m-1,by lia,a+1,_,_,vt',by lia,A',λj hj=>by have:=hq j hj;lia,rfl,by rw[go4 P<|by lia];exact gc3,by rw[gc4];exact congrArg Dn (congrArg Cell.lst<|wQ (x := "free") (js:=[])),λm hm=>by rw[go4 m<|by lia,go3 m<|by lia,ho m hm]⟩
    ·exact bM (nu<|by lia)<|done<|by lia
   ·exact bM (nu<|by lia)<|bM rfl<|done<|by lia
  rintro σ h' ⟨a,kvs,qs,vt,s6,A,hq,rfl,cP,cL,ho⟩;rw[Hi,Q9]at hq;obtain⟨js',vt',td,A'⟩:=A.row D F e hq;have ql:=A.len;have af:=A.af;refine dX ?_;refine bA<|bQ<|dg<|aB<|aA rfl<|aJ<|eE (vw cL) ?_
  rw[dz];refine JV<|aA rfl<|aA rfl<|MN cP (by rw[A.kl];lia) (A.nv _<|by lia) λg3 gc3 go3 gn3=>dX ?_
  have cL3:g3.c L=Dn (.lst (aP qs)):=(go3 L (by lia)).trans cL;refine gW<|mj<|aA rfl<|gQ cL3<|aB<|dg<|aB<|aW<|yN<|aB<|aW<|aW<|aA rfl<|aA rfl<|ixr<|cI<|Ii<|aJ<|iJ rfl<|qH<|tB<|nZ<|aW<|aA rfl<|aA rfl<|ixr<|dH<|cI<|Ig<|bW<|nH<|Ld (ws:=js.map λj:Nat=>W.int (j:Int)) (o:=Go) rfl ?_
  refine adX rfl gc3 td (by lia) ?_;refine Wz (by unfold uM;rw[Hi,<-td.len];show 1+_<=1000;lia)<|aJ<|Gn<|aJ ?_
  refine Ay cL3 (by rw[dz];lia) λg4 gc4 go4 gn4=>dX<|hN _ _ ⟨a,_,_,vt',_,_,A',rfl,by rw[go4 P<|by lia];exact gc3,by rw[gc4];exact congrArg Dn (congrArg Cell.lst wQ),λm hm=>by rw[go4 m<|by lia,go3 m<|by lia,ho m hm]⟩
 rintro σ h' ⟨a,kvs,qs,vt,s5,s6,A,rfl,cP,cL,ho⟩;rw[wL]at A;have ql:=A.len;have af:=A.af;refine dX ?_;unfold tV;refine dN<|aW<|aA rfl<|qH<|Bo<|aB<|aA rfl<|aB<|aA rfl<|aJ<|Nb (n:=a) rfl (by lia) (by lia) ?_
 refine sX (by rw[wL];exact Nat.ble_eq.mpr (by lia)) ?_;refine dR (λi acc h''=>h''=h'/\acc=aP (QW i (("free" : Str),([]:List Nat)))) ?_ ?_ ⟨rfl,rfl⟩;rintro i u acc h'' N hN e ⟨rfl,rfl⟩;refine⟨[u],rfl,?_⟩;refine jW<|gC<|yD<|aB<|cI<|aJ<|iJ rfl<|hN _ _ ⟨rfl,?_⟩
 rw[List.replicate_succ'];exact wQ (x := "free") (js:=[]);rintro acc h'' ⟨rfl,rfl⟩;rw[wL];obtain⟨vt',D',fn⟩:=A.d.frees (fr-a);refine ae3 cL (by rw[dz,dz,Ym];lia) ?_;have ea:aP qs++aP (QW (fr-a) (("free" : Str),([]:List Nat)))=aP (qs++QW (fr-a) (("free" : Str),([]:List Nat))):=by unfold aP;rw[R7]
 rw[ea];exact Pz ⟨λm c hm e=>by rw[ho m hm];exact e,.inl ⟨CT _ _,k _ vt' D' (by rw[KJ,Ym];lia) (by rw[fn,A.fn];lia)⟩⟩
theorem Dr.rows {ps}(D:Dr M ps wt):∀r∈aP ps,Row r:=λr hr=>by
 obtain⟨p,hp,rfl⟩:=Ni.mp hr;obtain⟨q,eq⟩:=Ye hp;refine⟨p.1,p.2.map λk:Nat=>(k:Int),D.wd q _ _ eq,?_⟩;rw[W8];rfl
theorem Gs:∀ts:List Tr,iZ (ts.map tw) (ts.map tw)=true
 | []=>rfl
 | t::ts=>by
  show(Iz _ _&&iZ _ _)=true;rw[Gs ts,Cy,decide_eq_true rfl];rfl
theorem xX {ps}(D:Dr M ps wt)(k:Q (.bl false) h):adt (.lst [.lst (aP ps),.lst (sps.map tw)]) (.lst [.lst (aP ps),.lst (sps.map tw)]) h Q:=by
 have p1:Hq 29 (.lst _)=true:=Rm.mpr λr hr'=>Z4 (D.rows r hr')
 have p2:Hq 29 (.lst (sps.map tw))=true:=Rm.mpr λw hw=>by
   obtain⟨t,_,rfl⟩:=Ni.mp hw;rfl
 have p:Hq 30 (.lst [.lst (aP ps),.lst (sps.map tw)])=true:=by
  show(([W.lst _,W.lst _]:List W).all _)=true;simp_all
 show JQ _ (Q (.bl (!(iZ _ _&&(iZ _ _&&true)))) h) False
 rwa[p,O2 D.rows,Gs]
theorem acz {ps}(h:i<=n):KH ps i<=KH ps n:=List.Sublist.countP_le (List.take_sublist_take_left h)
theorem akM {ps}(h:i<=n):KH (ps.take n) i=KH ps i:=by
 unfold KH;grind
theorem V3.count {f ps}(F:V3 f ps):∀{n},n<=ps.length->KH ps n=min f n
 | 0,_=>by unfold KH;simp
 | n+1,h=>by
  obtain⟨x,js,e⟩:∃x js,ps[n]?=Dn (x,js):=⟨_,_,N5 (by lia)⟩
  rw[mF e,F.count (by lia)];have:=F n x js e
  grind
theorem Gd.cut {ps}(D:Dr M ps wt)(G:Gd ps wt sps gold):Gd (ps.take gold.length) (wt.take gold.length) (sps.take (KH ps gold.length)) gold:=by
 have up:∀{i p},(ps.take gold.length)[i]?=Dn p->ps[i]?=Dn p:=λ{i p} e=>by
  rw[YB]at e;split at e
  exact e;cases e
 have gw:∀{i},i<gold.length->(wt.take _).getD i 0=wt.getD i 0:=λ{i} h=>by
  rw[SJ,SJ,YB,if_pos h]
 refine⟨by rw[Ti];have:=G.le;lia,λi x js h e=>?_,λi js h e=>?_,λi x js h e nf=>?_⟩;exact gw h ▸ G.tg i x js h (up e);obtain⟨t,a,b⟩:=G.fr i js h (up e);have fs:=mF (up e);rw[if_pos rfl]at fs;have:KH ps _<=KH ps _:=acz h
 rw[akM (W7 h)];grind
 obtain⟨ws,w,a,b,c,d⟩:=G.mkd i x js h (up e) nf;refine⟨ws,w,a,b,c,?_⟩;have:(js.map λj=>(wt.take _).getD j 0)=js.map λj=>wt.getD j 0:=Ry λj hj=>gw (by have:=D.lt i x js (up e) j hj;lia)
 rwa[this]
theorem Rt.pos {ps}(D:Dr M ps wt)(s:Rt ps wt gold):0<gold.length/\gold.length<ps.length:=by
 obtain⟨x,js,ws,e,nf,_⟩:=s;refine⟨Nat.pos_of_ne_zero λz=>?_,(Ob.mp e).1⟩;rw[z]at e;have h2:=D.ss 0 x js e;have h3:=D.wd 0 x js e;cases List.eq_nil_iff_forall_not_mem.mpr λj hj=>absurd ((D.lt 0 x js e) j hj) (VL _)
 have h4:=by have:=congrArg Tc h2;rw[Hi,Hi]at this;exact this.symm
 unfold O5 at h3;simp at h3;rcases h3 with rfl|rfl|rfl|rfl|rfl|rfl|rfl
 exact nf rfl;all_goals exact absurd h4 (by decide)
theorem wH {ps}:(aP ps).take n=aP (ps.take n):=by unfold aP;rw[List.map_take]
def adB (mr c0:Ah):Prop:=∀{rws sps gold:List W}{h:Gh}{Q:WK}{E:Ce},Hu mr rws sps gold->(gold.length=rws.length->∀g:Gh,g.c h.nx=Dn (.lst gold)->g.nx=h.nx+1->(∀m,m<h.nx->g.c m=h.c m)->Q (.loc h.nx) g) ->
 (∀r,rws[gold.length]?=Dn r->Rf mr gold r/\∀h',Kp h h'->E ⟨"Stuck",[("at",.int (gold.length:Nat))]⟩ h')->c0 [.lst rws,.lst sps] h Q E
theorem aci {mr}:adB mr (uX mr):=λP kf kr=>zbs P kf kr
theorem ajm {d mh}(x:mb (λx h'=>JQ (KZ x.cls d) (mh (D.drop i) (σ.set i (Dn (PJ x))) h') False) D σ h):WW i d mb mh D σ h:=x
theorem Ze {f ma n v}(hm:∀R,R (.exa n ws) h->ma σ h R)(e:((Dj n).zip ws).lookup f=Dn v)(k:Q v h):Y8 f ma σ h Q:=hm _ (by
 show(match((Dj n).zip ws).lookup f with
  | some v=>Q v h
  | none=>False)
 exact e ▸ k)
theorem BR (k:Q (.lst ws) h):v8 [.lst ws] h Q:=k
theorem vM {k}(x:Q (.lst (us.take k)) h):uN (.lst us) Go (Dn (k)) h Q:=by
 show Q _ h
 rwa[Fj]
abbrev DT:bK:={nx:=λ_ h'=>(λ(w:W) (_:Gh)=>w=W.bl true) W.non h',rt:=λw _=>w=W.bl true}
def afJ (r':M2)(mc:ME)(σ:Sw)(y:W)(Q:WK):WK:=λz h3=>match z with
 | .bl true=>mc σ h3 λu h4=>r' y u h4 Q
 | .bl false=>Q (.bl false) h3
 | _=>False
theorem ab2 {r':M2}{mc:ME}{y:W}(x:mc σ h λu h4=>r' y u h4 Q):afJ r' mc σ y Q (.bl true) h:=x
theorem aiP {r r'}{ma mb mc}(x:ma σ h λx h1=>mb σ h1 λy h2=>r x y h2 (afJ r' mc σ y Q)):GC r r' ma mb mc σ h Q:=x
section
variable {cl bg so rw' am ca wa:Ah}
theorem zbS (hpl:adB (aM jo me th li sp oe) pl)(hwa:WalkX wa){ps}(D:Dr 48 ps wt)(G:Gd ps wt sps gold)(P:Hu (aM jo me th li sp oe) (aP ps) (sps.map tw) gold)(el:gold.length=ps.length)(l30:ps.length<=30)(hn:h.c n=Dn (.lst gold))(nl:n<h.nx){s0 s1 s2 s3 s5 s6}:
  pQ pl cl bg so rw' am ca wa EF DT [s0,s1,s2,s3,Dn (.lst (aP ps)),s5,s6,Dn (.lst (sps.map tw)),Dn (.lst [.lst (aP ps),.lst (sps.map tw)]),Dn (.int (-1)),Dn (.loc n),Go,Go,Go] h:=by
 refine bA<|d9<|bN<|aW<|aA rfl<|yN<|aB<|aA rfl<|aB<|aA rfl<|aJ<|iJ rfl<|xX D<|pW<|bM rfl<|cY<|dX<|bA<|d9<|bN<|aW<|aA rfl<|Ss<|cI<|Eo<|Cu<|pW<|iU (pL rfl)<|hwa D G el l30 hn nl<|nV<|dX ?_
 refine bA<|gW<|mj<|aA rfl<|gQ hn<|aB<|yD<|aB<|cI<|aB<|cI<|aB<|cI<|aJ<|iJ rfl<|aJ<|Ay hn (by lia) λg2 e2 o2 x2=>dX<|hpl P (λ_ g3 e3 x3 o3=>aJ<|hwa D G el l30 e3 (by lia) rfl) λr er=>?_
 have:=(Ob.mp er).1
 rw[dz]at this;lia
theorem zaH (hpl:adB (aM jo me th li sp oe) pl)(hwa:WalkX wa)(hca:abb ca){ps}(D:Dr 48 ps wt)(G:Gd ps wt sps gold)(s:Rt ps wt gold)(hG:∀{ps}{wt sps gold},Dr 48 ps wt->Gd ps wt sps gold->gold.length=ps.length\/Rt ps wt gold->ps.length<=30->Hu (aM jo me th li sp oe) (aP ps) (sps.map tw) gold)(l30:ps.length<=30){s0 s1 s2 s5 s6}:
  pQ pl cl bg so rw' am ca wa EF DT [s0,s1,s2,Dn (.int (ps.length:Int)),Dn (.lst (aP ps)),s5,s6,Dn (.lst (sps.map tw)),Dn (.lst [.lst (aP ps),.lst (sps.map tw)]),Dn (.int (gold.length:Nat)),Go,Go,Go,Go] h:=by
 obtain⟨p0,p1⟩:=s.pos D;refine bA<|d9<|bN<|aW<|aA rfl<|yN<|aB<|aA rfl<|aB<|aA rfl<|aJ<|iJ rfl<|xX D<|pW<|bM rfl<|cY<|dX ?_
 refine bA<|d9<|bN<|aW<|aA rfl<|Ss<|cI<|Eo<|Cu<|pW<|bM (nu<|by lia)<|cY<|dX ?_
 unfold Ft;rfl'
 refine aiP ?_;refine cI<|aA rfl<|QT ?_
 rw[pL (show(0:Int)<((gold.length:Nat):Int) by lia)];refine ab2 ?_;refine aA rfl<|QT<|pW ?_
 rw[pL (show((gold.length:Nat):Int)<(ps.length:Int) by lia)];refine NK<|cY<|dX ?_
 unfold DK;refine bA<|bQ<|nZ<|aA rfl<|bW<|dH<|dg<|aB<|qH<|tB<|nZ<|aA rfl<|bW<|dH<|aA rfl<|Ig<|vM ?_
 rw[wH];refine sX (by rw[dz,Ti];exact Nat.ble_eq.mpr (by lia)) ?_;refine dR (λi acc h'=>h'=h/\acc.length=KH ps i) ?_ ?_ ⟨rfl,by unfold KH;rfl⟩;rintro i u acc h' N hN e ⟨rfl,ha⟩;obtain⟨x,js,e',rfl⟩:=rZ e;have ep:ps[i]?=Dn (x,js):=by
  rw[YB]at e';split at e'
  exact e';cases e'
 have fs:=mF ep;refine⟨[dB x js],rfl,?_⟩;refine bN<|aW<|aW<|aA rfl<|cI<|Ii<|cI<|rC<|pW ?_
 by_cases c:x = "free"
 rw[if_pos c]at fs;rw[pL c];refine gC<|aA rfl<|hN _ _ ⟨rfl,by rw[KJ,ha,fs];rfl⟩
 rw[if_neg c]at fs;rw[nu c];refine uo<|hN _ _ ⟨rfl,by rw[ha,fs];rfl⟩
 rintro acc h' ⟨rfl,ha⟩;rw[dz,Ti,Nat.min_eq_left (by lia)]at ha;refine aJ<|eE (xs:=acc) rfl<|Ig ?_
 rw[ha];refine vM ?_;rw[<-List.map_take];refine nV<|dX ?_
 refine bA<|bQ<|bH<|aB<|nZ<|aA rfl<|bW<|dH<|aA rfl<|Ig<|vM<|aB<|dg<|aB<|aA rfl<|aJ<|BR<|aJ ?_
 rw[wH];have D':=D.cut gold.length;have G':=G.cut D;have el:gold.length=(ps.take gold.length).length:=by rw[Ti];lia
 have l3:(ps.take gold.length).length<=30:=by lia
 refine hpl (hG D' G' (.inl el) l3) (λ_ g e x o=>nV<|dX ?_)<|λr er=>?_
 refine dN<|Bw<|bH<|aB<|nZ<|aA rfl<|bW<|dH<|aA rfl<|Ig<|vM<|aB<|aA rfl<|aB<|aA rfl<|aJ ?_
 rw[wH];refine hwa D' G' el l3 e (by lia)<|ae0<|Wh ?_
 obtain⟨x',js,ws,e',nf,td,O,ts⟩:=s;have er:(aP ps)[gold.length]?=Dn (dB x' js):=by unfold aP;rw[Jm,e'];rfl
 have hw:=D.wt _ x' js e';refine Ao<|bH<|aB<|aW<|aA rfl<|aA rfl<|gH (ws:=aP ps) rfl (bZ er)<|aB<|aA rfl<|aJ ?_
 exact hca O ts (by rw[<-hw.1];exact hw.2) (vw e) td<|adL rfl
 have:=(Ob.mp er).1
 rw[dz]at this;lia
end
theorem abf {i}(c:aeC i j)(x:Q (.int (i^j.toNat)) h):aaX (.int i) (.int j) h Q:=⟨c,x⟩
theorem aeu {cl bg so rw' am ca wa:Ah}(hpl:adB (aM jo me th li sp oe) pl)(hcl:Bl cl)(hbg:Wv bg)(hso:acN so)(hrw:acT rw')(ham:ab5 am)(hca:abb ca)(hwa:WalkX wa)
  (hG:∀{ps:Ps}{wt:List Nat}{sps:List Tr}{gold:List W},Dr 48 ps wt->Gd ps wt sps gold->gold.length=ps.length\/Rt ps wt gold->ps.length<=30->Hu (aM jo me th li sp oe) (aP ps) (sps.map tw) gold)
  (hR:∀{ps:Ps}{wt:List Nat}{gold:List W},Dr 48 ps wt->Rt ps wt gold->∀{r:W},(aP ps)[gold.length]?=Dn r->Rf (aM jo me th li sp oe) gold r) (ns:List Int) {h':Gh}:XH pl cl bg so rw' am ca wa [.kls (ns.map .int)] h' (λw _=>w=.bl true) EF:=by
 have p9:(10:Int)^(9:Int).toNat=1000000000:=by decide
 have t5:∀{h:Gh}{ps:Ps}{wt:List Nat}{F:Nat}{s2:Option W},Dr 48 ps wt->ps.length<=24->KH ps ps.length=F->F<=7->Ku pl cl bg so rw' am ca wa EF DT [Dn (.kls (ns.map .int)),Dn (.int (F:Int)),s2,Dn (.int (ps.length:Int)),Dn (.lst (aP ps)),Go,Go,Go,Go,Go,Go,Go,Go,Go] h:=by
  intro h ps wt F s2 D l24 fn f7;rfl'
  refine hcl (by decide) ?_;rfl'
  refine hbg λg bg' xg og=>?_;rfl'
  refine abf ⟨by decide,by decide,by decide⟩ ?_;rfl'
  refine hcl (by decide) ?_;rfl'
  refine yX (by decide) ?_;rfl'
  refine And.intro (.inr<|.inr ?_) ?_;split
  exact .lit rfl;exact Sm.zero;have htop:(10:Int)^(9:Int).toNat*(if decide ((ns.getD (2:Int).toNat 0).fmod 8=5)=true then 1 else 0)=0\/(10:Int)^(9:Int).toNat*(if decide ((ns.getD (2:Int).toNat 0).fmod 8=5)=true then 1 else 0)=1000000000:=by
   rw[p9];split
   exact .inr<|by decide
   exact .inl<|by decide
  generalize(10:Int)^(9:Int).toNat*(if decide ((ns.getD (2:Int).toNat 0).fmod 8=5)=true then 1 else 0)=top at htop;refine nV<|dX<|bA<|bQ ?_
  refine aav (j:=(F:Int)) (λ_=>rfl) (by lia) (by lia) (by rw[Int.toNat_natCast];exact Ja (by lia:_<=100) (by decide)) (λi acc h'=>∃ts:List Tr,acc=ts.map tw/\ts.length=i/\OkT 30 ts/\Ph h' h.nx/\h.nx<h'.nx) ?_ ?_ ⟨[],rfl,rfl,λt ht=>absurd ht<|by simp,bg',by lia⟩;rintro i acc g2 M2 hM2 hi ⟨ts,rfl,hl,hs,b2,l2⟩;refine⟨[.int (i:Int)],rfl,(jW<|bH<|aB<|aA rfl<|aB<|aA rfl<|aJ<|hso b2 l2 htop λt g3 pt st b3 l3 o3=>?_)⟩;refine hM2 _ _ ⟨ts++[t],by rw[R7];rfl,by rw[KJ,hl];rfl,λu hu=>?_,b3,by lia⟩;rcases Vz.mp hu with hu|hu
  exact hs u hu;rw[R8.mp hu];exact⟨pt,st⟩
  ·rintro acc g2 ⟨sps,rfl,hl,hs,b2,l2⟩;rw[Int.toNat_natCast]at hl;refine nV<|dX ?_
   refine bA<|bQ<|yN<|aB<|dg<|aB<|aA rfl<|aJ<|BR<|aB<|dg<|aB<|aA rfl<|aJ<|BR<|aJ<|iJ rfl<|nV<|dX ?_
   refine bA<|bQ<|Ss<|cI<|Eo<|nV<|dX ?_
   obtain⟨gold,G,s⟩:=Gd.ex D hs (by rw[fn,hl];exact IK _);have P:=hG D G s (by lia);refine bA<|ajm<|bQ<|bH<|aB<|aW<|aA rfl<|cI<|aeY<|aB<|aW<|aA rfl<|cI<|ae1<|aJ ?_
   refine hpl P (λel g3 e3 x3 o3=>nV ?_) λr er=>?_;rw[dz]at el;exact zbS hpl hwa D G P el (by lia) e3<|by lia
   ·have er':=(Ob.mp er).1;rw[dz]at er';have s':=s.resolve_left (by lia);refine⟨hR D s' er,λh4 kp=>?_⟩;show JQ (KZ "Stuck" "EaselError") _ False;rw[show KZ "Stuck" "EaselError" = true by decide +kernel];refine gC<|bA<|d9<|yj<|lR<|jP<|Ua<|aA rfl<|afG ?_
    rw[show KZ "Stuck" "Stuck" = true by decide +kernel];rfl'
    refine afG<|Pr rfl<|NK<|cY<|dX<|bQ<|Ze (n := "Stuck") (ws:=[.int (gold.length:Nat)]) (v:=.int (gold.length:Nat)) (λR q=>aA rfl q) rfl<|rJ (σ':=[Dn<|.kls<|ns.map .int,Dn<|.int (F:Int),s2,Dn<|.int (ps.length:Int),Dn<|.lst<|aP ps,Dn<|.loc h.nx,Dn<|.int top,Dn<|.lst<|sps.map tw,Dn<|.lst [.lst<|aP ps,.lst<|sps.map tw],Dn<|.int (gold.length:Nat),Go,Go,Go,Dn<|.exa "Stuck" [.int (gold.length:Nat)]]) rfl ?_
    show pQ pl cl bg so rw' am ca wa EF DT [Dn (.kls (ns.map .int)),Dn (.int (F:Int)),s2,Dn (.int (ps.length:Int)),Dn (.lst (aP ps)),_,_,Dn (.lst (sps.map tw)),Dn (.lst [.lst (aP ps),.lst (sps.map tw)]),Dn (.int (gold.length:Nat)),Go,Go,Go,Go] h4;exact zaH hpl hwa hca D G s' hG<|by lia
 unfold XH;rfl'
 refine hcl (by decide) ?_;rfl'
 refine yX (by decide) ?_;obtain⟨F,f1,f7,eF⟩:∃F:Nat,2<=F/\F<=7/\2+(ns.getD (0:Int).toNat 0).fmod 6=(F:Int):=by
  have a:=XR (ns.getD (0:Int).toNat 0) (show(6:Int)≠0 by decide);have b:=Y6 (ns.getD (0:Int).toNat 0) (show(0:Int)<6 by decide);rw[iC (by decide)];exact⟨(2+(ns.getD (0:Int).toNat 0) % 6).toNat,by lia,by lia,by lia⟩
 refine eY ?_;rw[eF];rfl'
 refine hcl (by decide) ?_;rfl'
 refine Om ⟨by decide,64,by decide,Sm.lit rfl⟩ ?_;rfl'
 refine yX (by decide) ?_;rfl'
 generalize decide (((ns.getD (0:Int).toNat 0).fdiv 96).fmod 8=5)=q;refine Bq (.inr<|.inl<|Sm.lit rfl)<|eY ?_
 obtain⟨M,m1,m2,eM⟩:∃M:Nat,16<=M/\M<=24/\(16:Int)+8*(if q=true then 1 else 0)=(M:Int):=by
  cases q;exact⟨16,by decide,by decide,rfl⟩;exact⟨24,by decide,by decide,rfl⟩
 rw[eM];rfl'
 refine hcl (by decide) ?_;rfl'
 refine Om ⟨by decide,64,by decide,Sm.lit rfl⟩ ?_;rfl'
 refine yX (by lia) ?_;rfl'
 refine abp ?_;obtain⟨S,s1,s2,s3',eS⟩:∃S:Nat,1<=S/\S<=24/\F<=S/\(if 1+((ns.getD (0:Int).toNat 0).fdiv 6).fmod (M:Int)>(F:Int)then 1+((ns.getD (0:Int).toNat 0).fdiv 6).fmod (M:Int)else(F:Int))=(S:Int):=by
  rw[iC (by lia)];have a:=XR ((ns.getD (0:Int).toNat 0).fdiv 6) (show(M:Int)≠0 by lia);have b:=Y6 ((ns.getD (0:Int).toNat 0).fdiv 6) (show(0:Int)<M by lia);generalize(ns.getD (0:Int).toNat 0).fdiv 6 % (M:Int)=z at a b;split
  exact⟨(1+z).toNat,by lia,by lia,by lia,by lia⟩;exact⟨F,by lia,by lia,by lia,rfl⟩
 rw[eS];rfl'
 refine hrw (M:=48) (by decide) (by decide) f1 f7 s2 λps wt D pl F'=>?_;subst pl;rfl'
 refine hcl (by decide) ?_;rfl'
 refine Om ⟨by decide,64,by decide,Sm.lit rfl⟩ ?_;rfl'
 refine yX (by decide) ?_;rfl'
 refine yr (λ_=>?_) λ_=>?_
 ·rfl'
  refine ham D F' s3' s2 λqs vt D2 ql fn=>?_;rw[<-ql];rfl'
  exact t5 D2 (by lia) fn f7
 ·rfl'
  exact t5 D s2 (by rw[F'.count<|IK _];lia) f7
theorem aat (ns:List Int)(_:ns.length<=63):Wt [.kls (ns.map W.int)] g0 (λw _=>w=.bl true) EF:=by
 have pp:Jw kZ:=ahW (ahx aea) akv;have sh:nJ jZ:=Zf SN qT;have ol:nJ qU:=zbm sh;have tt:Le bY:=aeB SN Kz;have td:wA uU:=zby Hg Kz;have bo:LR jx:=aaL abw tt;have rd:Y0 oA:=ahN (w_size (akU abn Hg) Kz) w_tab;have th:Li rT:=aib pp zbx (abk ol aiq zbE) (ajS SN qT adO);have jo:mX Oe:=aje (yS pp qT);have li:Lz jm:=acG tt w_tab (ac8 pp);have sp:Kg jj:=aip pp tt td w_tab rd;have oe:Jr lB:=adi (abY SN) (w_on aiG) w_tab bo (ac8 pp) (adI (abl (Eb pp qT)) akJ);have me:mX Aa:=zca (yS pp qT);have tu:uz mQ:=ajc aaU RB;have ti:Jo lV:=zbJ RB Kf;have pl:PB mW:=akL aaI;have ca:abb wY:=aeS RB tu Kf ti (aah tu);have ri:Ol rY:=zbU pl aaU RB tu ti;exact aeu aci Tt ab6 (Za Oa pl) (aiT Tt ab6 (aeE Oa aa7 U6<|ajj Oa U6) zbt) abu ca (zbr ca acn ri<|ahB pl)
  (λD G s l=>Gd.plan jo me th li sp oe D G s l) (λD s _ e=>Rt.rf jo me th li sp oe D s e) ns
end My
namespace PySem.W.Fast
def tw1585125394568290382:=Nat
def tw4249519776982720601:=Nat
def tw6123023280886180863:=Nat
def tw3875836747637700349:=Nat
def tw15090083995965678835:=Nat
def tw5327873871484616307:=Nat
def tw2630862704509094356:=Nat
def tw3211271870526957453:=Nat
def tw17261510879698062356:=Nat
def tw3722518219693671705:=Nat
def tw10567114437240758057:=Nat
def tw17786236519871912545:=Nat
def tw11169149813991675238:=Nat
def tw7425258324433051198:=Nat
def tw13936231919011327935:=Nat
def tw13527716938992227319:=Nat
def tw6849203422919851808:=Nat
def tw15237144985747402274:=Nat
def tw4953910137668106317:=Nat
def tw12798487094024578168:=Nat
def tw12191430711665486340:=Nat
def tw8530199548859045987:=Nat
def tw13709758855062531854:=Nat
def tw9488615308496420413:=Nat
def tw6846655613080162283:=Nat
def tw11062506308323882825:=Nat
def tw6826128092653436708:=Nat
def tw16561354066192892129:=Nat
def tw1568875717035091080:=Nat
def tw5275567265156042789:=Nat
def tw14586614621480075881:=Nat
def tw6022215686713304743:=Nat
def tw586789635000245300:=Nat
def tw6159660769536524700:=Nat
def tw17242238295108583513:=Nat
def tw2511785177809507832:=Nat
def tw7133670060311173162:=Nat
def tw16216120148056180897:=Nat
def tw1680054979933638810:=Nat
def tw3974573832490199338:=Nat
def tw12359318186369263436:=Nat
def tw12382940684568290112:=Nat
def tw13575767404892664608:=Nat
def tw16760677601269900378:=Nat
def tw16841974484060979825:=Nat
def tw1799411601377824608:=Nat
def tw2791768960382876969:=Nat
def tw2180343520821942742:=Nat
def tw6550320051152062197:=Nat
def tw11548951069767789912:=Nat
def tw16358867319913648688:=Nat
def tw3536860583660675268:=Nat
def tw17904905000679536560:=Nat
def tw6773852536441883789:=Nat
def tw5617204306309913461:=Nat
def tw2153552687129617740:=Nat
def tw1528704105570136782:=Nat
def tw6759403374635821195:=Nat
def tw9862631679927016174:=Nat
def tw3724025477030679149:=Nat
def tw4478292377288510:=Nat
def tw17702092850989438561:=Nat
def tw13521003109905505341:=Nat
def tw12147287083416354359:=Nat
def tw15102622940930759061:=Nat
def tw8659489129014745668:=Nat
def tw4784823638164533843:=Nat
def tw11719463067858768207:=Nat
def tw15328355168499940799:=Nat
def tw10781368936132586550:=Nat
def tw17845395709018464323:=Nat
def tw16013765893204750394:=Nat
def tw2401121616523613828:=Nat
def tw12524307786480919533:=Nat
def tw11393253793694087757:=Nat
def tw13158393081718238310:=Nat
def tw16435367868881715334:=Nat
def tw17729806531239786780:=Nat
def tw14745146280539887152:=Nat
def tw9598179877306485254:=Nat
def tw18346191905504027125:=Nat
def tw16761162362768779707:=Nat
def tw14286623498152532506:=Nat
def tw4420075735633329147:=Nat
def tw15489257987321530860:=Nat
def tw2895709455973110963:=Nat
def tw10400117232527936132:=Nat
def tw8254631843593919059:=Nat
def tw7129344089496317424:=Nat
def tw1958209196907091394:=Nat
def tw12258100009040883082:=Nat
def tw16925553616140941792:=Nat
def tw13147374358675281657:=Nat
def tw3945221876350793531:=Nat
def tw12394925931033022986:=Nat
def tw6265803345436779694:=Nat
def tw3555201828997687121:=Nat
def tw6738119270999577550:=Nat
def tw14922902864793723972:=Nat
def tw16392232250328920720:=Nat
def tw4893440456656105269:=Nat
def tw6028308488076764905:=Nat
def tw13739560273303698699:=Nat
def tw14155653404391084225:=Nat
def tw1459844845101024052:=Nat
def tw687158560187744469:=Nat
def tw15783740207515071331:=Nat
def tw7388900321021419876:=Nat
def tw6478111185650627792:=Nat
def tw7642486322683805788:=Nat
def tw16399338726560091033:=Nat
def tw14684913003334939670:=Nat
def tw1954519726839705137:=Nat
def tw2296386861989426297:=Nat
def tw6666457113557545248:=Nat
def tw8323070211817821061:=Nat
def tw8813333288422035482:=Nat
def tw17531286640250985229:=Nat
def tw9654104924677924990:=Nat
def tw16692950835845701935:=Nat
def tw1644820530456714091:=Nat
def tw640357214288704562:=Nat
def tw8235956469970639216:=Nat
def tw9071495964002176662:=Nat
def tw1724289936488534934:=Nat
def tw8524804265656499594:=Nat
def tw5110670628722035531:=Nat
def tw17994626232532026111:=Nat
def tw12030354355975707667:=Nat
def tw17693068719071514549:=Nat
def tw1433717403136002357:=Nat
def tw3948506665882050668:=Nat
def tw422210511207678235:=Nat
def tw18016556512643813074:=Nat
def tw18036447607439143127:=Nat
def tw1658839652727402445:=Nat
def tw1637265850091477989:=Nat
def tw17966681621158605198:=Nat
def tw11530059772564701673:=Nat
def tw4045590166382519747:=Nat
def tw14718037761859318201:=Nat
def tw3385189024927997836:=Nat
def tw13516288572027462259:=Nat
def tw2354245613466827620:=Nat
def tw1296270519371333607:=Nat
def tw9394110218692872919:=Nat
def tw10098587064605320170:=Nat
def tw8235806391924186504:=Nat
def tw14041495536938096159:=Nat
def tw6668912100865102578:=Nat
def tw5725548949013504413:=Nat
def tw17934347059532675966:=Nat
def tw11643586393831834853:=Nat
def tw9776977844213863475:=Nat
def tw13383803685200685870:=Nat
def tw3149073776762754729:=Nat
def tw16039849433675324133:=Nat
def tw9729116241279638581:=Nat
def tw617740060701711391:=Nat
def tw3431250043578574124:=Nat
def tw535495504183383135:=Nat
def tw5980540780134628299:=Nat
def tw219271368907852805:=Nat
def tw12535713811038773101:=Nat
def tw14674064299861460512:=Nat
def tw15830745259391616525:=Nat
def tw3461176773819424958:=Nat
def tw7880091400547549733:=Nat
def tw13593911039348653460:=Nat
def tw18210407119820609316:=Nat
def tw8824757364370387485:=Nat
def tw5288346090811764644:=Nat
def tw15031206772271408596:=Nat
def tw12317026003733460164:=Nat
def tw13009234815814123010:=Nat
def tw332663407349558372:=Nat
def tw10098861534413499415:=Nat
def tw4785765183093442378:=Nat
def tw16284504332592440513:=Nat
def tw1806757152281321159:=Nat
def tw14982770988954245668:=Nat
def tw16012494428799351229:=Nat
def tw6950562596333610629:=Nat
def tw12490143416185235930:=Nat
def tw2205258971635493180:=Nat
def tw16159083690756940191:=Nat
def tw18336910267428556097:=Nat
def tw12630365132966142813:=Nat
def tw8067607623190398938:=Nat
def tw10323516294284095128:=Nat
def tw13571400944723692916:=Nat
def tw8536427333789158354:=Nat
def tw8910736209834382344:=Nat
def tw16192559864846533959:=Nat
def tw659599066216203821:=Nat
def tw13382224076902631562:=Nat
def tw12574854342502943148:=Nat
def tw17495471854060653080:=Nat
def tw15701632299741419521:=Nat
def tw578633623801202864:=Nat
def tw13037218030063928426:=Nat
def tw3888256373502496016:=Nat
def tw1590424510055288398:=Nat
def tw3908608045053389273:=Nat
def tw3453505908874960840:=Nat
def tw7534400999866624851:=Nat
def tw15633901467841396276:=Nat
def tw9091581125418289905:=Nat
def tw40343577748494544:=Nat
def tw10157170696633879270:=Nat
def tw3041232281423219854:=Nat
def tw7322368943404445531:=Nat
def tw5869722017653573564:=Nat
def tw18079474223402360156:=Nat
def tw452698595970179621:=Nat
def tw14921163367563455090:=Nat
def tw16010591765977178108:=Nat
def tw12169194986348715078:=Nat
def tw16751878945801052528:=Nat
def tw12571669584696525617:=Nat
def tw10942613853000004592:=Nat
def tw9181676326762462246:=Nat
def tw5717005692347807926:=Nat
def tw839111057790122672:=Nat
def tw10912774991429354896:=Nat
def tw8298828194578782988:=Nat
def tw3471031711721375549:=Nat
def tw727020238641226686:=Nat
def tw15792512655443599234:=Nat
def tw5843252720107993125:=Nat
def tw1173004541368615196:=Nat
def tw8146420540932699243:=Nat
def tw16689490069568750522:=Nat
def tw15801218882825348455:=Nat
def tw13342404234572112871:=Nat
def tw6549296943052302180:=Nat
def tw17908857238783715104:=Nat
def tw14409138591459922444:=Nat
def tw16438216095468240070:=Nat
def tw16299689661811970639:=Nat
def tw10368079976822142159:=Nat
def tw5972657039959321319:=Nat
def tw9168457347549912900:=Nat
def tw5154927251869988507:=Nat
def tw2762662695395478638:=Nat
def tw9129836887271312274:=Nat
def tw15564551465834700491:=Nat
def tw1207268821781396155:=Nat
def tw1995809577932788089:=Nat
def tw999318312372344460:=Nat
def tw1105607284484191547:=Nat
def tw18444539264703381928:=Nat
def tw13696057921504574913:=Nat
def tw5622765941521427257:=Nat
def tw4632931391189504762:=Nat
def tw10876239008552995187:=Nat
def tw3255683563004122525:=Nat
def tw9053017276920646460:=Nat
def tw6165069835522541462:=Nat
def tw10865563419152854129:=Nat
def tw10670218059483260597:=Nat
def tw7130205419243823397:=Nat
def tw9333806033337176281:=Nat
def tw2776283827773510938:=Nat
def tw7997864862767065441:=Nat
def tw6574434438590147157:=Nat
def tw10261194989718188747:=Nat
def tw13248955569547279877:=Nat
def tw14229770613656155404:=Nat
def tw2892569141376255306:=Nat
def tw6195311139498718919:=Nat
def tw10675007150611674420:=Nat
def tw4635408828632251495:=Nat
def tw9469662236995536435:=Nat
def tw1425386849971047540:=Nat
def tw17034339223284727846:=Nat
def tw6607409393367959949:=Nat
def tw4383038794601195056:=Nat
def tw3456416677772621984:=Nat
def tw10718987771986154631:=Nat
def tw9420579736902600581:=Nat
def tw4901414120760211524:=Nat
def tw13494592154430542098:=Nat
def tw9389699534065766450:=Nat
def tw3980374423491640718:=Nat
def tw17800033228551491539:=Nat
def tw6051597469824338970:=Nat
def tw8488533229009704217:=Nat
def tw6581050394093364068:=Nat
def tw5036034746078683177:=Nat
def tw1565391948750127011:=Nat
def tw11326335504624846217:=Nat
def tw2720239487854957593:=Nat
def tw14480254443925181839:=Nat
def tw2981680130202336164:=Nat
def tw655706119845630605:=Nat
def tw14144097007533222310:=Nat
def tw1899335665434914716:=Nat
def tw10759077948454489086:=Nat
def tw16013023283557859556:=Nat
def tw11333586810558946310:=Nat
def tw5428674203211309385:=Nat
def tw17941453642084033971:=Nat
def tw7705070728314421668:=Nat
def tw13875290544586777871:=Nat
def tw4470300199241423750:=Nat
def tw5868812449128492810:=Nat
def tw17694688731087729207:=Nat
def tw6437435722297360946:=Nat
def tw16874956632714166610:=Nat
def tw1297154204895755010:=Nat
def tw16064638835347447305:=Nat
def tw13341976980228276285:=Nat
def tw6046231692095513962:=Nat
def tw10669686948176735454:=Nat
def tw7318747078398991887:=Nat
def tw16781083808359010905:=Nat
def tw2913157468500702980:=Nat
def tw9324370771513721225:=Nat
def tw17484206707590329233:=Nat
def tw16170592293881991087:=Nat
def tw2416733448021993383:=Nat
def tw1669209536502258908:=Nat
def tw14364815309861608562:=Nat
def tw4374827171352830049:=Nat
def tw10465531740562888893:=Nat
def tw12545686595064138973:=Nat
def tw10674792033212737083:=Nat
def tw14421496628775475147:=Nat
def tw1564599429158469729:=Nat
def tw1248157462374448617:=Nat
def tw1381548305200038382:=Nat
def tw16118842942848282089:=Nat
def tw3177403095421405665:=Nat
def tw8778790449026542245:=Nat
def tw8645781737759095524:=Nat
def tw8149355090887318489:=Nat
def tw16369333242901909235:=Nat
def tw7498767004885163250:=Nat
def tw10881969465721989516:=Nat
def tw17145872090690191979:=Nat
def tw13876406529991256977:=Nat
def tw11817890823748672606:=Nat
def tw11114262713900712015:=Nat
def tw4623976625535312383:=Nat
def tw7310550368110260858:=Nat
def tw10460223523776419248:=Nat
def tw3150050168247948282:=Nat
def tw12940555086754099221:=Nat
def tw16660664321821673513:=Nat
def tw5779335677881171951:=Nat
def tw8620862670420773791:=Nat
def tw6104478174895168998:=Nat
def tw8871418696791570615:=Nat
def tw8280414115186471627:=Nat
def tw9789219772183524156:=Nat
def tw6403365408946313521:=Nat
def tw209338736690334472:=Nat
def tw16444854040995020025:=Nat
def tw18115782387743386415:=Nat
def tw6586390924456473461:=Nat
def tw6977468191337096447:=Nat
def tw18432529303202280367:=Nat
def tw2898440113109699056:=Nat
def tw15517584718339201058:=Nat
def tw4656176606164368166:=Nat
def tw12744367108641608109:=Nat
def tw5365336712797386180:=Nat
def tw8938265959624828893:=Nat
def tw7643334853042229862:=Nat
def tw981626528423416188:=Nat
def tw1461357014622200366:=Nat
def tw11505531425093760471:=Nat
def tw13524076401697717973:=Nat
def tw1142475715469605677:=Nat
def tw13092202922725035107:=Nat
def tw8277561275321715895:=Nat
def tw16073565104282622858:=Nat
def tw16465015845157910866:=Nat
def tw5786146607637176635:=Nat
def tw12474051532573258609:=Nat
def tw1504654383817585396:=Nat
def tw1403252570451914988:=Nat
def tw15882383606386901177:=Nat
def tw4411325004776050278:=Nat
def tw8347088970252317238:=Nat
def tw12941983142773102557:=Nat
def tw9691624972817384394:=Nat
def tw1447287657210284060:=Nat
def tw16983249109765273865:=Nat
def tw2822107637211270018:=Nat
def tw12316190475565704955:=Nat
def tw588396119819363504:=Nat
def tw397365196961917908:=Nat
def tw7225947911768946823:=Nat
def tw4598259997493274522:=Nat
def tw367801180236069412:=Nat
def tw3682689256545522257:=Nat
def tw6712535058722256443:=Nat
def tw1845956437170061511:=Nat
def tw7850881644043040941:=Nat
def tw13534103357618087380:=Nat
def tw7807819721480061388:=Nat
def tw17633844421330292728:=Nat
def tw11987815403812892017:=Nat
def tw4262220693838233468:=Nat
def tw2976065419547776365:=Nat
def tw9368427866655004825:=Nat
def tw3730841172832799838:=Nat
def tw5829405601276328297:=Nat
def tw3551615722801773501:=Nat
def tw4870934115392972688:=Nat
def tw2225029297083725128:=Nat
def tw110619483559493762:=Nat
def tw8291129852912538479:=Nat
def tw12717553184334908468:=Nat
def tw13408011438056750256:=Nat
def tw11218611042890816797:=Nat
def tw12793218549178017631:=Nat
def tw8577608339950516668:=Nat
def tw1987529011286123250:=Nat
def tw7963248383237274455:=Nat
def tw13162177977866775755:=Nat
def tw7382514109045857192:=Nat
def tw701994830191424860:=Nat
def tw8644946904089956856:=Nat
def tw1275723692795472275:=Nat
def tw18444731533489142996:=Nat
def tw9924074504897877320:=Nat
def tw10160851975060120644:=Nat
def tw6493813473574721064:=Nat
def tw3223245690204477573:=Nat
def tw7074432163742037565:=Nat
def tw8293957811778665919:=Nat
def tw1100750847862464414:=Nat
def tw13212037831403651818:=Nat
def tw14751649420817894163:=Nat
def tw11664100354759753290:=Nat
def tw11715327264190482213:=Nat
def tw16788046867644706041:=Nat
def tw11591105444656594640:=Nat
def tw475817136840932844:=Nat
def tw837434658605293129:=Nat
def tw5170552771951958949:=Nat
def tw7372037721859143461:=Nat
def tw9996605596944510418:=Nat
def tw10375897183138341898:=Nat
def tw1773386578968398677:=Nat
def tw12690271398177572620:=Nat
def tw9789641591010109200:=Nat
def tw159489759554776315:=Nat
def tw7933309401313407155:=Nat
def tw6791373860237928313:=Nat
def tw9609453528464630091:=Nat
def tw274798103156143643:=Nat
def tw4974497452746380966:=Nat
def tw14373799360389993442:=Nat
def tw12069340712151512:=Nat
def tw10054250421336428834:=Nat
def tw12099505984101675836:=Nat
def tw13195744957368729199:=Nat
def tw5512048948751325872:=Nat
def tw7712735901288899228:=Nat
def tw14163079579944962599:=Nat
def tw10678231905902067990:=Nat
def tw8075737269194852640:=Nat
def tw5881363112892550022:=Nat
def tw17325700228964464383:=Nat
def tw12544188896915136602:=Nat
def tw15846624850310497122:=Nat
def tw4316575217473113017:=Nat
def tw4072623075966883098:=Nat
def tw13893217925704981875:=Nat
def tw13550248856751918799:=Nat
def tw13871267216406492053:=Nat
def tw3822754188420509003:=Nat
def tw17249475465606807137:=Nat
def tw16675182216116273776:=Nat
def tw2918429471389421819:=Nat
def tw10146165486517957895:=Nat
def tw12901878421479314972:=Nat
def tw6888083385887435544:=Nat
def tw6801904649757471547:=Nat
def tw121972887779086041:=Nat
def tw1405221778477348484:=Nat
def tw13896021143654302531:=Nat
def tw16650567893980008141:=Nat
def tw6011415140917228130:=Nat
def tw17357482071940203025:=Nat
def tw7397074001151540802:=Nat
def tw4723298222096711704:=Nat
def tw2765839172910185495:=Nat
end PySem.W.Fast
open PySem PySem.W PyProof.Rows
theorem PySem.Challenge.cw_easelroom_k61_things_of_rows_holds : PySem.Challenge.rw_easelroom_k61_things_of_rows.Holds := by
 w_on;o_law;k_head;(case hw=>w_witness2)
 refine My.walk (l:=PySem.Challenge.rw_easelroom_k61_things_of_rows) rfl rfl (λw h Y=>PySem.W.kIn_of Y) ?F
 case F=>
  intro w mg fa h KX G hmg;refine' My.all_mk My.aat KX G hmg ?h0 ?h1 ?h2 ?h3 ?h4 ?h5 ?h6 ?h7 ?h8 ?h9 ?h10 ?h11 ?h12 ?h13 ?h14 ?h15 ?h16 ?h17 ?h18 ?h19 ?h20 ?h21 ?h22 ?h23 ?h24 ?h25 ?h26 ?h27 ?h28 ?h29 ?h30 ?h31 ?h32 ?h33 ?h34 ?h35 ?h36 ?h37 ?h38 ?h39 ?h40 ?h41 ?h42 ?h43 ?h44 ?h45 ?h46 ?h47 ?h48 ?h49 ?h50 ?h51 ?h52 ?h53 ?h54 ?h55 ?h56 ?h57 ?h58 ?h59 ?z_ValueError ?z_abs ?z_all ?z_any ?z_bool ?z_enumerate ?z_int ?z_isinstance ?z_len ?z_list ?z_max ?z_min ?z_range ?z_reversed ?z_set ?z_sum ?z_tuple ?z_zip ?gk_TILES ?lk_TILES ?lk_TILES_0 ?lk_TILES_1 ?lk_TILES_2 ?lk_TILES_3 ?gx_EaselError ?xd_EaselError ?gx_Nothing ?xd_Nothing ?xc_Nothing ?xq_Nothing ?gx_Alike ?xd_Alike ?xc_Alike ?xq_Alike ?gx_Stuck ?xd_Stuck ?gx_FourOnLine ?xd_FourOnLine ?xc_FourOnLine ?xq_FourOnLine ?gx_Knot ?xd_Knot ?xc_Knot ?xq_Knot ?gx_NotRound ?xd_NotRound ?xc_NotRound ?xq_NotRound ?gx_NotOn ?xd_NotOn ?xc_NotOn ?xq_NotOn ?gx_InCurve ?xd_InCurve ?xc_InCurve ?xq_InCurve ?ai_Stuck ?li_Stuck ?ci_Stuck ?ki_Stuck ?xi_Stuck ?xf_Stuck ?xa_Stuck ?xs_Stuck
  (case h0|h1|h2|h3|h4|h5|h6|h7|h8|h9|h10|h11|h12|h13|h14=>(apply My.S9<;>k_is))
  (case h15|h16|h17|h18|h19|h20|h21|h22|h23|h24|h25|h26|h27|h28|h29=>(apply My.S9<;>k_is))
  (case h30|h31|h32|h33|h34|h35|h36|h37|h38|h39|h40|h41|h42|h43|h44=>(apply My.S9<;>k_is))
  (case h45|h46|h47|h48|h49|h50|h51|h52|h53|h54|h55|h56|h57|h58|h59=>(apply My.S9<;>k_is))
  (case z_ValueError|z_abs|z_all|z_any|z_bool|z_enumerate|z_int|z_isinstance|z_len|z_list|z_max|z_min|z_range|z_reversed|z_set|z_sum|z_tuple|z_zip|gk_TILES|lk_TILES|lk_TILES_0|lk_TILES_1|lk_TILES_2|lk_TILES_3=>k_is)
  (case gx_EaselError|gx_Nothing|gx_Alike|gx_Stuck|gx_FourOnLine|gx_Knot|gx_NotRound|gx_NotOn|gx_InCurve|ai_Stuck|li_Stuck|ci_Stuck|ki_Stuck=>k_is)
  (case xd_EaselError|xd_Nothing|xc_Nothing|xd_Alike|xc_Alike|xd_Stuck|xd_FourOnLine|xc_FourOnLine|xd_Knot|xc_Knot|xd_NotRound|xc_NotRound|xd_NotOn|xc_NotOn|xd_InCurve|xc_InCurve|xi_Stuck|xf_Stuck|xa_Stuck|xs_Stuck=>kernel_rfl)
  (case xq_Nothing|xq_Alike|xq_FourOnLine|xq_Knot|xq_NotRound|xq_NotOn|xq_InCurve=>k_exc)