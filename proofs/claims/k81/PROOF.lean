import PyProof.Rows.All
import Wide.All
import OpenK.AllK
import Wide.FinOn
import Lean
import PyProof.EqAt
import PyProof.EqKinds
import PyProof.TupleCall
import PySem.Challenge.RW_easelroom_k81_truths_have_papers
set_option Elab.async false
set_option linter.all false
set_option maxRecDepth 100000
set_option maxHeartbeats 0
local macro_rules | `(tactic| lia) => `(tactic| first | lia (splits := 9) | omega)
open Option renaming some→Dn,none→Go
open PySem renaming wpAny_bind→Ay,Value→JI,Shared→kI,Spec→agR,wpAny_pure→Bv,starEach→Ca,Program→Ci,sizeLine→G6,Around→G4,mainGlobals→J4,wpAny→Bs,model→CJ,boot_len→MP,World→CZ,NameKind→Od,Builtin→Wh,wpAny_holding→Ob,wpAny_field→N6,wpAny_newObj_type→Qu,cellsFrom→Li,wpAny_mono→Mq,wpAny_callSpecial?_slot→Vy,codeAny_builtin→Qc,mem_of_lookup→VH,assignEach→Ny,wpAny_call_entry→RN,Paired→Mx,PassesOwn→ZJ,sysModules→PX,compareOp→O2,backTo→J1,plainId_quiet→Qp,attributeBase→Qo,wpAny_rule→Pu,FuncData→Oh,wpAny_typeOf→Qj,binaryOp→Nu,wpAny_seqItems→VB,foldedSetIterable→WM,Keyword→MH,wpAny_Call_Name_kw→Wy,keywordEach→RM,bootBuiltins→VF,wpAny_typeNameOfWhole_keyiter→ZG,DictEntry→Ql,wpAny_setField_rec→Xo,wpAny_passesOwn→X5,codeAny→PL,wpAny_truthy_bool→Xl,wpAny_pyIter_list→XS,behindInMarks→W8,wpAny_setField→Wj,SetTable→Yw,call_meets→V9,cLine→Ko,wpAny_Call_method_late→Yg,backToKw→RL,builtinLookup_eq_fast→Z2,rawInt→Pj,wpAny_attempt→Xf,wpAny_execs_nil→YF,sliceBounds→Wr,Result→Q9,IsPair→Q8,firstArgMember→Y0,holding→Rx,merged→Qa
open PySem.W renaming Frag→Bl,nsIn→Ku,mg_none_of→QC,findIn→Qq,keepIn→RX,mg_of→Ry,Looks→YX,fnOf→WQ,clsIn→Wn,codeIn→YK
open List renaming length_map→CV,getElem?_map→HI,getElem?_eq_getElem→JD,mem_map→GX,getD_eq_getElem?_getD→M9,map_cons→HY,size_toArray→Jr,replicate→Iw,getElem?_eq_some_iff→O4,map_append→Jb,mem_cons_self→Lp,mem_of_getElem?→Mz,take_succ→Jt,take_length→Lj,mem_cons_of_mem→OD,mem_cons→Jz,eq_nil_of_length_eq_zero→Qs,length_append→Pa,range→Ji,map_map→Ks,length_cons→PB,mem_singleton→Q0,forall_mem_cons→Qh,getElem?_append_right→Vd,mem_append_left→Qv,getElem?_append_left→Vz,filter_cons→Qg,all_eq_true→Qe,mem_append_right→VN,length_take→Qn,pairwise_map→RT,mem_filter→Qm,map_congr_left→VG,getElem_mem→RQ,pairwise_cons→Vc,nodup_cons→RZ,drop_eq_getElem_cons→XD,length_replicate→Wf,not_mem_nil→Va,any_eq_true→VR,mem_range→UG,take_append_drop→X8,range_succ→VP,mem_iff_getElem→X3,exists_cons_of_ne_nil→YM,cons_lt_cons_iff→Xj,Pairwise→aju,mem_append→W9,foldl_append→Ww,getElem?_replicate→Yd,getElem?_range→Xq,lookup_cons→X6,map_nil→Vv,any_cons→WR,mem_of_mem_take→YZ,filter_append→Y7,take_of_length_le→Yp,reverse_cons→Y4,length_singleton→Yh,replicate_succ→Yz,length→Wu,forIn_cons→YL,any_map→Xe,nodup_nil→YH
open PySem.Heap renaming get?_push_of_some→GP,lt_size→GK,get?_push_size→JB,get?_update_other→Pz,get?_update_self→UW,size_push→RW,get?_none_of_le→Wb,SameBut→Wa,DictOfH→Wi,ExtBut→XM
open Nat renaming le_refl→GZ,le_trans→HN,lt_of_lt_of_le→K1,le_of_ble_eq_true→ML,ne_of_lt→Jl,ne_of_gt→OJ,eq_of_beq_eq_true→VJ,beq→JM,zero_le→Oj,lt_irrefl→Qd,lt_of_le_of_lt→Wz,le_of_lt→Vu,pow_le_pow_right→Z5,le_succ→Ws,zero_add→Xc,lt_trans→Xa,blt→RK,ble→RJ
open Option.some renaming inj→IV
open Bool renaming and_eq_true→Ol,false_ne_true→U5,false_eq_true→Xp,not_eq_true→XR,eq_iff_iff→XQ,false_or→Xh,or_self→Xd
open PySem.PassesOwn renaming never→Pb
open PySem.SeqAt renaming EqAt→XH,ne_of_list_tuple→Yv
open PySem.Around renaming under_plainId→UL
open PySem.Builtin.SmallTypes renaming nextOf→Wg
open PyProof.Rows renaming arrOf→G9,callWith_type1→X7,slot_tuple_getitem→Xv,wpS_bind→Kr,boot_tuple→Pk,wpS_pure→O9,boot_isinstance→Vs,setArr→LI,SortSt→Lx,Keyed→JK,SortKind→WT,pairsOf→QW,wpS_forRange→Wv,pendingOf→Vr,listItems_at→XT,kindOf→QB,boot_list→W6,AllBare→Rv
open Lean renaming maxHeartbeats→aik,maxRecDepth→alf
open PySem.Obj renaming data_mapFields→Vb,isFreed_of_fields→Wc,mapSeq→Wq
open Array renaming getElem?_eq_getElem→Xy,length_toList→YD,getElem?_toList→Yi
open List.cons renaming inj→TK
open Ne renaming symm→Lr
open PySem.F renaming slot_dict_keyiterator_next→YW,slot_tuple_iterator_next→Z6,plain_any_loop→WD,slot_zip_next→Ys,slot_dict_get→Yr
open List.Pairwise renaming imp_of_mem→YT
open Decidable renaming byContradiction→YS
open PySem.Paired renaming length→Vx
open PySem.PyData renaming keyHash→WW
open PySem.Calls renaming callWith_builtin→Yb,evalArgs_plain→Ye
open PySem.Builtin.Tuple renaming tupleExact→ZD
open PySem.Builtin.Dict renaming updateFrom→ZC
open PySem.SetTable renaming bits→Wo
open PySem.Heap.SameBut renaming update→Ym
open Int renaming emod_nonneg→YJ,gcd→V8
namespace L2
open PySem PySem.Spec PyProof.Rows
abbrev Key:=Sum Int Str
def Hu:Key->JI->Bool
 | .inl k,v=>Value.isInt k v
 | .inr x,v=>Value.isStrOf x v
def agF (w:CZ):Key->Int
 | .inl k=>hashInt k
 | .inr x=>hashStr w x
theorem cG:∀{k:Key}{v:JI},Hu k v=true->(∃i t,k=Sum.inl i/\v=Value.int i t)\/(∃x t,k=Sum.inr x/\v=Value.str x t)
 | .inl i,v,h=>by
  obtain⟨t,e⟩:=Value.isInt_shape h;grind
 | .inr x,v,h=>by
  obtain⟨t,e⟩:=Value.isStrOf_shape h;grind
theorem ahd (i:Int)(t:Tok):Hu (.inl i) (.int i t)=true:=by simp[Hu,Value.isInt]
theorem ahn (x:Str)(t:Tok):Hu (.inr x) (.str x t)=true:=by simp[Hu,Value.isStrOf]
theorem acE (a b:Int):decide ((Sum.inl a:Key)=Sum.inl b)=(a==b):=by grind
theorem acL (a b:Str):decide ((Sum.inr a:Key)=Sum.inr b)=decide (a=b):=by simp_all
theorem aaA (a:Int)(b:Str):decide ((Sum.inl a:Key)=Sum.inr b)=false:=rfl
theorem aaL (a:Str)(b:Int):decide ((Sum.inr a:Key)=Sum.inl b)=false:=rfl
def bL (prog:Ci)(w:CZ):PySem.KeyKind prog w Key where
 is:=Hu
 hash:=agF w
 inj:=λv a b ha hb=>by
  rcases cG ha with⟨i,t,rfl,rfl⟩|⟨x,t,rfl,rfl⟩
  rcases cG hb with⟨j,u,rfl,e⟩|⟨y,u,rfl,e⟩
  injection e with e1 _;rw[e1]
  exact nomatch e
  rcases cG hb with⟨j,u,rfl,e⟩|⟨y,u,rfl,e⟩
  exact nomatch e
  injection e with e1 _;rw[e1]
 byValue:=λk v h=>by
  rcases cG h with⟨i,t,rfl,rfl⟩|⟨x,t,rfl,rfl⟩<;>rfl
 pyHash:=λhv h=>by
  rcases cG hv with⟨i,t,rfl,rfl⟩|⟨x,t,rfl,rfl⟩
  exact wpAny_pyHash_int h;exact wpAny_pyHash_str h
 eqBool:=λhu hv h=>by
  rcases cG hu with⟨i,t,rfl,rfl⟩|⟨x,t,rfl,rfl⟩
  rcases cG hv with⟨j,u,rfl,rfl⟩|⟨y,u,rfl,rfl⟩
  rw[acE]at h;exact wpAny_eqBool_int h;rw[aaA]at h;exact SeqAt.EqAt.int_str i t y u _ _ _ _ h;rcases cG hv with⟨j,u,rfl,rfl⟩|⟨y,u,rfl,rfl⟩
  rw[aaL]at h;exact SeqAt.EqAt.str_int x t j u _ _ _ _ h;rw[acL]at h;exact wpAny_eqBool_str h
 «strs»:=λk x t v h=>by
  rcases cG h with⟨i,u,rfl,e⟩|⟨y,u,rfl,e⟩
  exact nomatch e
  injection e with e1 _
  subst e1;cases v<;>rfl
theorem zag (prog:Ci)(w:CZ)(i:Int)(t:Tok):(bL prog w).is (.inl i) (.int i t)=true:=ahd i t
theorem zaf (prog:Ci)(w:CZ)(x:Str)(t:Tok):(bL prog w).is (.inr x) (.str x t)=true:=ahn x t
inductive V where
 | non|bl (b:Bool)|int (i:Int)|str (x:Str)|byt (b:Array UInt8)|flt (b:UInt64)|ref (a:Addr)|ty (n:String)
 deriving DecidableEq
def RelV:V->JI->Prop
 | .non,u=>u=Value.none
 | .bl b,u=>u=Value.bool b
 | .int i,u=>∃t,u=Value.int i t
 | .str x,u=>∃t,u=Value.str x t
 | .byt b,u=>∃t,u=Value.bytes b t
 | .flt b,u=>∃t,u=Value.float b t
 | .ref a,u=>u=Value.ref a
 | .ty n,u=>u=Value.type n
abbrev Ba:List V->List JI->Prop:=Mx RelV
variable {xs:List V}{us:List JI}
theorem Ba.length {xs:List V}{us:List JI}(r:Ba xs us):xs.length=us.length:=Vx r
theorem Ba.get:∀{xs:List V}{us:List JI}{i:Nat}{x:V},Ba xs us->xs[i]?=Dn x->∃u,us[i]?=Dn u/\RelV x u
 | _,_,0,_,.cons r _,e=>by simp at e;subst e;exact⟨_,rfl,r⟩
 | _,_,i+1,x,.cons _ t,e=>by
  obtain⟨u,h1,h2⟩:=Ba.get t (by simpa using e)
  simp_all
variable {u:JI}
theorem Ba.set {x:V}{u:JI}(r:RelV x u):∀{xs:List V}{us:List JI}(i:Nat),Ba xs us->Ba (xs.set i x) (us.set i u)
 | _,_,_,.nil=>.nil
 | _,_,0,.cons _ t=>.cons r t
 | _,_,i+1,.cons q t=>.cons q (Ba.set r i t)
theorem Ba.append:∀{xs ys:List V}{us ws:List JI},Ba xs us->Ba ys ws->Ba (xs++ys) (us++ws)
 | _,_,_,_,.nil,s=>s
 | _,_,_,_,.cons r t,s=>.cons r (Ba.append t s)
theorem Ba.take:∀{xs:List V}{us:List JI}(n:Nat),Ba xs us->Ba (xs.take n) (us.take n)
 | _,_,0,_|_,_,_+1,.nil=>.nil
 | _,_,n+1,.cons r t=>.cons r (Ba.take n t)
theorem Ba.drop:∀{xs:List V}{us:List JI}(n:Nat),Ba xs us->Ba (xs.drop n) (us.drop n)
 | _,_,0,r=>r
 | _,_,_+1,.nil=>.nil
 | _,_,n+1,.cons _ t=>Ba.drop n t
def Om:Option V->Option JI->Prop
 | some v,Dn u=>RelV v u
 | none,Go=>True
 | _,_=>False
variable {κ:Type}
def KV:List (κ×V)->List (κ×JI)->Prop:=Mx λ(p:κ×V) (q:κ×JI)=>p.1=q.1/\RelV p.2 q.2
def kV:Key->V
 | .inl i=>.int i
 | .inr x=>.str x
inductive HO where
 | lst (xs:List V)
 | tup (xs:List V)
 | dK (kvs:List (Key×V))|dT (kvs:List (List Key×V))
 | set (S:Int->Bool) (n:Nat)
 | ins (C dx:Addr) (fs:List (Str×V))
 | own (x:Addr)
 | xd (fs:List (Str×V))
 | met (f x:Addr)
 | rng (lo hi:Int)
 | frz (o:Obj) (u:HO)
 | tbl (ps:Array JI)
 | ext (φ:Heap->Prop)
abbrev Hp:=Addr->Option HO
def G7 (H:Hp)(a:Addr)(o:HO):Hp:=λb=>if b=a then Dn o else H b
variable {a:Addr}{H:Hp}
theorem bD {o:HO}:G7 H a o a=Dn o:=by unfold G7;rw[if_pos rfl]
variable {b:Addr}
theorem aP {o:HO}(h:b≠a):G7 H a o b=H b:=by unfold G7;rw[if_neg h]
theorem aZ {o:HO}(h:H a=Dn o)(h':H b=Go):a≠b:=by grind
section
variable (P:Ci)(w:CZ)
def NT (h:Heap)(a:Addr)(items:Array JI):Prop:=∃o,h.get? a=Dn o/\o.cls=.type "tuple"/\(∃n,o.data=.seq items n)/\o.dict=Go
theorem NT.tup {h:Heap}{items:Array JI}(x:NT h a items):IsTup h a items:=let⟨o,ho,hc,hd,_⟩:=x;⟨o,ho,hc,hd⟩
theorem NT.new (h:Heap)(items:Array JI):NT (h.push {cls:=.type "tuple",data:=.seq items}) h.objs.size items:=⟨_,JB _ rfl,rfl,⟨_,rfl⟩,rfl⟩
def fM (H:Hp)(h:Heap)(a:Addr):HO->Prop
 | .lst xs=>xs.length<=G6/\∃(its:List JI) (n:Nat),Ba xs its/\h.get? a=Dn {cls:=.type "list",data:=.seq its.toArray n}
 | .tup xs=>xs.length<=G6/\∃its:List JI,Ba xs its/\NT h a its.toArray
 | .dK kvs=>kvs.length<=G6/\(a==PX)=false/\∃vs,KV kvs vs/\h.DictOf (bL P w) a vs
 | .dT kvs=>kvs.length<=G6/\(a==PX)=false/\∃xs:List (List Key×Addr×JI),
   Mx (λ(p:List Key×V) (q:List Key×Addr×JI)=>p.1=q.1/\H q.2.1=Dn (.tup (p.1.map kV))/\RelV p.2 q.2.2) kvs xs /\
   ∃o es ep,h.get? a=Dn o/\o.ExactDict/\o.data=.dict es ep/\es.toList=xs.map (entryOfKey (tupleKind (bL P w)))/\(xs.map (·.1)).Nodup
 | .set S n=>h.SetOf (intKind P w) a S n
 | .ins C dx fs=>H dx=Dn (.own a)/\fs.length<=1000/\dx≠a/\h.get? a=Dn (PySem.W.instObj C dx) /\
   ∃mA,h.Ns1 dx mA/\(∀f,Om (fs.lookup f) (mA f))/\PySem.Within mA (fs.map (·.1))
 | .own _=>∃o,h.get? a=Dn o
 | .xd fs=>∃mA,h.Ns1 a mA/\∀f,Om (fs.lookup f) (mA f)
 | .rng lo hi=>∃t u v,h.get? a=Dn {cls:=.type "range",data:=.fields #[.int lo t,.int hi u,.int 1 v]}
 | .frz o u=>h.get? a=Dn o/\fM H h a u
 | .tbl ps=>h.get? a=Dn {cls:=.none,data:=.fields ps}
 | .met f x=>h.get? a=Dn (PySem.W.methodObj (.ref f) (.ref x))
 | .ext φ=>φ h/\(∃o,h.get? a=Dn o)/\∀h1 h2:Heap,φ h1->(∀o,h1.get? a=Dn o->h2.get? a=Dn o)->φ h2
def Kp (H:Hp)(h:Heap):Prop:=∀a o,H a=Dn o->fM P w H h a o
end
variable {h:Heap}
section
variable {P:Ci}{w:CZ}{H':Hp}{h':Heap}{o:HO}
theorem fM.lt (x:fM P w H h a o):a<h.objs.size:=by
 cases o with
 | lst xs=>obtain⟨_,_,_,_,e⟩:=x;exact GK e
 | tup xs=>obtain⟨_,_,_,p⟩:=x;exact p.tup.lt
 | dK kvs|dT kvs=>obtain⟨_,_,_,_,o,_,_,e,_⟩:=x;exact GK e
 | set S n=>obtain⟨o,_,_,_,e,_⟩:=x;exact GK e
 | ins C dx fs=>obtain⟨_,_,_,e,_⟩:=x;exact GK e
 | own y=>obtain⟨_,e⟩:=x;exact GK e
 | xd fs=>obtain⟨_,⟨_,_,_,e,_⟩,_⟩:=x;exact GK e
 | rng lo hi=>obtain⟨_,_,_,e⟩:=x;exact GK e
 | frz ob u=>obtain⟨e,_⟩:=x;exact GK e
 | tbl ps|met f y=>exact GK x
 | ext φ=>obtain⟨_,⟨_,e⟩,_⟩:=x;exact GK e
theorem Paired.mapP {α β:Type}{F G:α->β->Prop}:∀{l₁:List α}{l₂:List β},Mx F l₁ l₂->(∀a b,F a b->G a b)->Mx G l₁ l₂
 | _,_,.nil,_=>.nil
 | _,_,.cons r t,f=>.cons (f _ _ r) (Paired.mapP t f)
theorem fM.stay (x:fM P w H h a o)(k:∀b u,(b=a\/H b=Dn (.own a))->h.get? b=Dn u->h'.get? b=Dn u)
  (ho:∀b,H b=Dn (.own a)->H' b=Dn (.own a)) (ht:∀b xs,H b=Dn (.tup xs)->H' b=Dn (.tup xs)):fM P w H' h' a o:=by
 induction o with
 | lst xs=>obtain⟨z,its,n,r,e⟩:=x;exact⟨z,its,n,r,k _ _ (.inl rfl) e⟩
 | tup xs=>obtain⟨z,its,r,ob,e,c⟩:=x;exact⟨z,its,r,ob,k _ _ (.inl rfl) e,c⟩
 | dK kvs=>obtain⟨z,y,vs,r,ob,es,ep,e,c⟩:=x;exact⟨z,y,vs,r,ob,es,ep,k _ _ (.inl rfl) e,c⟩
 | dT kvs=>
  obtain⟨z,y,xs,r,ob,es,ep,e,c⟩:=x;exact⟨z,y,xs,Paired.mapP r λp q z=>⟨z.1,ht _ _ z.2.1,z.2.2⟩,ob,es,ep,k _ _ (.inl rfl) e,c⟩
 | set S n=>obtain⟨ob,es,ep,t,e,c⟩:=x;exact⟨ob,es,ep,t,k _ _ (.inl rfl) e,c⟩
 | ins C dx fs=>
  obtain⟨d,z,ne,e,mA,⟨od,es,ep,e2,c⟩,r⟩:=x;exact⟨ho _ d,z,ne,k _ _ (.inl rfl) e,mA,⟨od,es,ep,k _ _ (.inr d) e2,c⟩,r⟩
 | own y=>obtain⟨ob,e⟩:=x;exact⟨ob,k _ _ (.inl rfl) e⟩
 | xd fs=>obtain⟨mA,⟨od,es,ep,e,c⟩,r⟩:=x;exact⟨mA,⟨od,es,ep,k _ _ (.inl rfl) e,c⟩,r⟩
 | rng lo hi=>obtain⟨t,u,v,e⟩:=x;exact⟨t,u,v,k _ _ (.inl rfl) e⟩
 | frz ob u ih=>obtain⟨e,q⟩:=x;exact⟨k _ _ (.inl rfl) e,ih q⟩
 | tbl ps|met f y=>
  have e:=x;exact k a _ (.inl rfl) e
 | ext φ=>obtain⟨p,⟨o,e⟩,st⟩:=x;exact⟨st _ _ p λo q=>k _ _ (.inl rfl) q,⟨o,k _ _ (.inl rfl) e⟩,st⟩
theorem Kp.lt (x:Kp P w H h)(e:H a=Dn o):a<h.objs.size:=(x a o e).lt
theorem Kp.fresh (x:Kp P w H h)(e:h.objs.size<=a):H a=Go:=by
 cases q:H a with
 | none=>rfl
 | some u=>exact absurd (K1 (x.lt q) e) (Qd _)
theorem Kp.kept (x:Kp P w H h)(k:∀b u,h.get? b=Dn u->h'.get? b=Dn u):Kp P w H h':=λa o e=>
 (x a o e).stay (λb u _ q=>k b u q) (λ_ q=>q) λ_ _ q=>q
theorem Kp.laid (x:Kp P w H h)(k:∀b u,h.get? b=Dn u->h'.get? b=Dn u)(hp:h.objs.size<=a)(new:fM P w (G7 H a o) h' a o):Kp P w (G7 H a o) h':=λb u e=>by
 have hn:=x.fresh hp;by_cases hb:b=a
 subst hb;rw[bD]at e;cases e;exact new;rw[aP hb]at e;exact(x b u e).stay (λc v _ q=>k c v q) (λc q=>aP (aZ q hn) ▸ q) λc xs q=>aP (aZ q hn) ▸ q
end
variable {h':Heap}{H':Hp}{w:CZ}{P:Ci}
def Rd (H:Hp)(a:Addr)(u:HO):Prop:=H a=Dn u\/∃o,H a=Dn (.frz o u)
theorem Rd.ok {u:HO}(r:Rd H a u)(x:Kp P w H h):fM P w H h a u:=by
 rcases r with r|⟨o,r⟩
 exact x a u r;obtain⟨_,q⟩:=x a _ r;exact q
def Mut:Option HO->Prop
 | some (.lst _)=>True
 | some (.dK _)=>True
 | some (.dT _)=>True
 | some (.set _ _)=>True
 | some (.ins _ _ _)=>True
 | some (.ext _)=>True
 | some (.xd _)=>True
 | _=>False
section
variable {x e:Addr}{o':HO}
theorem Kp.write (ok:Kp P w H h)(mu:Mut (H x))(he:e=x\/H e=Dn (.own x))(k:∀b u,b≠e->h.get? b=Dn u->h'.get? b=Dn u)(heo:∃u,h'.get? e=Dn u)
  (new:fM P w (G7 H x o') h' x o'):Kp P w (G7 H x o') h':=λb u q=>by
 have nown:∀c y,H c=Dn (.own y)->c≠x:=λc y r z=>by subst z;rw[r]at mu;exact mu
 by_cases hb:b=x
 subst hb;rw[bD]at q;cases q;exact new;rw[aP hb]at q;by_cases hbe:b=e
 have q':H b=Dn (.own x):=by
  grind
 rw[q]at q';cases q';obtain⟨v,hv⟩:=heo;exact⟨v,hbe ▸ hv⟩;refine(ok b u q).stay (λc v hc r=>k c v ?_ r) (λc r=>aP (nown c b r) ▸ r) λc xs r=>by rw[aP ((λc xs r z=>by subst z;rw[r]at mu;exact mu) c xs r)];exact r
 grind
end
structure Un (fs ex:List Addr) (H H':Hp) (h h':Heap):Prop where
 keep:∀b o,h.get? b=Dn o->H b=Go->b∉fs->b∉ex->h'.get? b=Dn o
 slot:∀b o,h.get? b=Dn o->H b=Go->b∈fs->b∉ex->∃sl,h'.get? b=Dn {o with slots:=sl}
 free:∀b o,h.get? b=Dn o->H b=Go->b∉ex->H' b=Go
 there:∀b o,h.get? b=Dn o->b∉ex->∃o',h'.get? b=Dn o'
 tups:∀b xs,H b=Dn (.tup xs)->H' b=Dn (.tup xs)
 frzs:∀b o u,H b=Dn (.frz o u)->H' b=Dn (.frz o u)
 tbls:∀b ps,H b=Dn (.tbl ps)->∃more,H' b=Dn (.tbl (ps++more))
section
variable {fs fs' ex ex':List Addr}{H1 H2:Hp}{h1 h2:Heap}{x e:Addr}{o:HO}
theorem Un.any (u:Un fs ex H H1 h h1){ob:Obj}(q:h.get? b=Dn ob)(n:H b=Go)(hx:b∉ex):∃sl,h1.get? b=Dn {ob with slots:=sl}:=by
 by_cases hb:b∈fs
 exact u.slot b ob q n hb hx;exact⟨ob.slots,u.keep b ob q n hb hx⟩
theorem Un.kept (k:∀b u,h.get? b=Dn u->h'.get? b=Dn u):Un fs ex H H h h':=
 ⟨λb ob q _ _ _=>k b ob q,λb ob q _ _ _=>⟨ob.slots,k b ob q⟩,λ_ _ _ n _=>n,λb ob q _=>⟨ob,k b ob q⟩,λ_ _ q=>q,λ_ _ _ q=>q,λ_ ps q=>⟨#[],by rw[q];simp⟩⟩
theorem Un.refl:Un fs ex H H h h:=Un.kept λ_ _ q=>q
theorem Un.laid (k:∀b u,h.get? b=Dn u->h'.get? b=Dn u)(hp:h.objs.size<=a)(hn:H a=Go):Un fs ex H (G7 H a o) h h' where
 keep:=λb u q _ _ _=>k b u q
 slot:=λb u q _ _ _=>⟨u.slots,k b u q⟩
 free:=λb u q n _=>aP (Jl (K1 (GK q) hp)) ▸ n
 there:=λb u q _=>⟨u,k b u q⟩
 tups:=λb xs q=>aP (aZ q hn) ▸ q
 frzs:=λb u xs q=>aP (aZ q hn) ▸ q
 tbls:=λb ps q=>⟨#[],by rw[aP (aZ q hn),q];simp⟩
theorem Un.write (mu:Mut (H x))(he:e=x\/H e=Dn (.own x))(k:∀b u,b≠e->h.get? b=Dn u->h'.get? b=Dn u)(heo:∃u,h'.get? e=Dn u):Un fs ex H (G7 H x o) h h':=by
 have hx:∀b,H b=Go->b≠x:=λb n z=>by subst z;rw[n]at mu;exact mu
 have hb:∀b,H b=Go->b≠e:=λb n z=>by
  grind
 have hm:∀b u,H b=Dn u->¬Mut (Dn u)->b≠x:=λb u q nm z=>by subst z;rw[q]at mu;exact nm mu
 refine⟨λb u q n _ _=>k b u (hb b n) q,λb u q n _ _=>⟨u.slots,k b u (hb b n) q⟩,λb u q n _=>aP (hx b n) ▸ n,λb u q _=>?_,
  λb xs q=>aP (hm b _ q λz=>z) ▸ q,λb u xs q=>aP (hm b _ q λz=>z) ▸ q,λb ps q=>⟨#[],by rw[aP (hm b _ q λz=>z),q];simp⟩⟩
 grind
end
def trk (h:Heap)(H:Hp):List Addr:=(Ji h.objs.size).filter λa=>(H a).isSome
def Zi (h:Heap)(H:Hp):Heap:=PySem.W.hideAll h (trk h H)
theorem zaP (h:Heap)(H:Hp):(Zi h H).objs.size=h.objs.size:=PySem.W.hideAll_size _ _
theorem akz {o:Obj}(e:h.get? b=Dn o)(n:H b=Go):(Zi h H).get? b=Dn o:=
 PySem.W.hideAll_get _ e λhm=>by
  have q:=(Qm.mp hm).2;grind
theorem Za {o:Obj}(e:(Zi h H).get? b=Dn o):h.get? b=Dn o/\H b=Go:=by
 have e':=PySem.W.of_hideAll _ e;refine⟨e',?_⟩;cases q:H b with
 | none=>rfl
 | some x=>
  have z:(Zi h H).get? b=Go:=PySem.W.hideAll_none _ (Qm.mpr ⟨UG.mpr (GK e'),by simp[q]⟩);grind
def ais (g h:Heap)(L:Addr):List (Addr×Obj):=(Ji h.objs.size).filterMap λa=>if a=L\/(g.get? a).isSome=true then Go else(h.get? a).map λo=>(a,o)
def rest (g h:Heap)(L d:Addr):List (Addr×Obj):=(ais g h L).filter λp=>decide (p.1≠d)
structure Mod (K:Bl) (mg:Str->Option JI) (base:Heap):Prop where
 kin:K.In base
 glob:base.Ns J4 mg
 blt:∃mb,base.Ns builtinsNs mb/\∀x:Str,x ≠ "__name__"->mb x=VF x
 nolimit:base.NoLimit
structure Cx where
 prog:Ci
 w:CZ
 K:Bl
 mg:Str->Option JI
 base:Heap
 A:G4
 N:List Str
 s₀:kI
 H₀:Hp
 env:Env
 outer:List Env
 stack:List Env
 ex:List Addr
 fn:Str->Bool
 calm:Bool
 pn:List (Addr×Obj)
 xe:JI->kI->Prop
def frs (l:List Env):List Addr:=l.filterMap (·.frame)
abbrev Cx.fs (X:Cx):List Addr:=frs X.outer
def Vis (sc:Scope)(x:Str):Prop:=sc.names.lookup x=Dn .local\/sc.names.lookup x=Dn .cell\/sc.names.lookup x=Dn .free
def Loc (sc:Scope)(x:Str):Prop:=sc.names.lookup x=Dn .local\/sc.names.lookup x=Dn .cell
def Look (env:Env)(h:Heap)(m:Str->Option JI)(x:Str)(u:JI):Prop:=
 (env.kindOf x=Dn .local/\m x=Dn u)\/((env.kindOf x=Dn .cell\/env.kindOf x=Dn .free)/\∃c,env.cells.lookup x=Dn c/\h.IsCell c (Dn u))
inductive V4 (H:Hp):JI->Prop
 | nil:V4 H .none
 | cons {c:Addr}{o:Obj}{u:HO}{vs:Array JI}{z:JI}(h1:H c=Dn (.frz o u)) (h2:o.data=.fields vs) (h3:vs[2]?=Dn z) (t:V4 H z):V4 H (.ref c)
theorem V4.mono {v:JI}(c:V4 H v)(k:∀a o u,H a=Dn (.frz o u)->H' a=Dn (.frz o u)):V4 H' v:=by
 induction c with
 | nil=>exact .nil
 | cons h1 h2 h3 _ ih=>exact .cons (k _ _ _ h1) h2 h3 ih
def Still (H:Hp)(v:JI):Prop:=(∃a,v=.ref a)/\V4 H v
def Quiet (A:G4)(H:Hp):Prop:=∀v,A.handled=Dn v->Still H v
structure Cx.Ok (X:Cx):Prop where
 mod:Mod X.K X.mg X.base
 kind:X.env.scope.kind=.function
 glob:X.env.globals=J4
 blt:X.env.builtins=builtinsNs
 above:X.s₀.heap.objs.size<=X.env.locals
 inj:∀x y c,X.env.cells.lookup x=Dn c->X.env.cells.lookup y=Dn c->x=y
 has:∀x,(X.env.kindOf x=Dn .cell\/X.env.kindOf x=Dn .free)->∃c,X.env.cells.lookup x=Dn c
 cab:∀x c,X.fn x=true->X.env.cells.lookup x=Dn c->X.s₀.heap.objs.size<=c
 hd:X.calm=true->X.A.handled=Go
 qt:Quiet X.A X.H₀
 frames:X.A.frames=Dn X.stack
 stk:X.stack=X.outer\/(X.stack=X.env::X.outer/\X.env.frame=Dn X.env.locals)
 exf:∀b∈X.ex,b≠X.env.locals/\∀x c,X.env.cells.lookup x=Dn c->c≠b
 bs:∀b o,X.base.get? b=Dn o->X.s₀.heap.get? b=Dn o/\X.H₀ b=Go
 bsz:X.base.objs.size<=X.s₀.heap.objs.size
 noex:∀b o,X.base.get? b=Dn o->b∉X.ex
 exfs:∀b∈X.ex,b∉X.fs
 funs:X.s₀.heap.FunFrames X.base X.outer
 frf:∀b∈X.fs,X.H₀ b=Go
structure BJ (X:Cx) (amD:List (Addr×Obj)) (U:List (Option V)) (H:Hp) (s:kI):Prop where
 ok:X.Ok
 os:s.os=X.s₀.os
 bare:Rv s.gens
 base:Un X.fs X.ex X.H₀ H X.s₀.heap s.heap
 loc:∃m,s.heap.Ns X.env.locals m/\∀(i:Nat) (x:Str) (v:V),X.N[i]?=Dn x->U[i]?=Dn (Dn v)->Vis X.env.scope x->∃u,RelV v u/\Look X.env s.heap m x u
 cell:∀x c,X.env.cells.lookup x=Dn c->∃v,s.heap.IsCell c v
 free:H X.env.locals=Go
 freeC:∀x c,X.env.cells.lookup x=Dn c->H c=Go
 pin:∀p∈X.pn++amD,s.heap.get? p.1=Dn p.2/\H p.1=Go/\p.1≠X.env.locals/\p.1∉X.fs/\∀v,p.2.data≠.cell v
 hok:Kp X.prog X.w H s.heap
 len:U.length=X.N.length
section
variable {X:Cx}{amD:List (Addr×Obj)}{U:List (Option V)}{s:kI}
theorem Cx.Ok.nofr (ok:X.Ok){o:Obj}(e:X.base.get? b=Dn o):b∉X.fs:=λhb=>by
 have:=(ok.funs.mem hb).1
 grind
theorem BJ.bs (I:BJ X amD U H s):∀b o,X.base.get? b=Dn o->s.heap.get? b=Dn o/\H b=Go:=λb o e=>
 ⟨I.base.keep b o (I.ok.bs b o e).1 (I.ok.bs b o e).2 (I.ok.nofr e) (I.ok.noex b o e),I.base.free b o (I.ok.bs b o e).1 (I.ok.bs b o e).2 (I.ok.noex b o e)⟩
theorem BJ.qt0 (I:BJ X amD U H s):Quiet X.A H:=λv e=>⟨(I.ok.qt v e).1,(I.ok.qt v e).2.mono I.base.frzs⟩
theorem BJ.bk (I:BJ X amD U H s):∀b o,X.base.get? b=Dn o->s.heap.get? b=Dn o:=λb o e=>(I.bs b o e).1
theorem BJ.mod (I:BJ X amD U H s):Mod X.K X.mg X.base:=I.ok.mod
theorem BJ.kIn (I:BJ X amD U H s):X.K.In s.heap:=I.ok.mod.kin.keeps I.bk
theorem BJ.lt (I:BJ X amD U H s):X.env.locals<s.heap.objs.size:=let⟨_,hn,_⟩:=I.loc;hn.lt
theorem BJ.sz (I:BJ X amD U H s):X.s₀.heap.objs.size<=s.heap.objs.size:=HN I.ok.above (Vu I.lt)
theorem BJ.nofs (I:BJ X amD U H s)(h:s.heap.objs.size<=a):a∉X.fs:=λhb=>by
 obtain⟨_,o,ho,_⟩:=I.ok.funs.mem hb;exact absurd (K1 (GK ho)<|HN I.sz h)<|Qd _
theorem BJ.cne (I:BJ X amD U H s):∀x c,X.env.cells.lookup x=Dn c->c≠X.env.locals:=λx c e z=>by
 obtain⟨v,o,ho,hd⟩:=I.cell x c e;obtain⟨m,⟨o',es,ep,ho',hd',_⟩,_⟩:=I.loc;grind
theorem BJ.funs (I:BJ X amD U H s):s.heap.FunFrames X.base X.outer:=by
 have all:∀(l:List Env),(∀b∈frs l,b∈X.fs)->X.s₀.heap.FunFrames X.base l->s.heap.FunFrames X.base l:=by
  intro l;induction l with
  | nil=>intro _ _;trivial
  | cons env r ih=>
   intro hs hl;obtain⟨hk,⟨L,o,hf,hn,ho,hd⟩,hr⟩:=hl;have hL:=hs L (by unfold frs;rw[List.filterMap_cons,hf];exact Lp);obtain⟨sl,e⟩:=I.base.slot L o ho (I.ok.frf L hL) hL λz=>I.ok.exfs L z hL
   exact⟨hk,⟨L,_,hf,hn,e,hd⟩,ih (λb hb=>hs b (by unfold frs;rw[List.filterMap_cons,hf];exact OD _ hb)) hr⟩
 exact all _ (λ_ hb=>hb) I.ok.funs
theorem BJ.stack (I:BJ X amD U H s):s.heap.FunFrames X.base X.stack:=by
 rcases I.ok.stk with e|⟨e,hf⟩
 rw[e];exact I.funs;rw[e];obtain⟨m,hn,_⟩:=I.loc;refine .cons (by rw[I.ok.kind];decide) hf hn ?_ I.funs;exact Wb<|HN I.ok.bsz I.ok.above
theorem BJ.stkSub (I:BJ X amD U H s):∀b∈frs X.stack,b∈X.env.locals::X.fs:=λb hb=>by
 rcases I.ok.stk with e|⟨e,hf⟩
 grind
 rw[e]at hb;unfold frs at hb
 rwa[List.filterMap_cons,hf]at hb
theorem BJ.stkFree (I:BJ X amD U H s):∀b∈frs X.stack,H b=Go:=λb hb=>by
 rcases Jz.mp (I.stkSub b hb)with e|hb
 rw[e];exact I.free;obtain⟨_,o,ho,_⟩:=I.ok.funs.mem hb;exact I.base.free b o ho (I.ok.frf b hb) λz=>I.ok.exfs b z hb
theorem BJ.stepG {g':Array GenState}{t':Nat}{d':Drawn}{ch:List Addr}(I:BJ X amD U H s)
  (hch:∀b∈ch,(b∈X.ex\/X.s₀.heap.get? b=Go)/\b≠X.env.locals/\(∀x c,X.env.cells.lookup x=Dn c->c≠b)/\∀p∈X.pn++amD,p.1≠b)
  (keep:∀b o,b≠X.env.locals->b∉X.fs->b∉ch->s.heap.get? b=Dn o->H b=Go->h'.get? b=Dn o)
  (slot:∀b o,b≠X.env.locals->b∈X.fs->b∉ch->s.heap.get? b=Dn o->H b=Go->∃sl,h'.get? b=Dn {o with slots:=sl}) (free:∀b o,b∉ch->s.heap.get? b=Dn o->H b=Go->H' b=Go)
  (there:∀b o,b∉ch->s.heap.get? b=Dn o->∃o',h'.get? b=Dn o')
  (tups:∀b xs,H b=Dn (.tup xs)->H' b=Dn (.tup xs)) (frzs:∀b o u,H b=Dn (.frz o u)->H' b=Dn (.frz o u)) (tbls:∀b ps,H b=Dn (.tbl ps)->∃more,H' b=Dn (.tbl (ps++more)))
  (ns:∀m,s.heap.Ns X.env.locals m->h'.Ns X.env.locals m) (hok:Kp X.prog X.w H' h') (hg:Rv g') :
  BJ X amD U H' {s with heap:=h',gens:=g',drawn:=d',toks:=t'}:=by
 have neL:∀b o,X.s₀.heap.get? b=Dn o->b≠X.env.locals:=λb o e=>Jl (K1 (GK e) I.ok.above)
 have neC:∀b o,X.s₀.heap.get? b=Dn o->b∉X.ex->b∉ch:=λb o e hx hb=>by
  rcases(hch b hb).1 with z|z
  exact hx z;rw[z]at e;cases e
 have cellK:∀x c,X.env.cells.lookup x=Dn c->∀v,s.heap.IsCell c v->h'.IsCell c v:=λx c e v ⟨o,ho,hd⟩=>by
  have nch:=λz=>(hch c z).2.2.1 x c e rfl
  by_cases hc:c∈X.fs
  obtain⟨sl,q⟩:=slot c o (I.cne x c e) hc nch ho (I.freeC x c e);exact⟨_,q,hd⟩;exact⟨o,keep c o (I.cne x c e) hc nch ho<|I.freeC x c e,hd⟩
 refine⟨I.ok,I.os,hg,⟨λb o e n hb hx=>(keep b o (neL b o e) hb (neC b o e hx) (I.base.keep b o e n hb hx)<|I.base.free b o e n hx),λb o e n hb hx=>?_,λb o e n hx=>?_,λb o e hx=>?_,λb xs e=>tups b xs<|I.base.tups b xs e,λb o xs e=>frzs b o xs<|I.base.frzs b o xs e,λb ps e=>?_⟩,?_,λx c e=>?_,?_,λx c e=>?_,λp hp=>?_,hok,I.len⟩;obtain⟨sl,e1⟩:=I.base.slot b o e n hb hx;obtain⟨sl',e2⟩:=slot b _ (neL b o e) hb (neC b o e hx) e1 (I.base.free b o e n hx);exact⟨sl',e2⟩;obtain⟨o',e1⟩:=I.base.there b o e hx;exact free b o' (neC b o e hx) e1<|I.base.free b o e n hx
 obtain⟨o',e1⟩:=I.base.there b o e hx;exact there b o' (neC b o e hx) e1;obtain⟨m1,e1⟩:=I.base.tbls b ps e;obtain⟨m2,e2⟩:=tbls b _ e1;exact⟨m1++m2,by rw[e2,Array.append_assoc]⟩;obtain⟨m,hn,hl⟩:=I.loc;refine⟨m,ns m hn,λi x v e1 e2 e3=>?_⟩;obtain⟨u,r,l⟩:=hl i x v e1 e2 e3;refine⟨u,r,?_⟩;rcases l with l|⟨k,c,e,z⟩
 exact .inl l;exact .inr ⟨k,c,e,cellK x c e _ z⟩;obtain⟨v,z⟩:=I.cell x c e;exact⟨v,cellK x c e v z⟩;obtain⟨m,⟨o,_,_,ho,_⟩,_⟩:=I.loc;exact free _ o (λz=>(hch _ z).2.1 rfl) ho I.free;obtain⟨v,o,ho,hd⟩:=I.cell x c e;exact free c o (λz=>(hch c z).2.2.1 x c e rfl) ho<|I.freeC x c e
 obtain⟨e,n,ne,nf,d⟩:=I.pin p hp;have nch:=λz=>(hch _ z).2.2.2 p hp rfl
 exact⟨keep _ _ ne nf nch e n,free _ _ nch e n,ne,nf,d⟩
theorem BJ.step {g':Array GenState}{t':Nat}{d':Drawn}{ch:List Addr}(I:BJ X amD U H s)
  (hch:∀b∈ch,(b∈X.ex\/X.s₀.heap.objs.size<=b)/\b≠X.env.locals/\(∀x c,X.env.cells.lookup x=Dn c->c≠b)/\∀p∈X.pn++amD,p.1≠b)
  (keep:∀b o,b≠X.env.locals->b∉X.fs->b∉ch->s.heap.get? b=Dn o->H b=Go->h'.get? b=Dn o)
  (slot:∀b o,b≠X.env.locals->b∈X.fs->b∉ch->s.heap.get? b=Dn o->H b=Go->∃sl,h'.get? b=Dn {o with slots:=sl}) (free:∀b o,b∉ch->s.heap.get? b=Dn o->H b=Go->H' b=Go)
  (there:∀b o,b∉ch->s.heap.get? b=Dn o->∃o',h'.get? b=Dn o')
  (tups:∀b xs,H b=Dn (.tup xs)->H' b=Dn (.tup xs)) (frzs:∀b o u,H b=Dn (.frz o u)->H' b=Dn (.frz o u)) (tbls:∀b ps,H b=Dn (.tbl ps)->∃more,H' b=Dn (.tbl (ps++more)))
  (ns:∀m,s.heap.Ns X.env.locals m->h'.Ns X.env.locals m) (hok:Kp X.prog X.w H' h') (hg:Rv g') :
  BJ X amD U H' {s with heap:=h',gens:=g',drawn:=d',toks:=t'}:=
 I.stepG (λb z=>⟨(hch b z).1.imp id λq=>Wb q,(hch b z).2⟩) keep slot free there tups frzs tbls ns hok hg
theorem BJ.un {t':Nat}(I:BJ X amD U H s)(u:Un X.fs [] H H' s.heap h')(hok:Kp X.prog X.w H' h'):BJ X amD U H' {s with heap:=h',toks:=t'}:=by
 obtain⟨m,⟨o,es,ep,ho,r⟩,_⟩:=I.loc;obtain⟨sl,hL⟩:=u.any ho I.free (by simp);exact I.step (ch:=[]) nofun (λb o _ hb _ e n=>u.keep b o e n hb (by simp)) (λb o _ hb _ e n=>u.slot b o e n hb (by simp)) (λb o _ e n=>u.free b o e n (by simp)) (λb o _ e=>u.there b o e (by simp)) u.tups u.frzs u.tbls (λm' hm=>by
  obtain⟨o',es',ep',ho',r'⟩:=hm;rw[ho]at ho';cases ho';exact⟨_,es',ep',hL,r'⟩) hok I.bare
theorem BJ.call {g':Array GenState}{t':Nat}{d':Drawn}{ch:List Addr}(I:BJ X amD U H s)(u:Un (frs X.stack) ch H H' s.heap h')(hok:Kp X.prog X.w H' h')(hg:Rv g')
  (hch:∀b∈ch,(b∈X.ex\/X.s₀.heap.objs.size<=b)/\b≠X.env.locals/\(∀x c,X.env.cells.lookup x=Dn c->c≠b)/\∀p∈X.pn++amD,p.1≠b) :
  BJ X amD U H' {s with heap:=h',gens:=g',drawn:=d',toks:=t'}:=by
 obtain⟨m,⟨o,es,ep,ho,r⟩,_⟩:=I.loc;obtain⟨sl,hL⟩:=u.any ho I.free λz=>(hch _ z).2.1 rfl
 exact I.step hch (λb o hL hb hc e n=>u.keep b o e n (λz=>(Jz.mp (I.stkSub b z)).elim hL hb) hc) (λb o _ _ hc e n=>u.any e n hc) (λb o hc e n=>u.free b o e n hc) (λb o hc e=>u.there b o e hc) u.tups u.frzs u.tbls (λm' hm=>by
  obtain⟨o',es',ep',ho',r'⟩:=hm;rw[ho]at ho';cases ho';exact⟨_,es',ep',hL,r'⟩) hok hg
theorem BJ.turned {t':Nat}{it:Addr}(I:BJ X amD U H s)(k:∀b o,b≠it->s.heap.get? b=Dn o->h'.get? b=Dn o)(hn:H it=Go)(hL:it≠X.env.locals)
  (h1:it∈X.ex\/X.s₀.heap.objs.size<=it) (h2:∀x c,X.env.cells.lookup x=Dn c->c≠it) (h3:∀p∈X.pn++amD,p.1≠it):BJ X amD U H {s with heap:=h',toks:=t'}:=by
 have nit:∀b u,H b=Dn u->b≠it:=λb u e z=>by rw[z,hn]at e;cases e
 refine I.step (ch:=[it]) (λb hb=>?_) (λb o _ _ hc e _=>k b o (λz=>hc<|by simp[z]) e) (λb o _ _ hc e _=>⟨o.slots,k b o (λz=>hc<|by simp[z]) e⟩) (λ_ _ _ _ n=>n)
  (λb o hc e=>⟨o,k b o (λz=>hc (by simp[z])) e⟩) (λ_ _ e=>e) (λ_ _ _ e=>e) (λb ps e=>⟨#[],by rw[e];simp⟩) (λm hm=>?_) (λb u e=>?_) I.bare
 grind
 obtain⟨o,es,ep,ho,r⟩:=hm;exact⟨o,es,ep,k _ o (Lr hL) ho,r⟩;refine(I.hok b u e).stay (λc v hc q=>k c v ?_ q) (λ_ q=>q) λ_ _ q=>q;rcases hc with z|z
 grind
 exact nit c _ z
theorem BJ.tok (I:BJ X amD U H s)(t:Nat):BJ X amD U H {s with toks:=t}:=I.un Un.refl I.hok
theorem BJ.kept {t':Nat}(I:BJ X amD U H s)(k:∀b u,s.heap.get? b=Dn u->h'.get? b=Dn u):BJ X amD U H {s with heap:=h',toks:=t'}:=I.un (Un.kept k) (I.hok.kept k)
theorem BJ.laid {a:Addr}{o:HO}{t':Nat}(I:BJ X amD U H s)(k:∀b u,s.heap.get? b=Dn u->h'.get? b=Dn u)(hp:s.heap.objs.size<=a)(new:fM X.prog X.w (G7 H a o) h' a o) :
  BJ X amD U (G7 H a o) {s with heap:=h',toks:=t'}:=I.un (Un.laid k hp (I.hok.fresh hp)) (I.hok.laid k hp new)
theorem BJ.write {x e:Addr}{o:HO}{t':Nat}(I:BJ X amD U H s)(mu:Mut (H x))(he:e=x\/H e=Dn (.own x))(k:∀b u,b≠e->s.heap.get? b=Dn u->h'.get? b=Dn u)(heo:∃u,h'.get? e=Dn u)
  (new:fM X.prog X.w (G7 H x o) h' x o):BJ X amD U (G7 H x o) {s with heap:=h',toks:=t'}:=I.un (Un.write mu he k heo) (I.hok.write mu he k heo new)
theorem BJ.weak {U':List (Option V)}(I:BJ X amD U H s)(hl:U'.length=U.length)(w:∀(i:Nat) v,U'[i]?=Dn (Dn v)->U[i]?=Dn (Dn v)):BJ X amD U' H s:=
 ⟨I.ok,I.os,I.bare,I.base,let⟨m,hn,hl'⟩:=I.loc;⟨m,hn,λi x v e1 e2 e3=>hl' i x v e1 (w i v e2) e3⟩,I.cell,I.free,I.freeC,I.pin,I.hok,hl.trans I.len⟩
theorem BJ.pins_of {pins':List (Addr×Obj)}(I:BJ X amD U H s)(h:∀p∈pins',s.heap.get? p.1=Dn p.2/\H p.1=Go/\p.1≠X.env.locals/\p.1∉X.fs/\∀v,p.2.data≠.cell v):BJ X pins' U H s:=
 ⟨I.ok,I.os,I.bare,I.base,I.loc,I.cell,I.free,I.freeC,λp hp=>(W9.mp hp).elim (λz=>I.pin p (Qv _ z)) (h p),I.hok,I.len⟩
theorem Dz {N:List Str}(hN:N.Nodup){i j:Nat}{x:Str}(a:N[i]?=Dn x)(b:N[j]?=Dn x):i=j:=by
 obtain⟨h1,e1⟩:=O4.mp a;obtain⟨h2,e2⟩:=O4.mp b;exact(List.getElem_inj hN).mp (e1.trans e2.symm)
theorem zN {M:Model}{A:G4}{E:JI->kI->Prop}{i:Nat}{x:Str}{v:V}{Q:Unit->kI->Prop}(I:BJ X amD U H s)(hN:X.N.Nodup)(hi:X.N[i]?=Dn x)(hx:Loc X.env.scope x)(r:RelV v u)
  (h:∀s',BJ X amD (U.set i (Dn v)) H s'->(∃a,Wa a s.heap s'.heap/\(a=X.env.locals\/X.env.cells.lookup x=Dn a))->Q () s') (hf:X.fn x=true\/X.env.scope.names.lookup x=Dn .local:=by first|exact .inl rfl|exact .inr rfl|assumption):Bs M A (storeName X.env x u) Q E s:=by
 obtain⟨m,hn,hl⟩:=I.loc;have hiU:i < U.length:=by rw[I.len];exact(O4.mp hi).1
 have cne:=I.cne;have tracked:∀{a:Addr}{h':Heap},(∃o,s.heap.get? a=Dn o/\H a=Go)->Wa a _ h'->Kp _ _ H h':=λ{a h'} ha hs b ob e=>by
  obtain⟨_,_,hfree⟩:=ha;refine(I.hok b ob e).stay (λc w' hc q=>(hs.2 c ?_).trans q) (λ_ q=>q) λ_ _ q=>q;rintro rfl;rcases hc with rfl|hc
  rw[hfree]at e;cases e;rw[hfree]at hc;cases hc
 rcases hx with hk|hk
 refine wpAny_storeName_local hk hn (λh' hn' hs=>?_) (by rw[I.ok.kind];rfl);obtain⟨oL,_,_,hoL,_⟩:=hn;refine h _ ⟨I.ok,I.os,I.bare,⟨λb o e n hb hx=>?_,λb o e n hb hx=>?_,I.base.free,λb o e hx=>?_,I.base.tups,I.base.frzs,I.base.tbls⟩,⟨_,hn',λj y v' e1 e2 e3=>?_⟩,λy c e=>?_,I.free,I.freeC,λp hp=>?_,tracked ⟨oL,hoL,I.free⟩ hs,by simpa using I.len⟩ ⟨_,hs,.inl rfl⟩;exact(hs.2 b<|Jl<|K1 (GK e) I.ok.above).trans (I.base.keep b o e n hb hx);obtain⟨sl,e1⟩:=I.base.slot b o e n hb hx;exact⟨sl,(hs.2 b<|Jl<|K1 (GK e) I.ok.above).trans e1⟩;obtain⟨o',e1⟩:=I.base.there b o e hx;exact⟨o',(hs.2 b<|Jl<|K1 (GK e) I.ok.above).trans e1⟩;by_cases hj:j=i
 subst hj;rw[hi]at e1;cases e1;rw[List.getElem?_set_self hiU]at e2;cases e2;exact⟨u,r,.inl ⟨hk,by simp⟩⟩;rw[List.getElem?_set_ne (Lr hj)]at e2;obtain⟨u',r',q⟩:=hl j y v' e1 e2 e3;refine⟨u',r',?_⟩;rcases q with⟨k,e⟩|⟨k,c,e,z⟩
 refine .inl ⟨k,?_⟩;have:y≠x:=λe=>hj (Dz hN e1 (e ▸ hi))
 simp[this,e];exact .inr ⟨k,c,e,z.sameBut hs<|cne y c e⟩;obtain⟨w',z⟩:=I.cell y c e;exact⟨w',z.sameBut hs<|cne y c e⟩;obtain⟨e,n,ne,nf,d⟩:=I.pin p hp;exact⟨(hs.2 p.1 ne).trans e,n,ne,nf,d⟩;have hfn:X.fn x=true:=by
  rcases hf with z|z
  exact z;rw[z]at hk;cases hk
 obtain⟨c,hc⟩:=I.ok.has x (.inl hk);obtain⟨w',z⟩:=I.cell x c hc;refine wpAny_storeName_cell I.ok.kind hk hc z<|λh' hc' hs=>?_
 obtain⟨oc,hoc,hocd⟩:=z;refine h {s with heap:=h'} ⟨I.ok,I.os,I.bare,⟨λb o e n hb hx=>?_,λb o e n hb hx=>?_,I.base.free,λb o e hx=>?_,I.base.tups,I.base.frzs,I.base.tbls⟩,⟨m,hn.sameBut hs<|Lr<|cne x c hc,λj y v' e1 e2 e3=>?_⟩,λy c' e=>?_,I.free,I.freeC,λp hp=>?_,tracked ⟨oc,hoc,I.freeC x c hc⟩ hs,by simpa using I.len⟩ ⟨c,hs,.inr hc⟩;exact(hs.2 b<|Jl<|K1 (GK e)<|I.ok.cab x c hfn hc).trans (I.base.keep b o e n hb hx);obtain⟨sl,e1⟩:=I.base.slot b o e n hb hx;exact⟨sl,(hs.2 b<|Jl<|K1 (GK e)<|I.ok.cab x c hfn hc).trans e1⟩;obtain⟨o',e1⟩:=I.base.there b o e hx;exact⟨o',(hs.2 b<|Jl<|K1 (GK e)<|I.ok.cab x c hfn hc).trans e1⟩;by_cases hj:j=i
 subst hj;rw[hi]at e1;cases e1;rw[List.getElem?_set_self hiU]at e2;cases e2;exact⟨u,r,.inr ⟨.inl hk,c,hc,hc'⟩⟩;rw[List.getElem?_set_ne (Lr hj)]at e2;obtain⟨u',r',q⟩:=hl j y v' e1 e2 e3;refine⟨u',r',?_⟩;rcases q with q|⟨k,c',e,z'⟩
 exact .inl q;refine .inr ⟨k,c',e,z'.sameBut hs ?_⟩;rintro rfl;exact hj<|Dz hN e1<|I.ok.inj _ _ _ e hc ▸ hi
 by_cases hcc:c'=c
 subst hcc;exact⟨_,hc'⟩;obtain⟨w2,z2⟩:=I.cell y c' e;exact⟨w2,z2.sameBut hs hcc⟩;obtain⟨e,n,ne,nf,d⟩:=I.pin p hp;refine⟨(hs.2 p.1 ?_).trans e,n,ne,nf,d⟩;intro q;rw[q,hoc]at e;exact d w'<|(IV e) ▸ hocd
theorem Fq {M:Model}{A:G4}{E:JI->kI->Prop}{i:Nat}{x:Str}{v:V}{Q:Unit->kI->Prop}(I:BJ X amD U H s)(hN:X.N.Nodup)(hi:X.N[i]?=Dn x)(hx:Loc X.env.scope x)(r:RelV v u)
  (h:∀s',BJ X amD (U.set i (Dn v)) H s'->Q () s') (hf:X.fn x=true\/X.env.scope.names.lookup x=Dn .local:=by first|exact .inl rfl|exact .inr rfl|assumption):Bs M A (storeName X.env x u) Q E s:=
 zN I hN hi hx r (λs' I' _=>h s' I') hf
theorem BJ.call' {s':kI}{ch:List Addr}(I:BJ X amD U H s)(ho:s'.os=s.os)(u:Un (frs X.stack) ch H H' s.heap s'.heap)(hok:Kp X.prog X.w H' s'.heap)(hg:Rv s'.gens)
  (hch:∀b∈ch,(b∈X.ex\/X.s₀.heap.objs.size<=b)/\b≠X.env.locals/\(∀x c,X.env.cells.lookup x=Dn c->c≠b)/\∀p∈X.pn++amD,p.1≠b):BJ X amD U H' s':=by
 obtain⟨h',g',d',t',o'⟩:=s';subst ho;exact I.call u hok hg hch
end
variable {X:Cx}{amD:List (Addr×Obj)}{N:List Str}{M:Model}{i j:Nat}{E:JI->kI->Prop}{s':kI}{A:G4}
abbrev XK:=JI->Option Addr->Hp->Prop
abbrev St:=List (Option V)
abbrev VK:=V->Hp->Prop
abbrev TE:=St->Hp->VK->Prop
abbrev TT:=St->Hp->(Bool->Hp->Prop)->Prop
abbrev TA:=St->Hp->(List V->Hp->Prop)->Prop
structure Ends where
 nx:St->Hp->Prop
 rt:VK
 bk:St->Hp->Prop:=λ_ _=>False
 ct:St->Hp->Prop:=λ_ _=>False
abbrev TS:=Ends->St->Hp->Prop
def EP (X:Cx)(amD:List (Addr×Obj))(U:St)(Q:VK)(u:JI)(s':kI):Prop:=∃v H',BJ X amD U H' s'/\RelV v u/\Q v H'
def TP (X:Cx)(amD:List (Addr×Obj))(U:St)(Q:Bool->Hp->Prop)(b:Bool)(s':kI):Prop:=∃H',BJ X amD U H' s'/\Q b H'
def zad (X:Cx)(amD:List (Addr×Obj))(U:St)(Q:List V->Hp->Prop)(us:List JI)(s':kI):Prop:=∃vs H',BJ X amD U H' s'/\Ba vs us/\Q vs H'
def SP (X:Cx)(amD:List (Addr×Obj))(D:Ends)(f:Flow)(s':kI):Prop:=
 match f with
 | .next=>∃U' H',BJ X amD U' H' s'/\D.nx U' H'
 | .brk=>∃U' H',BJ X amD U' H' s'/\D.bk U' H'
 | .cont=>∃U' H',BJ X amD U' H' s'/\D.ct U' H'
 | .ret u=>∃v U' H',BJ X amD U' H' s'/\RelV v u/\D.rt v H'
def PE (X:Cx)(e:Expr)(t:TE):Prop:=
 ∀(amD:List (Addr×Obj)) (s:kI) (U:St) (H:Hp) (Q:VK),BJ X amD U H s->t U H Q->Bs (CJ X.prog X.w) X.A (eval e X.env) (EP X amD U Q) X.xe s
def PT (X:Cx)(e:Expr)(t:TT):Prop:=
 ∀(amD:List (Addr×Obj)) (s:kI) (U:St) (H:Hp) (Q:Bool->Hp->Prop),BJ X amD U H s->t U H Q->Bs (CJ X.prog X.w) X.A (isTrue e X.env (eval e X.env)) (TP X amD U Q) X.xe s
def PW (X:Cx)(e:Expr)(t:TT):Prop:=
 ∀(whole:Sem JI) (amD:List (Addr×Obj)) (s:kI) (U:St) (H:Hp) (Q:Bool->Hp->Prop),BJ X amD U H s->t U H Q->Bs (CJ X.prog X.w) X.A (isTrue e X.env whole) (TP X amD U Q) X.xe s
variable {e:Expr}
theorem PW.pt {t:TT}(h:PW X e t):PT X e t:=h _
def PA (X:Cx)(es:List Expr)(t:TA):Prop:=
 ∀(pos:Pos) (amD:List (Addr×Obj)) (s:kI) (U:St) (H:Hp) (Q:List V->Hp->Prop),BJ X amD U H s->t U H Q->Bs (CJ X.prog X.w) X.A (spliced (J1 pos (Ca es X.env))) (zad X amD U Q) X.xe s
def PS (X:Cx)(st:Stmt)(t:TS):Prop:=
 ∀(amD:List (Addr×Obj)) (s:kI) (U:St) (H:Hp) (D:Ends),BJ X amD U H s->t D U H->Bs (CJ X.prog X.w) X.A (exec st X.env) (SP X amD D) X.xe s
def Pg (X:Cx)(st:List Stmt)(t:TS):Prop:=
 ∀(amD:List (Addr×Obj)) (s:kI) (U:St) (H:Hp) (D:Ends),BJ X amD U H s->t D U H->Bs (CJ X.prog X.w) X.A (execs st X.env) (SP X amD D) X.xe s
theorem GJ {α:Type}{t:Sem α}{Q Q':α->kI->Prop}{s:kI}(h:Bs M A t Q E s)(hQ:∀a s,Q a s->Q' a s):Bs M A t Q' E s:=Mq h hQ λ_ _ x=>x
section
def aeR (i:Nat):TE:=λU H Q=>∃v,U[i]?=Dn (Dn v)/\Q v H
def tC (v:V):TE:=λ_ H Q=>Q v H
theorem aa7 {x:Str}{pos:Pos}(hN:X.N[i]?=Dn x)(hv:Vis X.env.scope x)(hd:(x==("__debug__" : Str))=false:=by decide)(hcd:(x==("__classdict__" : Str))=false:=by decide):PE X (.Name x pos) (aeR i):=by
 intro amD s U H Q I h;obtain⟨v,e,h⟩:=h;obtain⟨m,hn,hl⟩:=I.loc;obtain⟨u,r,l⟩:=hl i x v hN e hv;have fin:EP X amD U Q u s:=⟨v,H,I,r,h⟩
 rcases l with⟨hk,hm⟩|⟨hk,c,hc,hcell⟩
 exact wpAny_Name (wpAny_loadName_local I.ok.kind hk hn hm fin) hd;rcases hk with hk|hk
 exact wpAny_Name (wpAny_loadName_cell I.ok.kind hk hc hcell fin) hd;exact wpAny_Name (wpAny_loadName_free I.ok.kind hk hc hcell fin hcd) hd
theorem acM {i j pos}:PE X (.Constant (.int i) j pos) (tC (.int i)):=λ_ _ _ H _ I h=>wpAny_Constant_int ⟨.int i,H,I.tok _,⟨_,rfl⟩,h⟩
theorem aer {b j pos}:PE X (.Constant (.bool b) j pos) (tC (.bl b)):=λ_ _ _ H _ I h=>Constant_bool ⟨.bl b,H,I,rfl,h⟩
theorem abN {j pos}:PE X (.Constant .none j pos) (tC .non):=λ_ _ _ H _ I h=>Constant_none ⟨.non,H,I,rfl,h⟩
theorem abr {x j pos}:PE X (.Constant (.str x) j pos) (tC (.str x)):=λ_ _ _ H _ I h=>Calls.Constant_str ⟨.str x,H,I.tok _,⟨_,rfl⟩,h⟩
def Gl (X:Cx)(x:Str):Prop:=X.env.kindOf x=Dn .globalImplicit
theorem Og {s:kI}{U:St}{x:Str}{pos:Pos}{Q:JI->kI->Prop}(I:BJ X amD U H s)(hg:Gl X x)(hm:X.mg x=Dn u)(h:Q u s)
  (hd:(x==("__debug__" : Str))=false:=by decide):Bs (CJ X.prog X.w) X.A (eval (.Name x pos) X.env) Q E s:=
 Calls.Name_function_global I.ok.kind hg (Calls.loadGlobal_global (I.ok.glob ▸ I.mod.glob.keeps I.bk) hm h) hd
theorem nU {s:kI}{U:St}{x:Str}{pos:Pos}{Q:JI->kI->Prop}(I:BJ X amD U H s)(hg:Gl X x)(hm:X.mg x=Go)(hv:VF x=Dn u)(h:Q u s)
  (hn:x ≠ "__name__":=by decide) (hd:(x==("__debug__" : Str))=false:=by decide):Bs (CJ X.prog X.w) X.A (eval (.Name x pos) X.env) Q E s:=by
 obtain⟨mb,h1,h2⟩:=I.mod.blt;exact Calls.Name_function_global I.ok.kind hg (Calls.loadGlobal_builtin (I.ok.glob ▸ I.mod.glob.keeps I.bk) hm (I.ok.blt ▸ h1.keeps I.bk) ((h2 x hn).trans hv) h) hd
theorem jo {x:Str}{v:V}{pos:Pos}(hg:Gl X x)(hm:X.mg x=Dn u)(r:RelV v u)(hd:(x==("__debug__" : Str))=false:=by decide):PE X (.Name x pos) (tC v):=
 λ_ _ _ H _ I h=>Og I hg hm ⟨v,H,I,r,h⟩ hd
theorem jj {x:Str}{v:V}{pos:Pos}(hg:Gl X x)(hm:X.mg x=Go)(hv:VF x=Dn u)(r:RelV v u)(hn:x ≠ "__name__":=by decide)(hd:(x==("__debug__" : Str))=false:=by decide):PE X (.Name x pos) (tC v):=
 λ_ _ _ H _ I h=>nU I hg hm hv ⟨v,H,I,r,h⟩ hn hd
variable {a b:Expr}{ta tb:TE}{pos:Pos}
variable {tA tB':TT}{rest:List Expr}
def afU (t u:TT):TT:=λU H Q=>t U H λc H1=>if c=true then u U H1 Q else Q false H1
def tOr (t u:TT):TT:=λU H Q=>t U H λc H1=>if c=true then Q true H1 else u U H1 Q
def agy (t:TT):TT:=λU H Q=>t U H λc H1=>Q (!c) H1
theorem ajZ (ha:PT X a tA):PW X (.BoolOp .And [a] pos) tA:=by
 intro wh amD s U H Q I h;refine isTrue_and<|GJ (ha amD s U H Q I h) λc s1 e=>?_
 cases c with
 | true=>exact isTrue_and_nil e
 | false=>exact e
theorem abl (ha:PT X a tA):PW X (.BoolOp .Or [a] pos) tA:=by
 intro wh amD s U H Q I h;refine isTrue_or<|GJ (ha amD s U H Q I h) λc s1 e=>?_
 cases c with
 | false=>exact isTrue_or_nil e
 | true=>exact e
theorem abg (ha:PT X a tA)(hb:PW X (.BoolOp .And (b::rest) pos) tB'):PW X (.BoolOp .And (a::b::rest) pos) (afU tA tB'):=by
 intro wh amD s U H Q I h;refine isTrue_and<|GJ (ha amD s U H _ I h) λc s1 ⟨H1,I1,q1⟩=>?_
 cases c with
 | true=>exact hb wh amD s1 U H1 Q I1 q1
 | false=>exact⟨H1,I1,q1⟩
theorem aeu (ha:PT X a tA)(hb:PW X (.BoolOp .Or (b::rest) pos) tB'):PW X (.BoolOp .Or (a::b::rest) pos) (tOr tA tB'):=by
 intro wh amD s U H Q I h;refine isTrue_or<|GJ (ha amD s U H _ I h) λc s1 ⟨H1,I1,q1⟩=>?_
 cases c with
 | true=>exact⟨H1,I1,q1⟩
 | false=>exact hb wh amD s1 U H1 Q I1 q1
theorem aav (ha:PT X a tA):PT X (.UnaryOp .Not a pos) (agy tA):=by
 intro amD s U H Q I h;exact isTrue_not<|ha amD s U H _ I h
def adI (ta tb:TE):TE:=λU H Q=>ta U H λx H1=>∃c,x=.bl c/\if c=true then tb U H1 Q else Q (.bl false) H1
def aef (ta:TE):TE:=λU H Q=>ta U H λx H1=>∃c,x=.bl c/\Q (.bl (!c)) H1
theorem aaV {op}{t:TE}(h:PE X a t):PE X (.BoolOp op [a] pos) t:=λamD s U H Q I hw=>BoolOp_one (h amD s U H Q I hw)
theorem Zv (ha:PE X a ta)(hb:PE X (.BoolOp .And (b::rest) pos) tb):PE X (.BoolOp .And (a::b::rest) pos) (adI ta tb):=by
 intro amD s U H Q I h;refine BoolOp_and<|GJ (ha amD s U H _ I h) λv s1 ⟨x,H1,I1,r1,q1⟩=>?_
 obtain⟨c,rfl,q1⟩:=q1;cases r1;refine Xl ?_;cases c with
 | true=>exact hb amD s1 U H1 Q I1 q1
 | false=>exact⟨.bl false,H1,I1,rfl,q1⟩
theorem acr (ha:PE X a ta):PE X (.UnaryOp .Not a pos) (aef ta):=by
 intro amD s U H Q I h;refine UnaryOp_<|GJ (ha amD s U H _ I h) λv s1 ⟨x,H1,I1,r1,q1⟩=>?_
 obtain⟨c,rfl,q1⟩:=q1;cases r1;exact not_of<|Xl ⟨.bl<|!c,H1,I1,rfl,q1⟩
def tIf (t:TT)(ta tb:TE):TE:=λU H Q=>t U H λc H1=>if c=true then ta U H1 Q else tb U H1 Q
theorem zbv {c:Expr}(hc:PT X c tA)(ha:PE X a ta)(hb:PE X b tb):PE X (.IfExp c a b pos) (tIf tA ta tb):=by
 intro amD s U H Q I h;refine wpAny_IfExp<|GJ (hc amD s U H _ I h) λd s1 ⟨H1,I1,q1⟩=>?_
 cases d with
 | true=>exact ha amD s1 U H1 Q I1 q1
 | false=>exact hb amD s1 U H1 Q I1 q1
end
variable {pos:Pos}{U:St}{ta:TE}{Q:JI->kI->Prop}
def JH (K:Bl)(H:Hp)(a:Addr)(xs:List V):Prop:=
 Rd H a (.lst xs) \/
  ∃(o:Obj) (its:Array JI) (n:Nat),K.lookup a=Dn o/\o.cls=.type "list"/\o.dict=Go/\o.data=.seq its n/\its.size<=G6/\Ba xs its.toList
def Hi (K:Bl)(H:Hp)(a:Addr)(xs:List V):Prop:=
 Rd H a (.tup xs) \/
  ∃(o:Obj) (its:Array JI) (n:Nat),K.lookup a=Dn o/\o.cls=.type "tuple"/\o.data=.seq its n/\its.size<=G6/\Ba xs its.toList/\o.dict=Go
def agH:JI->Option V
 | .none=>Dn .non
 | .bool b=>Dn (.bl b)
 | .int i _=>Dn (.int i)
 | .str x _=>Dn (.str x)
 | .bytes b _=>Dn (.byt b)
 | .float b _=>Dn (.flt b)
 | .ref a=>Dn (.ref a)
 | .type n=>Dn (.ty n)
 | _=>Go
theorem RelV.abs {x:V}(r:RelV x u):agH u=Dn x:=by
 cases x with
 | non|bl _|ref _|ty _=>cases r;rfl
 | int _|str _|byt _|flt _=>obtain⟨t,rfl⟩:=r;rfl
theorem RelV.inj {x y:V}(r:RelV x u)(q:RelV y u):x=y:=IV (r.abs.symm.trans q.abs)
theorem Ba.inj:∀{xs ys:List V}{us:List JI},Ba xs us->Ba ys us->xs=ys
 | _,_,_,.nil,.nil=>rfl
 | _,_,_,.cons r t,.cons r' t'=>by rw[r.inj r',Ba.inj t t']
section
variable {s:kI}{ys:List V}
theorem JH.of {K:Bl}(h:H a=Dn (.lst xs)):JH K H a xs:=.inl (.inl h)
theorem Hi.of {K:Bl}(h:H a=Dn (.tup xs)):Hi K H a xs:=.inl (.inl h)
theorem BJ.list (I:BJ X amD U H s)(h:JH X.K H a xs):∃its:List JI,Ba xs its/\PlainL s.heap a its.toArray/\xs.length<=G6:=by
 rcases h with h|⟨o,its,n,hk,hc,hd,hs,hz,r⟩
 obtain⟨z,its,n,r,e⟩:=h.ok I.hok;exact⟨its,r,⟨_,n,e,rfl,rfl,rfl⟩,z⟩;refine⟨its.toList,r,⟨o,n,I.kIn a o hk,hc,hd,by simpa using hs⟩,?_⟩;have e:=r.length;grind
theorem BJ.tupO (I:BJ X amD U H s)(h:Hi X.K H a xs):∃its:List JI,Ba xs its/\NT s.heap a its.toArray/\xs.length<=G6:=by
 rcases h with h|⟨o,its,n,hk,hc,hs,hz,r,hd⟩
 obtain⟨z,its,r,p⟩:=h.ok I.hok;grind
 refine⟨its.toList,r,⟨o,I.kIn a o hk,hc,⟨n,by simpa using hs⟩,hd⟩,?_⟩;have e:=r.length;grind
theorem BJ.tuple (I:BJ X amD U H s)(h:Hi X.K H a xs):∃its:List JI,Ba xs its/\IsTup s.heap a its.toArray/\xs.length<=G6:=let⟨its,r,p,z⟩:=I.tupO h;⟨its,r,p.tup,z⟩
theorem BJ.list_inj (I:BJ X amD U H s)(h:JH X.K H a xs)(h':JH X.K H a ys):xs=ys:=by
 obtain⟨its,r,⟨o,n,e,_,_,d⟩,_⟩:=I.list h;obtain⟨its',r',⟨o',n',e',_,_,d'⟩,_⟩:=I.list h';rw[e]at e';cases e';rw[d]at d';injection d' with d1 _
 have:=by simpa using congrArg Array.toList d1
 subst this;exact r.inj r'
theorem BJ.tuple_inj (I:BJ X amD U H s)(h:Hi X.K H a xs)(h':Hi X.K H a ys):xs=ys:=by
 obtain⟨its,r,⟨o,e,_,n,d⟩,_⟩:=I.tuple h;obtain⟨its',r',⟨o',e',_,n',d'⟩,_⟩:=I.tuple h';rw[e]at e';cases e';rw[d]at d';injection d' with d1 _
 have:=by simpa using congrArg Array.toList d1
 subst this;exact r.inj r'
end
variable {K:Bl}
abbrev Cx.wish (X:Cx)(E:JI->kI->Prop):Cx:={X with xe:=E}
abbrev Cx.nox (X:Cx):Cx:=X.wish λ_ _=>False
theorem Cx.Ok.wish {X:Cx}(ok:X.Ok)(E:JI->kI->Prop):(X.wish E).Ok:=
 ⟨ok.mod,ok.kind,ok.glob,ok.blt,ok.above,ok.inj,ok.has,ok.cab,ok.hd,ok.qt,ok.frames,ok.stk,ok.exf,ok.bs,ok.bsz,ok.noex,ok.exfs,ok.funs,ok.frf⟩
theorem Cx.Ok.unwish (ok:(X.wish E).Ok):X.Ok:=
 ⟨ok.mod,ok.kind,ok.glob,ok.blt,ok.above,ok.inj,ok.has,ok.cab,ok.hd,ok.qt,ok.frames,ok.stk,ok.exf,ok.bs,ok.bsz,ok.noex,ok.exfs,ok.funs,ok.frf⟩
section
variable {s:kI}
theorem BJ.wish (I:BJ X amD U H s)(E:JI->kI->Prop):BJ (X.wish E) amD U H s:=⟨I.ok.wish E,I.os,I.bare,I.base,I.loc,I.cell,I.free,I.freeC,I.pin,I.hok,I.len⟩
theorem BJ.unwish (I:BJ (X.wish E) amD U H s):BJ X amD U H s:=⟨I.ok.unwish,I.os,I.bare,I.base,I.loc,I.cell,I.free,I.freeC,I.pin,I.hok,I.len⟩
theorem SP.unwish {D:Ends}{f:Flow}{s':kI}(h:SP (X.wish E) amD D f s'):SP X amD D f s':=by
 cases f with
 | next|brk|cont=>obtain⟨U',H',I,q⟩:=h;exact⟨U',H',I.unwish,q⟩
 | ret u=>obtain⟨v,U',H',I,r,q⟩:=h;exact⟨v,U',H',I.unwish,r,q⟩
theorem Pg.nox {st:List Stmt}{t:TS}(h:Pg X.nox st t):Pg X st t:=λamD s U H D I hw=>
 Mq (h amD s U H D (I.wish _) hw) (λ_ _ q=>q.unwish) λ_ _ z=>False.elim z
end
section
variable {st:Stmt}{rest:List Stmt}{t u:TS}{te:TE}
def adY:TS:=λD U H=>D.nx U H
def af4 (t u:TS):TS:=λD U H=>t {D with nx:=u D} U H
theorem ait:Pg X [] adY:=λ_ _ U H _ I h=>YF ⟨U,H,I,h⟩
theorem zbk (h1:PS X st t)(h2:Pg X rest u):Pg X (st::rest) (af4 t u):=by
 intro amD s U H D I h;refine wpAny_execs_cons<|GJ (h1 amD s U H {D with nx:=u D} I h) λf s1 q=>?_
 cases f with
 | next=>
  obtain⟨U',H',I',q⟩:=q;exact h2 amD s1 U' H' D I' q
 | ret v|brk|cont=>exact q
theorem JF (h1:PS X st t):Pg X [st] t:=by
 intro amD s U H D I h;refine wpAny_execs_cons<|GJ (h1 amD s U H D I h) λf s1 q=>?_
 cases f with
 | next=>exact YF q
 | ret v|brk|cont=>exact q
theorem BJ.quiet {s:kI}(I:BJ X amD U H s):interactive X.env=false:=by simp[interactive,I.ok.kind]
def aek (te:TE):TS:=λD U H=>te U H λ_ H1=>D.nx U H1
theorem akC (he:PE X e te)(hs:swapsWith e Go pos.line X.env=pure false:=by rfl):PS X (.Expr e pos) (aek te):=by
 intro amD s U H D I h;exact wpAny_Expr_any (GJ (he amD s U H _ I h) λv s1 ⟨x,H1,I1,r1,q1⟩=>⟨U,H1,I1,q1⟩) I.quiet hs
def agh (te:TE):TS:=λD U H=>te U H D.rt
theorem aax (he:PE X e te):PS X (.Return (Dn e) pos) (agh te):=by
 intro amD s U H D I h;exact wpAny_Return_some<|GJ (he amD s U H _ I h) λv s1 ⟨x,H1,I1,r1,q1⟩=>⟨x,U,H1,I1,r1,q1⟩
def agC (c:TT)(t u:TS):TS:=λD U H=>c U H λb H1=>if b=true then t D U H1 else u D U H1
theorem aeW {c:Expr}{a b:List Stmt}{tc:TT}(hc:PT X c tc)(ha:Pg X a t)(hb:Pg X b u):PS X (.If c a b pos) (agC tc t u):=by
 intro amD s U H D I h;refine wpAny_If<|GJ (hc amD s U H _ I h) λd s1 ⟨H1,I1,q1⟩=>?_
 cases d with
 | true=>exact ha amD s1 U H1 D I1 q1
 | false=>exact hb amD s1 U H1 D I1 q1
def ajs:TS:=λ_ _ _=>False
theorem ahz:PS X st ajs:=λ_ _ _ _ _ _ h=>h.elim
end
abbrev TG:=V->St->Hp->(St->Hp->Prop)->Prop
abbrev Uz:=List V->St->Hp->(St->Hp->Prop)->Prop
def PG (X:Cx)(target:Expr)(t:TG):Prop:=
 ∀(amD:List (Addr×Obj)) (s:kI) (U:St) (H:Hp) (v:V) (u:JI) (Q:St->Hp->Prop),BJ X amD U H s->RelV v u->t v U H Q ->
  Bs (CJ X.prog X.w) X.A (assign target X.env u) (λ_ s'=>∃U' H',BJ X amD U' H' s'/\Q U' H') X.xe s
def Ve (X:Cx)(ts:List Expr)(t:Uz):Prop:=
 ∀(amD:List (Addr×Obj)) (s:kI) (U:St) (H:Hp) (vs:List V) (us:List JI) (Q:St->Hp->Prop),BJ X amD U H s->Ba vs us->t vs U H Q ->
  Bs (CJ X.prog X.w) X.A (assignInOrder ((Ny ts X.env).map (·.2)) us) (λ_ s'=>∃U' H',BJ X amD U' H' s'/\Q U' H') X.xe s
abbrev XC:=V->V->V->Hp->(Hp->Prop)->Prop
def abW (X:Cx)(t:XC):Prop:=
 ∀(amD:List (Addr×Obj)) (s:kI) (U:St) (H:Hp) (o i v:V) (ov iv u:JI) (Q:Hp->Prop),BJ X amD U H s->RelV o ov->RelV i iv->RelV v u->t o i v H Q ->
  Bs (CJ X.prog X.w) X.A (setItem ov iv u) (λ_ s'=>∃H',BJ X amD U H' s'/\Q H') X.xe s
section
def Jo (i:Nat):TG:=λv U H Q=>Q (U.set i (Dn v)) H
theorem xO {x:Str}(hN:X.N.Nodup)(hi:X.N[i]?=Dn x)(hx:Loc X.env.scope x)(hf:X.fn x=true\/X.env.scope.names.lookup x=Dn .local:=by first|exact .inl rfl|exact .inr rfl|assumption):PG X (.Name x pos) (Jo i):=by
 intro amD s U H v u Q I r h;exact wpAny_assign_Name<|Fq I hN hi hx r (λs' I'=>⟨_,H,I',h⟩) hf
def af9:Uz:=λvs U H Q=>vs=[]/\Q U H
def aeb (t:TG)(u:Uz):Uz:=λvs U H Q=>∃v r,vs=v::r/\t v U H λU' H'=>u r U' H' Q
theorem MK:Ve X [] af9:=by
 intro amD s U H vs us Q I r h;obtain⟨e,h⟩:=h;exact assignInOrder_nil ⟨U,H,I,h⟩
theorem xG {es:List Expr}{t:TG}{u:Uz}(h1:PG X e t)(h2:Ve X es u)
  (hs:(Ny (e::es) X.env).map (·.2)=assign e X.env::(Ny es X.env).map (·.2):=by rfl):Ve X (e::es) (aeb t u):=by
 intro amD s U H vs us Q I r h;obtain⟨v,vr,e1,h⟩:=h;subst e1;cases r with
 | cons r rr=>
  exact hs ▸ assignInOrder_cons (GJ (h1 amD s U H _ _ _ I r h) λ_ s1 ⟨U1,H1,I1,q1⟩=>(h2 amD s1 U1 H1 _ _ Q I1 rr q1))
def agp (K:Bl)(n:Nat)(t:Uz):TG:=λv U H Q=>∃a xs,v=.ref a/\Hi K H a xs/\xs.length=n/\t xs U H Q
theorem ab3 {es:List Expr}{k:Nat}{t:Uz}{n:Nat}(hc:X.calm=true)(h:Ve X es t)
  (hn:(Ny es X.env).length=n:=by rfl) (hst:(Ny es X.env).findIdx? (·.1)=Go:=by rfl):PG X (.Tuple es k pos) (agp X.K n t):=by
 intro amD s U H v u Q I r hw;obtain⟨a,xs,e1,hq,hl,hw⟩:=hw;subst e1;cases r;obtain⟨its,rv,ht,hz⟩:=I.tuple hq;exact assign_Tuple_tuple (I.ok.hd hc) ht (by simp[hn,<-hl,rv.length]) hst λh' hx=>(h amD _ U H xs _ Q (I.kept λb o e=>hx b o (Jl<|GK e) e) (by simpa using rv) hw)
def agw (to ti:TE)(t:XC):TG:=λv U H Q=>to U H λo H1=>ti U H1 λi H2=>t o i v H2 λH3=>Q U H3
theorem Zq {o i:Expr}{to ti:TE}{t:XC}(ho:PE X o to)(hi:PE X i ti)(hs:abW X t)
  (ha:∀v,assign (.Subscript o i pos) X.env v=(do
   let ov <-Rx [v] (eval o X.env)
   let iv <-Rx [v,ov] (eval i X.env)
   standAt pos
   Rx [v,ov,iv] (setItem ov iv v)
   release [v,ov,iv] []):=by intro _;rfl):PG X (.Subscript o i pos) (agw to ti t):=by
 intro amD s U H v u Q I r h;rw[ha];exact Ay<|Ob<|GJ (ho amD s U H _ I h) λov s1 ⟨x,H1,I1,r1,q1⟩=>(Ay<|Ob<|GJ (hi amD s1 U H1 _ I1 q1) λiv s2 ⟨y,H2,I2,r2,q2⟩=>(Ay<|wpAny_standAt<|Ay<|Ob<|GJ (hs amD s2 U H2 x y v ov iv u _ I2 r1 r2 r q2) λ_ s3 ⟨H3,I3,q3⟩=>(wpAny_release ⟨U,H3,I3,q3⟩)))
def aap (te:TE)(g:TG):TS:=λD U H=>te U H λx H1=>g x U H1 D.nx
theorem abh {tg:Expr}{te:TE}{g:TG}(he:PE X e te)(hg:PG X tg g)(hs:swapsWithSole [tg] e pos.line X.env=pure false:=by rfl)(hw:swappedStores [tg] e X.env=pure Go:=by rfl)
  (h1:(Ny [tg] X.env).map (·.2)=[assign tg X.env]:=by rfl):PS X (.Assign [tg] e pos) (aap te g):=by
 intro amD s U H D I h;exact wpAny_Assign_stores (GJ (he amD s U H _ I h) λv s1 ⟨x,H1,I1,r1,q1⟩=>(h1 ▸ GJ (hg amD s1 U H1 x v _ I1 r1 q1) λ_ s2 q=>q)) hs hw
theorem acG {x:Str}{te:TE}{pos':Pos}(hN:X.N.Nodup)(hi:X.N[i]?=Dn x)(hx:Loc X.env.scope x)(he:PE X e te)(hs:swapsWith e (Dn (.Name x pos')) pos.line X.env=pure false:=by rfl)(hf:X.fn x=true\/X.env.scope.names.lookup x=Dn .local:=by first|exact .inl rfl|exact .inr rfl|assumption):
  PS X (.Assign [.Name x pos'] e pos) (aap te (Jo i)):=by
 intro amD s U H D I h;exact wpAny_Assign_Name (GJ (he amD s U H _ I h) λv s1 ⟨y,H1,I1,r1,q1⟩=>(Fq I1 hN hi hx r1 (λs2 I2=>⟨_,H1,I2,q1⟩) hf)) hs
end
variable {o tg:Expr}{es:List Expr}{n:Nat}{pos':Pos}
section
def aaH (c:TT)(tb:TS):TS:=λD U H=>∃W:Nat->St->Hp->Prop,(∃m,W m U H)/\∀m U H,W m U H ->
 c U H λb H1=>if b=true then ∃N:St->Hp->Prop,(∀U' H',N U' H'->∃m',m'<m/\W m' U' H')/\tb {D with nx:=N,ct:=N,bk:=D.nx} U H1 else D.nx U H1
theorem aiw {c:Expr}{body:List Stmt}{tc:TT}{tb:TS}(hp:ZJ (CJ X.prog X.w) X.A X.env X.xe)(hc:PT X c tc)(hb:Pg X body tb):PS X (.While c body [] pos) (aaH tc tb):=by
 intro amD s U H D I h;obtain⟨W,⟨m0,w0⟩,turn⟩:=h;refine wpAny_While<|codeAny_whileLoop (λn s'=>∃U' H',BJ X amD U' H' s'/\W n U' H') ?_ m0 ⟨U,H,I,w0⟩
 rintro n s1 ⟨U1,H1,I1,w1⟩;refine X5 hp<|GJ (hc amD s1 U1 H1 _ I1<|turn n U1 H1 w1) λb s2 ⟨H2,I2,q2⟩=>?_
 cases b with
 | true=>
  obtain⟨N,hN,q2⟩:=q2;refine X5 hp<|GJ (hb amD s2 U1 H2 _ I2 q2) λf s3 q3=>?_
  cases f with
  | next|cont=>
   obtain⟨U3,H3,I3,n3⟩:=q3;obtain⟨m',hm,w3⟩:=hN U3 H3 n3;exact⟨m',hm,U3,H3,I3,w3⟩
  | brk|ret v=>exact q3
 | false=>
  exact YF ⟨U1,H2,I2,q2⟩
end
variable {body:List Stmt}
theorem wu:entryFor table "proto.unchain" = Dn Wh.«proto.unchain»:=entryFor_of_tree (by kernel_rfl)
inductive NK (h:Heap):List Addr->JI->Prop
 | nil:NK h [] .none
 | cons {c:Addr}{o:Obj}{vs:Array JI}{z:JI}{l:List Addr}(ho:h.get? c=Dn o) (hd:o.data=.fields vs) (h2:vs[2]?=Dn z) (t:NK h l z):NK h (c::l) (.ref c)
theorem NK.keep {l:List Addr}{v:JI}(c:NK h l v)(k:∀a∈l,∀o,h.get? a=Dn o->h'.get? a=Dn o):NK h' l v:=by
 induction c with
 | nil=>exact .nil
 | cons ho hd h2 t ih=>exact .cons (k _ (by simp) _ ho) hd h2 (ih λa ha=>k a (by simp[ha]))
theorem NK.there {l:List Addr}{v:JI}(c:NK h l v):∀a∈l,∃o,h.get? a=Dn o:=by
 induction c with
 | nil=>intro a ha;cases ha
 | @cons c o vs z l ho hd h2 t ih=>
  grind
def Bd (A:G4)(h:Heap):Prop:=∀v,A.handled=Dn v->∃a l,v=.ref a/\NK h l v
theorem V4.heap {v:JI}(c:V4 H v)(x:Kp P w H h):∃l,NK h l v:=by
 induction c with
 | nil=>exact⟨[],.nil⟩
 | cons h1 h2 h3 _ ih=>obtain⟨l,t⟩:=ih;exact⟨_,.cons (x _ _ h1).1 h2 h3 t⟩
theorem zaC (q:Quiet A H)(x:Kp P w H h):Bd A h:=λv e=>by
 obtain⟨⟨a,h1⟩,c⟩:=q v e;obtain⟨l,t⟩:=c.heap x;grind
def Lnk (h:Heap)(x y:JI):Prop:=∃(c:Addr) (o:Obj) (vs:Array JI),x=.ref c/\h.get? c=Dn o/\o.data=.fields vs/\vs[2]?=Dn y
inductive Rg (h:Heap):JI->JI->Prop
 | refl {x:JI}:Rg h x x
 | step {x y z:JI}(a:Lnk h x y) (b:Rg h y z):Rg h x z
variable {z:JI}
theorem Rg.snoc {x y:JI}(a:Rg h x y)(b:Lnk h y z):Rg h x z:=by
 induction a with
 | refl=>exact .step b .refl
 | step l _ ih=>exact .step l (ih b)
theorem Rg.one {x y:JI}(a:Rg h x y)(b:Lnk h y z):∃u,Lnk h x u/\Rg h u z:=by
 cases a with
 | refl=>exact⟨z,b,.refl⟩
 | step l r=>exact⟨_,l,r.snoc b⟩
variable {prog:Ci}{R:Q9->kI->Prop}
theorem zaK {s:kI}{e:Addr}(h:R (.ok (.ret .none)) s):∀{l:List Addr}{o:JI},NK s.heap l o->e∉l->(∃a,o=.ref a)->∀(slow:JI) (tg:Bool),(tg=false->Rg s.heap slow o)->(tg=true->∃y,Lnk s.heap slow y/\Rg s.heap y o) ->
  PL (CJ prog w) A (.builtin "proto.unchain" ⟨[.ref e,o,slow,.bool tg],[]⟩) R s:=by
 intro l o c;induction c with
 | nil=>rintro _ ⟨a,z⟩;cases z
 | @cons c o vs z l ho hd h2 t ih=>
  intro ne _ slow tg hf ht;have lk:Lnk _ _ z:=⟨c,o,vs,rfl,ho,hd,h2⟩
  refine Qc wu<|Ay<|N6 ho hd h2 ?_
  by_cases z0:z=.none
  subst z0;refine Ay<|Bv<|Bv ?_
  exact h
  ·obtain⟨d,rfl,hdm⟩:∃d,z=.ref d/\d∈l:=by
    cases t with
    | nil=>exact absurd rfl z0
    | cons=>exact⟨_,rfl,by simp⟩
   have ze:¬(Value.ref d==Value.ref e)=true:=λq=>by
    have:=Value.ref.inj (beq_iff_eq.mp q)
    exact ne (by rw[<-this];simp[hdm])
   rw[if_neg ze];by_cases zs:(Value.ref d==slow)=true
   ·rw[if_pos zs];refine Ay<|Pu ?_
    first
     | (refine Ay (Bv (Bv ?_));exact h)
   ·rw[if_neg zs];have ne':e∉l:=λq=>ne (by simp[q])
    cases tg with
    | true=>
     obtain⟨y,⟨cs,os,ss,rfl,hs1,hs2,hs3⟩,r⟩:=ht rfl;exact Ay<|N6 hs1 hs2 hs3<|Bv ⟨Code.quiet_builtin _<|by decide +kernel,(ih ne' ⟨d,rfl⟩ y false (λ_=>r.snoc lk) nofun)⟩
    | false=>
     exact Ay<|Bv<|Bv ⟨Code.quiet_builtin _<|by decide +kernel,(ih ne' ⟨d,rfl⟩ slow true nofun λ_=>(hf rfl).one lk)⟩
theorem zaJ {α:Type}{s:kI}{e:Addr}{oe:Obj}{ws:Array JI}{h0:Heap}{Q:α->kI->Prop}(hq:Bd A h0)(k0:∀b o,h0.get? b=Dn o->s.heap.get? b=Dn o)(e0:h0.get? e=Go)(he:s.heap.get? e=Dn oe)(hd:oe.data=.fields ws)(hz:2<ws.size)
  (h:∀h',(∀b,b≠e->h'.get? b=s.heap.get? b)->(∃o',h'.get? e=Dn o'/\o'.cls=oe.cls/\o'.dict=oe.dict/\((A.handled=Go/\h'=s.heap)\/∃v,A.handled=Dn v/\o'.data=.fields (ws.setIfInBounds 2 v)))->E (.ref e) {s with heap:=h'}):Bs (CJ prog w) A (raiseNew (.ref e):Sem α) Q E s:=by
 refine Ay<|wpAny_handled ?_
 cases hh:A.handled with
 | none=>
  exact Ay<|Bv<|wpAny_throw<|h _ (λ_ _=>rfl) ⟨oe,he,rfl,rfl,.inl ⟨hh,rfl⟩⟩
 | some v=>
  obtain⟨a,l,rfl,ch⟩:=hq v hh;have nl:e∉l:=λq=>by obtain⟨o,z⟩:=ch.there e q;rw[e0]at z;cases z
  dsimp only;have ne:(Value.ref a != Value.ref e)=true:=by
   simp only[bne_iff_ne];intro q;exact nl<|Value.ref.inj q ▸ ((by cases ch with|cons=>simp))
  rw[if_pos ne];refine Ay<|Ob<|wpAny_runValue<|zaK (Ay<|Ay<|wpAny_load he ?_) (ch.keep λb _ o z=>k0 b o z) nl ⟨a,rfl⟩ _ false (λ_=>.refl) nofun
  rw[hd];dsimp only;rw[if_pos hz];refine wpAny_update he<|wpAny_throw ?_
  have hd3:=Vb hd (·.setIfInBounds 2 (Value.ref a));exact h _ (λb hb=>Pz _ _<|Lr hb) ⟨_,UW _ he<|Wc hd3,Obj.cls_mapFields _ _,by obtain⟨c0,d0,dt,sl⟩:=oe;cases hd;rfl,.inr ⟨_,hh,hd3⟩⟩
theorem ajM {s:kI}{it:Addr}{x left step:Int}{Q:Option JI->kI->Prop}(hh:Bd A s.heap)(hit:IsRangeIter s.heap it x left step)(hleft:left<=0)
  (hQ:∀h',XM it s.heap h'->Q Go {s with heap:=h'}):Bs (CJ prog w) A (pyNext (.ref it)) Q E s:=by
 have hT:s.TypeIs (.ref it) "range_iterator":=⟨_,hit,rfl⟩
 refine Ay (Xf (Vy hT F.slot_range_iterator_next
  (RN F.slot_range_iterator_next hT F.entry_range_iterator_next ?_ (F.args_range_iterator_next_1 _))))
 show Bs _ _ (field (.ref it) 0 >>= _) _ _ s;refine Ay<|N6 hit rfl (x:=Pj x) rfl ?_
 refine Ay<|N6 hit rfl (x:=Pj left) rfl ?_
 refine Ay<|N6 hit rfl (x:=Pj step) rfl ?_
 show Bs _ _ (if left<=0 then _ else _) _ _ s;rw[if_pos hleft];refine Ay<|Pu ?_
 refine Ay ?_;refine Ay ?_;refine Ay (m:=Y0 _ _)<|wpAny_of_eq (a:=Value.none) (by first|rfl|(simp only[Y0];rfl)) ?_
 refine Qu ?_<|by size_fits
 refine zaJ (A:=A.in1) (h0:=s.heap) hh (λb o q=>GP _<|GP _ q) (Wb<|by simp[Heap.push]) (JB _ rfl) rfl (by simp;lia) λh' h1 ⟨o',h2,h3,_⟩=>?_;refine Ay<|wpAny_isInstance (T := "StopIteration") (b:=true) ⟨_,h2,h3⟩ isSubtype_stop ?_
 refine Bv<|hQ _ λb o hb e=>?_
 rw[h1 b ?_];exact GP _<|GP _ e
 have:=GK e
 exact Jl<|K1 this<|by simp[Heap.push]
structure It where
 go:Nat->Hp->Prop
 yld:Nat->Hp->V->Hp->Prop
 stop:Nat->Hp->Prop
 cm:Bool
def Ia (X:Cx)(amD:List (Addr×Obj))(H:Hp)(b:Addr):Prop:=
 H b=Go/\b≠X.env.locals/\b∉X.fs/\(b∈X.ex\/X.s₀.heap.objs.size<=b)/\(∀x c,X.env.cells.lookup x=Dn c->c≠b)/\∀p∈X.pn++amD,p.1≠b
theorem BJ.fpOk {s:kI}(I:BJ X amD U H s)(hb:s.heap.objs.size<=b)(hn:H' b=Go):Ia X amD H' b:=by
 refine⟨hn,OJ<|K1 I.lt hb,I.nofs hb,.inr<|HN I.sz hb,λx c e z=>?_,λp hp z=>(absurd (K1 (GK (I.pin p hp).1)<|z ▸ hb)<|Qd _)⟩;obtain⟨v,q⟩:=I.cell x c e;exact absurd (K1 q.lt<|z ▸ hb)<|Qd _
structure Turn (P:Ci) (w:CZ) (K:Bl) (tg:Expr) (J:It) (fp:List Addr) (it:Addr) (tn:Nat->Heap->Prop):Prop where
 mem:it∈fp
 obj:∀i h,tn i h->∀b∈fp,∃o,h.get? b=Dn o/\∀v,o.data≠.cell v
 keep:∀i h h',tn i h->(∀b∈fp,∀o,h.get? b=Dn o->h'.get? b=Dn o)->tn i h'
 item:∀(X:Cx),X.prog=P->X.w=w->X.K=K->(J.cm=true->X.calm=true)->∀(i:Nat) (amD:List (Addr×Obj)) (s:kI) (U:St) (H:Hp) (E:JI->kI->Prop),BJ X amD U H s->(∀b∈fp,Ia X amD H b)->tn i s.heap->J.go i H ->
  Bs (CJ P w) X.A (pyNext (.ref it)) (λr s1=>∃u,r=Dn u /\
   Bs (CJ P w) X.A (letOwnedTupleGo tg (.ref it) u) (λ_ s2=>∃x H',BJ X amD U H' s2/\RelV x u/\J.yld i H x H'/\tn (i+1) s2.heap/\∀b∈fp,H' b=Go) E s1) E s
 done:∀(X:Cx),X.prog=P->X.w=w->X.K=K->(J.cm=true->X.calm=true)->∀(i:Nat) (amD:List (Addr×Obj)) (s:kI) (U:St) (H:Hp) (E:JI->kI->Prop),BJ X amD U H s->(∀b∈fp,Ia X amD H b)->tn i s.heap->J.stop i H ->
  Bs (CJ P w) X.A (pyNext (.ref it)) (λr s1=>r=Go/\BJ X amD U H s1) E s
 self:∀(A:G4) (i:Nat) (s:kI) (Q:JI->kI->Prop) (E:JI->kI->Prop),tn i s.heap->Q (.ref it) s->Bs (CJ P w) A (pyIter (.ref it)) Q E s
abbrev TI:=St->Hp->(It->Hp->Prop)->Prop
def PIE (X:Cx)(amD:List (Addr×Obj))(U:St)(tg:Expr)(R:It->Hp->Prop)(itv:JI)(s2:kI):Prop:=
 ∃(it:Addr) (fp:List Addr) (tn:Nat->Heap->Prop) (J:It) (H':Hp),itv=.ref it/\BJ X amD U H' s2/\Turn X.prog X.w X.K tg J fp it tn/\tn 0 s2.heap/\(∀b∈fp,Ia X amD H' b)/\R J H'
def PI (X:Cx)(tg iter:Expr)(wi:TI):Prop:=
 ∀(amD:List (Addr×Obj)) (s:kI) (U:St) (H:Hp) (R:It->Hp->Prop),BJ X amD U H s->wi U H R ->
  Bs (CJ X.prog X.w) X.A (eval iter X.env) (λv s1=>Bs (CJ X.prog X.w) X.A (pyIter v) (PIE X amD U tg R) X.xe s1) X.xe s
theorem Vh {s:kI}{it:Addr}{o:Obj}{n:String}{vs:Array JI}{Q:Unit->kI->Prop}(ho:s.heap.get? it=Dn o)(hc:o.cls=.type n)(hd:o.data=.fields vs)
    (hn:["enumerate", "zip", "dict_itemiterator", "dict_reverseitemiterator", "odict_iterator", "itertools.zip_longest", "itertools.pairwise"].contains n=false) (hQ:Q () s):Bs M A (letOwnedTupleGo tg (.ref it) u) Q E s:=by
  cases tg<;>first
    | exact Bv hQ
    | (cases u<;>first
        | exact Bv hQ
        | (refine Ay (wpAny_load ho ?_)
           rw[hc,hd];show Bs M A (if _=true then _ else _) Q E s;rw[if_neg (by intro h;rw[hn]at h;cases h)];exact Bv hQ))
def Itl (K:Bl)(a:Addr):It:=
 ⟨λi H=>∃xs x,JH K H a xs/\xs[i]?=Dn x,λi H x H'=>H'=H/\∀xs,JH K H a xs->xs[i]?=Dn x,λi H=>∃xs,JH K H a xs/\xs.length<=i,true⟩
def Itt (K:Bl)(a:Addr):It:=
 ⟨λi H=>∃xs x,Hi K H a xs/\xs[i]?=Dn x,λi H x H'=>H'=H/\∀xs,Hi K H a xs->xs[i]?=Dn x,λi H=>∃xs,Hi K H a xs/\xs.length<=i,true⟩
def Itr (lo:Int)(n:Nat):It:=⟨λi _=>i<n,λi H x H'=>H'=H/\x=.int (lo+i),λi _=>n<=i,false⟩
theorem zba (a it:Addr):Turn P w K tg (Itl K a) [it] it (λi h=>h.IsListIter it a i) where
 mem:=by simp
 obj:=λi h st b hb=>by
  obtain⟨o,e,c,d⟩:=st;grind
 keep:=λi h h' st k=>st.at λo e=>k it (by simp) o e
 item:=by
  intro X hP hw hK hc i amD s U H E I hf st hg;subst hP hw hK;obtain⟨xs,x,hq,hx⟩:=hg;obtain⟨its,rv,p,hz⟩:=I.list hq;obtain⟨u,hu,ru⟩:=rv.get hx;obtain⟨f0,f1,f2,f3,f4,f5⟩:=hf it (by simp);refine wpAny_pyNext_list_item st p.isList (by simpa using hu) λh' st' sb=>?_;obtain⟨o,e,c,d⟩:=id st';exact⟨u,rfl,Vh e c d (by decide) ⟨x,H,(I.turned (λb o hb e=>(sb.2 b hb).trans e) f0 f1 f3 f4 f5),ru,⟨rfl,λys hy=>by rwa[I.list_inj hy hq]⟩,st',λb hb=>(hf b hb).1⟩⟩
 done:=by
  intro X hP hw hK hc i amD s U H E I hf st hg;subst hP hw hK;obtain⟨xs,hq,hx⟩:=hg;obtain⟨its,rv,p,hz⟩:=I.list hq;obtain⟨f0,f1,f2,f3,f4,f5⟩:=hf it (by simp);have hl:=rv.length;exact wpAny_pyNext_list_end (I.ok.hd<|hc rfl) st p.isList (by simp;lia) λh' eb=>⟨rfl,I.turned (λb o hb e=>eb b o hb e) f0 f1 f3 f4 f5⟩
 self:=λ_ _ _ _ _ st h=>wpAny_pyIter_listiter st h
theorem zay (a it:Addr):Turn P w K tg (Itt K a) [it] it (λi h=>h.IsTupleIter it a i) where
 mem:=by simp
 obj:=λi h st b hb=>by
  obtain rfl:=by simpa using hb
  obtain⟨o,e,c,d⟩:=st;exact⟨o,e,λv z=>by rw[d]at z;cases z⟩
 keep:=λi h h' st k=>st.at λo e=>k it (by simp) o e
 item:=by
  intro X hP hw hK hc i amD s U H E I hf st hg;subst hP hw hK;obtain⟨xs,x,hq,hx⟩:=hg;obtain⟨its,rv,p,hz⟩:=I.tuple hq;obtain⟨u,hu,ru⟩:=rv.get hx;obtain⟨f0,f1,f2,f3,f4,f5⟩:=hf it (by simp);refine wpAny_pyNext_tuple_item st p (by simpa using hu) λh' st' sb=>?_;obtain⟨o,e,c,d⟩:=id st';exact⟨u,rfl,Vh e c d (by decide) ⟨x,H,(I.turned (λb o hb e=>(sb.2 b hb).trans e) f0 f1 f3 f4 f5),ru,⟨rfl,λys hy=>I.tuple_inj hy hq ▸ hx⟩,st',λb hb=>(hf b hb).1⟩⟩
 done:=by
  intro X hP hw hK hc i amD s U H E I hf st hg;subst hP hw hK;obtain⟨xs,hq,hx⟩:=hg;obtain⟨its,rv,p,hz⟩:=I.tuple hq;obtain⟨f0,f1,f2,f3,f4,f5⟩:=hf it (by simp);have hl:=rv.length;exact wpAny_pyNext_tuple_end (I.ok.hd<|hc rfl) st p (by simp;lia) λh' eb=>⟨rfl,I.turned (λb o hb e=>eb b o hb e) f0 f1 f3 f4 f5⟩
 self:=λ_ _ _ _ _ st h=>wpAny_pyIter_tupleiter st h
theorem zaD (it:Addr)(lo:Int)(n:Nat):Turn P w K tg (Itr lo n) [it] it (λi h=>IsRangeIter h it (lo+(i:Nat)*1) ((n:Int)-(i:Nat)) 1) where
 mem:=by simp
 obj:=λi h st b hb=>by
  obtain rfl:=by simpa using hb
  exact⟨_,st,λv z=>by
   cases z⟩
 keep:=λi h h' st k=>k it (by simp) _ st
 item:=by
  intro X hP hw hK hc i amD s U H E I hf st hg;obtain⟨f0,f1,f2,f3,f4,f5⟩:=hf it (by simp);refine wpAny_pyNext_range_item st (by have:i<n:=hg;lia) λh' st' kk=>?_;have I1:BJ X amD U H {s with heap:=h',toks:=s.toks+1}:=I.turned (λb o hb e=>(kk.2 b hb).trans e) f0 f1 f3 f4 f5;have st2:IsRangeIter h' it (lo+((i+1:Nat):Int)*1) ((n:Int)-((i+1:Nat):Int)) 1:=by
   have e1:lo+((i+1:Nat):Int)*1=lo+((i:Nat):Int)*1+1:=by lia
   have e2:(n:Int)-((i+1:Nat):Int)=(n:Int)-((i:Nat):Int)-1:=by lia
   rwa[e1,e2]
  refine⟨_,rfl,Vh st' rfl rfl (by decide) ⟨.int _,H,I1,⟨s.toks,?_⟩,⟨rfl,rfl⟩,st2,λb hb=>(hf b hb).1⟩⟩;rw[Int.mul_one]
 done:=by
  intro X hP hw hK hc i amD s U H E I hf st hg;obtain⟨f0,f1,f2,f3,f4,f5⟩:=hf it (by simp);exact ajM (zaC I.qt0 I.hok) st (by have:n<=i:=hg;lia) λh' eb=>⟨rfl,I.turned (λb o hb e=>eb b o hb e) f0 f1 f3 f4 f5⟩
 self:=λ_ _ _ _ _ st h=>wpAny_pyIter_rangeiter st h
section
theorem Dk {s:kI}{R:It->Hp->Prop}{lo hi:Int}{t u v:Tok}{tk:Nat}(I:BJ X amD U H s)(h1:-(2^62)<=lo)(h2:lo<2^62)(h3:-(2^62)<=hi)(h4:hi<2^62)
  (q:R (Itr lo (hi-lo).toNat) H):Bs (CJ X.prog X.w) X.A (pyIter (.ref s.heap.objs.size)) (PIE X amD U tg R) E {s with heap:=s.heap.push {cls:=.type "range",data:=.fields #[.int lo t,.int hi u,.int 1 v]},toks:=tk}:=by
 refine wpAny_pyIter_range (IsRange.new ..) (small_one h1 h2 h3 h4) ?_;have I1:BJ X amD U H {s with heap:=s.heap.push {cls:=.type "range",data:=.fields #[.int lo t,.int hi u,.int 1 v]},toks:=tk}:=I.kept λb o e=>GP _ e
 refine⟨(s.heap.push {cls:=.type "range",data:=.fields #[.int lo t,.int hi u,.int 1 v]}).objs.size,[(s.heap.push {cls:=.type "range",data:=.fields #[.int lo t,.int hi u,.int 1 v]}).objs.size],_,_,H,rfl,
  I1.kept λb o e=>GP _ e,zaD _ lo (hi-lo).toNat,?_,λb hb=>?_,q⟩
 have e1:lo+((0:Nat):Int)*1=lo:=by simp
 have e2:(((hi-lo).toNat:Nat):Int)-((0:Nat):Int)=Builtin.Range.rangeSize lo hi 1:=by rw[rangeSize_one];split<;>lia
 rw[e1,e2];exact JB _ rfl;have e:b=(s.heap.push {cls:=.type "range",data:=.fields #[.int lo t,.int hi u,.int 1 v]}).objs.size:=by simpa using hb
 subst e;exact I1.fpOk (GZ _)<|I1.hok.fresh<|GZ _
def adC (ta:TA):TI:=λU H R=>ta U H λvs H1=>∃j:Int,vs=[.int j]/\-(2^62)<=j/\j<2^62/\R (Itr 0 j.toNat) H1
def ad5 (ta:TA):TI:=λU H R=>ta U H λvs H1=>∃i j:Int,vs=[.int i,.int j]/\(-(2^62)<=i/\i<2^62/\-(2^62)<=j/\j<2^62)/\R (Itr i (j-i).toNat) H1
theorem zbm {a:Expr}{ta:TA}{p:Pos}(hg:Gl X "range")(hm:X.mg "range" = Go)(ha:PA X [a] ta)(hs:Ca [a] X.env=[(false,eval a X.env)]:=by rfl):PI X tg (.Call (.Name "range" p) [a] [] pos) (adC ta):=by
 intro amD s U H R I h;refine Call_<|nU I hg hm boot_range<|X7 (GJ (ha pos amD s U H _ I h) λus s1 ⟨vs,H1,I1,r1,q1⟩=>?_) hs rfl
 obtain⟨j,e,q1,q2,q⟩:=q1;subst e;cases r1 with
 | cons r rr=>
  cases rr;obtain⟨t,rfl⟩:=r;exact call_range_1<|Dk I1 (by lia) (by lia) q1 q2<|by simpa using q
theorem ahD {a b:Expr}{ta:TA}{p:Pos}(hg:Gl X "range")(hm:X.mg "range" = Go)(ha:PA X [a,b] ta)(hs:Ca [a,b] X.env=[(false,eval a X.env),(false,eval b X.env)]:=by rfl)(hs2:Ca [b] X.env=[(false,eval b X.env)]:=by rfl):
  PI X tg (.Call (.Name "range" p) [a,b] [] pos) (ad5 ta):=by
 intro amD s U H R I h;refine Call_<|nU I hg hm boot_range<|X7 (GJ (ha pos amD s U H _ I h) λus s1 ⟨vs,H1,I1,r1,q1⟩=>?_) (by rw[hs,hs2]) (by rw[hs2];rfl)
 obtain⟨i,j,e,⟨q1,q2,q3,q4⟩,q⟩:=q1;subst e;cases r1 with
 | cons r rr=>
  cases rr with
  | cons r' rr=>
   cases rr;obtain⟨t,rfl⟩:=r;obtain⟨t',rfl⟩:=r';exact call_range_2<|Dk I1 q1 q2 q3 q4 q
def agt (wi:TI)(g:TG)(tb:TS):TS:=λD U H=>wi U H λJ H1=>∃W:Nat->Nat->St->Hp->Prop,(∃m,W 0 m U H1)/\∀i m U H,W i m U H ->
 (J.stop i H/\D.nx U H)\/(J.go i H/\∃N:St->Hp->Prop,(∀U' H',N U' H'->∃m',m'<m/\W (i+1) m' U' H')/\∀x H',J.yld i H x H'->g x U H' λU2 H2=>tb {D with nx:=N,ct:=N,bk:=D.nx} U2 H2)
def FW (fp:List Addr)(h:Heap):List (Addr×Obj):=fp.filterMap λb=>(h.get? b).map λo=>(b,o)
theorem kY {fp:List Addr}{o:Obj}(hb:b∈fp)(e:h.get? b=Dn o):(b,o)∈FW fp h:=List.mem_filterMap.mpr ⟨b,hb,by rw[e];rfl⟩
theorem zaU {fp:List Addr}{p:Addr×Obj}(hp:p∈FW fp h):p.1∈fp/\h.get? p.1=Dn p.2:=by
 obtain⟨b,hb,e⟩:=List.mem_filterMap.mp hp;cases q:h.get? b with
 | none=>rw[q]at e;cases e
 | some o=>
  grind
theorem BJ.pinned {s:kI}{fp:List Addr}(I:BJ X amD U H s)(hf:∀b∈fp,Ia X amD H b)(ho:∀b∈fp,∃o,s.heap.get? b=Dn o/\∀v,o.data≠.cell v):BJ X (amD++FW fp s.heap) U H s:=
 I.pins_of λp hp=>(W9.mp hp).elim (λz=>I.pin p (VN _ z)) λz=>by
  obtain⟨hb,e⟩:=zaU z;obtain⟨f0,f1,f2,_⟩:=hf _ hb;grind
theorem BJ.unpinned {pl:List (Addr×Obj)}{s:kI}(I:BJ X (amD++pl) U H s):BJ X amD U H s:=I.pins_of λp hp=>I.pin p (VN _ (Qv _ hp))
theorem abx {iter:Expr}{wi:TI}{g:TG}{tb:TS}(hp:ZJ (CJ X.prog X.w) X.A X.env X.xe)(hc:X.calm=true)(hi:PI X tg iter wi)(hg:PG X tg g)(hb:Pg X body tb)
  (hs:∀x,WM iter X.env x=pure x:=by intro _;rfl):PS X (.For tg iter body [] pos) (agt wi g tb):=by
 intro amD s U H D I h;refine wpAny_For (GJ (hi amD s U H _ I h) λv s1 h1=>GJ h1 λitv s2 h2=>?_) hs;obtain⟨it,fp,tn,J,H2,e,I2,T,st2,f2,W,⟨m0,w0⟩,turn⟩:=h2;subst e;have stat:∀{H':Hp},(∀b∈fp,H' b=Go)->∀b∈fp,Ia X amD H' b:=λhn b hb=>⟨hn b hb,(f2 b hb).2⟩
 refine codeAny_forLoop_any (λn s'=>∃i U' H',BJ X amD U' H' s'/\tn i s'.heap/\(∀b∈fp,H' b=Go)/\W i n U' H') ?_ m0 ⟨0,U,H2,I2,st2,λb hb=>(f2 b hb).1,w0⟩;rintro n s3 ⟨i,U3,H3,I3,st3,fr3,w3⟩;rcases turn i n U3 H3 w3 with⟨stop,qn⟩|⟨go,N,hN,step⟩
 ·refine X5 hp<|GJ (T.done X rfl rfl rfl (λ_=>hc) i amD s3 U3 H3 _ I3 (stat fr3) st3 stop) λr s4 ⟨hr,I4⟩=>?_
  subst hr;exact YF ⟨U3,H3,I4,qn⟩
 ·refine X5 hp<|GJ (T.item X rfl rfl rfl (λ_=>hc) i amD s3 U3 H3 _ I3 (stat fr3) st3 go) λr s4 ⟨u,hr,h4⟩=>?_
  subst hr;refine X5 hp<|GJ h4 λ_ s5 ⟨x,H5,I5,r5,y5,st5,fr5⟩=>(X5 hp<|GJ (hg _ s5 U3 H5 x u _ (I5.pinned (stat fr5)<|T.obj _ _ st5) r5<|step x H5 y5) λ_ s6 ⟨U6,H6,I6,q6⟩=>(X5 hp<|GJ (hb _ s6 U6 H6 _ I6 q6) λf s7 q7=>?_))
  have again:∀{U7:St}{H7:Hp},BJ X _ U7 H7 s7->N U7 H7->∃m,m<n/\∃i U' H',BJ X amD U' H' s7/\tn i _/\(∀b∈fp,H' b=Go)/\W i m U' H':=λ{U7 H7} I7 n7=>by
   obtain⟨m',hm,w7⟩:=hN U7 H7 n7;refine⟨m',hm,i+1,U7,H7,I7.unpinned,T.keep _ _ _ st5 λb hb o e=>(I7.pin _<|VN _<|VN _<|kY hb e).1,λb hb=>?_,w7⟩;obtain⟨o,e,d⟩:=T.obj _ _ st5 b hb;exact(I7.pin _<|VN _<|VN _<|kY hb e).2.1
  cases f with
  | next|cont=>obtain⟨U7,H7,I7,n7⟩:=q7;exact again I7 n7
  | brk=>obtain⟨U7,H7,I7,q7⟩:=q7;exact⟨U7,H7,I7.unpinned,q7⟩
  | ret v=>obtain⟨x7,U7,H7,I7,r7,q7⟩:=q7;exact⟨x7,U7,H7,I7.unpinned,r7,q7⟩
end
theorem NP {g:TG}{tb:TS}{D:Ends}(Pv:Nat->St->Hp->Prop)(h0:Pv 0 U H)(hl:∀i U H,i<=xs.length->Pv i U H->Hi K H a xs)
  (hs:∀i x U H,xs[i]?=Dn x->Pv i U H->g x U H λU2 H2=>tb {D with nx:=Pv (i+1),ct:=Pv (i+1),bk:=D.nx} U2 H2) (hd:∀U H,Pv xs.length U H->D.nx U H) :
  ∃W:Nat->Nat->St->Hp->Prop,(∃m,W 0 m U H)/\∀i m U H,W i m U H ->
   ((Itt K a).stop i H/\D.nx U H)\/((Itt K a).go i H/\∃N:St->Hp->Prop,(∀U' H',N U' H'->∃m',m'<m/\W (i+1) m' U' H')/\∀x H',(Itt K a).yld i H x H'->g x U H' λU2 H2=>tb {D with nx:=N,ct:=N,bk:=D.nx} U2 H2):=by
 refine⟨λi m U H=>m=xs.length-i/\i<=xs.length/\Pv i U H,⟨xs.length,by simp,Oj _,h0⟩,?_⟩;rintro i m U H ⟨rfl,hi,p⟩;have q:=hl i U H hi p;by_cases hlt:i<xs.length
 refine .inr ⟨⟨xs,xs[i],q,by simp⟩,Pv _,λU' H' p'=>⟨xs.length-(i+1),by lia,rfl,hlt,p'⟩,λx H' y=>?_⟩;obtain⟨e,y⟩:=y;grind
 have e:i=xs.length:=by lia
 subst e;exact .inl ⟨⟨xs,q,GZ _⟩,hd U H p⟩
abbrev R2:=V->V->Hp->VK->Prop
def K3 (X:Cx)(f:JI->JI->Sem JI)(r:R2):Prop:=
 ∀(amD:List (Addr×Obj)) (s:kI) (U:St) (H:Hp) (x y:V) (v u:JI) (Q:VK),BJ X amD U H s->RelV x v->RelV y u->r x y H Q ->
  Bs (CJ X.prog X.w) X.A (f v u) (EP X amD U Q) X.xe s
def UnR (X:Cx)(f:JI->Sem JI)(r:V->Hp->VK->Prop):Prop:=
 ∀(amD:List (Addr×Obj)) (s:kI) (U:St) (H:Hp) (x:V) (v:JI) (Q:VK),BJ X amD U H s->RelV x v->r x H Q ->
  Bs (CJ X.prog X.w) X.A (f v) (EP X amD U Q) X.xe s
def gq (X:Cx)(f:JI)(r:List V->Hp->VK->Prop):Prop:=
 ∀(amD:List (Addr×Obj)) (s:kI) (U:St) (H:Hp) (xs:List V) (us:List JI) (Q:VK),BJ X amD U H s->Ba xs us->r xs H Q ->
  Bs (CJ X.prog X.w) X.A (call f us) (EP X amD U Q) X.xe s
def agA (X:Cx)(r:V->Hp->(Bool->Hp->Prop)->Prop):Prop:=
 ∀(amD:List (Addr×Obj)) (s:kI) (U:St) (H:Hp) (x:V) (v:JI) (Q:Bool->Hp->Prop),BJ X amD U H s->RelV x v->r x H Q ->
  Bs (CJ X.prog X.w) X.A (truthy v) (TP X amD U Q) X.xe s
def tOp (r:R2)(ta tb:TE):TE:=λU H Q=>ta U H λx H1=>tb U H1 λy H2=>r x y H2 Q
def tUn (r:V->Hp->VK->Prop)(ta:TE):TE:=λU H Q=>ta U H λx H1=>r x H1 Q
def rI (C:Int->Int->Prop)(g:Int->Int->V):R2:=λx y H Q=>∃i j,x=.int i/\y=.int j/\C i j/\Q (g i j) H
def rI0 (g:Int->Int->V):R2:=λx y H Q=>∃i j,x=.int i/\y=.int j/\Q (g i j) H
def rU (g:Int->V):V->Hp->VK->Prop:=λx H Q=>∃i,x=.int i/\Q (g i) H
section
variable {a b c:Expr}{tb tc:TE}
theorem aeT (ha:PE X a ta)(hb:PE X b tb){s:kI}{R:V->V->Hp->Prop}(I:BJ X amD U H s)
  (h:ta U H λx H1=>tb U H1 λy H2=>R x y H2) {Q:JI->kI->Prop}{f:JI->JI->Sem JI}
  (hf:∀v u s2 x y H2,BJ X amD U H2 s2->RelV x v->RelV y u->R x y H2->Bs (CJ X.prog X.w) X.A (f v u) Q X.xe s2) :
  Bs (CJ X.prog X.w) X.A (eval a X.env) (λv s₁=>Bs (CJ X.prog X.w) X.A (eval b X.env) (λu s₂=>Bs (CJ X.prog X.w) X.A (f v u) Q X.xe s₂) X.xe s₁) X.xe s:=GJ (ha amD s U H _ I h) λv s1 ⟨x,H1,I1,r1,q1⟩=>(GJ (hb amD s1 U H1 _ I1 q1) λu s2 ⟨y,H2,I2,r2,q2⟩=>(hf v u s2 x y H2 I2 r1 r2 q2))
theorem adq {op:Operator}{r:R2}(ho:K3 X (Nu op) r)(ha:PE X a ta)(hb:PE X b tb):PE X (.BinOp a op b pos) (tOp r ta tb):=by
 intro amD s U H Q I h;exact wpAny_BinOp<|aeT ha hb I h λv u s2 x y H2 I2 rx ry q=>ho amD s2 U H2 x y v u Q I2 rx ry q
theorem aeF {op:UnaryOp}{r:V->Hp->VK->Prop}(ho:UnR X (unaryOp op) r)(ha:PE X a ta):PE X (.UnaryOp op a pos) (tUn r ta):=by
 intro amD s U H Q I h;exact UnaryOp_<|GJ (ha amD s U H _ I h) λv s1 ⟨x,H1,I1,r1,q1⟩=>ho amD s1 U H1 x v Q I1 r1 q1
theorem opI {f:JI->JI->Sem JI}{C:Int->Int->Prop}{g:Int->Int->Int}
  (rule:∀(i j:Int) (t u:Tok) (s:kI) (Q:JI->kI->Prop) (E:JI->kI->Prop),C i j->Q (.int (g i j) s.toks) {s with toks:=s.toks+1}->Bs (CJ X.prog X.w) X.A (f (.int i t) (.int j u)) Q E s) :
  K3 X f (rI C λi j=>.int (g i j)):=by
 intro amD s U H x y v u Q I rx ry h;obtain⟨i,j,rfl,rfl,hc,q⟩:=h;obtain⟨t,rfl⟩:=rx;obtain⟨t',rfl⟩:=ry;exact rule i j t t' s _ _ hc ⟨.int _,H,I.tok _,⟨_,rfl⟩,q⟩
theorem afy {f:JI->JI->Sem JI}{g:Int->Int->Int}
  (rule:∀(i j:Int) (t u:Tok) (s:kI) (Q:JI->kI->Prop) (E:JI->kI->Prop),Q (.int (g i j) s.toks) {s with toks:=s.toks+1}->Bs (CJ X.prog X.w) X.A (f (.int i t) (.int j u)) Q E s) :
  K3 X f (rI0 λi j=>.int (g i j)):=by
 intro amD s U H x y v u Q I rx ry h;obtain⟨i,j,rfl,rfl,q⟩:=h;obtain⟨t,rfl⟩:=rx;obtain⟨t',rfl⟩:=ry;exact rule i j t t' s _ _ ⟨.int _,H,I.tok _,⟨_,rfl⟩,q⟩
theorem ae8 {f:JI->JI->Sem JI}{g:Int->Int->Bool}
  (rule:∀(i j:Int) (t u:Tok) (s:kI) (Q:JI->kI->Prop) (E:JI->kI->Prop),Q (.bool (g i j)) s->Bs (CJ X.prog X.w) X.A (f (.int i t) (.int j u)) Q E s) :
  K3 X f (rI0 λi j=>.bl (g i j)):=by
 intro amD s U H x y v u Q I rx ry h;obtain⟨i,j,rfl,rfl,q⟩:=h;obtain⟨t,rfl⟩:=rx;obtain⟨t',rfl⟩:=ry;exact rule i j t t' s _ _ ⟨.bl _,H,I,rfl,q⟩
def afp (i j:Int):Prop:=0<=j/\j<=1000000/\i.natAbs<2^64
theorem abv:K3 X (Nu .Add) (rI0 λi j=>.int (i+j)):=afy λ_ _ _ _ _ _ _ q=>add_int q
theorem ZQ:K3 X (Nu .Sub) (rI0 λi j=>.int (i-j)):=afy λ_ _ _ _ _ _ _ q=>sub_int q
theorem ajB:K3 X (Nu .Mod) (rI (λ_ j=>j≠0) λi j=>.int (i.fmod j)):=opI λ_ _ _ _ _ _ _ hc q=>mod_int' hc q
theorem ace:K3 X (Nu .Pow) (rI afp λi j=>.int (i^j.toNat)):=opI λ_ _ _ _ _ _ _ hc q=>pow_int_small hc.1 hc.2.1 hc.2.2 q
theorem unI {f:JI->Sem JI}{g:Int->Int}
  (rule:∀(i:Int) (t:Tok) (s:kI) (Q:JI->kI->Prop) (E:JI->kI->Prop),Q (.int (g i) s.toks) {s with toks:=s.toks+1}->Bs (CJ X.prog X.w) X.A (f (.int i t)) Q E s) :
  UnR X f (rU λi=>.int (g i)):=by
 intro amD s U H x v Q I rx h;obtain⟨i,rfl,q⟩:=h;obtain⟨t,rfl⟩:=rx;exact rule i t s _ _ ⟨.int<|g i,H,I.tok _,⟨_,rfl⟩,q⟩
theorem aaW:UnR X (unaryOp .USub) (rU λi=>.int (-i)):=unI λ_ _ _ _ _ q=>neg_int q
theorem u0 {s:kI}{Q:VK}{k k':Bool}(I:BJ X amD U H s)(q:Q (.bl k) H)(e:k=k'):EP X amD U Q (.bool k') s:=by
 subst e;exact⟨.bl k,H,I,rfl,q⟩
theorem aeJ:K3 X (O2 .Lt) (rI0 λi j=>.bl (decide (i<j))):=ae8 λ_ _ _ _ _ _ _ q=>lt_int q
theorem ad1:K3 X (O2 .Gt) (rI0 λi j=>.bl (decide (j<i))):=ae8 λ_ _ _ _ _ _ _ q=>gt_int q
theorem aee:K3 X (O2 .GtE) (rI0 λi j=>.bl (decide (j<=i))):=ae8 λ_ _ _ _ _ _ _ q=>ge_int q
theorem Zt:K3 X (O2 .Is) (λx y H Q=>y=.non/\Q (.bl (decide (x=.non))) H):=by
 intro amD s U H x y v u Q I rx ry h;obtain⟨rfl,q⟩:=h;cases ry;refine is_none_gen<|u0 I q ?_
 cases x<;>first
  | (obtain⟨t,rfl⟩:=rx;rfl)
theorem akT:K3 X (O2 .IsNot) (λx y H Q=>y=.non/\Q (.bl (!decide (x=.non))) H):=by
 intro amD s U H x y v u Q I rx ry h;obtain⟨rfl,q⟩:=h;cases ry;refine isnot_none_gen<|u0 I q ?_
 cases x<;>first
  | (obtain⟨t,rfl⟩:=rx;rfl)
theorem K3.or {f:JI->JI->Sem JI}{r r':R2}(h:K3 X f r)(h':K3 X f r'):K3 X f (λx y H Q=>r x y H Q\/r' x y H Q):=by
 intro amD s U H x y v u Q I rx ry q;rcases q with q|q
 exact h amD s U H x y v u Q I rx ry q;exact h' amD s U H x y v u Q I rx ry q
theorem Uq (b:Expr){op:CmpOp}(h:op≠.In:=by decide)(h2:op≠.NotIn:=by decide):W8 op b=false:=by
 have e1:(op==CmpOp.In)=false:=by cases op<;>first|rfl|exact absurd rfl h
 have e2:(op==CmpOp.NotIn)=false:=by cases op<;>first|rfl|exact absurd rfl h2
 cases b<;>simp[W8,e1,e2]
theorem ajh {op:CmpOp}{r:R2}(ho:K3 X (O2 op) r)(ha:PE X a ta)(hb:PE X b tb)(hm:W8 op b=false):PE X (.Compare a [op] [b] pos) (tOp r ta tb):=by
 intro amD s U H Q I h;exact wpAny_Compare1 (aeT ha hb I h λv u s2 x y H2 I2 rx ry q=>ho amD s2 U H2 x y v u Q I2 rx ry q) hm
def ad6 (t:TE):TT:=λU H Q=>t U H λx H'=>∃k,x=.bl k/\Q k H'
theorem akX {op:CmpOp}{r:R2}(ho:K3 X (O2 op) r)(ha:PE X a ta)(hb:PE X b tb)(hm:W8 op b=false):PT X (.Compare a [op] [b] pos) (ad6 (tOp r ta tb)):=by
 intro amD s U H Q I h;refine wpAny_isTrue_Compare1 (GJ (ha amD s U H _ I h) λv s1 ⟨x,H1,I1,r1,q1⟩=>GJ (hb amD s1 U H1 _ I1 q1) λu s2 ⟨y,H2,I2,r2,q2⟩=>
  GJ (ho amD s2 U H2 x y v u _ I2 r1 r2 q2) λc s3 ⟨z,H3,I3,r3,k,e,q3⟩=>?_) hm
 subst e;cases r3;exact Xl ⟨H3,I3,q3⟩
def afN (K:Bl)(x:V)(H:Hp)(k:Bool):Prop:=
 match x with
 | .non=>k=false
 | .bl b=>k=b
 | .int i=>k=(i != 0)
 | .str y=>y.length<=G6/\k=((y.length:Int) != 0)
 | .byt y=>y.size<=G6/\k=((y.size:Int) != 0)
 | .ref p=>(∃xs,JH K H p xs/\k=!xs.isEmpty)\/(∃xs,Hi K H p xs/\k=!xs.isEmpty)\/∃kvs,H p=Dn (.dK kvs)/\k=!kvs.isEmpty
 | _=>False
theorem zax {kvs:List (κ×V)}{vs:List (κ×JI)}(r:KV kvs vs):(!vs.isEmpty)=!kvs.isEmpty:=by
 cases r<;>rfl
theorem j9 {its:List JI}(r:Ba xs its):(!its.toArray.isEmpty)=!xs.isEmpty:=by
 cases r<;>simp
theorem yJ:(G6:Nat)<2^63:=by decide
theorem aaY:agA X (λx H Q=>∃k,afN X.K x H k/\Q k H):=by
 intro amD s U H x v Q I rx h;obtain⟨k,e,q⟩:=h;have hs:G6=16777216:=sizeLine_eq;cases x with
 | non=>
  cases rx;have e':k=false:=e;subst e';exact truthy_none ⟨H,I,q⟩
 | bl b=>
  cases rx;have e':k=b:=e;subst e';exact Xl ⟨H,I,q⟩
 | int i=>
  obtain⟨t,rfl⟩:=rx;have e':k=(i != 0):=e;subst e';exact PySem.P.truthy_int ⟨H,I,q⟩
 | str y=>
  obtain⟨t,rfl⟩:=rx;obtain⟨hy,e'⟩:y.length<=G6/\k=((y.length:Int) != 0):=e;subst e';exact PySem.P.truthy_str (by lia) ⟨H,I.tok _,q⟩
 | byt y=>
  obtain⟨t,rfl⟩:=rx;obtain⟨hy,e'⟩:y.size<=G6/\k=((y.size:Int) != 0):=e;subst e';exact PySem.W.truthy_bytes (by lia) ⟨H,I.tok _,q⟩
 | ref p=>
  cases rx;have e':(∃xs,JH X.K H p xs/\k=!xs.isEmpty)\/(∃xs,Hi X.K H p xs/\k=!xs.isEmpty)\/∃kvs,H p=Dn (.dK kvs)/\k=!kvs.isEmpty:=e
  rcases e' with⟨xs,hx,e'⟩|⟨xs,hx,e'⟩|⟨kvs,hx,e'⟩
  subst e';obtain⟨its,r,pl,hz⟩:=I.list hx;have amE:=r.length;exact wpAny_truthy_list pl.isList (by simp only[Jr];lia) ⟨H,I.tok _,by rw[j9 r];exact q⟩;subst e';obtain⟨its,r,pl,hz⟩:=I.tuple hx;have amE:=r.length;exact truthy_tuple pl (by simp only[Jr];lia) ⟨H,I.tok _,by rw[j9 r];exact q⟩;subst e';obtain⟨hz,hS,vs,r,m⟩:kvs.length<=G6/\(p==PX)=false/\∃vs,KV kvs vs/\s.heap.DictOf (bL X.prog X.w) p vs:=I.hok p _ hx
  have amE:kvs.length=vs.length:=Vx r;exact wpAny_truthy_dict hS m (by lia) ⟨H,I.tok _,by rw[zax r];exact q⟩
 | _=>exact(show False from e).elim
theorem Ed (ha:PE X a ta)(he:∀whole,isTrue a X.env whole=(do let v <-whole;standAt a.pos;Rx [v] (truthy v))):
  PT X a (λU H Q=>ta U H λx H'=>∃k,afN X.K x H' k/\Q k H'):=by
 intro amD s U H Q I h;exact isTrue_plain (GJ (ha amD s U H _ I h) λv s1 ⟨x,H1,I1,r1,q1⟩=>aaY amD s1 U H1 x v Q I1 r1 q1)<|he _
theorem vals1 {x:V}(r:Ba [x] us):∃u,us=[u]/\RelV x u:=by
 cases r with
 | cons r1 r2=>cases r2;exact⟨_,rfl,r1⟩
theorem vals2 {x y:V}(r:Ba [x,y] us):∃u w',us=[u,w']/\RelV x u/\RelV y w':=by
 cases r with
 | cons r1 r2=>
  cases r2 with
  | cons r3 r4=>cases r4;exact⟨_,_,rfl,r1,r3⟩
theorem aii:gq X (.builtin "abs") (λxs H Q=>∃i,xs=[.int i]/\Q (.int (if i<0 then -i else i)) H):=by
 intro amD s U H xs us Q I r h;obtain⟨i,rfl,q⟩:=h;obtain⟨u,rfl,t,rfl⟩:=vals1 r;exact call_abs_int λu tk=>⟨.int _,H,I.tok _,⟨_,rfl⟩,q⟩
theorem aic (hc:X.calm=true):gq X (.builtin "max") (λxs H Q=>∃i j,xs=[.int i,.int j]/\Q (.int (if j>i then j else i)) H):=by
 intro amD s U H xs us Q I r h;obtain⟨i,j,rfl,q⟩:=h;obtain⟨u,w',rfl,⟨t,rfl⟩,t',rfl⟩:=vals2 r;refine max_two_ints (I.ok.hd hc) λh' tk k=>⟨_,H,I.kept k,?_,q⟩;by_cases hj:j>i
 rw[if_pos hj,if_pos hj];exact⟨_,rfl⟩;rw[if_neg hj,if_neg hj];exact⟨_,rfl⟩
theorem zbb:gq X (.type "int") (λxs H Q=>(∃i,xs=[.int i]/\Q (.int i) H)\/∃k,xs=[.bl k]/\Q (.int (if k then 1 else 0)) H):=by
 intro amD s U H xs us Q I r h;rcases h with⟨i,rfl,q⟩|⟨k,rfl,q⟩
 obtain⟨u,rfl,t,rfl⟩:=vals1 r;exact call_int_int ⟨.int i,H,I,⟨_,rfl⟩,q⟩;obtain⟨u,rfl,r1⟩:=vals1 r;cases r1;exact call_int_bool ⟨.int _,H,I.tok _,⟨_,rfl⟩,q⟩
end
structure ae3 (h:Heap) (x dx C:Addr) (mA:Str->Option JI):Prop where
 obj:h.get? x=Dn (PySem.W.instObj C dx)
 ns:h.Ns1 dx mA
 ne:dx≠x
variable {dx:Addr}{mA:Str->Option JI}
theorem ahB (n:h.Ns1 dx mA):∃od,h.get? dx=Dn od/\∀name,PySem.W.lookIn name od=Dn (mA name):=by
 obtain⟨o,es,ep,ho,hd,hk,_,hm⟩:=n;refine⟨o,ho,λname=>?_⟩;have e:=hm name;unfold nsFind findBy at e;rw[<-Array.find?_toList]at e;unfold PySem.W.lookIn;rw[hd];dsimp only;split
 rename_i y q;grind
 rename_i q;rw[q]at e;have a:es.toList.any (·.refKey)=false:=by
  rw[List.any_eq_false];intro y hy;obtain⟨z,t,hkey⟩:=hk y (Array.mem_toList_iff.mp hy);simp[DictEntry.refKey,hkey]
 grind
variable {C:Addr}
theorem ae3.look {x:Addr}(I:ae3 h x dx C mA):∃od,PySem.W.InstAt h x (PySem.W.instObj C dx) C (Dn od)/\∀name,PySem.W.lookIn name od=Dn (mA name):=
 let⟨od,ho,hl⟩:=ahB I.ns
 ⟨od,⟨I.obj,rfl,rfl,ho⟩,hl⟩
section
variable {s:kI}{x f:Addr}{name:Str}{v:JI}
theorem get_map {expr:Bool}(X:K.In s.heap)(I:ae3 s.heap x dx C mA)(hg:PySem.W.plainGet K C name=true)(hh:PySem.W.hasDictIn K C=true)
  (ha:Qq K (.ref C) name=Dn Go) (hv:mA name=Dn v) (hv':PySem.W.handedIn v=true) (h:Q v {s with toks:=s.toks+1}) :
  Bs (CJ prog w) A (getAttr (.ref x) name expr) Q E s:=by
 obtain⟨od,J,hl⟩:=I.look;exact PySem.W.get_value X J (PySem.W.plainGet_of hg).1 (PySem.W.findObj_own hh ha rfl<|by rw[hl,hv]) hv' h
end
variable {f:Addr}{name:Str}
theorem Om.some_of {v:V}{o:Option JI}(r:Om (Dn v) o):∃u,o=Dn u/\RelV v u:=by
 cases o with
 | none=>cases r
 | some u=>exact⟨u,rfl,r⟩
section
variable {fs fs':List (Str×V)}
end
structure Cls (K:Bl) (C:Addr):Prop where
 pg:PySem.W.plainGet K C Str.empty=true
 hd:PySem.W.hasDictIn K C=true
 po:PySem.W.plainOver K C=true
 sa:Qq K (.ref C) "__setattr__" = Dn (Dn (.builtin "object.__setattr__"))
structure Con (K:Bl) (C:Addr) (f:Str) (v:V) (u:JI):Prop where
 at_:Qq K (.ref C) f=Dn (Dn u)
 rel:RelV v u
 get:PySem.W.specialIn K u "__get__" = Dn Go
 cp:PySem.W.copiedNames.contains f=false
structure Meth (K:Bl) (C:Addr) (m:Str) (f:Addr):Prop where
 at_:Qq K (.ref C) m=Dn (Dn (.ref f))
 fn:PySem.W.isFn K (.ref f)=true
 kp:RX K (.ref f)=true
section
variable {s:kI}{fs:List (Str×V)}{f:Str}{v:V}
end
section
variable {value:Expr}{f:Str}{tpos:Pos}{tv:TE}
end
section
variable {s:kI}{c:JI}{b:Bool}
inductive Oo (K:Bl) (H:Hp):V->JI->Prop where
 | non:Oo K H .non (.type "NoneType")
 | bl (x:Bool):Oo K H (.bl x) (.type "bool")
 | int (i:Int):Oo K H (.int i) (.type "int")
 | str (x:Str):Oo K H (.str x) (.type "str")
 | flt (x:UInt64):Oo K H (.flt x) (.type "float")
 | lst {a:Addr}{xs:List V}(e:H a=Dn (.lst xs)):Oo K H (.ref a) (.type "list")
 | frz {a:Addr}{o:Obj}{xs:List V}(e:H a=Dn (.frz o (.lst xs))):Oo K H (.ref a) (.type "list")
 | tup {a:Addr}{xs:List V}(e:H a=Dn (.tup xs)):Oo K H (.ref a) (.type "tuple")
 | dK {a:Addr}{kvs:List (Key×V)}(e:H a=Dn (.dK kvs)):Oo K H (.ref a) (.type "dict")
 | dT {a:Addr}{kvs:List (List Key×V)}(e:H a=Dn (.dT kvs)):Oo K H (.ref a) (.type "dict")
 | ins {a C dx:Addr}{fs:List (Str×V)}(e:H a=Dn (.ins C dx fs)) (cl:Cls K C) (ha:Qq K (.ref C) "__class__" = Dn (Dn (.builtin "object.__class__")))
   (hn:PySem.W.specialIn K (.builtin "object.__class__") "__get__" = Dn (Dn (.builtin "getset_descriptor.__get__"))) (htk:PySem.W.takesIn K (.builtin "object.__class__")=Dn true)
   (hm:PySem.W.mroIn K C (.type "object")=Dn true):Oo K H (.ref a) (.ref C)
end
structure o7 (k:Nat) (A:G4):Prop where
 hd:9<=k->A.handled=Go
 dp:A.depth+3*k+5<recursionLimit
 un:A.units+16*k+200<Ko
theorem o7.mono {k:Nat}(r:o7 k A)(h:j<=k):o7 j A:=⟨λz=>r.hd (HN z h),by have:=r.dp;lia,by have:=r.un;lia⟩
theorem o7.deeper {k:Nat}{A:G4}(r:o7 (k+1) A)(env:Env):o7 k (A.deeper env):=
 ⟨λz=>r.hd (Nat.le_succ_of_le z),by have:=r.dp;show _+1+3*k+5<_;lia,by have:=r.un;show _+3+16*k+200<_;lia⟩
theorem o7.calm {k:Nat}(r:o7 k A)(h:9<=k):A.handled.isNone=true:=by rw[r.hd h];rfl
theorem o7.depth {k:Nat}{A:G4}(r:o7 k A):A.depth<recursionLimit:=by have:=r.dp;lia
theorem o7.units {k:Nat}{A:G4}(r:o7 k A):A.units+64<Ko:=by have:=r.un;lia
def af8:TA:=λ_ H Q=>Q [] H
def adS (ta:TE)(tr:TA):TA:=λU H Q=>ta U H λx H1=>tr U H1 λxs H2=>Q (x::xs) H2
section
variable {te:TE}{t:TA}
theorem abw:PA X [] af8:=λ_ _ _ _ H Q I h=>Calls.spliced_nil ⟨[],H,I,.nil,h⟩
theorem akQ (ha:PE X e te)(hr:PA X es t)(hs:Ca (e::es) X.env=(false,eval e X.env)::Ca es X.env:=by rfl):PA X (e::es) (adS te t):=by
 intro pos amD s U H Q I h;exact hs ▸ Calls.spliced_cons (GJ (ha amD s U H _ I h) λu s1 ⟨x,H1,I1,r1,q1⟩=>(GJ (hr pos amD s1 U H1 _ I1 q1) λus s2 ⟨xs,H2,I2,r2,q2⟩=>⟨x::xs,H2,I2,.cons r1 r2,q2⟩))
def agi (t:TA):TE:=λU H Q=>t U H λxs H1=>xs.length<=G6/\∀p,H1 p=Go->Q (.ref p) (G7 H1 p (.tup xs))
def afZ (t:TA):TE:=λU H Q=>t U H λxs H1=>xs.length<=G6/\∀p,H1 p=Go->Q (.ref p) (G7 H1 p (.lst xs))
theorem aas {x1}(h:PA X es t):PE X (.Tuple es x1 pos) (agi t):=by
 intro amD s U H Q I hq;refine wpAny_Tuple_spliced<|GJ (h pos amD s U H _ I hq) λus s1 ⟨xs,H1,I1,r,z,q⟩=>⟨r.length ▸ z,(⟨.ref _,G7 H1 _ _,I1.laid (λb u e=>GP _ e) (GZ _) ?_,rfl,q _<|I1.hok.fresh<|GZ _⟩)⟩
 exact⟨z,us,r,_,JB _ rfl,rfl,⟨_,rfl⟩,rfl⟩
theorem Us (h:PA X es t):PE X (.List es pos) (afZ t):=by
 intro amD s U H Q I hq;refine wpAny_List_spliced<|GJ (h pos amD s U H _ I hq) λus s1 ⟨xs,H1,I1,r,z,q⟩=>⟨r.length ▸ z,.ref _,G7 H1 _ _,I1.laid (λb u e=>GP _ e) (GZ _) ?_,rfl,q _<|I1.hok.fresh<|GZ _⟩
 exact⟨z,us,0,r,JB _ rfl⟩
end
variable {t:TA}
abbrev Sp:=List V->Hp->VK->XK->Prop
abbrev V5:=Option JI->List Env->Hp->kI->XK->JI->kI->Prop
structure adW (P:Ci) (w:CZ) (K:Bl) (mg:Str->Option JI) (base:Heap) (A:G4) (outer:List Env) (s:kI) (H:Hp):Prop where
 frames:A.frames=Dn outer
 mod:Mod K mg base
 bs:∀b o,base.get? b=Dn o->s.heap.get? b=Dn o/\H b=Go
 bsz:base.objs.size<=s.heap.objs.size
 funs:s.heap.FunFrames base outer
 frf:∀b∈frs outer,H b=Go
 hok:Kp P w H s.heap
 bare:Rv s.gens
 qt:Quiet A H
def CE (outer:List Env)(P:Ci)(w:CZ)(H:Hp)(s:kI)(Q:VK)(u:JI)(s':kI):Prop:=
 ∃v H',s'.os=s.os/\Rv s'.gens/\Un (frs outer) [] H H' s.heap s'.heap/\Kp P w H' s'.heap/\RelV v u/\Q v H'
def zam (CX:V5)(hd:Option JI)(outer:List Env)(P:Ci)(w:CZ)(H:Hp)(s:kI)(Q:VK)(E:XK)(r:Q9)(s':kI):Prop:=
 match r with
 | .ok (.ret u)=>CE outer P w H s Q u s'
 | .ok _=>False
 | .error e=>CX hd outer H s E e s'
structure sE (P:Ci) (w:CZ) (K:Bl) (mg:Str->Option JI) (base:Heap) (CX:V5) (k:Nat) (f:Addr) (fd:Oh) (ps:List Str) (sp:Sp):Prop where
 len:∀vs H Q E,sp vs H Q E->vs.length=ps.length
 run:∀(A:G4) (outer:List Env) (s:kI) (H:Hp) (args:Args) (us:List JI) (vs:List V) (Q:VK) (E:XK),o7 k A->adW P w K mg base A outer s H->BindsTo s fd args (ps.zip us)->Ba vs us->sp vs H Q E ->
  PL (CJ P w) A (.call (.ref f) args) (zam CX A.handled outer P w H s Q E) s
variable {CX:V5}{base:Heap}{sp:Sp}{mg:Str->Option JI}{fd:Oh}
theorem sE.mono {P:Ci}{w:CZ}{K:Bl}{mg:Str->Option JI}{base:Heap}{CX:V5}{j k:Nat}{f:Addr}{fd:Oh}{ps:List Str}{sp:Sp}(F:sE P w K mg base CX j f fd ps sp)(h:j<=k) :
  sE P w K mg base CX k f fd ps sp:=⟨F.len,λA outer s H args us vs Q E hr=>F.run A outer s H args us vs Q E (hr.mono h)⟩
theorem sE.imp {k:Nat}{ps:List Str}{sp':Sp}(F:sE P w K mg base CX k f fd ps sp)
  (h:∀vs H Q E,sp' vs H Q E->sp vs H Q E):sE P w K mg base CX k f fd ps sp':=
 ⟨λvs H Q E q=>F.len vs H Q E (h _ _ _ _ q),λA outer s H args us vs Q E hr he hb hv hs=>F.run A outer s H args us vs Q E hr he hb hv (h _ _ _ _ hs)⟩
section
variable {s:kI}
theorem BJ.env0 (I:BJ X amD U H s):adW X.prog X.w X.K X.mg X.base X.A X.stack s H:=
 ⟨I.ok.frames,I.ok.mod,I.bs,HN I.ok.bsz I.sz,I.stack,I.stkFree,I.hok,I.bare,I.qt0⟩
theorem BJ.after {Q:VK}(I:BJ X amD U H s)(h:CE X.stack X.prog X.w H s Q u s'):EP X amD U Q u s':=by
 obtain⟨v,H',os,bare,un,hok,r,q⟩:=h;obtain⟨hh,g,d,t,os'⟩:=s';obtain rfl:os'=s.os:=os;exact⟨v,H',I.call un hok bare nofun,r,q⟩
end
def aaB (sp:Sp)(dvs:List V)(E:XK)(t:TA):TE:=λU H Q=>t U H λvs H1=>sp (vs++dvs) H1 Q E
def Binds (K:Bl)(fd:Oh)(ps:List Str)(ds:List JI):Prop:=
 ∀(s:kI) (us:List JI),K.In s.heap->(us++ds).length=ps.length->BindsTo s fd ⟨us,[]⟩ (ps.zip (us++ds))
theorem Binds.all {ps:List Str}(h:∀us:List JI,us.length=ps.length->bindArgs fd ⟨us,[]⟩=pure (ps.zip us)):Binds K fd ps []:=λs us _ hl=>by
 rw[List.append_nil]at hl|-
 exact .of_eq<|h us hl
def Passes (CX:V5)(X:Cx)(E:XK):Prop:=∀(amD:List (Addr×Obj)) (U:St) (H:Hp) (s:kI) (e:JI) (s':kI),BJ X amD U H s->CX X.A.handled X.stack H s E e s'->X.xe e s'
section
variable {k:Nat}{ps:List Str}{dvs:List V}{ds:List JI}{E:XK}{x m:Str}{p apos:Pos}
theorem ac2 {s:kI}{Q:VK}{vs:List V}(F:sE X.prog X.w X.K X.mg X.base CX k f fd ps sp)(hr:o7 k X.A)(hb:Binds X.K fd ps ds)(hd:Ba dvs ds)(hx:Passes CX X E)
  (I:BJ X amD U H s) (r:Ba vs us) (h:sp (vs++dvs) H Q E):Bs (CJ X.prog X.w) X.A (call (.ref f) us) (EP X amD U Q) X.xe s:=by
 have r2:=r.append hd;refine wpAny_call<|codeAny_mono (F.run _ _ s H ⟨us,[]⟩ _ _ Q E hr I.env0 (hb s us I.kIn<|r2.length ▸ F.len _ _ _ _ h) r2 h) λr s' hq=>?_
 cases r with
 | error e=>exact hx amD U H s e s' I hq
 | ok fl=>
  cases fl with
  | ret u=>exact I.after hq
  | next|brk|cont=>exact False.elim hq
theorem zcb (F:sE X.prog X.w X.K X.mg X.base CX k f fd ps sp)(hr:o7 k X.A)(hg:Gl X x)(hm:X.mg x=Dn (.ref f))(hk:RX X.K (.ref f)=true)(hb:Binds X.K fd ps ds)(hd:Ba dvs ds)(hx:Passes CX X E)
  (ha:PA X (e::es) t) (hdb:(x==("__debug__" : Str))=false:=by decide) (he:Ca (e::es) X.env=(false,eval e X.env)::Ca es X.env:=by rfl) (hpl:(J1 pos (Ca es X.env)).any (·.1)=false:=by rfl) :
  PE X (.Call (.Name x p) (e::es) [] pos) (aaB sp dvs E t):=by
 intro amD s U H Q I h;exact Wy<|Og I hg hm (PySem.W.callWith_K I.ok.mod.kin hk (GJ (ha pos amD s U H _ I h) λus s1 ⟨vs,H1,I1,r,q⟩=>⟨I1.kIn,(ac2 F hr hb hd hx I1 r q)⟩) he hpl) hdb
structure zac (K:Bl) (C f:Addr):Prop where
 makes:PySem.W.makesIn K C=true
 init:Qq K (.ref C) "__init__" = Dn (Dn (.ref f))
 fn:PySem.W.isFn K (.ref f)=true
 kp:RX K (.ref C)=true
end
variable {apos:Pos}
section
variable {k:Nat}{ps ks:List Str}{E:XK}{x m:Str}{p kpos:Pos}{kws:List MH}{te:TE}{tk:TA}{nm:Option Str}
structure afP (K:Bl) (fd:Oh) (ps ks:List Str) (g:List JI->List JI->List JI) (gV:List V->List V->List V):Prop where
 to:∀(s:kI) (us ws:List JI),K.In s.heap->(g us ws).length=ps.length->BindsTo s fd ⟨us,ks.zip ws⟩ (ps.zip (g us ws))
 rel:∀{vs:List V}{us:List JI}{zs:List V}{ws:List JI},Ba vs us->Ba zs ws->Ba (gV vs zs) (g us ws)
variable {g:List JI->List JI->List JI}{gV:List V->List V->List V}
end
structure pI (N P:List Str) (sc:Scope):Prop where
 kind:sc.kind=.function
 co:sc.isCoroutine=false
 gen:sc.isGenerator=false
 nd:N.Nodup
 pre:N.take P.length=P
 par:∀x∈P,sc.names.lookup x=Dn .local\/sc.names.lookup x=Dn .cell
 nofree:∀y∈sc.names,y.2≠.free
theorem zu {QB:Str->Option Od}{x:Str}:∀{binds:List (Str×JI)}{m:Str->Option JI},(∀v,(x,v)∉binds)->bindL QB binds m x=m x
 | [],_,_=>rfl
 | (n,v)::r,m,h=>by
  unfold bindL;rw[zu λw hw=>h w (OD _ hw)];split
  grind
  rfl
theorem Ah {QB:Str->Option Od}{x:Str}:∀{binds:List (Str×JI)}{m:Str->Option JI},(∀v,(x,v)∉binds)->bindC QB binds m x=m x
 | [],_,_=>rfl
 | (n,v)::r,m,h=>by
  unfold bindC;rw[Ah λw hw=>h w (OD _ hw)];split
  rfl;grind
theorem yu {QB:Str->Option Od}{x:Str}{v:JI}:∀{P:List Str}{vs:List JI}{i:Nat}{m:Str->Option JI},P.Nodup->P[i]?=Dn x->vs[i]?=Dn v->QB x=Dn .local ->
  bindL QB (P.zip vs) m x=Dn v
 | p::P,w::vs,0,m,nd,h1,h2,hk=>by
  simp at h1 h2;subst h1;subst h2;show bindL QB ((p,w)::P.zip vs) m p=_;unfold bindL;rw[zu λv hv=>(RZ.mp nd).1 (List.of_mem_zip hv).1,if_pos hk];simp
 | p::P,w::vs,i+1,m,nd,h1,h2,hk=>by
  unfold bindL;exact yu (RZ.mp nd).2 (by simpa using h1) (by simpa using h2) hk
theorem Aa {QB:Str->Option Od}{x:Str}{v:JI}:∀{P:List Str}{vs:List JI}{i:Nat}{m:Str->Option JI},P.Nodup->P[i]?=Dn x->vs[i]?=Dn v->QB x≠Dn .local ->
  bindC QB (P.zip vs) m x=Dn v
 | p::P,w::vs,0,m,nd,h1,h2,hk=>by
  simp at h1 h2;subst h1;subst h2;show bindC QB ((p,w)::P.zip vs) m p=_;unfold bindC;rw[Ah λv hv=>(RZ.mp nd).1 (List.of_mem_zip hv).1,if_neg hk];simp
 | p::P,w::vs,i+1,m,nd,h1,h2,hk=>by
  unfold bindC;exact Aa (RZ.mp nd).2 (by simpa using h1) (by simpa using h2) hk
def start (N:List Str)(vs:List V):St:=vs.map Dn++Iw (N.length-vs.length) Go
def TF (CX:V5)(P:Ci)(w:CZ)(K:Bl)(mg:Str->Option JI)(base:Heap)(N:List Str)(qual:Str)(scope:Scope)(f:Addr)(cd:JI)(A:G4)(outer:List Env)(s:kI)(H:Hp)(E:XK):Cx where
 prog:=P
 w:=w
 K:=K
 mg:=mg
 base:=base
 A:=A.deeper (envOfC qual scope s.heap.objs.size f cd)
 N:=N
 s₀:=s
 H₀:=H
 env:=envOfC qual scope s.heap.objs.size f cd
 outer:=outer
 stack:=envOfC qual scope s.heap.objs.size f cd::outer
 ex:=[]
 calm:=A.handled.isNone
 fn:=λ_=>true
 pn:=[]
 xe:=λe s'=>Bs (CJ P w) (A.deeper (envOfC qual scope s.heap.objs.size f cd)) (leaving (envOfC qual scope s.heap.objs.size f cd) e) (λ_ s''=>CX A.handled outer H s E e s'') (λe' s''=>CX A.handled outer H s E e' s'') s'
theorem DW {sc:Scope}{x:Str}(h:sc.names.lookup x=Dn .cell):∃c,(Li n sc.names []).lookup x=Dn c:=Option.isSome_iff_exists.mp (PySem.W.cellsFrom_some _ n [] (.inl h))
variable {outer:List Env}{scope:Scope}{qual:Str}
theorem ahf {ps:List Str}{cd:JI}{s s1:kI}{E:XK}{vs:List V}
  (S:pI N ps scope) (e0:adW P w K mg base A outer s H) (hl:vs.length=ps.length) (r:Ba vs us)
  (x:InCallC s s.heap.objs.size (bindL (envOfC qual scope s.heap.objs.size f cd).kindOf (ps.zip us) λ_=>Go) (Li (s.heap.objs.size+1) scope.names []) (bindC (envOfC qual scope s.heap.objs.size f cd).kindOf (ps.zip us) λ_=>Go) s1) :
  BJ (TF CX P w K mg base N qual scope f cd A outer s H E) [] (start N vs) H s1:=by
 have hpl:=by have:=congrArg Wu S.pre;rw[Qn]at this;lia
 obtain⟨h1,tk,rfl,hk⟩:=x.done;have noA:∀b:Addr,b∉(TF CX P w K mg base N qual scope f cd A outer s H E).ex:=λb z=>absurd (show b∈([]:List Addr)from z) (by simp)
 refine⟨⟨e0.mod,S.kind,rfl,rfl,GZ _,λy z c h1 h2=>?_,λy hy=>?_,λy c _ h=>?_,Option.isNone_iff_eq_none.mp,e0.qt,Around.frames_deeper e0.frames,.inr ⟨rfl,rfl⟩,λb z=>absurd z (noA b),e0.bs,e0.bsz,λb _ _=>noA b,λb z=>absurd z (noA b),e0.funs,e0.frf⟩,
  rfl,e0.bare,Un.kept hk,⟨_,x.toInCall.ns,λi y v h1 h2 h3=>?_⟩,λy c h=>⟨_,x.cell y c h⟩,e0.hok.fresh (GZ _),λy c h=>?_,λp hp=>absurd (show p∈([]:List _)from hp) (by simp),e0.hok.kept hk,?_⟩
 exact name_of_addr x.apart (VH h1)<|VH h2
 rcases hy with hy|hy
 exact DW hy;exact absurd rfl<|S.nofree _<|VH hy
 exact Vu<|x.above y c<|VH h
 ·have hi:i<vs.length:=by
   unfold start at h2;by_cases hi:i<vs.length
   exact hi;rw[Vd (by simpa using hi),Yd]at h2;split at h2<;>cases h2
  have ha:vs[i]?=Dn v:=by
   unfold start at h2;rw[Vz (by simpa using hi),HI]at h2;cases e:vs[i]? with
   | none=>rw[e]at h2;cases h2
   | some a=>rw[e]at h2;cases h2;rfl
  obtain⟨u,hu,rv⟩:=r.get ha;have hp:ps[i]?=Dn y:=by
   rw[<-S.pre,List.getElem?_take_of_lt (by lia)];exact h1
  have ndP:=S.pre ▸ S.nd.sublist (List.take_sublist _ _);refine⟨u,rv,?_⟩;rcases S.par y (Mz hp)with k|k
  exact .inl ⟨k,yu ndP hp hu k⟩;obtain⟨c,e⟩:=DW k;refine .inr ⟨.inl k,c,e,?_⟩;have q:=x.cell y c e;rw[Aa ndP hp hu (by show scope.names.lookup y≠_;rw[k];decide)]at q;exact q
 exact e0.hok.fresh<|Vu<|x.above y c<|VH h
 unfold start;show _=N.length;rw[Pa,CV,Wf];lia
variable {od:Option Addr}
theorem adv {k:Nat}{params:Arguments}{dV kV doc pm cdv ct oc:JI}{an:Option Addr}
  {osl:Array (Option JI)}{N ps:List Str}{sp:Sp}(lk:K.lookup f=Dn ⟨oc,od,.func (WQ name qual params body scope dV kV doc pm an cdv ct),osl⟩) (hcd:YK K cdv qual=true) (S:pI N ps scope)
  (len:∀vs H Q E,sp vs H Q E->vs.length=ps.length)
  (hbody:∀(A:G4) (outer:List Env) (s:kI) (H:Hp) (vs:List V) (Q:VK) (E:XK),o7 k (A.deeper (envOfC qual scope s.heap.objs.size f cdv))->sp vs H Q E ->
   ∃t,Pg (TF CX P w K mg base N qual scope f cdv A outer s H E) body t/\t {nx:=λ_ H'=>Q .non H',rt:=Q} (start N vs) H) :
  sE P w K mg base CX (k+1) f (WQ name qual params body scope dV kV doc pm an cdv ct) ps sp:=by
 refine⟨len,λA outer s H args us vs Q E hr e0 hb r hsp=>?_⟩;have KX:=e0.mod.kin.keeps λb o e=>(e0.bs b o e).1
 have hkind:∀y∈ps.zip us,scope.names.lookup y.1=Dn .local\/(scope.names.lookup y.1=Dn .cell/\((Li (s.heap.objs.size+1) _ []).lookup y.1).isSome=true):=λ⟨n,v⟩ hy=>by
  rcases S.par n (List.of_mem_zip hy).1 with q|q
  exact .inl q;exact .inr ⟨q,PySem.W.cellsFrom_some _ _ _<|.inl q⟩
 refine codeAny_call_function hr.depth (KX _ _ lk) rfl S.co S.gen rfl (PySem.W.codeRec_of KX hcd)<|hb _ _ _ _<|wpAny_newFunctionEnv_cells S.kind hkind λenv he s1 x=>?_
 subst he;refine⟨(e0.mod.nolimit.keeps λb o e=>(e0.bs b o e).1).keeps x.toInCall.keep,codeAny_func ?_⟩;obtain⟨t,ht,hq⟩:=hbody A outer s H vs Q E (hr.deeper _) hsp;refine Mq (ht [] s1 _ H _ (ahf S e0 (len _ _ _ _ hsp) r x) hq) (λfl s' hs=>?_) λe s' hs=>hs;have fin:∀{U':St}{H':Hp}{v:V}{u:JI},BJ (TF CX P w K mg base N qual scope f cdv A outer s H E) [] U' H' s'->RelV v u->Q v H'->CE outer P w H s Q u s':=
  λ{U' H' v u} J rv q=>⟨v,H',J.os,J.bare,J.base,J.hok,rv,q⟩
 cases fl with
 | ret u=>
  obtain⟨v,U',H',J,rv,q⟩:=hs;exact fin J rv q
 | next=>
  obtain⟨U',H',J,q⟩:=hs;exact fin (v:=V.non) J rfl q
 | brk|cont=>
  obtain⟨_,_,_,q⟩:=hs;exact False.elim q
section
variable {x:Str}{p:Pos}{id T:String}{r:List V->Hp->VK->Prop}
def tCB (r:List V->Hp->VK->Prop)(t:TA):TE:=λU H Q=>t U H λvs H1=>r vs H1 Q
theorem aiE (hc:gq X (.builtin id) r)(hg:Gl X x)(hm:X.mg x=Go)(hv:VF x=Dn (.builtin id))(ha:PA X (e::es) t)(hn:x ≠ "__name__":=by decide)(hdb:(x==("__debug__" : Str))=false:=by decide)
  (he:Ca (e::es) X.env=(false,eval e X.env)::Ca es X.env:=by rfl) (hpl:(J1 pos (Ca es X.env)).any (·.1)=false:=by rfl):PE X (.Call (.Name x p) (e::es) [] pos) (tCB r t):=by
 intro amD s U H Q I h;exact Wy<|nU I hg hm hv (PyProof.Rows.callWith_builtin1 (GJ (ha pos amD s U H _ I h) λus s1 ⟨vs,H1,I1,r1,q1⟩=>hc amD s1 U H1 vs us Q I1 r1 q1) he hpl) hn hdb
theorem agY (hc:gq X (.type T) r)(hg:Gl X x)(hm:X.mg x=Go)(hv:VF x=Dn (.type T))(ha:PA X (e::es) t)(hn:x ≠ "__name__":=by decide)(hdb:(x==("__debug__" : Str))=false:=by decide)
  (he:Ca (e::es) X.env=(false,eval e X.env)::Ca es X.env:=by rfl) (hpl:(J1 pos (Ca es X.env)).any (·.1)=false:=by rfl):PE X (.Call (.Name x p) (e::es) [] pos) (tCB r t):=by
 intro amD s U H Q I h;exact Wy<|nU I hg hm hv (X7 (GJ (ha pos amD s U H _ I h) λus s1 ⟨vs,H1,I1,r1,q1⟩=>hc amD s1 U H1 vs us Q I1 r1 q1) he hpl) hn hdb
end
end L2
namespace HT
open PySem PyProof.Rows
section
open PySem.SeqAt
open PySem.AutoSeq1 (wpAny_loadPart')
open PySem.MeetsSeq PySem.MeetsSeq2 PySem.MeetsSeq3
end
section
variable {prog:Ci}{w:CZ}{A:G4}{E:JI->kI->Prop}{s:kI}
theorem Xk {t b:Addr}{vs ws:List JI}{Q:JI->kI->Prop}(ht:IsTup s.heap t vs.toArray)(hb:IsTup s.heap b ws.toArray)(hv:vs≠[])
  (h1:ws=[]->Q (.ref t) s) (h2:ws≠[]->Q (.ref s.heap.objs.size) {s with heap:=s.heap.push {cls:=.type "tuple",data:=.seq (vs++ws).toArray} })
  (hsz:vs.length+ws.length<=G6):Bs (CJ prog w) A (Nu .Add (.ref t) (.ref b)) Q E s:=by
 obtain⟨⟨cls,dd,data,sl⟩,ho,hc,n,hd⟩:=ht;obtain⟨⟨cls2,dd2,data2,sl2⟩,ho2,hc2,n2,hd2⟩:=hb;subst hc hd hc2 hd2;have e:vs.toArray++ws.toArray=(vs++ws).toArray:=by simp
 by_cases hw:ws=[]
 exact concat_meets ⟨_,ho,rfl⟩ ⟨_,ho2,rfl⟩ noFill_tuple_add seq_tuple_add PySem.F.slot_tuple_add PySem.F.entry_tuple_add (PySem.F.args_tuple_add_2 _ _)
  (tuple_addW1 t b _ _ n n2 dd dd2 sl sl2 (by simpa using hv) (by simp[hw])) ⟨ho,ho2,h1 hw⟩
 refine concat_meets ⟨_,ho,rfl⟩ ⟨_,ho2,rfl⟩ noFill_tuple_add seq_tuple_add PySem.F.slot_tuple_add PySem.F.entry_tuple_add (PySem.F.args_tuple_add_2 _ _)
  (tuple_addW2 t b _ _ n n2 dd dd2 sl sl2 (by simpa using hv) (by simpa using hw) hsz) ⟨ho,ho2,?_⟩
 grind
def sIx (n d:Nat):Option Int->Nat
 | none=>d
 | some v=>if v<0 then(v+(n:Int)).toNat else min v.toNat n
theorem WY (n d k:Nat):sIx n d (Dn (k:Int))=min k n:=rfl
theorem Jw (v:Int)(n d:Nat):(if v<0 then max (v+(n:Int)) 0 else min v (n:Int))=((sIx n d (Dn v):Nat):Int):=by
 show _=(((if v<0 then(v+(n:Int)).toNat else min _ n):Nat):Int);grind
theorem aie (lo hi:Option Int)(n:Nat):Builtin.Slice.sliceAdjust lo hi 1 (n:Int)=(((sIx n 0 lo:Nat):Int),((sIx n n hi:Nat):Int)):=by
 refine Prod.ext ?_ ?_
 ·cases lo with
  | none=>rfl
  | some v=>exact Jw v n 0
 ·cases hi with
  | none=>rfl
  | some v=>exact Jw v n n
theorem zaL (i j:Nat):Builtin.Slice.slicePlaces (i:Int) (j:Int) 1=j-i:=by
 unfold Builtin.Slice.slicePlaces;lia
theorem vC {v:JI}{o:Option Int}{Q:Option Int->kI->Prop}(p:IsPart v o)(h:Q o s):Bs (CJ prog w) A (Builtin.Slice.slicePartIndex v) Q E s:=by
 cases p with
 | none=>exact slicePart_none h
 | int i t=>exact slicePart_int h
theorem jF {sl:Addr}{vl vu:JI}{lo hi:Option Int}{n:Nat}{Q:Int×Int×Nat->kI->Prop}(hs:s.heap.IsSliceOf sl vl vu .none)(pl:IsPart vl lo)(pu:IsPart vu hi)
  (h:Q (((sIx n 0 lo:Nat):Int),1,sIx n n hi-sIx n 0 lo) s):Bs (CJ prog w) A (Builtin.Slice.sliceApplied (.ref sl) (pure (n:Int))) Q E s:=by
 obtain⟨os,hos,hcs,hds⟩:=hs;refine Ay<|Ay<|N6 hos hds rfl<|Ay<|N6 hos hds rfl<|Ay<|N6 hos hds rfl<|Bv ?_
 refine Ay<|slicePart_none ?_
 rw[if_neg (by decide)];refine Ay<|vC pl<|Ay<|vC pu<|Ay<|Bv ?_
 show Bs _ _ (match Builtin.Slice.sliceAdjust lo hi 1 _ with|(lo,hi)=>pure (lo,(1:Int),Builtin.Slice.slicePlaces lo hi 1)) _ _ s;rw[aie lo hi n];show Bs _ _ (pure _) _ _ s;rw[zaL];exact Bv h
theorem zbK (xs:Array JI)(i k:Nat):((Ji k).filterMap λ(m:Nat)=>xs[((i:Int)+(m:Int)*1).toNat]?).toArray=((xs.toList.drop i).take k).toArray:=by
 have e:(λ(m:Nat)=>xs[((i:Int)+(m:Int)*1).toNat]?)=λm=>xs[i+m]?:=by
  funext m;have:((i:Int)+(m:Int)*1).toNat=i+m:=by lia
  rw[this]
 rw[e];have:=pick_run xs i k
 rw[List.filterMap_map]at this;have e2:((λx=>xs[x]?) ∘λx=>i+x)=λm=>xs[i+m]?:=rfl
 grind
theorem oY {t sl:Addr}{items:Array JI}{vl vu:JI}{lo hi:Option Int}{Q:JI->kI->Prop}(ht:IsTup s.heap t items)(hs:s.heap.IsSliceOf sl vl vu .none)(pl:IsPart vl lo)(pu:IsPart vu hi)
  (hw:¬(sIx items.size 0 lo=0/\sIx items.size items.size hi=items.size))
  (h:Q (.ref s.heap.objs.size) {s with heap:=s.heap.push {cls:=.type "tuple",data:=.seq ((items.toList.drop (sIx items.size 0 lo)).take (sIx items.size items.size hi-sIx items.size 0 lo)).toArray} })
  (hsz:items.size<=G6):Bs (CJ prog w) A (getItem (.ref t) (.ref sl)) Q E s:=by
 have htake:=by
  show((items.toList.drop (sIx items.size 0 lo)).take (sIx items.size items.size hi-sIx items.size 0 lo)).toArray.size<=G6;rw[Jr,Qn,List.length_drop,YD];lia
 obtain⟨os,hos,hcs,hds⟩:=id hs;unfold getItem;try with_reducible refine Ob (Ay (wpAny_sequenceKey ht.typeIs (by decide) ?_))
 refine Ay (Vy ht.typeIs Xv
  (RN Xv ht.typeIs entry_tuple_getitem ?_ (args_tuple_getitem _ _)))
 show Bs _ _ (Builtin.Tuple.tupleItemsOf _ >>= _) _ _ s;refine Ay<|tupleItemsOf_ ht<|Ay<|Qj ⟨os,hos,hcs⟩<|Ay<|jF hs pl pu ?_
 have hno:¬((((sIx items.size 0 lo:Nat):Int)==0&&(1:Int)==1&&(sIx items.size items.size hi-sIx items.size 0 lo)==items.size)=true):=by
  intro q;rw[Ol,Ol]at q;have q1:=eq_of_beq q.1.1;have q2:=eq_of_beq q.2;exact hw ⟨by lia,by lia⟩
 show Bs _ _ (if _=true then _ else _) _ _ s;rw[if_neg hno,zbK];first
  | exact Ay (Qu (Ay (Bv (Bv ⟨_,rfl,Bv h⟩))) htake)
end
end HT
namespace L2
open PySem PySem.Spec PyProof.Rows
abbrev TO:=St->Hp->(Option Int->Hp->Prop)->Prop
def PO (X:Cx)(e:Option Expr)(t:TO):Prop:=
 ∀(amD:List (Addr×Obj)) (s:kI) (U:St) (H:Hp) (Q:Option Int->Hp->Prop),BJ X amD U H s->t U H Q ->
  Bs (CJ X.prog X.w) X.A (evalPart e X.env) (λu s'=>∃o H',BJ X amD U H' s'/\IsPart u o/\Q o H') X.xe s
def akx:TO:=λ_ H Q=>Q Go H
def adN (t:TE):TO:=λU H Q=>t U H λx H1=>∃i,x=.int i/\Q (Dn i) H1
variable {ns:List Int}
theorem intsAre_of:∀{us:List JI},Ba (ns.map V.int) us->IntsAre us ns:=by
 induction ns with
 | nil=>intro us r;cases r;exact .nil
 | cons n ns ih=>
  intro us r;cases r with
  | cons r1 r2=>
   obtain⟨t,e⟩:=r1;subst e;exact .cons n t<|ih r2
section
variable {X:Cx}{e:Expr}{te:TE}{lo hi:Option Expr}{tl th:TO}{pos p2:Pos}
theorem ajv:PO X Go akx:=by
 intro amD s U H Q I h;exact Bv ⟨Go,H,I,.none,h⟩
theorem ajt (h:PE X e te):PO X (Dn e) (adN te):=by
 intro amD s U H Q I hw;refine GJ (h amD s U H _ I hw) λu s1 ⟨x,H1,I1,r1,q1⟩=>?_;obtain⟨i,rfl,q⟩:=q1;obtain⟨t,rfl⟩:=r1;exact⟨Dn i,H1,I1,.int i t,q⟩
def V0 (X:Cx)(r:V->Option Int->Option Int->Hp->VK->Prop):Prop:=
 ∀(amD:List (Addr×Obj)) (s:kI) (U:St) (H:Hp) (x:V) (v vl vu:JI) (lo hi:Option Int) (sl:Addr) (Q:VK),BJ X amD U H s->RelV x v->s.heap.IsSliceOf sl vl vu .none->IsPart vl lo->IsPart vu hi->r x lo hi H Q ->
  ∃T id,typeLookup (.type T) "__getitem__" = pure (Dn (.builtin id))/\s.TypeIs v T/\Bs (CJ X.prog X.w) X.A (getItem v (.ref sl)) (EP X amD U Q) X.xe s
theorem V0.or {r r':V->Option Int->Option Int->Hp->VK->Prop}(h:V0 X r)(h':V0 X r'):V0 X (λx lo hi H Q=>r x lo hi H Q\/r' x lo hi H Q):=by
 intro amD s U H x v vl vu lo hi sl Q I rx hs pl pu q;rcases q with q|q
 exact h amD s U H x v vl vu lo hi sl Q I rx hs pl pu q;exact h' amD s U H x v vl vu lo hi sl Q I rx hs pl pu q
def tSl (r:V->Option Int->Option Int->Hp->VK->Prop)(te:TE)(tl th:TO):TE:=λU H Q=>te U H λx H1=>tl U H1 λl H2=>th U H2 λu H3=>r x l u H3 Q
theorem zbB {r:V->Option Int->Option Int->Hp->VK->Prop}(hr:V0 X r)(he:PE X e te)(hl:PO X lo tl)(hu:PO X hi th):PE X (.Subscript e (.Slice lo hi Go p2) pos) (tSl r te tl th):=by
 intro amD s U H Q I h;refine Subscript_<|GJ (he amD s U H _ I h) λv s1 ⟨x,H1,I1,r1,q1⟩=>(wpAny_Slice<|GJ (hl amD s1 U H1 _ I1 q1) λvl s2 ⟨l,H2,I2,pl,q2⟩=>GJ (hu amD s2 U H2 _ I2 q2) λvu s3 ⟨u,H3,I3,pu,q3⟩=>(Bv ?_))
 have I4:BJ X amD U H3 {s3 with heap:=s3.heap.push {cls:=.type "slice",data:=.fields #[vl,vu,.none]} }:=I3.kept λb ob q=>GP _ q
 obtain⟨T,id,hT,ht,hg⟩:=hr amD {s3 with heap:=s3.heap.push {cls:=.type "slice",data:=.fields #[vl,vu,.none]} } U H3 x v vl vu l u _ Q I4 r1 (Heap.IsSliceOf.new ..) pl pu q3;exact tail_any ht hT hg<|by with_unfolding_all rfl
def VL (xs:List V)(lo hi:Option Int):List V:=(xs.drop (HT.sIx xs.length 0 lo)).take (HT.sIx xs.length xs.length hi-HT.sIx xs.length 0 lo)
theorem rN (xs:List V)(lo hi:Option Int):(VL xs lo hi).length<=xs.length:=by
 unfold VL;rw[Qn,List.length_drop];lia
def agn (K:Bl):V->Option Int->Option Int->Hp->VK->Prop:=λx lo hi H Q=>∃a xs,x=.ref a/\Hi K H a xs /\
 ¬(HT.sIx xs.length 0 lo=0/\HT.sIx xs.length xs.length hi=xs.length)/\∀p,H p=Go->Q (.ref p) (G7 H p (.tup (VL xs lo hi)))
theorem aa1:V0 X (agn X.K):=by
 intro amD s U H x v vl vu lo hi sl Q I rx hs pl pu h;obtain⟨a,xs,rfl,hx,hw,q⟩:=h;cases rx;obtain⟨its,r,ht,hz⟩:=I.tuple hx;have amE:its.toArray.size=xs.length:=r.length.symm;refine⟨"tuple",_,Xv.lookup,ht.typeIs,(HT.oY ht hs pl pu (amE ▸ hw) ?_<|by rwa[amE])⟩;rw[amE];refine⟨.ref _,_,I.laid (λb ob q=>GP _ q) (GZ _) ?_,rfl,q _<|I.hok.fresh<|GZ _⟩;exact⟨HN (rN xs lo hi) hz,_,(r.drop _).take _,NT.new _ _⟩
def adO (K:Bl):R2:=λx y H Q=>∃a b xs ys,x=.ref a/\y=.ref b/\Hi K H a xs/\Hi K H b ys/\xs≠[]/\xs.length+ys.length<=G6 /\
 (ys=[]->Q (.ref a) H)/\(ys≠[]->∀p,H p=Go->Q (.ref p) (G7 H p (.tup (xs++ys))))
theorem Ba.nil_iff {xs:List V}{us:List JI}(r:Ba xs us):us=[]↔xs=[]:=by
 cases r with
 | nil|cons _ _=>simp
theorem akh:K3 X (Nu .Add) (adO X.K):=by
 intro amD s U H x y v u Q I rx ry h;obtain⟨a,b,xs,ys,rfl,rfl,ha,hb,hx,hz,q1,q2⟩:=h;cases rx;cases ry;obtain⟨its,r1,p1,_⟩:=I.tuple ha;obtain⟨its2,r2,p2,_⟩:=I.tuple hb;refine HT.Xk p1 p2 (λz=>hx<|r1.nil_iff.mp z) (λz=>⟨.ref a,H,I,rfl,q1<|r2.nil_iff.mp z⟩) (λz=>?_) (by rw[<-r1.length,<-r2.length];exact hz);refine⟨.ref _,_,I.laid (λb ob q=>GP _ q) (GZ _) ?_,rfl,q2 (λw=>z<|r2.nil_iff.mpr w) _<|I.hok.fresh<|GZ _⟩;exact⟨Pa ▸ hz,_,r1.append r2,NT.new _ _⟩
end
def QS (n:Nat)(i:Int):Option Nat:=if 0<=i then(if i<n then Dn i.toNat else Go)else if -(n:Int)<=i then Dn (i+n).toNat else Go
def Mi {α:Type}(xs:List α)(i:Int):Option α:=(QS xs.length i).bind λj=>xs[j]?
theorem J8 {n:Nat}{i:Int}{j:Nat}(h:QS n i=Dn j):seqIndex? i n=Dn j/\j<n/\-(n:Int)<=i/\i<n:=by
 unfold QS at h;by_cases h0:0<=i
 rw[if_pos h0]at h;by_cases h1:i<n
 rw[if_pos h1]at h;have e:=IV h;exact⟨by rw[seqIndex_of h0 h1,e],by lia,by lia,h1⟩;grind
 rw[if_neg h0]at h;by_cases h1:-(n:Int)<=i
 rw[if_pos h1]at h;have e:=IV h;exact⟨by rw[seqIndex_neg (by lia) h1,e],by lia,h1,by lia⟩;grind
theorem Br {α:Type}{xs:List α}{i:Int}{v:α}(h:Mi xs i=Dn v):∃j,seqIndex? i xs.length=Dn j/\xs[j]?=Dn v/\j<xs.length/\-(xs.length:Int)<=i/\i<xs.length:=by
 unfold Mi at h;cases e:QS _ i with
 | none=>rw[e]at h;cases h
 | some j=>
  rw[e]at h;obtain⟨h1,h2,h3,h4⟩:=J8 e;grind
theorem bN {α:Type}{xs:List α}{j:Nat}{v:α}(h:xs[j]?=Dn v):Mi xs (j:Int)=Dn v:=by
 have hj:=(O4.mp h).1;have e:QS xs.length (j:Int)=Dn j:=by
  unfold QS;grind
 unfold Mi;rw[e];exact h
def Ck (b:Expr):Prop:=∀o i,subscripted b false o i=operate [o,i] (getItem o i)
def Vg (X:Cx)(r:R2):Prop:=
 ∀(value slice:Expr) (amD:List (Addr×Obj)) (s:kI) (U:St) (H:Hp) (x y:V) (v u:JI) (Q:VK),BJ X amD U H s->RelV x v->RelV y u->r x y H Q ->
  subscripted slice false v u=operate [v,u] (getItem v u)->Bs (CJ X.prog X.w) X.A (subscriptTail value slice v u) (EP X amD U Q) X.xe s
def R6 (X:Cx)(id:String)(r:V->List V->Hp->VK->Prop):Prop:=
 ∀(amD:List (Addr×Obj)) (s:kI) (U:St) (H:Hp) (x:V) (xs:List V) (v:JI) (us:List JI) (Q:VK),BJ X amD U H s->RelV x v->Ba xs us->r x xs H Q ->
  Bs (CJ X.prog X.w) X.A (call (.builtin id) (v::us)) (EP X amD U Q) X.xe s
section
variable {X:Cx}{a b:Expr}{ta tb:TE}{pos:Pos}
theorem Vg.or {r r':R2}(h:Vg X r)(h':Vg X r'):Vg X (λx y H Q=>r x y H Q\/r' x y H Q):=by
 intro value slice amD s U H x y v u Q I rx ry q hs;rcases q with q|q
 exact h value slice amD s U H x y v u Q I rx ry q hs;exact h' value slice amD s U H x y v u Q I rx ry q hs
theorem R6.or {id:String}{r r':V->List V->Hp->VK->Prop}(h:R6 X id r)(h':R6 X id r'):R6 X id (λx xs H Q=>r x xs H Q\/r' x xs H Q):=by
 intro amD s U H x xs v us Q I rx rs q;rcases q with q|q
 exact h amD s U H x xs v us Q I rx rs q;exact h' amD s U H x xs v us Q I rx rs q
theorem ad2 {r:R2}(hr:Vg X r)(ha:PE X a ta)(hb:PE X b tb)(hs:Ck b):PE X (.Subscript a b pos) (tOp r ta tb):=by
 intro amD s U H Q I h;exact Subscript_<|aeT ha hb I h λv u s2 x y H2 I2 rx ry q=>hr a b amD s2 U H2 x y v u Q I2 rx ry q<|hs _ _
def afE (K:Bl):R2:=λx y H Q=>∃p xs i v,x=.ref p/\y=.int i/\JH K H p xs/\Mi xs i=Dn v/\Q v H
def ae9 (K:Bl):R2:=λx y H Q=>∃p xs i v,x=.ref p/\y=.int i/\Hi K H p xs/\Mi xs i=Dn v/\Q v H
def afb:R2:=λx y H Q=>∃z i c,x=.str z/\y=.int i/\z.length<=G6/\Mi z.cps.toList i=Dn c/\Q (.str ⟨#[c]⟩) H
theorem ajY:Vg X (afE X.K):=by
 intro value slice amD s U H x y v u Q I rx ry h hs;obtain⟨p,xs,i,z,rfl,rfl,hq,he,q⟩:=h;cases rx;obtain⟨t,rfl⟩:=ry;obtain⟨its,r,pl,hz⟩:=I.list hq;obtain⟨j,h1,h2,h3,h4,h5⟩:=Br he;obtain⟨w,ew,rw'⟩:=r.get h2;have hl:=r.length;have hn:=yJ;have fin:EP X amD U Q w s:=⟨z,H,I,rw',q⟩
 by_cases h0:0<=i
 have hj:=by
  rw[seqIndex_of h0 h5]at h1;exact IV h1
 exact item_listR pl.isList h0 (by lia) (by rw[hj];simpa using ew) fin hs;have hj:(i+(its.toArray.size:Int)).toNat=j:=by
  rw[seqIndex_neg (by lia) h4]at h1;grind
 exact subscriptTail_builtinR pl.isList.typeIs slot_list_getitem.lookup
  (wpAny_getItem_list_neg pl.isList (by lia) (by rw[Jr]<;>lia) (by lia) (by rw[hj];simpa using ew) ⟨rfl,fin⟩) hs
theorem abK:Vg X (ae9 X.K):=by
 intro value slice amD s U H x y v u Q I rx ry h hs;obtain⟨p,xs,i,z,rfl,rfl,hq,he,q⟩:=h;cases rx;obtain⟨t,rfl⟩:=ry;obtain⟨its,r,pl,hz⟩:=I.tuple hq;obtain⟨j,h1,h2,h3,h4,h5⟩:=Br he;obtain⟨w,ew,rw'⟩:=r.get h2;have hn:=yJ;exact subscriptTail_builtinR pl.typeIs slot_tuple_getitem.lookup
  (getItem_tuple pl (by lia) (by lia) (by rw[Jr,<-r.length];exact h1) (by simpa using ew) ⟨rfl,z,H,I,rw',q⟩) hs
theorem abu:Vg X afb:=by
 intro value slice amD s U H x y v u Q I rx ry h hs;obtain⟨z,i,c,rfl,rfl,hz,he,q⟩:=h;obtain⟨t,rfl⟩:=rx;obtain⟨t',rfl⟩:=ry;obtain⟨j,h1,h2,h3,h4,h5⟩:=Br he;have hl:z.cps.toList.length=z.length:=by simp[Str.length]
 rw[hl]at h1 h4 h5;have hn:=yJ;exact tail_any (typeIs_str s z t) slot_str_getitem.lookup (getItem_str (by
  rw[(decide_eq_false (by lia)),(decide_eq_false (by lia)),Bool.or_false]) (by rw[h1];simpa using h2) ⟨.str ⟨#[c]⟩,H,I.tok _,⟨_,rfl⟩,q⟩) hs
def rIx (K:Bl):R2:=λx y H Q=>afE K x y H Q\/ae9 K x y H Q\/afb x y H Q
theorem acv:Vg X (rIx X.K):=ajY.or (abK.or abu)
theorem ahq (its:List JI)(n j:Nat)(u:JI):Wq (·.setIfInBounds j u) {cls:=.type "list",data:=.seq its.toArray n}={cls:=.type "list",data:=.seq (its.set j u).toArray n}:=by
 simp[Wq]
theorem BJ.lst {amD:List (Addr×Obj)}{U:St}{H:Hp}{s:kI}{p:Addr}{xs:List V}(I:BJ X amD U H s)(h:H p=Dn (.lst xs)) :
  ∃(its:List JI) (n:Nat),Ba xs its/\s.heap.get? p=Dn {cls:=.type "list",data:=.seq its.toArray n}/\xs.length<=G6:=by
 obtain⟨z,its,n,r,e⟩:=I.hok p _ h;grind
theorem BJ.lstUpd {amD:List (Addr×Obj)}{U:St}{H:Hp}{s:kI}{p:Addr}{xs ys:List V}{its its':List JI}{n n':Nat}{f:Obj->Obj}(I:BJ X amD U H s)(h:H p=Dn (.lst xs))
  (ho:s.heap.get? p=Dn {cls:=.type "list",data:=.seq its.toArray n}) (hf:f {cls:=.type "list",data:=.seq its.toArray n}={cls:=.type "list",data:=.seq its'.toArray n'}) (r:Ba ys its') (hz:ys.length<=G6) (t:Nat) :
  BJ X amD U (G7 H p (.lst ys)) {s with heap:=s.heap.update p f,toks:=t}:=by
 have e:(s.heap.update p f).get? p=Dn {cls:=.type "list",data:=.seq its'.toArray n'}:=by
  rw[UW f ho (by rw[hf]<;>rfl),hf]
 refine I.write (by rw[h];trivial) (.inl rfl) (λb u hb q=>(Pz _ _<|Lr hb).trans q) ⟨_,e⟩ ?_;exact⟨hz,its',n',r,e⟩
def Z9:V->V->V->Hp->(Hp->Prop)->Prop:=λo i v H Q=>∃p xs k j,o=.ref p/\i=.int k/\H p=Dn (.lst xs)/\QS xs.length k=Dn j/\Q (G7 H p (.lst (xs.set j v)))
theorem set_list:abW X Z9:=by
 intro amD s U H o i v ov iv u Q I ro ri rv h;obtain⟨p,xs,k,j,rfl,rfl,hp,hj,q⟩:=h;cases ro;obtain⟨t,rfl⟩:=ri;obtain⟨its,n,r,ho,hz⟩:=I.lst hp;obtain⟨h1,h2,h3,h4⟩:=J8 hj;have hl:=r.length;have hn:=yJ;have I':=
  I.lstUpd hp ho (ahq its n j u) (r.set rv j) (by rwa[List.length_set]) s.toks
 by_cases h0:0<=k
 have hk:=by
  rw[seqIndex_of h0 h4]at h1;exact IV h1
 exact PySem.W.ki_setAt ho h0 (by lia) (by rw[Jr,<-hl];exact h4)<|hk ▸ ⟨_,I',q⟩
 have hk:(k+(its.toArray.size:Int)).toNat=j:=by
  rw[seqIndex_neg (by lia) h3]at h1;grind
 exact PySem.W.ki_setBack ho (by lia) (by rw[Jr,<-hl];exact h3) (by lia)<|hk ▸ ⟨_,I',q⟩
theorem zy (lo hi:Option Int)(n:Nat):(Wr lo hi Go n).1=((HT.sIx n 0 lo:Nat):Int)/\(Wr lo hi Go n).2.1=((HT.sIx n n hi:Nat):Int)/\(Wr lo hi Go n).2.2=1:=by
 refine⟨?_,?_,rfl⟩
 ·cases lo with
  | none=>simp[Wr,HT.sIx]
  | some i=>
   simp[Wr,HT.sIx];grind
 ·cases hi with
  | none=>simp[Wr,HT.sIx]
  | some i=>
   simp[Wr,HT.sIx];grind
theorem vP (its:List JI)(lo hi:Option Int):slicePick its.toArray lo hi Go=((its.drop (HT.sIx its.length 0 lo)).take (HT.sIx its.length its.length hi-HT.sIx its.length 0 lo)).toArray:=by
 obtain⟨h1,h2,h3⟩:=zy lo hi _;unfold slicePick;rw[h1,h2,h3];simp only[sliceRange_one,pick_run]<;>rfl
def agd (K:Bl):V->Option Int->Option Int->Hp->VK->Prop:=λx lo hi H Q=>∃a xs,x=.ref a/\JH K H a xs/\∀p,H p=Go->Q (.ref p) (G7 H p (.lst (VL xs lo hi)))
theorem ajQ:V0 X (agd X.K):=by
 intro amD s U H x v vl vu lo hi sl Q I rx hs pl pu h;obtain⟨a,xs,rfl,hx,q⟩:=h;cases rx;obtain⟨its,r,ht,hz⟩:=I.list hx;have amE:=r.length;refine⟨"list",_,slot_list_getitem.lookup,ht.isList.typeIs,?_⟩;refine wpAny_getItem_list_slice ht.isList hs pl pu .none (by simp) ?_ (by rw[Jr]<;>lia);rw[vP,<-amE];refine⟨.ref _,_,I.laid (λb ob q=>GP _ q) (GZ _) ?_,rfl,q _<|I.hok.fresh<|GZ _⟩;exact⟨HN (rN xs lo hi) hz,_,0,(r.drop _).take _,JB _ rfl⟩
def Mw:V->Bool
 | .non=>true
 | .bl _=>true
 | .int _=>true
 | .str _=>true
 | _=>false
def eqV:V->V->Bool
 | .non,.non=>true
 | .bl a,.bl b=>a==b
 | .bl a,.int b=>(if a then 1 else 0)==b
 | .int a,.bl b=>a==(if b then 1 else 0)
 | .int a,.int b=>a==b
 | .str a,.str b=>a==b
 | _,_=>false
theorem abd {A:G4}{s:kI}{y x:V}{u v:JI}(ry:RelV y u)(rx:RelV x v)(fy:Mw y=true)(fx:Mw x=true):XH A s u v (eqV y x):=by
 cases y with
 | non=>
  cases ry;cases x with
  | non=>cases rx;exact SeqAt.EqAt.same _
  | bl b=>cases rx;exact SeqAt.EqAt.none_bool b
  | int b=>obtain⟨t,rfl⟩:=rx;exact SeqAt.EqAt.none_int b t
  | str b=>obtain⟨t,rfl⟩:=rx;exact SeqAt.EqAt.none_str b t
  | _=>exact absurd (show false=true from fx) U5
 | bl a=>
  cases ry;cases x with
  | non=>cases rx;exact SeqAt.EqAt.bool_none a
  | bl b=>cases rx;exact SeqAt.EqAt.bool_bool a b
  | int b=>obtain⟨t,rfl⟩:=rx;exact SeqAt.EqAt.bool_int a b t
  | str b=>obtain⟨t,rfl⟩:=rx;exact SeqAt.EqAt.bool_str a b t
  | _=>exact absurd (show false=true from fx) U5
 | int a=>
  obtain⟨t',rfl⟩:=ry;cases x with
  | non=>cases rx;exact SeqAt.EqAt.int_none a t'
  | bl b=>cases rx;exact SeqAt.EqAt.int_bool a t' b
  | int b=>obtain⟨t,rfl⟩:=rx;exact SeqAt.EqAt.int_int a t' b t
  | str b=>obtain⟨t,rfl⟩:=rx;exact SeqAt.EqAt.int_str a t' b t
  | _=>exact absurd (show false=true from fx) U5
 | str a=>
  obtain⟨t',rfl⟩:=ry;cases x with
  | non=>cases rx;exact SeqAt.EqAt.str_none a t'
  | bl b=>cases rx;exact SeqAt.EqAt.str_bool a t' b
  | int b=>obtain⟨t,rfl⟩:=rx;exact SeqAt.EqAt.str_int a t' b t
  | str b=>obtain⟨t,rfl⟩:=rx;exact SeqAt.EqAt.str_str a t' b t
  | _=>exact absurd (show false=true from fx) U5
 | _=>exact absurd (show false=true from fy) U5
theorem yG:gq X (.builtin "len") (λxs H Q=>∃p ys,xs=[.ref p]/\(JH X.K H p ys\/Hi X.K H p ys)/\Q (.int ys.length) H):=by
 intro amD s U H xs us Q I r h;obtain⟨p,ys,rfl,hq,q⟩:=h;obtain⟨u,rfl,rx⟩:=vals1 r;cases rx;have hn:=yJ;rcases hq with hq|hq
 obtain⟨its,r',pl,hz⟩:=I.list hq;have amE:=r'.length;exact Calls.call_len_list pl.isList (by simp<;>lia) ⟨.int _,H,I.tok _,⟨s.toks+1,by rw[Jr,amE]⟩,q⟩;obtain⟨its,r',pl,hz⟩:=I.tuple hq;have amE:=r'.length;exact len_tuple pl (by simp<;>lia) ⟨.int _,H,I.tok _,⟨s.toks+1,by rw[Jr,amE]⟩,q⟩
theorem gq.or {f:JI}{r r':List V->Hp->VK->Prop}(h:gq X f r)(h':gq X f r'):gq X f (λxs H Q=>r xs H Q\/r' xs H Q):=by
 intro amD s U H xs us Q I rs q;rcases q with q|q
 exact h amD s U H xs us Q I rs q;exact h' amD s U H xs us Q I rs q
theorem zae:gq X (.type "list") (λxs H Q=>∃p ys,xs=[.ref p]/\(JH X.K H p ys\/Hi X.K H p ys)/\∀l,H l=Go->Q (.ref l) (G7 H l (.lst ys))):=by
 intro amD s U H xs us Q I r h;obtain⟨p,ys,rfl,hq,q⟩:=h;obtain⟨u,rfl,rx⟩:=vals1 r;cases rx;have fin:∀(its:List JI),Ba ys its->ys.length<=G6->∀(h':Heap) (c':Nat),(∀b o',s.heap.get? b=Dn o'->h'.get? b=Dn o') ->
   h'.get? s.heap.objs.size=Dn {cls:=.type "list",dict:=Go,data:=.seq _ c',slots:=#[]}->EP X amD U Q _ {s with heap:=h'}:=λits r' hz h' c' kp e=>
  ⟨.ref _,_,I.laid kp (GZ _) (show fM _ _ _ h' _ (.lst ys)from⟨hz,its,c',r',e⟩),rfl,q _ (I.hok.fresh (GZ _))⟩
 rcases hq with hq|hq
 obtain⟨its,r',pl,hz⟩:=I.list hq;have amE:=r'.length;obtain⟨o,ho,hc,n,hd⟩:=pl.isList;exact call_list_seq p (.inl rfl) ho hc hd (λh' c' kp e=>fin its r' hz h' c' kp e) (by simp<;>lia);obtain⟨its,r',pl,hz⟩:=I.tuple hq;have amE:=r'.length;obtain⟨o,ho,hc,n,hd⟩:=pl;exact call_list_seq p (.inr rfl) ho hc hd (λh' c' kp e=>fin its r' hz h' c' kp e) (by simp<;>lia)
theorem wQ:gq X (.type "tuple") (λxs H Q=>∃p ys,xs=[.ref p]/\((JH X.K H p ys/\∀l,H l=Go->Q (.ref l) (G7 H l (.tup ys)))\/(Hi X.K H p ys/\Q (.ref p) H))):=by
 intro amD s U H xs us Q I r h;obtain⟨p,ys,rfl,h⟩:=h;obtain⟨u,rfl,rx⟩:=vals1 r;cases rx;rcases h with⟨hq,q⟩|⟨hq,q⟩
 obtain⟨its,r',pl,hz⟩:=I.list hq;have amE:=r'.length;refine call_tuple_list pl.isList (λh' kp=>?_) (by simp<;>lia);have I1:=I.kept (t':=s.toks) kp;have I2:=
  I1.laid (t':=s.toks) (λb o e=>GP _ e) (GZ _) (show fM _ _ _ _ _ (.tup ys)from⟨hz,its,r',NT.new _ _⟩)
 exact⟨.ref _,_,I2,rfl,q _<|I1.hok.fresh<|GZ _⟩;obtain⟨its,r',pl,hz⟩:=I.tuple hq;exact call_tuple_same pl ⟨.ref p,H,I,rfl,q⟩
def tyV (K:Bl)(T:String)(x:V)(H:Hp):Prop:=match x with
 | .str _=>T = "str"
 | .int _=>T = "int"
 | .ref p=>(T = "list"/\∃xs,JH K H p xs)\/(T = "tuple"/\∃o,K.lookup p=Dn o/\o.cls=.type "tuple"/\o.dict=Go) \/
   (T = "dict"/\((∃kvs,H p=Dn (.dK kvs))\/∃kvs,H p=Dn (.dT kvs)))\/(T = "set"/\∃S n,H p=Dn (.set S n))
 | _=>False
theorem Tf {amD:List (Addr×Obj)}{U:St}{H:Hp}{s:kI}{T:String}{x:V}{v:JI}(I:BJ X amD U H s)(r:RelV x v)(ty:tyV X.K T x H):
  s.TypeIs v T/\∀a,v=.ref a->∃ob,s.heap.get? a=Dn ob/\ob.dict=Go:=by
 cases x with
 | str z=>
  obtain⟨t,rfl⟩:=r;cases ty;exact⟨typeIs_str s z t,nofun⟩
 | int i=>
  obtain⟨t,rfl⟩:=r;cases ty;exact⟨typeIs_int s i t,nofun⟩
 | ref p=>
  cases r;rcases ty with⟨rfl,xs,hq⟩|⟨rfl,o,hk,hc,hd⟩|⟨rfl,hk⟩|⟨rfl,S,n,hk⟩
  obtain⟨its,_,pl,_⟩:=I.list hq;refine⟨pl.isList.typeIs,λa e=>?_⟩;cases e;obtain⟨o,n,e,c,hd,_⟩:=pl
  simp_all
  refine⟨⟨o,I.kIn p o hk,hc⟩,λa e=>?_⟩;cases e;exact⟨o,I.kIn _ o hk,hd⟩;have z:∃o,s.heap.get? p=Dn o/\o.ExactDict:=by
   rcases hk with⟨kvs,hk⟩|⟨kvs,hk⟩
   obtain⟨_,_,_,_,o,_,_,e,ex,_⟩:=I.hok p _ hk
   simp_all
   obtain⟨_,_,_,_,o,_,_,e,ex,_⟩:=I.hok p _ hk;grind
  obtain⟨o,e,ex⟩:=z;refine⟨⟨o,e,ex.1⟩,λa e2=>?_⟩;cases e2;exact⟨o,e,ex.2.1⟩;obtain⟨o,_,_,_,e,ex,_⟩:=I.hok p _ hk;refine⟨⟨o,e,ex.1⟩,λa e2=>?_⟩;cases e2;exact⟨o,e,ex.2.1⟩
 | _=>exact False.elim ty
def agr (K:Bl)(T:String)(r:V->List V->Hp->VK->Prop)(to:TE):TE:=λU H Q=>to U H λx H1=>tyV K T x H1/\r x [] H1 Q
def tBM (K:Bl)(T:String)(r:V->List V->Hp->VK->Prop)(to:TE)(t:TA):TE:=λU H Q=>to U H λx H1=>tyV K T x H1/\t U H1 λxs H2=>r x xs H2 Q
variable {o e:Expr}{es:List Expr}{to:TE}{t:TA}{name:Str}{apos amF:Pos}{T id:String}{r:V->List V->Hp->VK->Prop}
theorem aaF (pa:PlainAttrs T)(slot:Slot T name id)(hty:typeOf (.builtin id)=pure (.type "method_descriptor"))(hm:R6 X id r)(ho:PE X o to)
  (hbase:Qo o name X.env (eval o X.env)=eval o X.env:=by rfl) (hline:(apos.endLine==amF.line)=true:=by rfl):PE X (.Call (.Attribute o name apos) [] [] amF) (agr X.K T r to):=by
 intro amD s U H Q I h;refine wpAny_Call_method0_late hbase hline<|GJ (ho amD s U H _ I h) λv s1 ⟨x,H1,I1,r1,ty,q1⟩=>?_
 obtain⟨h1,h2⟩:=Tf I1 r1 ty;exact⟨T,id,pa,slot,hty,h1,h2,Yb rfl<|PySem.evalArgs_none<|hm amD s1 U H1 x [] v [] Q I1 r1 .nil q1⟩
theorem aco (pa:PlainAttrs T)(slot:Slot T name id)(hty:typeOf (.builtin id)=pure (.type "method_descriptor"))(hm:R6 X id r)(ho:PE X o to)(ha:PA X (e::es) t)
  (hbase:Qo o name X.env (eval o X.env)=eval o X.env:=by rfl)
  (hfew:((J1 amF (Ca (e::es) X.env)).all (λx=>!x.1)&&(RL amF (RM [] X.env)).all (λx=>x.1.isSome)
   && decide ((e::es).length+([]:List MH).length+(if([]:List MH).isEmpty then 0 else 1)<30))=true:=by rfl)
  (hline:(apos.endLine==amF.line)=true:=by rfl) (hs:Ca (e::es) X.env=(false,eval e X.env)::Ca es X.env:=by rfl) (hplain:(J1 amF (Ca es X.env)).any (·.1)=false:=by rfl) :
  PE X (.Call (.Attribute o name apos) (e::es) [] amF) (tBM X.K T r to t):=by
 intro amD s U H Q I h;refine Yg hbase hfew hline rfl<|GJ (ho amD s U H _ I h) λv s1 ⟨x,H1,I1,r1,ty,q1⟩=>?_
 obtain⟨h1,h2⟩:=Tf I1 r1 ty;refine⟨T,id,pa,slot,hty,h1,h2,?_⟩;have hA:=ha amF amD s1 U H1 _ I1 q1;rw[hs]at hA|-
 refine Yb (by show(false||(J1 amF<|Ca es X.env).any (·.1))=false;rw[hplain]<;>rfl)<|Ye ?_
 exact GJ hA λus s2 ⟨vs,H2,I2,r2,q2⟩=>hm amD s2 U H2 x vs v us Q I2 r1 r2 q2
end
def MtM (X:Cx)(id:String)(r:V->List V->Hp->VK->Prop):Prop:=
 ∀(amD:List (Addr×Obj)) (s:kI) (U:St) (H:Hp) (x:V) (xs:List V) (v:JI) (us:List JI) (Q:VK),BJ X amD U H s->RelV x v->Ba xs us->r x xs H Q ->
  Bs (CJ X.prog X.w) X.A (call (.builtin id) (v::us)) (EP X amD U Q) X.xe s
theorem Ba.one:∀{x:V}{us:List JI},Ba [x] us->∃u,us=[u]/\RelV x u
 | _,_,.cons r .nil=>⟨_,rfl,r⟩
theorem Ba.zero:∀{us:List JI},Ba [] us->us=[]
 | _,.nil=>rfl
theorem Ba.dropLast {xs:List V}{us:List JI}(h:Ba xs us):Ba xs.dropLast us.dropLast:=by
 induction h with
 | nil=>exact .nil
 | cons r t ih=>
  cases t with
  | nil=>exact .nil
  | cons q t'=>exact .cons r ih
theorem Ba.rep {xs:List V}{us:List JI}(h:Ba xs us):∀k:Nat,Ba (Iw k xs).flatten (Iw k us).flatten
 | 0=>.nil
 | k+1=>Ba.append h (Ba.rep h k)
theorem zao {α:Type}(l:List α):l.eraseIdx (l.length-1)=l.dropLast:=by simp_all
theorem foldl_rep (its:List JI):∀(k:Nat) (acc:List JI),
  List.foldl (λx1 x2=>x1++x2) acc.toArray (Iw k its.toArray)=(acc++(Iw k its).flatten).toArray
 | 0,acc=>by simp
 | k+1,acc=>by
  have e:acc.toArray++its.toArray=(acc++its).toArray:=by simp
  have e2:(acc++its)++(Iw k its).flatten=acc++(Iw (k+1) its).flatten:=by
   grind
  rw[<-e2,<-foldl_rep its k _,<-e,Yz,List.foldl_cons]
section
variable {X:Cx}{amD:List (Addr×Obj)}{U:St}{H:Hp}{s:kI}{l b:Addr}{xs ys zs:List V}
theorem BJ.lset {its its':List JI}{n:Nat}{f:Array JI->Array JI}{t':Nat}(I:BJ X amD U H s)(hH:H l=Dn (.lst xs))
  (e:s.heap.get? l=Dn {cls:=.type "list",data:=.seq its.toArray n}) (hf:f its.toArray=its'.toArray) (hv:Ba ys its') (hz:ys.length<=G6) :
  BJ X amD U (G7 H l (.lst ys)) {s with heap:=s.heap.update l (Wq f),toks:=t'}:=by
 have q:=PySem.IsL.update e f;rw[hf]at q;refine I.write (hH ▸ trivial) (.inl rfl) (λb' u hb hu=>(Pz _ _<|Lr hb).trans hu) ⟨_,q⟩ ?_;exact⟨hz,its',_,hv,q⟩
theorem BJ.lnew {its:List JI}{t':Nat}(I:BJ X amD U H s)(hv:Ba ys its)(hz:ys.length<=G6):
  BJ X amD U (G7 H s.heap.objs.size (.lst ys)) {s with heap:=s.heap.push {cls:=.type "list",data:=.seq its.toArray},toks:=t'}:=
 I.laid (λ_ _ q=>GP _ q) (GZ _) ⟨hz,its,0,hv,JB _ rfl⟩
theorem BJ.fresh (I:BJ X amD U H s):H s.heap.objs.size=Go:=I.hok.fresh (GZ _)
theorem BJ.lstM (I:BJ X amD U H s)(hH:H l=Dn (.lst xs)):xs.length<=G6/\∃(its:List JI) (n:Nat),Ba xs its/\xs.length=its.length/\s.heap.get? l=Dn {cls:=.type "list",data:=.seq its.toArray n}:=by
 obtain⟨z,its,n,r,e⟩:=I.hok l _ hH;exact⟨z,its,n,r,r.length,e⟩
theorem FJ {n:Nat}(h:n<=G6):Builtin.List.listTooLong n=false:=decide_eq_false (by lia)
end
section
variable {X:Cx}
def Lq:V->List V->Hp->VK->Prop:=λx vs H Q=>∃l xs y,x=.ref l/\vs=[y]/\H l=Dn (.lst xs)/\xs.length<G6/\Q .non (G7 H l (.lst (xs++[y])))
theorem zm:MtM X "list.append" Lq:=by
 intro amD s U H x vs v us Q I rx rv h;obtain⟨l,xs,y,rfl,rfl,hH,hz,q⟩:=h;cases rx;obtain⟨u,rfl,ru⟩:=rv.one;obtain⟨z,its,n,r,hl,e⟩:=I.lstM hH;refine V9 F.slot_list_append ⟨_,e,rfl⟩ F.entry_list_append (F.args_list_append_2 _ _) (PySem.list_append l _ n u (by rw[Jr];lia)) ⟨e,?_⟩;refine⟨.non,_,I.lset hH e (by simp) (r.append<|.cons ru .nil) ?_,rfl,q⟩;grind
def Oq:V->List V->Hp->VK->Prop:=λx vs H Q=>∃l b xs zs,x=.ref l/\vs=[.ref b]/\H l=Dn (.lst xs)/\H b=Dn (.lst zs)/\xs.length+zs.length<=G6/\Q .non (G7 H l (.lst (xs++zs)))
theorem zaV:MtM X "list.extend" Oq:=by
 intro amD s U H x vs v us Q I rx rv h;obtain⟨l,b,xs,zs,rfl,rfl,hH,hB,hz,q⟩:=h;cases rx;obtain⟨u,rfl,ru⟩:=rv.one;cases ru;obtain⟨z,its,n,r,hl,e⟩:=I.lstM hH;obtain⟨z2,its2,n2,r2,hl2,e2⟩:=I.lstM hB;have hsz:its.toArray.size+its2.toArray.size<=G6:=by rw[Jr,Jr];lia
 have hlong:¬(!its.toArray.isEmpty&&Builtin.List.listTooLong (its.toArray.size+its2.toArray.size))=true:=by
  rw[FJ hsz,Bool.and_false];exact U5
 refine V9 F.slot_list_extend ⟨_,e,rfl⟩ F.entry_list_extend (F.args_list_extend_2 _ _)
  (AutoSeq1.list_extend_list_list_0 l _ n b _ n2 hlong (by lia) (by lia)) ⟨e,e2,?_⟩
 refine⟨.non,_,I.lset hH e (by simp) (r.append r2) ?_,rfl,q⟩;grind
def afD:V->List V->Hp->VK->Prop:=λx vs H Q=>∃l xs y,x=.ref l/\vs=[]/\H l=Dn (.lst xs)/\xs[xs.length-1]?=Dn y/\Q y (G7 H l (.lst xs.dropLast))
theorem aa9:MtM X "list.pop" afD:=by
 intro amD s U H x vs v us Q I rx rv h;obtain⟨l,xs,y,rfl,rfl,hH,hy,q⟩:=h;cases rx;cases rv.zero
 obtain⟨z,its,n,r,hl,e⟩:=I.lstM hH;obtain⟨u,hu,ru⟩:=r.get hy;have hy':=by
  show its.toArray[its.length-1]?=Dn u
  rwa[<-Yi,<-hl]
 refine V9 F.slot_list_pop ⟨_,e,rfl⟩ F.entry_list_pop (F.args_list_pop_1 _) (MeetsSeq.list_pop_last l _ n u hy' (by rw[Jr];lia)) ⟨e,?_⟩;refine⟨y,_,I.lset hH e (by rw[Jr,List.eraseIdxIfInBounds_toArray,zao]) r.dropLast ?_,ru,q⟩;rw[List.length_dropLast];lia
def ago:R2:=λx y H Q=>∃l b xs zs,x=.ref l/\y=.ref b/\H l=Dn (.lst xs)/\H b=Dn (.lst zs)/\xs.length+zs.length<=G6/\∀p,H p=Go->Q (.ref p) (G7 H p (.lst (xs++zs)))
theorem abq:K3 X (Nu .Add) ago:=by
 intro amD s U H x y v u Q I rx ry h;obtain⟨l,b,xs,zs,rfl,rfl,hH,hB,hz,q⟩:=h;cases rx;cases ry;obtain⟨z,its,n,r,hl,e⟩:=I.lstM hH;obtain⟨z2,its2,n2,r2,hl2,e2⟩:=I.lstM hB;refine PySem.P.add_list e e2 ?_ (by rw[Jr,Jr];lia);have ea:its.toArray++its2.toArray=(its++its2).toArray:=by simp
 rw[ea];exact⟨.ref _,_,I.lnew (r.append r2) (by rw[Pa];lia),rfl,q _ I.fresh⟩
theorem len_rep {α:Type}(xs:List α)(k:Nat):(Iw k xs).flatten.length=k*xs.length:=by simp_all
end
section
variable {prog:Ci}{w:CZ}{A:G4}{E:JI->kI->Prop}{s:kI}
end
section
variable {X:Cx}
end
end L2
namespace Att
open PySem PySem.W PySem.Calls PyProof.Rows
theorem tZ {P:Params}{h:Heap}:∀(ns:List Int) (vs:List JI),WellAll P h vs (ns.map WData.int)->IntsAre vs ns:=by
 intro ns;induction ns with
 | nil=>
  intro vs w;cases w;exact .nil
 | cons n ns ih=>
  intro vs w;cases w with
  | cons a b=>
   cases a;exact .cons _ _<|ih _ b
theorem ahL {l:OpenLaw}{n:Nat}(hn:l.most=Dn n){P:Params}{h:Heap}{args:List WData}{vals:List JI}
  (hpre:l.row.toRowW.claim.pre args=true) (hwl:WellAll P h vals args) :
  ∃a vs ns,vals=[Value.ref a]/\args=[WData.list (ns.map WData.int)]/\h.get? a=Dn {cls:=.type "list",data:=.seq vs.toArray}/\IntsAre vs ns/\ns.length<=n:=by
 obtain⟨d,r,rfl,h1,h2⟩:=hasAllW_cons ((pre_splitW hpre).1);obtain rfl:=hasAllW_nil h2;obtain⟨xs,rfl,h3⟩:=hasW_list h1;obtain⟨ns,rfl⟩:=items_int h3;have amE:=by
  have h4:=by
   have h4:=(holds_andW ((pre_splitW hpre).2)).1
   rwa[hn]at h4
  have h5:=condW_of h4 (w_not (w_lt w_lit (w_len_list (w_arg rfl))));first
   | (simp at h5;lia)
 cases hwl with
 | cons w1 w2=>
  cases w2;cases w1 with
  | list ho hall=>exact⟨_,_,ns,rfl,rfl,ho,tZ ns _ hall,amE⟩
theorem ajJ (l:OpenLaw)(args:List WData):l.row.toRowW.claim.post args (.bool true) args=true:=
 postW_of
  (show WShape.has [] _ .bool=true by first|rfl|decide|simp)
  (w_eq_bool (w_res rfl) w_lit) rfl
theorem BP {l:OpenLaw}{n:Nat}{q:Ci}{loose:List Str}{XP:(Str->Option JI)->Heap->Prop}{YP:CZ->Heap->Prop}{d:DefRec}
  (hn:l.most=Dn n) (hdf:d.params.defaults=[])
  (call:∀(w:CZ) (s₀ s₁:kI) (mg mb:Str->Option JI) (fa:Addr) (o:Obj) (pm cd doc:JI) (a:Addr) (vs:List JI) (ns:List Int),
   Ground q loose [] XP w s₀ mg mb s₁.heap->YP w s₁.heap ->
   s₁.heap.get? fa=Dn o->o.data=.func (docDef d.name d.params d.body d.scope pm cd doc)->s₁.heap.CodeRec cd d.name->mg d.name=Dn (.ref fa) ->
   s₁.heap.get? a=Dn {cls:=.type "list",data:=.seq vs.toArray}->IntsAre vs ns->ns.length<=n->s₁.gens=#[] ->
   PL (CJ l.prog w) callerA (.call (.ref fa) ⟨[.ref a],[]⟩) (λr s'=>r=.ok (.ret (.bool true))/\OldK s₁.heap s'.heap/\s'.os=s₁.os/\Rv s'.gens) s₁) :
  WalkO q loose XP YP l.row.toRowW d [] (λf vs=>PySem.call f vs):=by
 intro w s₀ s₁ mg mb G Y fa o pm cd doc dV kV ho hd hcd hD hmg hg args vals as hpre hlay hrd hwl hlo;obtain rfl:dV=.none:=Dflts.none hD hdf;obtain rfl:kV=.none:=Dflts.noKw hD;obtain⟨a,vs,ns,rfl,rfl,hobj,hints,amE⟩:=ahL hn hpre hwl;refine enter_call<|codeAny_mono (call w s₀ s₁ mg mb fa o pm cd doc a vs ns G Y ho (fd_plain hd) hcd hmg hobj hints amE hg) λr s' hq=>?_
 obtain⟨rfl,h2,h3,h4⟩:=hq;exact⟨.inl ⟨.bool true,.bool true,[],rfl,λ_=>rfl,.bool true,ajJ l _,λ_=>⟨List.Pairwise.nil,λ_ hm=>(nomatch hm)⟩⟩,h2,h3,h4⟩
section
variable {prog:Ci}{w:CZ}{A:G4}{E:JI->kI->Prop}{s:kI}{K:Frag}
def ledger (h:Heap)(L d:Addr):List (Addr×Obj):=(Ji h.objs.size).filterMap λa=>if a=L\/a=d then Go else(h.get? a).map λo=>(a,o)
end
end Att
variable {XP:(Str->Option JI)->Heap->Prop}{loose:List Str}{YP:CZ->Heap->Prop}
namespace L2
open PySem PySem.Spec PyProof.Rows
theorem xV:∀{vs:List JI}{ns:List Int},IntsAre vs ns->Ba (ns.map V.int) vs
 | _,_,.nil=>.nil
 | _,_,.cons n t h=>.cons ⟨t,rfl⟩ (xV h)
def Only (H:Hp):Prop:=∀b,H b=Go\/∃o xs,H b=Dn (.frz o (.lst xs))
theorem ala {P:Ci}{w:CZ}{K:Bl}{mg mb:Str->Option JI}{CX:V5}{k:Nat}{fa a:Addr}{fd:Oh}{x:Str}{sp:Sp}{s₁:kI}{vs:List JI}{ns:List Int}
  (KX:K.In s₁.heap) (hns:s₁.heap.Ns J4 mg) (hb:s₁.heap.Ns builtinsNs mb) (hbb:∀x:Str,x ≠ "__name__"->mb x=VF x) (hlim:s₁.heap.NoLimit) (hg:s₁.gens=#[])
  (ha:s₁.heap.get? a=Dn {cls:=.type "list",data:=.seq vs.toArray}) (hi:IntsAre vs ns) (hl:ns.length<=G6) (hr:o7 k callerA)
  (F:∀base:Heap,K.In base->base.Ns J4 mg->sE P w K mg base CX k fa fd [x] sp) (hbind:∀(s:kI) (u:JI),BindsTo s fd ⟨[u],[]⟩ [(x,u)])
  (hsp:∀H:Hp,Only H->JH K H a (ns.map V.int)->sp [.ref a] H (λv _=>v=.bl true) λ_ _ _=>False)
  (hCX:∀H e s',CX Go [] H s₁ (λ_ _ _=>False) e s'->False) :
  PL (CJ P w) callerA (.call (.ref fa) ⟨[.ref a],[]⟩) (λr s'=>r=.ok (.ret (.bool true))/\OldK s₁.heap s'.heap/\s'.os=s₁.os/\Rv s'.gens) s₁:=by
 have rv:=xV hi;have core:∀H:Hp,Only H->JH K H a (ns.map V.int)->Kp P w H s₁.heap->(∀b,H b≠Go->b=a)->(H a≠Go->K.lookup a=Go) ->
   PL (CJ P w) callerA (.call (.ref fa) ⟨[.ref a],[]⟩) (λr s'=>r=.ok (.ret (.bool true))/\OldK s₁.heap s'.heap/\s'.os=s₁.os/\Rv s'.gens) s₁:=by
  intro H hO hS hok hA hK;have base_of:∀{b:Addr}{o:Obj},s₁.heap.get? b=Dn o->H b=Go->(Zi _ H).get? b=Dn o:=λe n=>akz e n
  have noA:∀{b:Addr}{o:Obj}{es:Array Ql}{ep:Nat},s₁.heap.get? b=Dn o->o.data=.dict es ep->H b=Go:=λ{b o es ep} e d=>by
   cases q:H b with
   | none=>rfl
   | some u=>
    cases hA b (by rw[q];simp)
    rw[ha]at e;cases e;cases d
  have nsK:∀{b:Addr}{m:Str->Option JI},s₁.heap.Ns b m->(Zi _ H).Ns b m:=λ{b m} ⟨o,es,ep,e,d,r⟩=>⟨o,es,ep,base_of e (noA e d),d,r⟩
  have hKb:=λb o e=>base_of (KX b o e) (by
   cases q:H b with
   | none=>rfl
   | some u=>
    cases hA b (by rw[q];simp)
    rw[hK (by rw[q];simp)]at e;cases e)
  refine codeAny_mono ((F _ hKb<|nsK hns).run callerA [] s₁ H ⟨[.ref a],[]⟩ [.ref a] [.ref a] _ _ hr ⟨rfl,⟨hKb,nsK hns,⟨mb,nsK hb,hbb⟩,let⟨mc,h1,h2⟩:=hlim;⟨mc,nsK h1,h2⟩⟩,λb o e=>Za e,Nat.le_of_eq<|zaP _ _,trivial,λb hb=>absurd (show b∈([]:List Addr)from hb)<|by simp,hok,.of_eq hg,λv e=>(nomatch e)⟩ (hbind s₁ _) (.cons rfl .nil) (hsp H hO hS)) λr s' h=>?_;cases r with
  | error e=>exact(hCX H e s' h).elim
  | ok fl=>
   cases fl with
   | next|brk|cont=>exact False.elim h
   | ret u=>
    obtain⟨v,H',os,bare,un,hok',r',q⟩:=h;cases q;obtain rfl:u=Value.bool true:=r';refine⟨rfl,OldK.of_keep λb o e=>?_,os,bare⟩;cases q:H b with
    | none=>exact un.keep b o e q (by intro z;exact absurd (show b∈([]:List Addr)from z) (by simp)) (by simp)
    | some u=>
     rcases hO b with z|⟨ob,xs,z⟩
     rw[q]at z;cases z;obtain⟨e1,_⟩:=hok b _ z;obtain⟨e2,_⟩:=hok' b _ (un.frzs b ob _ z);rw[e]at e1;cases e1;exact e2
 cases hk:K.lookup a with
 | some o=>
  have e:=KX a o hk;rw[ha]at e;cases e;refine core _ (λ_=>.inl rfl) (.inr ⟨_,vs.toArray,_,hk,rfl,rfl,rfl,by rw[Jr,hi.length];exact hl,by simpa using rv⟩) (λb u z=>by have z':=z;cases z') (λb z=>absurd rfl z) λz=>absurd rfl z
 | none=>
  refine core (λb=>if b=a then Dn _ else Go) (λb=>?_) (.inl<|.inr ⟨{cls:=.type "list",data:=.seq vs.toArray},if_pos rfl⟩) (λb u z=>?_) (λb z=>?_) λ_=>hk;by_cases hb:b=a
  exact .inr ⟨_,_,if_pos hb⟩;exact .inl<|if_neg hb
  by_cases hb:b=a
  cases(if_pos hb).symm.trans z
  subst hb;exact⟨ha,by rwa[CV],vs,_,rv,ha⟩;cases(if_neg hb).symm.trans z
  by_cases hb:b=a
  exact hb;exact absurd (if_neg hb) z
theorem NQ {l:PySem.W.OpenLaw}{n k:Nat}{q:Ci}{d:DefRec}{K:Params->Bl}{CX:CZ->V5}{sp:CZ->Sp}{x:Str}
  (hn:l.most=Dn n) (hn2:n<=G6) (hdf:d.params.defaults=[]) (hr:o7 k callerA)
  (hY:∀(w:CZ) (h:Heap),YP w h->(K w.params).In h)
  (F:∀(w:CZ) (mg:Str->Option JI) (fa:Addr) (h:Heap),(K w.params).In h->h.Ns J4 mg->mg d.name=Dn (.ref fa) ->
   ∃fd:Oh,(∀(s:kI) (u:JI),BindsTo s fd ⟨[u],[]⟩ [(x,u)]) /\
    ∀base:Heap,(K w.params).In base->base.Ns J4 mg->sE l.prog w (K w.params) mg base (CX w) k fa fd [x] (sp w))
  (hsp:∀(w:CZ) (H:Hp) (a:Addr) (ns:List Int),ns.length<=n->Only H->JH (K w.params) H a (ns.map V.int)->sp w [.ref a] H (λv _=>v=.bl true) λ_ _ _=>False)
  (hCX:∀(w:CZ) (H:Hp) (s:kI) (e:JI) (s':kI),CX w Go [] H s (λ_ _ _=>False) e s'->False) :
  PySem.W.WalkO q loose XP YP l.row.toRowW d [] (λf vs=>PySem.call f vs):=by
 refine Att.BP hn hdf λw s₀ s₁ mg mb fa o pm cd doc a vs ns G Y ho hd hcd hmg hobj hints amE hg=>?_;have KX:=hY w _ Y;obtain⟨fd,hb,hF⟩:=F w mg fa _ KX G.T.g hmg;exact ala KX G.T.g G.T.b G.T.builtins G.T.nolimit hg hobj hints (HN amE hn2) hr hF hb (λH hO hS=>hsp w H a ns amE hO hS) λH e s'=>hCX w H s₁ e s'
end L2
namespace L2
open PySem PySem.Spec PyProof.Rows
def oZ (s:Stmt):Arguments:=match s with
 | .FunctionDef _ a _ _ _ _ _ _ _ _=>a
 | _=>{posonlyargs:=[],args:=[],vararg:=Go,kwonlyargs:=[],kw_defaults:=[],kwarg:=Go,defaults:=[]}
def jw (s:Stmt):List Stmt:=match s with
 | .FunctionDef _ _ b _ _ _ _ _ _ _=>b
 | _=>[]
def cD (s:Stmt):Scope:=match s with
 | .FunctionDef _ _ _ _ _ _ sc _ _ _=>sc
 | _=>{kind:=.function,names:=[],isGenerator:=false,isCoroutine:=false}
abbrev QF:V5:=λ_ _ _ _ _ _ _=>False
abbrev E0:XK:=λ_ _ _=>False
theorem aej {X:Cx}:Passes QF X E0:=λ_ _ _ _ _ _ _ h=>h.elim
structure W5 (K:Bl) (x qual:Str) (st:Stmt) (f:Addr) (fd:Oh):Prop where
 ex:∃(oc:JI) (od:Option Addr) (kV doc pm:JI) (an:Option Addr) (cdv ct:JI) (osl:Array (Option JI)),
  fd=WQ x qual (oZ st) (jw st) (cD st) .none kV doc pm an cdv ct/\K.lookup f=Dn ⟨oc,od,.func fd,osl⟩/\YK K cdv qual=true
 kp:RX K (.ref f)=true
section
variable {P:Ci}{w:CZ}{K:Bl}{mg:Str->Option JI}{base:Heap}
theorem W5.ok {x qual:Str}{st:Stmt}{f:Addr}{fd:Oh}{N ps:List Str}{k:Nat}{sp:Sp}(F:W5 K x qual st f fd)(S:pI N ps (cD st))(len:∀vs H Q E,sp vs H Q E->vs.length=ps.length)
  (hbody:∀(cdv:JI) (A:G4) (outer:List Env) (s:kI) (H:Hp) (vs:List V) (Q:VK) (E:XK),o7 k (A.deeper (envOfC qual (cD st) s.heap.objs.size f cdv))->sp vs H Q E ->
   ∃t,Pg (TF QF P w K mg base N qual (cD st) f cdv A outer s H E).nox (jw st) t/\t {nx:=λ_ H'=>Q .non H',rt:=Q} (start N vs) H):sE P w K mg base QF (k+1) f fd ps sp:=by
 obtain⟨oc,od,kV,doc,pm,an,cdv,ct,osl,rfl,lk,hcd⟩:=F.ex;refine adv lk hcd S len λA outer s H vs Q E hr hsp=>?_;obtain⟨t,h,q⟩:=hbody cdv A outer s H vs Q E hr hsp;exact⟨t,h.nox,q⟩
theorem W5.binds {x qual:Str}{st:Stmt}{f:Addr}{fd:Oh}{ps:List Str}(F:W5 K x qual st f fd)
  (h:∀(kV doc pm:JI) (an:Option Addr) (cdv ct:JI) (us:List JI),us.length=ps.length->bindArgs (WQ x qual (oZ st) (jw st) (cD st) .none kV doc pm an cdv ct) ⟨us,[]⟩=pure (ps.zip us)):Binds K fd ps []:=by
 obtain⟨oc,od,kV,doc,pm,an,cdv,ct,osl,rfl,lk,hcd⟩:=F.ex;exact .all<|h kV doc pm an cdv ct
theorem M8 {x qual:Str}{st:Stmt}{f:Addr}{oc:JI}{od an:Option Addr}{osl:Array (Option JI)}{kV doc pm cdv ct:JI}(l:K.lookup f=Dn ⟨oc,od,.func (WQ x qual (oZ st) (jw st) (cD st) .none kV doc pm an cdv ct),osl⟩)
  (c:YK K cdv qual=true) (k:RX K (.ref f)=true):W5 K x qual st f (WQ x qual (oZ st) (jw st) (cD st) .none kV doc pm an cdv ct):=⟨⟨oc,od,kV,doc,pm,an,cdv,ct,osl,rfl,l,c⟩,k⟩
end
section
variable {X:Cx}
theorem pv (i:Nat){x:Str}{pos:Pos}(hN:X.N[i]?=Dn x:=by rfl)(hv:Vis X.env.scope x:=by first|exact Or.inl rfl|exact Or.inr (Or.inl rfl)|exact Or.inr (Or.inr rfl))(hd:(x==("__debug__" : Str))=false:=by decide)
  (hcd:(x==("__classdict__" : Str))=false:=by decide):PE X (.Name x pos) (aeR i):=aa7 hN hv hd hcd
end
def V6 (env:Env):List (Str×Od)->List (Str×Addr)->List (Str×Addr)
 | [],cs=>cs
 | (n,k)::r,cs=>V6 env r (if(k==NameKind.free)=true then(n,(env.cells.lookup n).getD 0)::cs else cs)
def Tv (scope:Scope)(env:Env):List (Str×Addr):=V6 env scope.names []
variable {env:Env}
theorem xq {env:Env}{p:Str×Addr}:∀(l:List (Str×Od)) (cs:List (Str×Addr)),p∈V6 env l cs->p∈cs\/((p.1,NameKind.free)∈l/\p.2=(env.cells.lookup p.1).getD 0)
 | [],cs,h=>.inl h
 | (n,k)::r,cs,h=>by
  rcases xq r _ h with h|⟨h1,h2⟩
  grind
  grind
theorem Er {env:Env}{x:Str}:∀(l:List (Str×Od)) (cs:List (Str×Addr)),((x,NameKind.free)∈l\/∃c,(x,c)∈cs)->∃c,(x,c)∈V6 env l cs
 | [],cs,h=>by
  rcases h with h|h
  grind
  exact h
 | (n,k)::r,cs,h=>by
  refine Er r _ ?_;grind
variable {c:Addr}
theorem jk {x:Str}{c:Addr}:∀{l:List (Str×Addr)},(x,c)∈l->∃c',l.lookup x=Dn c'
 | (n,d)::r,h=>by
  by_cases e:x=n
  simp_all
  rcases Jz.mp h with q|q
  injection q with q1 _
  grind
  obtain⟨c',h'⟩:=jk q;refine⟨c',?_⟩
  rwa[X6,(beq_eq_false_iff_ne.mpr e)]
theorem Nq {scope:Scope}(h:∀y∈scope.names,y.2=NameKind.free->∃c,env.cells.lookup y.1=Dn c):closureFor scope env=pure (Tv scope env):=by
 unfold closureFor Tv;have key:∀(l:List _) (cs:List _),(∀y∈l,y.2=NameKind.free->∃c,env.cells.lookup y.1=Dn c) ->
   (forIn l cs (λ(x:Str×Od) (cs:List _)=>(if(x.2==NameKind.free)=true then cellOf env x.1 >>= λc=>pure (ForInStep.yield ((x.1,c)::cs))else pure (ForInStep.yield cs):Sem _)))=pure (V6 env l cs):=by
  intro l;induction l with
  | nil=>intro cs _;rfl
  | cons x r ih=>
   intro cs hl;obtain⟨n,k⟩:=x;rw[YL];have hr:=λy hy=>hl y (OD _ hy)
   by_cases hk:(k==NameKind.free)=true
   obtain⟨c,hc⟩:=hl _ Lp (by simpa using hk);have hc':=hc;have e1:cellOf env n=pure c:=by unfold cellOf;rw[hc']
   simp only[hk,if_true,e1,pure_bind];rw[ih _ hr];simp[V6,hk,hc'];simp only[hk,if_false,pure_bind,Xp];rw[ih _ hr];simp[V6,hk]
 simpa using(key _ [] h)
variable {y:Str}
theorem jQ {y:Str}{c:Addr}:∀{names:List (Str×Od)}{n:Nat}{acc:List (Str×Addr)},(y,c)∈Li n names acc↔(y,c)∈acc\/(y,c)∈Li n names []
 | [],n,acc=>by simp[Li]
 | (name,kind)::r,n,acc=>by
  unfold Li;split
  rw[jQ,jQ (acc:=[(name,n)])];grind
  exact jQ
theorem CN {y:Str}{c:Addr}:∀{names:List (Str×Od)}{n:Nat},(y,c)∈Li n names []->(y,NameKind.cell)∈names
 | (name,kind)::r,n,h=>by
  unfold Li at h;split at h
  rename_i hk;rcases jQ.mp h with q|q
  grind
  exact OD _<|CN q
  exact OD _<|CN h
theorem KN {y:Str}:∀{names:List (Str×Od)}{n:Nat},(y,NameKind.cell)∈names->∃c,(y,c)∈Li n names []
 | (name,kind)::r,n,h=>by
  unfold Li;rcases Jz.mp h with q|q
  cases q;exact⟨n,jQ.mpr<|.inl Lp⟩;split
  obtain⟨c,hc⟩:=KN q;exact⟨c,jQ.mpr<|.inr hc⟩;exact KN q
variable {names:List (Str×Od)}
theorem ab4 {h:Heap}(e:(y,c)∈Li h.objs.size names []):(pushCells h names).IsCell c Go/\h.objs.size<=c:=
 (cellsFrom_ok names h _ [] ⟨λ_ _ z=>by simp at z,List.Pairwise.nil⟩ (GZ _)).empty y c e
theorem aiN {n:Nat}{z:Str}(e:(y,c)∈Li n names [])(e':(z,c)∈Li n names []):y=z:=by
 have key:∀(k:Nat),∃h:Heap,h.objs.size=k:=λk=>by
  induction k with
  | zero=>exact⟨{(default:Heap)with objs:=#[]},rfl⟩
  | succ k ih=>
   obtain⟨h,e⟩:=ih;exact⟨h.push {cls:=.type "cell",data:=.cell Go},by rw[RW,e]⟩
 obtain⟨h,rfl⟩:=key n;exact name_of_addr (cellsFrom_ok names h _ [] ⟨λ_ _ z=>by simp at z,List.Pairwise.nil⟩<|GZ _).apart e e'
variable {closure:List (Str×Addr)}
theorem zbj {M:Model}{A:G4}{E:JI->kI->Prop}{s:kI}{scope:Scope}{globals:Addr}{qual:Str}{func:Option Addr}{code:JI}{ar:Env}{builtins:Addr}{Q:Env->kI->Prop}
  (hQ:Q {scope:=scope,locals:=s.heap.objs.size,globals:=globals,cells:=Li (s.heap.objs.size+1) scope.names closure,qual:=qual,func:=func,code:=ar.code,frame:=ar.frame,builtins:=ar.builtins} {s with heap:=pushCells (s.heap.push {cls:=.type "dict",data:=.dict #[]}) scope.names}) :
  Bs M A (newFunctionEnv scope globals closure [] qual func code (Dn ar) builtins) Q E s:=by
 simp only[newFunctionEnv];refine Ay<|wpAny_alloc ?_
 refine Ay<|wpAny_layCells _ (λname kind cells=>by cases hkc:kind==NameKind.cell<;>simp) _ _ _ _ ?_
 exact RW .. ▸ Ay (Bv<|Bv hQ)
def blk (X:Cx)(scope:Scope)(N':List Str)(C:Addr)(s:kI)(H:Hp)(ex:List Addr):Cx where
 prog:=X.prog
 w:=X.w
 K:=X.K
 mg:=X.mg
 base:=X.base
 A:=X.A
 N:=N'
 s₀:=s
 H₀:=H
 env:=compEnvC scope (Li (C+1) scope.names (Tv scope X.env)) C X.env
 outer:=X.stack
 stack:=X.stack
 ex:=ex
 fn:=λy=>decide (scope.names.lookup y=Dn .cell)
 calm:=X.calm
 pn:=[]
 xe:=λ_ _=>False
structure jM (X:Cx) (scope:Scope) (x:List Str) (ix:List Nat):Prop where
 kind:scope.kind=.function
 own:∀y∈x,scope.names.lookup y=Dn .local\/scope.names.lookup y=Dn .cell
 names:∀y∈scope.names,scope.names.lookup y.1=Dn y.2
 free:∀y∈scope.names,y.2=.free->X.env.scope.names.lookup y.1=Dn .cell\/X.env.scope.names.lookup y.1=Dn .free
 ixs:∀i∈ix,scope.names.lookup (X.N.getD i "")=Dn .free
 nd:(x++ix.map λi=>X.N.getD i "").Nodup
def Gx:List Str->Bool
 | []=>true
 | x::r=>!(r.contains x)&&Gx r
def afM (sc:Scope)(N:List Str)(scope:Scope)(x:List Str)(ix:List Nat):Bool:=
 decide (scope.kind=.function)&&x.all (λy=>decide (scope.names.lookup y=Dn .local)||decide (scope.names.lookup y=Dn .cell)) &&
 scope.names.all (λy=>decide (scope.names.lookup y.1=Dn y.2)) &&
 scope.names.all (λy=>!decide (y.2=.free)||decide (sc.names.lookup y.1=Dn .cell)||decide (sc.names.lookup y.1=Dn .free)) &&
 ix.all (λi=>decide (scope.names.lookup (N.getD i "")=Dn .free))&&Gx (x++ix.map λi=>N.getD i "")
theorem yO:∀{l:List Str},Gx l=true->l.Nodup
 | [],_=>YH
 | x::r,h=>by
  unfold Gx at h;rw[Ol]at h;refine RZ.mpr ⟨λhm=>?_,yO h.2⟩;grind
variable {ix:List Nat}
theorem cQ {X:Cx}{scope:Scope}{x:List Str}(h:afM X.env.scope X.N scope x ix=true):jM X scope x ix:=by
 unfold afM at h;simp only[Ol,Qe,decide_eq_true_eq,Bool.or_eq_true]at h;obtain⟨⟨⟨⟨⟨h1,h3⟩,h4⟩,h5⟩,h6⟩,h7⟩:=h;exact⟨h1,λy hy=>h3 y hy,λy hy=>h4 y hy,λy hy hk=>(by grind),λi hi=>h6 i hi,yO h7⟩
def Hf (ix:List Nat)(U:St):St:=ix.map λi=>(U[i]?).getD Go
abbrev jZ (X:Cx)(x:List Str)(ix:List Nat):List Str:=x++ix.map λi=>X.N.getD i ""
theorem iM {scope:Scope}{env:Env}{x:Str}:∀{names:List (Str×Od)}{k:Od},
  (names.map λ(p:Str×Od)=>if(p.2==NameKind.free&&env.scope.kind==.function&&env.kindOf p.1==Dn .cell)=true then(p.1,NameKind.cell)else(p.1,p.2)).lookup x=Dn k ->
  names.lookup x=Dn k\/(k=.cell/\names.lookup x=Dn .free)
 | (n,k')::r,k,h=>by
  rw[HY]at h;cases hx:x==n with
  | true=>
   grind
  | false=>
   have h':(r.map λ(p:Str×Od)=>if(p.2==NameKind.free&&env.scope.kind==.function&&env.kindOf p.1==Dn .cell)=true then(p.1,NameKind.cell)else(p.1,p.2)).lookup x=Dn k:=by
    by_cases hc:(k'==NameKind.free&&env.scope.kind==.function&&env.kindOf n==Dn .cell)=true
    rw[if_pos hc]at h;simpa only[X6,hx]using h;rw[if_neg hc]at h;simpa only[X6,hx]using h
   rcases iM (scope:=scope) h' with q|⟨q1,q2⟩
   grind
   exact .inr ⟨q1,by simpa[X6,hx]using q2⟩
theorem qC {env:Env}{x:Str}:∀{names:List (Str×Od)},names.lookup x=Dn .free ->
  (names.map λ(p:Str×Od)=>if(p.2==NameKind.free&&env.scope.kind==.function&&env.kindOf p.1==Dn .cell)=true then(p.1,NameKind.cell)else(p.1,p.2)).lookup x=Dn .cell \/
  (names.map λ(p:Str×Od)=>if(p.2==NameKind.free&&env.scope.kind==.function&&env.kindOf p.1==Dn .cell)=true then(p.1,NameKind.cell)else(p.1,p.2)).lookup x=Dn .free
 | (n,k')::r,h=>by
  rw[HY];cases hx:x==n with
  | true=>
   grind
  | false=>
   have ih:=qC (env:=env) (by simpa[X6,hx]using h);grind
theorem pZ {env:Env}{x:Str}:∀{names:List (Str×Od)},names.lookup x=Dn .cell ->
  (names.map λ(p:Str×Od)=>if(p.2==NameKind.free&&env.scope.kind==.function&&env.kindOf p.1==Dn .cell)=true then(p.1,NameKind.cell)else(p.1,p.2)).lookup x=Dn .cell
 | (n,k')::r,h=>by
  rw[HY];cases hx:x==n with
  | true=>
   grind
  | false=>
   have ih:=pZ (env:=env) (show r.lookup x=Dn .cell by simpa[X6,hx]using h);grind
section
variable {X:Cx}{amD:List (Addr×Obj)}{U:St}{H:Hp}{s:kI}{scope:Scope}{x:List Str}{C:Addr}{fp:List Addr}
theorem M4 (B:jM X scope x ix)(hy:y∈x):Loc (relabel scope X.env) y/\(decide (scope.names.lookup y=Dn .cell)=true\/(relabel scope X.env).names.lookup y=Dn .local):=by
 rcases B.own y hy with q|q
 have:=lookup_relabel_local (env:=X.env) q
 exact⟨.inl this,.inr this⟩;exact⟨.inr<|pZ q,.inl<|decide_eq_true q⟩
theorem wJ (I:BJ X amD U H s)(B:jM X scope x ix):∀y∈scope.names,y.2=NameKind.free->∃c,X.env.cells.lookup y.1=Dn c:=λy hy hk=>I.ok.has _ (B.free y hy hk)
theorem abI (I:BJ X amD U H s)(B:jM X scope x ix)(h:(y,c)∈Tv scope X.env):X.env.cells.lookup y=Dn c:=by
 rcases xq _ [] h with q|⟨q1,q2⟩
 grind
 obtain⟨c',e⟩:=wJ I B _ q1 rfl;grind
theorem qp (I:BJ X amD U H s)(B:jM X scope x ix)(h:(Li (C+1) scope.names (Tv scope X.env)).lookup y=Dn c):X.env.cells.lookup y=Dn c\/(y,c)∈Li (C+1) scope.names []:=
 (jQ.mp (VH h)).imp_left (abI I B)
theorem IK {n:Nat}(e:(y,c)∈Li n names []):n<=c:=by
 have key:∀(names:List _) (n:Nat),(y,c)∈Li n names []->n<=c:=by
  intro names;induction names with
  | nil=>intro n h;simp[Li]at h
  | cons a r ih=>
   intro n h;unfold Li at h;split at h
   rcases jQ.mp h with q|q
   grind
   grind
   exact ih n h
 exact key names n e
theorem ajo (B:jM X scope x ix)(hf:scope.names.lookup y=Dn .free)(h:(y,c)∈Li (C+1) scope.names []):False:=by
 have:=B.names _ (CN h)
 grind
theorem Fj (h:scope.names.lookup y=Dn .free\/scope.names.lookup y=Dn .cell):∃c,(Li (C+1) scope.names (Tv scope X.env)).lookup y=Dn c:=by
 rcases h with h|h
 obtain⟨c,hc⟩:=Er _ [] (.inl (VH h));exact jk<|jQ.mpr<|.inl hc
 obtain⟨c,hc⟩:=KN (VH h);exact jk<|jQ.mpr<|.inr hc
theorem aad (I:BJ X amD U H s)(B:jM X scope x ix)(hC:s.heap.objs.size<=C)(hf:∀b∈fp,Ia X amD H b)(ho:∀b∈fp,∃o,s.heap.get? b=Dn o):
  (blk X scope (jZ X x ix) C s H fp).Ok where
 mod:=I.ok.mod
 kind:=B.kind
 glob:=I.ok.glob
 blt:=I.ok.blt
 above:=hC
 inj:=λy z c h1 h2=>by
  have far:∀{y z:Str},X.env.cells.lookup y=Dn c->(z,c)∈Li _ scope.names []->False:=λ{y z} e q=>by
   obtain⟨v,w⟩:=I.cell y c e;exact absurd (K1 w.lt<|HN (HN hC<|Ws C)<|IK q)<|Qd _
  rcases qp I B h1 with q1|q1
  rcases qp I B h2 with q2|q2
  exact I.ok.inj y z c q1 q2;grind
  rcases qp I B h2 with q2|q2
  grind
  exact aiN q1 q2
 has:=λy hy=>by
  rcases hy with q|q
  rcases iM (scope:=scope) q with r|⟨_,r⟩
  exact Fj<|.inr r
  exact Fj<|.inl r
  rcases iM (scope:=scope) q with r|⟨r,_⟩
  exact Fj<|.inl r
  cases r
 cab:=λy c hf h=>by
  rcases jQ.mp (VH h)with q|q
  rcases xq _ [] q with q|⟨q1,_⟩
  exact nomatch q
  have:=B.names _ q1
  rw[(of_decide_eq_true hf)]at this;cases this;exact HN (HN hC<|Ws C)<|IK q
 hd:=I.ok.hd
 qt:=I.qt0
 frames:=I.ok.frames
 stk:=.inl rfl
 exf:=λb hb=>by
  obtain⟨o,e⟩:=ho b hb;refine⟨Jl<|K1 (GK e) hC,λy c h=>?_⟩;rcases qp I B h with q|q
  exact(hf b hb).2.2.2.2.1 y c q;intro z;rw[z]at q;exact absurd (K1 (GK e)<|HN (HN hC<|Ws C)<|IK q)<|Qd _
 bs:=I.bs
 bsz:=HN I.ok.bsz I.sz
 noex:=λb o e hb=>by
  rcases(hf b hb).2.2.2.1 with q|q
  exact I.ok.noex b o e q;exact absurd (K1 (GK e)<|HN I.ok.bsz q)<|Qd _
 exfs:=λb hb z=>by
  obtain⟨_,h1,h2,_⟩:=hf b hb;rcases Jz.mp (I.stkSub b z)with e|e
  exact h1 e;exact h2 e
 funs:=I.stack
 frf:=I.stkFree
theorem ahO {D:Addr}{h1:Heap}{tk:Nat}{m:Str->Option JI}(I:BJ X amD U H s)(B:jM X scope x ix)(ok:(blk X scope (jZ X x ix) C s H fp).Ok)
  (hD:D=s.heap.objs.size) (k:∀b o,s.heap.get? b=Dn o->h1.get? b=Dn o) (hl:h1.get? D=Dn {cls:=.type "list",data:=.seq #[]}) (hns:h1.Ns C m) (hCD:C≠D) (hC:s.heap.objs.size<=C) (hce:∀y c,(y,c)∈Li (C+1) scope.names []->h1.IsCell c Go) :
  BJ (blk X scope (jZ X x ix) C s H fp) [] (Iw x.length Go++Hf ix U) (G7 H D (.lst [])) {s with heap:=h1,toks:=tk} where
 ok:=ok
 os:=rfl
 bare:=I.bare
 base:=Un.laid k (hD ▸ GZ _) (I.hok.fresh (hD ▸ GZ _))
 loc:=by
  refine⟨m,hns,λi y v e1 e2 e3=>?_⟩;by_cases hix:i<x.length
  rw[Vz (by simpa using hix),Yd,if_pos hix]at e2;cases e2
  ·rw[Vd (by simpa using hix),Wf]at e2;have e1':=by
    have z:(x++ix.map λi=>X.N.getD i "")[i]?=Dn y:=e1
    rwa[Vd (by simpa using hix)]at z
   generalize i-x.length=j at e1' e2;unfold Hf at e2;rw[HI]at e1' e2;cases hj:ix[j]? with
   | none=>rw[hj]at e2;cases e2
   | some i'=>
    rw[hj]at e1' e2;simp only[Option.map_some,Option.some.injEq]at e1' e2;have hi:U[i']?=Dn (Dn v):=by
     cases q:U[i']? with
     | none=>rw[q]at e2;cases e2
     | some z=>rw[q]at e2;exact congrArg Dn e2
    have hlt:=by
     have:=(O4.mp hi).1
     rwa[I.len]at this
    have hn:X.N[i']?=Dn y:=by
     rw[M9,JD hlt,Option.getD_some]at e1';rw[JD hlt,e1']
    have hfree:=by
     have:=B.ixs i' (Mz hj)
     rwa[e1']at this
    have kx:=B.free _ (VH hfree) rfl;have vis:Vis X.env.scope y:=by
     rcases kx with q|q
     exact .inr<|.inl q
     exact .inr<|.inr q
    obtain⟨m',_,hl'⟩:=I.loc;obtain⟨u,r,lk⟩:=hl' i' y v hn hi vis;refine⟨u,r,?_⟩;rcases lk with⟨q,_⟩|⟨_,c,hc,hcell⟩
    have q':X.env.scope.names.lookup y=Dn .local:=q;rcases kx with z|z<;>(rw[q']at z;cases z)
    obtain⟨c',hc'⟩:=Fj (.inl hfree);have e:=(qp I B hc').resolve_right λz=>ajo B hfree z
    rw[hc]at e;cases e;refine .inr ⟨qC hfree,c,hc',?_⟩;obtain⟨o,ho,hd⟩:=hcell;exact⟨o,k c o ho,hd⟩
 cell:=λy c h=>by
  rcases qp I B h with q|q
  obtain⟨v,o,ho,hd⟩:=I.cell y c q;exact⟨v,o,k c o ho,hd⟩;exact⟨Go,hce y c q⟩
 free:=by
  show G7 H D _ C=Go;exact aP hCD ▸ I.hok.fresh hC
 freeC:=λy c h=>by
  rcases qp I B h with q|q
  obtain⟨v,o,ho,hd⟩:=I.cell y c q;exact aP (hD ▸ Jl (GK ho)) ▸ I.freeC y c q;have g:=K1 (Nat.lt_succ_of_le hC) (IK q);exact aP (hD ▸ OJ g) ▸ I.hok.fresh (Vu g)
 pin:=λp hp=>absurd (show p∈([]:List _)from hp) (by simp)
 hok:=I.hok.laid k (hD ▸ GZ _) ⟨Oj _,[],0,.nil,hl⟩
 len:=by
  show(Iw _ Go++Hf ix U).length=(jZ X x ix).length;simp[Hf]
theorem JX {U':St}{H':Hp}{s':kI}{h':Heap}{p':List (Addr×Obj)}(I:BJ X amD U H s)(hC:s.heap.objs.size<=C)(hf:∀b∈fp,Ia X amD H b)(J:BJ (blk X scope (jZ X x ix) C s H fp) p' U' H' s')
  (hs:Wa C s'.heap h'):BJ X amD U H' {s' with heap:=h'}:=by
 refine(I.call' J.os J.base J.hok J.bare λb hb=>⟨(hf b hb).2.2.2.1,(hf b hb).2.1,(hf b hb).2.2.2.2.1,(hf b hb).2.2.2.2.2⟩).turned (λb o hb e=>(hs.2 b hb).trans e) J.free (OJ<|K1 I.lt hC) (.inr<|HN I.sz hC) (λy c e z=>?_) (λp hp z=>(absurd (K1 (GK (I.pin p hp).1)<|z ▸ hC)<|Qd _));obtain⟨v,q⟩:=I.cell y c e;exact absurd (K1 q.lt<|z ▸ hC)<|Qd _
end
variable {D:Addr}
def Ze (X:Cx)(ifs:List Expr)(t:TT):Prop:=
 ∀(amD:List (Addr×Obj)) (s:kI) (U:St) (H:Hp) (Q:Bool->Hp->Prop),BJ X amD U H s->t U H Q ->
  Bs (CJ X.prog X.w) X.A (forIn ifs true λc r=>if r=true then do let ok <-isTrue c X.env (eval c X.env);pure (ForInStep.yield ok)else pure (ForInStep.yield r)) (TP X amD U Q) X.xe s
def af5:TT:=λ_ H Q=>Q true H
theorem akD {X:Cx}:Ze X [] af5:=λ_ _ _ H _ I h=>Bv ⟨H,I,h⟩
theorem akq {X:Cx}{c:Expr}{t:TT}(h:PT X c t):Ze X [c] t:=λamD s U H Q I hq=>Ay (Ay (GJ (h amD s U H Q I hq) λb s1 q=>Bv (Bv q)))
def aeX (n:Nat)(own:V->Hp->List V->Prop)(ix:List Nat)(tt:TT)(te:TE)(U:St)(Q:VK)(J:It)(H1:Hp)(D:Addr):Prop:=∃W:Nat->Nat->List V->Hp->Prop,(∃m,W 0 m [] (G7 H1 D (.lst [])))/\∀i m ys H,W i m ys H->H D=Dn (.lst ys) ->
 (J.stop i H/\Q (.ref D) H)\/(J.go i H/\ys.length<G6/\∀x H',J.yld i H x H'->∃vs,own x H' vs/\vs.length=n/\tt (vs.map Dn++Hf ix U) H' λb H2=>
  if b=true then te (vs.map Dn++Hf ix U) H2 (λv H3=>H3 D=Dn (.lst ys)/\∃m',m'<m/\W (i+1) m' (ys++[v]) (G7 H3 D (.lst (ys++[v]))))
  else H2 D=Dn (.lst ys)/\∃m',m'<m/\W (i+1) m' ys H2)
def wLC (n:Nat)(own:V->Hp->List V->Prop)(ix:List Nat)(tt:TT)(te:TE)(U:St)(Q:VK)(J:It)(H1:Hp):Prop:=∀D,H1 D=Go->aeX n own ix tt te U Q J H1 D
def tLC (n:Nat)(own:V->Hp->List V->Prop)(ix:List Nat)(wi:TI)(tt:TT)(te:TE):TE:=λU H Q=>wi U H λJ H1=>wLC n own ix tt te U Q J H1
def YG (n:Nat)(own:V->Hp->List V->Prop):TG:=λv U H N=>∃vs,own v H vs/\vs.length=n/\N (vs.map Dn++U.drop n) H
variable {elt:Expr}{ifs:List Expr}
theorem zaW {P:Ci}{w:CZ}{A:G4}{R:Q9->kI->Prop}{s:kI}{target iter:Expr}{scope:Scope}{pos:Pos}{it acc:JI}(Iv:Nat->kI->Prop)
  (turn:∀n s,Iv n s->Bs (CJ P w) A (pyNext it) (λr s₁=>match r with
   | none=>R (.ok .next) s₁
   | some v=>Bs (CJ P w) A (letOwnedTupleGo target it v) (λ_ t₁=>Bs (CJ P w) A (assign target env v) (λ_ s₂=>
     Bs (CJ P w) A (forIn ifs true λc r=>if r=true then do let ok <-isTrue c env (eval c env);pure (ForInStep.yield ok)else pure (ForInStep.yield r)) (λok s₃=>
      if ok=true then Bs (CJ P w) A (eval elt env) (λx s₄=>
       Bs (CJ P w) A (call (.builtin "list.append") [acc,x]) (λ_ s₅=>∃m,m<n/\Iv m s₅) (notedBy (CJ P w) A env λe s'=>R (.error e) s') s₄) (notedBy (CJ P w) A env λe s'=>R (.error e) s') s₃
      else ∃m,m<n/\Iv m s₃) (notedBy (CJ P w) A env λe s'=>R (.error e) s') s₂) (notedBy (CJ P w) A env λe s'=>R (.error e) s') t₁) (notedBy (CJ P w) A env λe s'=>R (.error e) s') s₁) (notedBy (CJ P w) A env λe s'=>R (.error e) s') s)
  (n:Nat) (h:Iv n s):PL (CJ P w) A (.compLoop (.ListComp elt [⟨target,iter,ifs,0⟩] scope pos) 0 it acc env) R s:=by
 refine codeAny_loop rfl Iv (λn s hI=>?_) n h;show Bs _ A _ _ _ s;refine wpAny_noted ?_;rw[compTurn_list];refine Ay<|wpAny_standAt<|Ay<|Mq (turn n s hI) (λr s₁ k₁=>?_) λ_ _ z=>z
 cases r with
 | none=>exact Bv k₁
 | some v=>
  refine Ay<|Mq k₁ (λ_ t₁ k₂=>Ay<|Mq k₂ (λ_ s₂ k₃=>Ay<|Mq k₃ (λok s₃ k₄=>?_) λ_ _ z=>z) λ_ _ z=>z) λ_ _ z=>z
  cases ok with
  | false=>exact Bv ⟨rfl,k₄⟩
  | true=>exact Ay (Ay (Mq k₄ (λx s₄ k₅=>Ay (Mq k₅ (λ_ s₅ k₆=>Bv (Bv ⟨rfl,k₆⟩)) λ_ _ z=>z)) λ_ _ z=>z))
section
variable {X:Cx}{scope:Scope}{x:List Str}{iter tg:Expr}{px pos:Pos}{wi:TI}{tt:TT}{te:TE}{own:V->Hp->List V->Prop}
theorem Jq {amD:List (Addr×Obj)}{U:St}{s₂:kI}{H2:Hp}{it:Addr}{fp:List Addr}{tn:Nat->Heap->Prop}{J:It}{Q:VK}{E:JI->kI->Prop}{RR:JI->Addr->Q9->kI->Prop}
  (hc:J.cm=true->X.calm=true) (B:jM X scope x ix) (hg:∀C s H fp,PG (blk X scope (jZ X x ix) C s H fp) tg (YG x.length own)) (ht:∀C s H fp,Ze (blk X scope (jZ X x ix) C s H fp) ifs tt) (he:∀C s H fp,PE (blk X scope (jZ X x ix) C s H fp) elt te)
  (I2:BJ X amD U H2 s₂) (T:Turn X.prog X.w X.K tg J fp it tn) (st2:tn 0 s₂.heap) (f2:∀b∈fp,Ia X amD H2 b) (hq:wLC x.length own ix tt te U Q J H2)
  (hRR:∀D C s' U' H' p',s₂.heap.objs.size<=C->BJ (blk X scope (jZ X x ix) C s₂ H2 fp) p' U' H' s'->Q (.ref D) H'->RR (.ref D) C (.ok .next) s') :
  Bs (CJ X.prog X.w) X.A (newList []) (λacc s₃=>Bs (CJ X.prog X.w) X.A (newFunctionEnv scope X.env.globals (Tv scope X.env) [] X.env.qual Go .none (Dn X.env)) (λcenv s₄=>
   PL (CJ X.prog X.w) X.A (.compStart (.ListComp elt [⟨tg,iter,ifs,0⟩] scope pos) 0 (.ref it) acc {cenv with scope:=relabel scope X.env}) (RR acc cenv.locals) s₄) E s₃) E s₂:=by
 refine Qu<|zbj ?_
 generalize hH2:s₂.heap.push {cls:=.type "list",dict:=Go,data:=.seq ([]:List JI).toArray}=HH;generalize hh1:pushCells (HH.push {cls:=.type "dict",data:=.dict #[]}) scope.names=h₁;have hns₁:h₁.Ns HH.objs.size (λ_=>Go):=by
  obtain⟨o,es,ep,ho,r⟩:=Heap.Ns.new HH (.type "dict");exact⟨o,es,ep,by rw[<-hh1];exact pushCells_keeps _ _ _ _ ho,r⟩
 have hkeep:∀b o,HH.get? b=Dn o->h₁.get? b=Dn o:=λb o e=>by rw[<-hh1];exact pushCells_keeps _ _ _ _ (GP _ e)
 have hce:∀y c,(y,c)∈Li (HH.objs.size+1) scope.names []->h₁.IsCell c Go:=λy c e=>by
  rw[<-hh1];exact(ab4 (h:=HH.push {cls:=.type "dict",data:=.dict #[]}) (by rw[RW];exact e)).1
 have hC:HH.objs.size=s₂.heap.objs.size+1:=by rw[<-hH2,RW]
 have hDC:s₂.heap.objs.size≠HH.objs.size:=by rw[hC];exact Jl (Nat.lt_succ_self _)
 have hCle:s₂.heap.objs.size<=HH.objs.size:=by rw[hC];exact Ws _
 have old:∀b o,s₂.heap.get? b=Dn o->h₁.get? b=Dn o:=λb o e=>hkeep b o (hH2 ▸ GP _ e)
 have hacc:h₁.get? s₂.heap.objs.size=Dn {cls:=.type "list",data:=.seq #[]}:=hkeep _ _ (hH2 ▸ JB _ rfl);have hob:∀b∈fp,∃o,s₂.heap.get? b=Dn o:=λb hb=>let⟨o,e,_⟩:=T.obj 0 _ st2 b hb;⟨o,e⟩
 have ok:=aad (C:=HH.objs.size) I2 B hCle f2 hob;obtain⟨W,⟨m0,w0⟩,turn⟩:=hq s₂.heap.objs.size (I2.hok.fresh (GZ _));have stat:∀{H':Hp},(∀b∈fp,H' b=Go)->∀b∈fp,Ia (blk X scope (jZ X x ix) HH.objs.size s₂ H2 fp) [] H' b:=λ{H'} hn b hb=>by
  obtain⟨o,e⟩:=hob b hb;obtain⟨_,g1,g2,g3,g4,g5⟩:=f2 b hb;refine⟨hn b hb,Jl<|K1 (GK e) hCle,λz=>?_,.inl hb,λy c h=>?_,λp hp=>absurd (show p∈([]:List (Addr×Obj))from hp)<|by simp⟩;rcases Jz.mp (I2.stkSub b z)with q|q
  exact g1 q;exact g2 q;rcases qp I2 B h with q|q
  exact g4 y c q;intro z;rw[z]at q;exact absurd (K1 (GK e)<|HN (HN hCle<|Ws _)<|IK q)<|Qd _
 have loop:∀s₃:kI,s₃={s₂ with heap:=h₁} ->
   PL (CJ X.prog X.w) X.A (.compLoop (.ListComp elt [⟨tg,iter,ifs,0⟩] scope pos) 0 (.ref it) (.ref s₂.heap.objs.size) (compEnvC scope (Li (HH.objs.size+1) scope.names (Tv scope X.env)) HH.objs.size X.env))
    (RR (.ref s₂.heap.objs.size) HH.objs.size) s₃:=by
  rintro s₃ rfl;have J0:=ahO (fp:=fp) (C:=HH.objs.size) (tk:=s₂.toks) I2 B ok rfl old hacc hns₁ (Lr hDC) hCle hce;have fr0:∀b∈fp,G7 H2 s₂.heap.objs.size (.lst []) b=Go:=λb hb=>by
   obtain⟨o,e⟩:=hob b hb;rw[aP (Jl (GK e))];exact(f2 b hb).1
  refine zaW (λk s'=>∃i ys H',BJ (blk X scope (jZ X x ix) HH.objs.size s₂ H2 fp) [] (Iw x.length Go++Hf ix U) H' s'/\tn i s'.heap/\(∀b∈fp,H' b=Go)/\H' s₂.heap.objs.size=Dn (.lst ys)/\W i k ys H') ?_ m0
   ⟨0,[],_,J0,T.keep 0 _ _ st2 (λb _ o e=>old b o e),fr0,bD,w0⟩
  rintro n s₄ ⟨i,ys,H4,I4,st4,fr4,hD4,w4⟩;rcases turn i n ys H4 w4 hD4 with⟨stop,qn⟩|⟨go,hz,step⟩
  ·refine GJ (T.done (blk X scope (jZ X x ix) HH.objs.size s₂ H2 fp) rfl rfl rfl hc i [] s₄ _ H4 _ I4 (stat fr4) st4 stop) λr s5 ⟨hr,I5⟩=>?_;subst hr;exact hRR _ _ s5 _ H4 [] hCle I5 qn
  ·refine GJ (T.item (blk X scope (jZ X x ix) HH.objs.size s₂ H2 fp) rfl rfl rfl hc i [] s₄ _ H4 _ I4 (stat fr4) st4 go) λr s5 ⟨u,hr,h5⟩=>?_;subst hr;refine Mq h5 (λ_ s6 ⟨xv,H6,I6,r6,y6,st6,fr6⟩=>?_) λ_ _ z=>z;have I6':=I6.pinned (stat fr6) (T.obj _ _ st6);obtain⟨vs,hov,hvl,q7⟩:=step xv H6 y6;have fgt:∀{U9:St}{H9:Hp}{s9:kI}{p9:List (Addr×Obj)},U9.length=x.length->BJ (blk X scope (jZ X x ix) HH.objs.size s₂ H2 fp) p9 (U9++Hf ix U) H9 s9->BJ (blk X scope (jZ X x ix) HH.objs.size s₂ H2 fp) p9 (Iw x.length Go++Hf ix U) H9 s9:=λ{U9 H9 s9 p9} hl I9=>
    I9.weak (by simp[hl]) λk v e=>by
     by_cases hk:k<x.length
     rw[Vz (by simpa using hk),Yd,if_pos hk]at e;cases e;rw[Vd (by simpa using hk),Wf]at e;rw[Vd (by rw[hl];lia),hl];exact e
   refine Mq (hg _ _ _ _ _ s6 _ H6 xv u (λU9 H9=>U9=vs.map Dn++(Iw x.length (Go:Option V)++Hf ix U).drop x.length/\H9=H6) I6' r6 ⟨vs,hov,hvl,rfl,rfl⟩) (λ_ s7 ⟨U7,H7,I7,e7,e8⟩=>?_) λ_ _ z=>z.elim;subst e7 e8;rw[List.drop_left' (by simp)]at I7;have hml:(vs.map Dn).length=x.length:=by rw[CV];exact hvl
   refine Mq (ht _ _ _ _ _ s7 _ H7 _ I7 q7) (λb s8 ⟨H8,I8,q8⟩=>?_) λ_ _ z=>z.elim;have pinned:∀{H9:Hp}{s9:kI}{U9:St},BJ (blk X scope (jZ X x ix) HH.objs.size s₂ H2 fp) ([]++FW fp s6.heap) U9 H9 s9->tn (i+1) s9.heap/\∀b∈fp,H9 b=Go:=λ{H9 s9 U9} I9=>by
    refine⟨T.keep _ _ _ st6 λb hb o e=>(I9.pin (b,o)<|VN _<|VN _<|kY hb e).1,λb hb=>?_⟩;obtain⟨o,e,d⟩:=T.obj _ _ st6 b hb;exact(I9.pin (b,o)<|VN _<|VN _<|kY hb e).2.1
   cases b with
   | false=>
    rw[if_neg U5]at q8|-
    obtain⟨hD8,m',hm,w8⟩:=q8;obtain⟨t8,f8⟩:=pinned I8;exact⟨m',hm,i+1,ys,H8,fgt hml I8.unpinned,t8,f8,hD8,w8⟩
   | true=>
    rw[if_pos rfl]at q8|-
    refine Mq (he _ _ _ _ _ s8 _ H8 _ I8 q8) (λu9 s9 ⟨v9,H9,I9,r9,hD9,m',hm,w9⟩=>?_) λ_ _ z=>z.elim;refine Mq (zm (X:=blk X scope (jZ X x ix) HH.objs.size s₂ H2 fp) _ s9 _ H9 (.ref s₂.heap.objs.size) [v9] _ [u9] (λ_ H'=>H'=G7 H9 s₂.heap.objs.size (.lst<|ys++[v9])) I9 rfl (.cons r9 .nil) ⟨_,ys,v9,rfl,rfl,hD9,hz,rfl⟩) (λ_ s10 ⟨_,H10,I10,_,e10⟩=>?_) λ_ _ z=>z.elim;subst e10;obtain⟨t10,f10⟩:=pinned I10;exact⟨m',hm,i+1,ys++[v9],_,fgt hml I10.unpinned,t10,f10,bD,w9⟩
 exact codeAny_compStart_list (loop _ rfl)<|T.self _ 0 _ _ _ (T.keep 0 _ _ st2<|λb _ o e=>old b o e)<|loop _ rfl
theorem ad0 (ix:List Nat)(hc:X.calm=true)(B:jM X scope x ix)(hg:∀C s H fp,PG (blk X scope (jZ X x ix) C s H fp) tg (YG x.length own))(hi:PI X tg iter wi)(ht:∀C s H fp,Ze (blk X scope (jZ X x ix) C s H fp) ifs tt)(he:∀C s H fp,PE (blk X scope (jZ X x ix) C s H fp) elt te)
  (hs:∀v,WM iter X.env v=pure v:=by intro _;rfl):PE X (.ListComp elt [⟨tg,iter,ifs,0⟩] scope pos) (tLC x.length own ix wi tt te):=by
 intro amD s U H Q I h;refine wpAny_comprehension_free rfl hs (Nq<|wJ I B) B.kind (λy hy hk=>by rw[B.names y hy,hk])<|GJ (hi amD s U H _ I h) λv s1 h1=>GJ h1 λitv s2 h2=>?_
 obtain⟨it,fp,tn,J,H2,e,I2,T,st2,f2,hq⟩:=h2;subst e;refine Jq (λ_=>hc) B hg ht he I2 T st2 f2 hq λD C s' U' H' p' hC I' q'=>?_;obtain⟨m,hn,_⟩:=I'.loc;exact⟨m,hn,λh' hs'=>⟨.ref D,H',JX I2 hC f2 I' hs',rfl,q'⟩⟩
theorem adu (ix:List Nat){i:Nat}{py spos:Pos}(hN:X.N.Nodup)(hi':X.N[i]?=Dn y)(hy:Loc X.env.scope y)(hc:X.calm=true)(B:jM X scope x ix)(hg:∀C s H fp,PG (blk X scope (jZ X x ix) C s H fp) tg (YG x.length own))(hi:PI X tg iter wi)
  (ht:∀C s H fp,Ze (blk X scope (jZ X x ix) C s H fp) ifs tt) (he:∀C s H fp,PE (blk X scope (jZ X x ix) C s H fp) elt te)
  (hsw:swapsWith (.ListComp elt [⟨tg,iter,ifs,0⟩] scope pos) (Dn (.Name y py)) spos.line X.env=pure true:=by rfl)
  (hf:X.fn y=true\/X.env.scope.names.lookup y=Dn .local:=by first|exact .inl rfl|exact .inr rfl|assumption)
  (hs:∀v,WM iter X.env v=pure v:=by intro _;rfl):PS X (.Assign [.Name y py] (.ListComp elt [⟨tg,iter,ifs,0⟩] scope pos) spos) (aap (tLC x.length own ix wi tt te) (Jo i)):=by
 intro amD s U H D I h;rw[exec_Assign_Name_used _ _ _ _ hsw];refine Ay<|wpAny_standAt<|Ay<|Ay<|Mq (wpAny_comprehension_free rfl hs (Nq<|wJ I B) B.kind (λy hy hk=>by rw[B.names y hy,hk])<|GJ (hi amD s U H _ I h) λv s1 h1=>GJ h1 λitv s2 h2=>?_) (λ_ s' hq=>Bv<|Bv hq) λ_ _ e=>e
 obtain⟨it,fp,tn,J,H2,e,I2,T,st2,f2,hq⟩:=h2;subst e;refine Jq (λ_=>hc) B hg ht he I2 T st2 f2 hq λD' C s' U' H' p' hC I' q'=>?_;obtain⟨m,hn,_⟩:=I'.loc;have cneC:∀z c,X.env.cells.lookup z=Dn c->c≠C:=λz c e q=>by
  obtain⟨v,w⟩:=I2.cell z c e;exact absurd (K1 w.lt<|q ▸ hC)<|Qd _
 have lneC:=Jl (K1 I2.lt hC);refine wpAny_assign_Name<|zN (v:=.ref D') (JX I2 hC f2 I'<|.refl ..) hN hi' hy rfl (λs'' I'' hsb=>?_) hf
 obtain⟨a,hsb,ha⟩:=hsb;have haC:C≠a:=by
  rcases ha with rfl|ha
  exact Lr lneC;exact Lr<|cneC _ _ ha
 exact⟨m,hn.sameBut hsb haC,λh' hs'=>⟨_,H',(I''.turned (λb o hb e=>(hs'.2 b hb).trans e) I'.free (Lr lneC) (.inr<|HN I2.sz hC) cneC<|λp hp z=>(absurd (K1 (GK (I2.pin p hp).1)<|z ▸ hC)<|Qd _)),q'⟩⟩
end
variable {own:V->Hp->List V->Prop}
def Sm (n:Nat)(i:Int):Prop:=i.natAbs<2^n
theorem Sm.bits {n:Nat}{i:Int}(h:Sm n i):Builtin.Int.intBits i<=n:=by
 unfold Builtin.Int.intBits;by_cases e:i=0
 grind
 rw[(beq_eq_false_iff_ne.mpr e)];have:=(Nat.log2_lt (by lia)).mpr h
 simp;lia
variable {m:Nat}
theorem Sm.mono {n:Nat}{i:Int}(h:Sm m i)(hmn:m<=n):Sm n i:=K1 h (Z5 (by decide) hmn)
theorem Sm.mul {n:Nat}{i j:Int}(h:Sm m i)(h':Sm n j):Sm (m+n) (i*j):=by
 unfold Sm at *;rw[Int.natAbs_mul,Nat.pow_add];by_cases e:j.natAbs=0
 exact e ▸ Nat.mul_pos (Nat.pow_pos<|by decide) (Nat.pow_pos<|by decide);exact K1 (Nat.mul_lt_mul_of_pos_right h<|Nat.pos_of_ne_zero e)<|Nat.mul_le_mul_left _<|Vu h'
theorem Sm.add {n:Nat}{i j:Int}(h:Sm m i)(h':Sm n j):Sm (max m n+1) (i+j):=by
 have h1:=h.mono (Nat.le_max_left m n);have h2:=h'.mono (Nat.le_max_right m n);unfold Sm at *;lia
theorem Sm.neg {n:Nat}{i:Int}(h:Sm n i):Sm n (-i):=by unfold Sm at *;rw[Int.natAbs_neg];exact h
theorem Sm.sub {n:Nat}{i j:Int}(h:Sm m i)(h':Sm n j):Sm (max m n+1) (i-j):=h.add h'.neg
theorem Sm.zero {n:Nat}:Sm n 0:=Nat.pow_pos (by decide)
theorem Hy {n:Nat}{i:Int}(h1:-(2^n:Int)<i)(h2:i<(2^n:Int)):Sm n i:=by
 unfold Sm;grind
def uU (i j:Int):Prop:=∃m n,m<=1000000/\n<=1000000/\Sm m i/\Sm n j
theorem uU.ok {i j:Int}(h:uU i j):IntMulOk i j:=by
 obtain⟨m,n,hm,hn,h1,h2⟩:=h;exact .of_bits (by have:=h1.bits;lia) (by have:=h2.bits;lia)
def Mr (_ j:Int):Prop:=j≠0/\∃n,n<=8000/\Sm n j
theorem alc {n:Nat}{j:Int}(hn:n<=8000)(h:Sm n j):j.natAbs.log2<9000:=by
 by_cases e:j.natAbs=0
 simp_all
 have:=(Nat.log2_lt e).mpr h
 lia
section
variable {X:Cx}
theorem Nm:K3 X (Nu .Mult) (rI uU λi j=>.int (i*j)):=opI λ_ _ _ _ _ _ _ hc q=>mul_int q hc.ok
theorem ail:K3 X (Nu .FloorDiv) (rI Mr λi j=>.int (i.fdiv j)):=opI λi j _ _ _ _ _ hc q=>by
 obtain⟨h1,n,hn,h2⟩:=hc;exact floordiv_int h1 q<|.inl<|PyProof.noPylong_of_log2<|alc hn h2
theorem yX:∀{bs:List Bool}{its:List JI}{i:Nat}{v:JI},Ba (bs.map V.bl) its->its[i]?=Dn v->∃b,bs[i]?=Dn b/\v=.bool b
 | [],_,_,_,.nil,e=>by simp at e
 | b::bs,_,0,_,.cons r _,e=>by simp at e;subst e;exact⟨b,rfl,r⟩
 | _::bs,_,i+1,v,.cons _ t,e=>by
  obtain⟨b,h1,h2⟩:=yX t (by simpa using e);grind
def afk (K:Bl)(H:Hp):V->String->Bool->Prop
 | .int _,T,b=>(T = "int"/\b=true)\/(T = "bool"/\b=false)\/(T = "tuple"/\b=false)\/(T = "list"/\b=false)
 | .bl _,T,b=>(T = "int"/\b=true)\/(T = "bool"/\b=true)\/(T = "tuple"/\b=false)\/(T = "list"/\b=false)
 | .str _,T,b=>(T = "int"/\b=false)\/(T = "bool"/\b=false)\/(T = "tuple"/\b=false)\/(T = "list"/\b=false)
 | .non,T,b=>(T = "int"/\b=false)\/(T = "bool"/\b=false)\/(T = "tuple"/\b=false)\/(T = "list"/\b=false)
 | .ref p,T,b=>(∃xs,Hi K H p xs/\((T = "int"/\b=false)\/(T = "bool"/\b=false)\/(T = "tuple"/\b=true)\/(T = "list"/\b=false))) \/
   (∃xs,JH K H p xs/\((T = "int"/\b=false)\/(T = "bool"/\b=false)\/(T = "tuple"/\b=false)\/(T = "list"/\b=true)))
 | _,_,_=>False
theorem ahJ:gq X (.builtin "isinstance") (λxs H Q=>∃x T b,xs=[x,.ty T]/\afk X.K H x T b/\Q (.bl b) H):=by
 intro amD s U H xs us Q I r h;obtain⟨x,T,b,rfl,hi,q⟩:=h;obtain⟨u,w',rfl,rx,ru⟩:=vals2 r;cases ru;have k0:EP X amD U Q _ s:=⟨.bl b,H,I,rfl,q⟩
 have k1:EP X amD U Q _ {s with toks:=s.toks+1}:=⟨.bl b,H,I.tok _,rfl,q⟩
 cases x with
 | int i=>
  obtain⟨t,rfl⟩:=rx;rcases hi with⟨rfl,rfl⟩|⟨rfl,rfl⟩|⟨rfl,rfl⟩|⟨rfl,rfl⟩
  exact IsiPair.int_int k0;exact IsiPair.int_bool k1;exact IsiPair.int_tuple k1;exact IsiPair.int_list k1
 | bl i=>
  cases rx;rcases hi with⟨rfl,rfl⟩|⟨rfl,rfl⟩|⟨rfl,rfl⟩|⟨rfl,rfl⟩
  first|exact IsiPair.bool_int k0|exact _ k1
  first|exact IsiPair.bool_bool k0|exact _ k1
  exact IsiPair.bool_tuple k1;exact IsiPair.bool_list k1
 | str i=>
  obtain⟨t,rfl⟩:=rx;rcases hi with⟨rfl,rfl⟩|⟨rfl,rfl⟩|⟨rfl,rfl⟩|⟨rfl,rfl⟩
  exact IsiPair.str_int k1;exact IsiPair.str_bool k1;exact IsiPair.str_tuple k1;exact IsiPair.str_list k1
 | non=>
  cases rx;rcases hi with⟨rfl,rfl⟩|⟨rfl,rfl⟩|⟨rfl,rfl⟩|⟨rfl,rfl⟩
  exact IsiPair.NoneType_int k1;exact IsiPair.NoneType_bool k1;exact IsiPair.NoneType_tuple k1;exact IsiPair.NoneType_list k1
 | ref p=>
  cases rx;rcases hi with⟨xs,hS,hi⟩|⟨xs,hS,hi⟩
  obtain⟨its,_,⟨o,e,c,_⟩,_⟩:=I.tuple hS;rcases hi with⟨rfl,rfl⟩|⟨rfl,rfl⟩|⟨rfl,rfl⟩|⟨rfl,rfl⟩
  exact IsiPair.tuple_int e c k1;exact IsiPair.tuple_bool e c k1;exact IsiPair.tuple_tuple e c k0;exact IsiPair.tuple_list e c k1;obtain⟨its,_,pl,_⟩:=I.list hS;obtain⟨o,e,c,_⟩:=pl.isList;rcases hi with⟨rfl,rfl⟩|⟨rfl,rfl⟩|⟨rfl,rfl⟩|⟨rfl,rfl⟩
  exact IsiPair.list_int e c k1;exact IsiPair.list_bool e c k1;exact IsiPair.list_tuple e c k1;exact IsiPair.list_list e c k0
 | _=>exact hi.elim
end
inductive W where
 | non|bl (b:Bool)|int (i:Int)|str (x:Str)|ty (n:String)|tup (ws:List W)|lst (ws:List W)|loc (n:Nat)|kls (ws:List W)|exc (n:Str)
 | exa (n:Str) (ws:List W)
 | fnv (f:Addr) (i:Nat)
inductive Cell where
 | lst (ws:List W)|obj (C:Addr) (fs:List (Str×W))|dct (kvs:List (Key×W))
 | dtt (kvs:List (List Int×W))
structure Gh where
 nx:Nat
 c:Nat->Option Cell
structure Mu where
 f:Nat->Option Addr
 hid:Addr->Prop
def agD (K:Bl)(p:Addr)(xs:List V):Prop:=
 ∃(o:Obj) (its:Array JI) (n:Nat),K.lookup p=Dn o/\o.cls=.type "list"/\o.dict=Go/\o.data=.seq its n/\its.size<=G6/\Ba xs its.toList
def Frz (H:Hp)(μ:Mu)(p:Addr)(xs:List V):Prop:=H p=Dn (.lst xs)/\(∀n,μ.f n≠Dn p)/\¬μ.hid p
def Frk (K:Bl)(H:Hp)(p:Addr)(xs:List V):Prop:=(∃o,H p=Dn (.frz o (.lst xs)))\/agD K p xs
variable {μ:Mu}
theorem Frz.sq {K:Bl}{H:Hp}{p:Addr}{xs:List V}(h:Frz H μ p xs):JH K H p xs:=.inl (.inl h.1)
theorem Frk.sq {K:Bl}{H:Hp}{p:Addr}{xs:List V}(h:Frk K H p xs):JH K H p xs:=by
 rcases h with h|h
 exact .inl<|.inr h
 exact .inr h
def vmB:List JI:=[.type "ValueError",.type "Exception",.type "BaseException",.type "object"]
def Ig (K:Bl)(C:Addr)(n:Str):Bool:=Ku K J4 n==Dn (Dn (.ref C))&&PySem.W.typeIn K (.ref C)==Dn (.type "type")&&match Wn K C with
 | some cd=>cd.name==n&&cd.mro.contains (.type "BaseException")
 | none=>false
def Ot (K:Bl)(C:Addr)(n:Str):Bool:=Ig K C n&&(match Wn K C with
 | some cd=>(match cd.mro with
  | [.ref C',.ref R,a,b,c,d]=>C'==C&&[a,b,c,d]==vmB&&Ku K J4 "EaselError"==Dn (Dn (.ref R))&&(Wn K R).any (λc=>c.name==("EaselError" : Str))
  | _=>false)
 | none=>false)&&Qq K (.ref C) "__getattribute__"==Dn (Dn (.builtin "BaseException.__getattribute__"))&&Qq K (.ref C) "__getattr__"==Dn Go&&Qq K (.ref C) "__class__"==Dn (Dn (.builtin "object.__class__"))&&PySem.W.specialIn K (.builtin "object.__class__") "__get__"==Dn (Dn (.builtin "getset_descriptor.__get__"))
 && PySem.W.takesIn K (.builtin "object.__class__")==Dn true
def Zd (n:Str):List Str:=if n = "Apart" then["word", "places"]else["at"]
def afI (K:Bl)(C:Addr)(n:Str):Bool:=Ot K C n&&PySem.W.hasDictIn K C&&(Zd n).all λf=>Qq K (.ref C) f==Dn Go
def Xoa (K:Bl)(o:Obj)(n:Str)(dd:Addr):Prop:=∃C,o.cls=.ref C/\o.dict=Dn dd/\PySem.W.notCls o=true/\afI K C n=true
def Xob (K:Bl)(o:Obj)(n:Str):Prop:=∃C,o.cls=.ref C/\o.dict=Go/\PySem.W.notCls o=true/\Ot K C n=true
mutual
def Bq (K:Bl)(H:Hp)(μ:Mu):W->V->Prop
 | .non,v=>v=.non
 | .bl b,v=>v=.bl b
 | .int i,v=>v=.int i
 | .str x,v=>v=.str x
 | .ty n,v=>v=.ty n
 | .tup ws,v=>∃p xs,v=.ref p/\Hi K H p xs/\aW K H μ ws xs
 | .lst ws,v=>∃p xs,v=.ref p/\Frz H μ p xs/\aW K H μ ws xs
 | .kls ws,v=>∃p xs,v=.ref p/\Frk K H p xs/\aW K H μ ws xs
 | .loc n,v=>∃p,v=.ref p/\μ.f n=Dn p
 | .exc n,v=>∃p o u,v=.ref p/\H p=Dn (.frz o u)/\Xob K o n
 | .exa n ws,v=>∃p o u dd ns xs,v=.ref p/\H p=Dn (.frz o u)/\Xoa K o n dd/\H dd=Dn (.xd (List.zip ns xs))/\ns=Zd n/\ns.length=xs.length/\aW K H μ ws xs
 | .fnv f _,v=>v=.ref f
def aW (K:Bl)(H:Hp)(μ:Mu):List W->List V->Prop
 | [],xs=>xs=[]
 | w::ws,xs=>∃v vs,xs=v::vs/\Bq K H μ w v/\aW K H μ ws vs
end
section
variable {K:Bl}{H H' H1 H2:Hp}{μ' μ1 μ2:Mu}{h h':Gh}{w:W}{ws:List W}{v:V}{xs:List V}
theorem aW.len:∀{ws:List W}{xs:List V},aW K H μ ws xs->ws.length=xs.length
 | [],xs,h=>by
  have e:=h;rw[e];rfl
 | w::ws,xs,h=>by
  obtain⟨v,vs,e,_,h⟩:=h;rw[e,PB,PB,aW.len h]
theorem aW.get:∀{ws:List W}{xs:List V}{i:Nat}{w:W},aW K H μ ws xs->ws[i]?=Dn w->∃v,xs[i]?=Dn v/\Bq K H μ w v
 | a::ws,xs,0,w,h,e=>by
  obtain⟨v,vs,e1,r,_⟩:=h;grind
 | a::ws,xs,i+1,w,h,e=>by
  obtain⟨v,vs,e1,_,h⟩:=h;subst e1;obtain⟨u,h1,h2⟩:=aW.get h (by simpa using e)
  simp_all
theorem aW.nil:aW K H μ [] []:=rfl
theorem aW.cons (r:Bq K H μ w v)(h:aW K H μ ws xs):aW K H μ (w::ws) (v::xs):=⟨v,xs,rfl,r,h⟩
theorem aW.append:∀{ws:List W}{xs:List V}{us:List W}{ys:List V},aW K H μ ws xs->aW K H μ us ys->aW K H μ (ws++us) (xs++ys)
 | [],xs,us,ys,h,g=>by
  subst h;exact g
 | w::ws,xs,us,ys,h,g=>by
  obtain⟨v,vs,e,r,h⟩:=h;subst e;exact aW.cons r<|aW.append h g
theorem aW.one (r:Bq K H μ w v):aW K H μ [w] [v]:=aW.cons r aW.nil
theorem aW.set (r:Bq K H μ w v):∀{ws:List W}{xs:List V}(i:Nat),aW K H μ ws xs->aW K H μ (ws.set i w) (xs.set i v)
 | [],xs,i,h=>by subst h;exact aW.nil
 | a::ws,xs,0,h=>by
  obtain⟨u,vs,e,_,h⟩:=h;subst e;exact aW.cons r h
 | a::ws,xs,i+1,h=>by
  obtain⟨u,vs,e,q,h⟩:=h;subst e;exact aW.cons q<|aW.set r i h
theorem aW.take:∀{ws:List W}{xs:List V}(n:Nat),aW K H μ ws xs->aW K H μ (ws.take n) (xs.take n)
 | _,_,0,_=>aW.nil
 | [],xs,n+1,h=>by subst h;exact aW.nil
 | a::ws,xs,n+1,h=>by
  obtain⟨u,vs,e,q,h⟩:=h;subst e;exact aW.cons q<|aW.take n h
theorem aW.drop:∀{ws:List W}{xs:List V}(n:Nat),aW K H μ ws xs->aW K H μ (ws.drop n) (xs.drop n)
 | _,_,0,h=>h
 | [],xs,n+1,h=>by subst h;exact aW.nil
 | a::ws,xs,n+1,h=>by
  obtain⟨u,vs,e,q,h⟩:=h;subst e;exact aW.drop n h
structure Ex0 (K:Bl) (H:Hp) (μ:Mu) (H':Hp) (μ':Mu):Prop where
 t:∀p xs,Hi K H p xs->Hi K H' p xs
 l:∀p xs,Frz H μ p xs->Frz H' μ' p xs
 k:∀p xs,Frk K H p xs->Frk K H' p xs
 m:∀n p,μ.f n=Dn p->μ'.f n=Dn p
 x:∀p o u,H p=Dn (.frz o u)->H' p=Dn (.frz o u)
 y:∀p fs,H p=Dn (.xd fs)->H' p=Dn (.xd fs)
structure Ex (K:Bl) (H:Hp) (μ:Mu) (H':Hp) (μ':Mu):Prop extends Ex0 K H μ H' μ' where
 o:∀p u,μ.hid p->H p=Dn u->μ'.hid p/\H' p=Dn u
mutual
theorem Bq.ex (e:Ex0 K H μ H' μ'):∀{w:W}{v:V},Bq K H μ w v->Bq K H' μ' w v
 | .non,_,h=>by rw[Bq]at h|-;exact h
 | .bl _,_,h=>by rw[Bq]at h|-;exact h
 | .int _,_,h=>by rw[Bq]at h|-;exact h
 | .str _,_,h=>by rw[Bq]at h|-;exact h
 | .ty _,_,h=>by rw[Bq]at h|-;exact h
 | .tup ws,_,h=>by
  rw[Bq]at h|-
  obtain⟨p,xs,e1,hs,hr⟩:=h;exact⟨p,xs,e1,e.t _ _ hs,aW.ex e hr⟩
 | .lst ws,_,h=>by
  rw[Bq]at h|-
  obtain⟨p,xs,e1,hs,hr⟩:=h;exact⟨p,xs,e1,e.l _ _ hs,aW.ex e hr⟩
 | .kls ws,_,h=>by
  rw[Bq]at h|-
  obtain⟨p,xs,e1,hs,hr⟩:=h;exact⟨p,xs,e1,e.k _ _ hs,aW.ex e hr⟩
 | .loc n,_,h=>by
  rw[Bq]at h|-
  obtain⟨p,e1,hm⟩:=h;exact⟨p,e1,e.m _ _ hm⟩
 | .exc n,_,h=>by
  rw[Bq]at h|-
  obtain⟨p,o,u,e1,hm,hx⟩:=h;exact⟨p,o,u,e1,e.x _ _ _ hm,hx⟩
 | .exa n ws,_,h=>by
  rw[Bq]at h|-
  obtain⟨p,o,u,dd,ns,xs,e1,hm,hx,hd,e2,e3,hr⟩:=h;exact⟨p,o,u,dd,ns,xs,e1,e.x _ _ _ hm,hx,e.y _ _ hd,e2,e3,aW.ex e hr⟩
 | .fnv _ _,_,h=>by rw[Bq]at h|-;exact h
theorem aW.ex (e:Ex0 K H μ H' μ'):∀{ws:List W}{xs:List V},aW K H μ ws xs->aW K H' μ' ws xs
 | [],_,h=>by rw[aW]at h|-;exact h
 | w::ws,_,h=>by
  rw[aW]at h|-
  obtain⟨v,vs,e1,r,h⟩:=h;exact⟨v,vs,e1,Bq.ex e r,aW.ex e h⟩
end
structure Hw (K:Bl) (H:Hp) (μ:Mu) (H':Hp) (μ':Mu):Prop where
 r:∀w v,Bq K H μ w v->Bq K H' μ' w v
 o:∀p u,μ.hid p->H p=Dn u->μ'.hid p/\H' p=Dn u
theorem Hw.refl:Hw K H μ H μ:=⟨λ_ _ h=>h,λ_ _ h g=>⟨h,g⟩⟩
theorem Hw.trans (a:Hw K H μ H1 μ1)(b:Hw K H1 μ1 H2 μ2):Hw K H μ H2 μ2:=
 ⟨λw v h=>b.r w v (a.r w v h),λp u h g=>let⟨h1,g1⟩:=a.o p u h g;b.o p u h1 g1⟩
theorem Ex.ext (e:Ex K H μ H' μ'):Hw K H μ H' μ':=⟨λ_ _ h=>Bq.ex e.toEx0 h,e.o⟩
theorem Hw.s (e:Hw K H μ H' μ'):∀{ws:List W}{xs:List V},aW K H μ ws xs->aW K H' μ' ws xs
 | [],_,h=>h
 | w::ws,_,h=>by
  obtain⟨v,vs,e1,r,h⟩:=h;exact⟨v,vs,e1,e.r _ _ r,Hw.s e h⟩
def adb:Option HO->Prop
 | some (.lst _)=>True
 | some (.dK _)=>True
 | some (.ins _ _ _)=>True
 | some (.ext _)=>True
 | _=>False
def lK {κ:Type}(K:Bl)(H:Hp)(μ:Mu):List (κ×W)->List (κ×V)->Prop:=Mx λ(p:κ×W) (q:κ×V)=>p.1=q.1/\Bq K H μ p.2 q.2
def agE (x:List Int×Addr×JI):Ql:=⟨reduceHash (Builtin.Tuple.tupleHashOf (x.1.map hashInt)),.ref x.2.1,x.2.2⟩
def Ov (a:Addr)(xs:List (List Int×Addr×JI))(h:Heap):Prop:=xs.length<=G6/\(a==PX)=false/\(xs.map (·.1)).Nodup/\∃o es ep,h.get? a=Dn o/\o.ExactDict/\o.data=.dict es ep/\es.toList=xs.map agE
def vJ (K:Bl)(H:Hp)(μ:Mu)(p:Addr):Cell->Prop
 | .lst ws=>∃xs,H p=Dn (.lst xs)/\aW K H μ ws xs
 | .obj C fs=>∃dx fvs,H p=Dn (.ins C dx fvs)/\lK K H μ fs fvs
 | .dct kvs=>∃kvv,H p=Dn (.dK kvv)/\lK K H μ kvs kvv
 | .dtt kvs=>∃xs vs,H p=Dn (.ext (Ov p xs))/\kvs.map (·.1)=xs.map (·.1)/\Ba vs (xs.map (·.2.2))/\aW K H μ (kvs.map λx=>W.tup (x.1.map W.int)) (xs.map λx=>V.ref x.2.1)/\aW K H μ (kvs.map (·.2)) vs
structure G5 (K:Bl) (μ:Mu) (H:Hp) (h:Gh):Prop where
 inj:∀m n p,μ.f m=Dn p->μ.f n=Dn p->m=n
 dom:∀n p,μ.f n=Dn p->n<h.nx
 trk:∀n p,μ.f n=Dn p->adb (H p)
 cel:∀n c,h.c n=Dn c->∃p,μ.f n=Dn p/\vJ K H μ p c
 hd:∀p,μ.hid p->(∃xs,H p=Dn (.lst xs))/\∀n,μ.f n≠Dn p
theorem vJ.ext {p:Addr}{c:Cell}(e:Hw K H μ H' μ')(hp:H' p=H p)(x:vJ K H μ p c):vJ K H' μ' p c:=by
 cases c with
 | lst ws=>obtain⟨xs,a,b⟩:=x;exact⟨xs,hp.trans a,e.s b⟩
 | obj C fs=>obtain⟨dx,fvs,a,b⟩:=x;exact⟨dx,fvs,hp.trans a,Paired.mapP b λ_ _ z=>⟨z.1,e.r _ _ z.2⟩⟩
 | dct kvs=>obtain⟨kvv,a,b⟩:=x;exact⟨kvv,hp.trans a,Paired.mapP b λ_ _ z=>⟨z.1,e.r _ _ z.2⟩⟩
 | dtt kvs=>obtain⟨xs,vs,a,b,c,d,f⟩:=x;exact⟨xs,vs,hp.trans a,b,c,e.s d,e.s f⟩
theorem Rd.laid {p q:Addr}{o u:HO}(hp:H p=Go)(r:Rd H q u):Rd (G7 H p o) q u:=by
 have ne:q≠p:=by
  rcases r with r|⟨_,r⟩
  exact aZ r hp;exact aZ r hp
 unfold Rd
 rwa[aP ne]
theorem Ex.laid {p:Addr}{o:HO}(hp:H p=Go):Ex K H μ (G7 H p o) μ where
 t:=λq xs h=>by
  rcases h with h|h
  exact .inl<|h.laid hp
  exact .inr h
 l:=λq xs h=>⟨aP (aZ h.1 hp) ▸ h.1,h.2⟩
 k:=λq xs h=>by
  rcases h with⟨o',h⟩|h
  exact .inl ⟨o',aP (aZ h hp) ▸ h⟩;exact .inr h
 m:=λ_ _ h=>h
 x:=λq o' u e=>aP (aZ e hp) ▸ e
 y:=λq fs e=>aP (aZ e hp) ▸ e
 o:=λq u z e=>⟨z,aP (aZ e hp) ▸ e⟩
theorem G5.laid {p:Addr}{o:HO}(R:G5 K μ H h)(hp:H p=Go):G5 K μ (G7 H p o) h where
 inj:=R.inj
 dom:=R.dom
 trk:=λn q e=>by
  have:=R.trk n q e
  rw[aP (λz=>by subst z;rw[hp]at this;exact this)];exact this
 cel:=λn c e=>by
  obtain⟨q,e1,x⟩:=R.cel n c e;have:=R.trk n q e1
  exact⟨q,e1,x.ext (Ex.laid hp).ext (aP (λz=>by subst z;rw[hp]at this;exact this))⟩
 hd:=λq z=>by
  obtain⟨⟨xs,e⟩,g⟩:=R.hd q z;exact⟨⟨xs,aP (aZ e hp) ▸ e⟩,g⟩
theorem Bq.tupNew {p:Addr}(hp:H p=Go)(r:aW K H μ ws xs):Bq K (G7 H p (.tup xs)) μ (.tup ws) (.ref p):=⟨p,xs,rfl,Hi.of bD,(Ex.laid hp).ext.s r⟩
theorem Bq.lstNew {p:Addr}(R:G5 K μ H h)(hp:H p=Go)(r:aW K H μ ws xs):Bq K (G7 H p (.lst xs)) μ (.lst ws) (.ref p):=by
 refine⟨p,xs,rfl,⟨bD,λn e=>?_,λz=>?_⟩,(Ex.laid hp).ext.s r⟩;have:=R.trk n p e
 rwa[hp]at this
 obtain⟨⟨xs,e⟩,_⟩:=R.hd p z;grind
def Mu.put (μ:Mu)(n:Nat)(p:Addr):Mu:=⟨λm=>if m=n then Dn p else μ.f m,μ.hid⟩
theorem Mu.put_same {n:Nat}{p:Addr}:(μ.put n p).f n=Dn p:=by show(if n=n then Dn p else μ.f n)=_;rw[if_pos rfl]
theorem Mu.put_ne {n:Nat}{p:Addr}(e:m≠n):(μ.put n p).f m=μ.f m:=by show(if m=n then Dn p else μ.f m)=_;rw[if_neg e]
def Gh.new (h:Gh)(c:Cell):Gh:=⟨h.nx+1,λm=>if m=h.nx then Dn c else h.c m⟩
def Gh.set (h:Gh)(n:Nat)(c:Cell):Gh:=⟨h.nx,λm=>if m=n then Dn c else h.c m⟩
theorem G5.dead (R:G5 K μ H h){n:Nat}(hn:h.nx<=n):μ.f n=Go:=by
 cases e:μ.f n with
 | none=>rfl
 | some p=>exact absurd (R.dom n p e) (by lia)
theorem Ex.newCell {p:Addr}{o:HO}(R:G5 K μ H h)(hp:H p=Go):Ex K H μ (G7 H p o) (μ.put h.nx p) where
 t:=λq xs z=>(Ex.laid (μ:=μ) hp).t q xs z
 l:=λq xs z=>by
  have nq:=aZ z.1 hp;refine⟨aP nq ▸ z.1,λn e=>?_,z.2.2⟩;by_cases hn:n=h.nx
  subst hn;rw[Mu.put_same]at e;grind
  rw[Mu.put_ne hn]at e;exact z.2.1 n e
 k:=λq xs z=>(Ex.laid (μ:=μ) hp).k q xs z
 m:=λn q e=>by
  rw[Mu.put_ne (λz=>by subst z;rw[R.dead (GZ _)]at e;cases e)];exact e
 x:=λq o' u e=>aP (aZ e hp) ▸ e
 y:=λq fs e=>aP (aZ e hp) ▸ e
 o:=λq u z e=>⟨z,aP (aZ e hp) ▸ e⟩
theorem G5.newCell {p:Addr}{o:HO}{c:Cell}(R:G5 K μ H h)(hp:H p=Go)(mo:adb (Dn o))(ck:vJ K (G7 H p o) (μ.put h.nx p) p c):G5 K (μ.put h.nx p) (G7 H p o) (h.new c) where
 inj:=λm n q em en=>by
  by_cases hm:m=h.nx
  by_cases hn:n=h.nx
  rw[hm,hn];rw[hm,Mu.put_same]at em;rw[Mu.put_ne hn]at en;cases IV em
  have:=R.trk n _ en
  rw[hp]at this;cases this;rw[Mu.put_ne hm]at em;by_cases hn:n=h.nx
  rw[hn,Mu.put_same]at en;obtain rfl:=IV en;have:=R.trk m _ em
  rw[hp]at this;cases this;rw[Mu.put_ne hn]at en;exact R.inj m n q em en
 dom:=λn q e=>by
  show n<h.nx+1;by_cases hn:n=h.nx
  lia;rw[Mu.put_ne hn]at e;have:=R.dom n q e
  lia
 trk:=λn q e=>by
  by_cases hn:n=h.nx
  rw[hn,Mu.put_same]at e;obtain rfl:=IV e;rw[bD];exact mo;rw[Mu.put_ne hn]at e;have:=R.trk n q e
  have ne:q≠p:=λz=>by subst z;rw[hp]at this;exact this
  rw[aP ne];exact this
 cel:=λn d e=>by
  have e:(if n=h.nx then Dn c else h.c n)=Dn d:=e;by_cases hn:n=h.nx
  rw[if_pos hn]at e;obtain rfl:=IV e;exact⟨p,by rw[hn,Mu.put_same],ck⟩;rw[if_neg hn]at e;obtain⟨q,e1,x⟩:=R.cel n d e;have:=R.trk n q e1
  have ne:q≠p:=λz=>by subst z;rw[hp]at this;exact this
  exact⟨q,by rwa[Mu.put_ne hn],x.ext (Ex.newCell R hp).ext (aP ne)⟩
 hd:=λq z=>by
  obtain⟨⟨xs,e⟩,g⟩:=R.hd q z;have ne:=aZ e hp;refine⟨⟨xs,aP ne ▸ e⟩,λn en=>?_⟩;by_cases hn:n=h.nx
  rw[hn,Mu.put_same]at en;grind
  rw[Mu.put_ne hn]at en;exact g n en
theorem Rd.kept {p q:Addr}{o u:HO}(mo:adb (H p))(r:Rd H q u)(hn:q≠p):Rd (G7 H p o) q u:=by
 unfold Rd
 rwa[aP hn]
theorem Ex.write {n:Nat}{p:Addr}{o:HO}(R:G5 K μ H h)(hn:μ.f n=Dn p):Ex K H μ (G7 H p o) μ where
 t:=λq xs z=>by
  rcases z with z|z
  refine .inl<|z.kept (R.trk n p hn) λe=>?_
  subst e;have:=R.trk n q hn
  rcases z with r|⟨_,r⟩<;>rw[r]at this<;>exact this
  exact .inr z
 l:=λq xs z=>⟨by rw[aP (λe=>z.2.1 n (by rwa[e]))];exact z.1,z.2⟩
 k:=λq xs z=>by
  rcases z with⟨o',z⟩|z
  refine .inl ⟨o',?_⟩;rw[aP (λe=>?_)];exact z;subst e;have:=R.trk n q hn
  rwa[z]at this
  exact .inr z
 m:=λ_ _ e=>e
 x:=λq o' u e=>by
  rw[aP (λy=>?_)];exact e;subst y;have:=R.trk n q hn
  rwa[e]at this
 y:=λq fs e=>by
  rw[aP (λy=>?_)];exact e;subst y;have:=R.trk n q hn
  rwa[e]at this
 o:=λq u z e=>⟨z,by rw[aP (λy=>(R.hd q z).2 n (by rwa[y]))];exact e⟩
theorem G5.write {n:Nat}{p:Addr}{o:HO}{c:Cell}(R:G5 K μ H h)(hn:μ.f n=Dn p)(mo:adb (Dn o))(ck:vJ K (G7 H p o) μ p c):G5 K μ (G7 H p o) (h.set n c) where
 inj:=R.inj
 dom:=R.dom
 trk:=λm q e=>by
  by_cases z:q=p
  subst z;rw[bD];exact mo;rw[aP z];exact R.trk m q e
 cel:=λm d e=>by
  have e:(if m=n then Dn c else h.c m)=Dn d:=e;by_cases hm:m=n
  grind
  rw[if_neg hm]at e;obtain⟨q,e1,x⟩:=R.cel m d e;exact⟨q,e1,x.ext (Ex.write R hn).ext (aP (λz=>by subst z;exact hm (R.inj m n q e1 hn)))⟩
 hd:=λq z=>by
  obtain⟨⟨xs,e⟩,g⟩:=R.hd q z;exact⟨⟨xs,by rw[aP<|λy=>g n<|by rwa[y]];exact e⟩,g⟩
mutual
def Lo (k:Nat):W->Prop
 | .tup ws=>O6 k ws
 | .lst ws=>O6 k ws
 | .kls ws=>O6 k ws
 | .exa _ ws=>O6 k ws
 | .loc n=>n<k
 | _=>True
def O6 (k:Nat):List W->Prop
 | []=>True
 | w::ws=>Lo k w/\O6 k ws
end
mutual
theorem Bq.lo {k:Nat}(hd:∀n p,μ.f n=Dn p->n<k):∀{w:W}{v:V},Bq K H μ w v->Lo k w
 | .non,_,_=>by rw[Lo]<;>first|trivial|(intros;contradiction)
 | .bl _,_,_=>by rw[Lo]<;>first|trivial|(intros;contradiction)
 | .int _,_,_=>by rw[Lo]<;>first|trivial|(intros;contradiction)
 | .str _,_,_=>by rw[Lo]<;>first|trivial|(intros;contradiction)
 | .ty _,_,_=>by rw[Lo]<;>first|trivial|(intros;contradiction)
 | .exc _,_,_=>by rw[Lo]<;>first|trivial|(intros;contradiction)
 | .fnv _ _,_,_=>by rw[Lo]<;>first|trivial|(intros;contradiction)
 | .exa _ ws,_,h=>by
  rw[Bq]at h;obtain⟨_,_,_,_,_,_,_,_,_,_,_,_,hr⟩:=h;rw[Lo];exact aW.lo hd hr
 | .tup ws,_,h=>by
  rw[Bq]at h;obtain⟨p,xs,_,_,hr⟩:=h;rw[Lo];exact aW.lo hd hr
 | .lst ws,_,h=>by
  rw[Bq]at h;obtain⟨p,xs,_,_,hr⟩:=h;rw[Lo];exact aW.lo hd hr
 | .kls ws,_,h=>by
  rw[Bq]at h;obtain⟨p,xs,_,_,hr⟩:=h;rw[Lo];exact aW.lo hd hr
 | .loc n,_,h=>by
  rw[Bq]at h;obtain⟨p,_,hm⟩:=h;rw[Lo];exact hd n p hm
theorem aW.lo {k:Nat}(hd:∀n p,μ.f n=Dn p->n<k):∀{ws:List W}{xs:List V},aW K H μ ws xs->O6 k ws
 | [],_,_=>by rw[O6];trivial
 | w::ws,_,h=>by
  rw[aW]at h;obtain⟨v,vs,_,r,h⟩:=h;rw[O6];exact⟨Bq.lo hd r,aW.lo hd h⟩
end
def Mu.cut (μ:Mu)(k:Nat):Mu:=⟨λn=>if n<k then μ.f n else Go,μ.hid⟩
theorem Mu.cut_some {k n:Nat}{p:Addr}(e:(μ.cut k).f n=Dn p):n<k/\μ.f n=Dn p:=by
 have e:(if n<k then μ.f n else Go)=Dn p:=e;grind
mutual
theorem Bq.cut {k:Nat}:∀{w:W}{v:V},Bq K H μ w v->Lo k w->Bq K H (μ.cut k) w v
 | .non,_,h,_=>by rw[Bq]at h|-;exact h
 | .bl _,_,h,_=>by rw[Bq]at h|-;exact h
 | .int _,_,h,_=>by rw[Bq]at h|-;exact h
 | .str _,_,h,_=>by rw[Bq]at h|-;exact h
 | .ty _,_,h,_=>by rw[Bq]at h|-;exact h
 | .exc _,_,h,_=>by rw[Bq]at h|-;exact h
 | .fnv _ _,_,h,_=>by rw[Bq]at h|-;exact h
 | .exa _ ws,_,h,l=>by
  rw[Bq]at h|-
  rw[Lo]at l;obtain⟨p,o,u,dd,ns,xs,e1,hm,hx,hd,e2,e3,hr⟩:=h;exact⟨p,o,u,dd,ns,xs,e1,hm,hx,hd,e2,e3,aW.cut hr l⟩
 | .tup ws,_,h,l=>by
  rw[Bq]at h|-
  rw[Lo]at l;obtain⟨p,xs,e1,hs,hr⟩:=h;exact⟨p,xs,e1,hs,aW.cut hr l⟩
 | .lst ws,_,h,l=>by
  rw[Bq]at h|-
  rw[Lo]at l;obtain⟨p,xs,e1,hs,hr⟩:=h;exact⟨p,xs,e1,⟨hs.1,λn e=>hs.2.1 n (Mu.cut_some e).2,hs.2.2⟩,aW.cut hr l⟩
 | .kls ws,_,h,l=>by
  rw[Bq]at h|-
  rw[Lo]at l;obtain⟨p,xs,e1,hs,hr⟩:=h;exact⟨p,xs,e1,hs,aW.cut hr l⟩
 | .loc n,_,h,l=>by
  rw[Bq]at h|-
  rw[Lo]at l;obtain⟨p,e1,hm⟩:=h;refine⟨p,e1,?_⟩;show(if n<k then μ.f n else Go)=Dn p;rw[if_pos l];exact hm
theorem aW.cut {k:Nat}:∀{ws:List W}{xs:List V},aW K H μ ws xs->O6 k ws->aW K H (μ.cut k) ws xs
 | [],_,h,_=>by rw[aW]at h|-;exact h
 | w::ws,_,h,l=>by
  rw[aW]at h|-
  rw[O6]at l;obtain⟨v,vs,e1,r,h⟩:=h;exact⟨v,vs,e1,Bq.cut r l.1,aW.cut h l.2⟩
end
end
variable {ws:List W}{μ':Mu}
section
variable {K:Bl}{H H' H1 H2:Hp}{μ1 μ2:Mu}{h h':Gh}{w:W}{v:V}{xs ys:List V}{p:Addr}
def Mu.hide (μ:Mu)(p:Addr):Mu:=⟨μ.f,λq=>q=p\/μ.hid q⟩
def Mu.unhide (μ:Mu)(p:Addr):Mu:=⟨μ.f,λq=>q≠p/\μ.hid q⟩
structure Zm (p:Addr) (K:Bl) (H:Hp) (μ:Mu) (H':Hp) (μ':Mu):Prop where
 r:∀w v,Bq K H μ w v->Bq K H' μ' w v
 o:∀q u,q≠p->μ.hid q->H q=Dn u->μ'.hid q/\H' q=Dn u
theorem Hw.x (a:Hw K H μ H1 μ1)(hp:¬μ.hid p)(b:Zm p K H1 μ1 H2 μ2):Hw K H μ H2 μ2:=
 ⟨λw v z=>b.r w v (a.r w v z),λq u z e=>let⟨z1,e1⟩:=a.o q u z e;b.o q u (λy=>hp (y ▸ z)) z1 e1⟩
theorem Hw.hide {o:HO}(hp:H p=Go):Hw K H μ (G7 H p o) (μ.hide p):=Ex.ext {
 t:=λq xs z=>(Ex.laid (μ:=μ) hp).t q xs z
 l:=λq xs z=>by
  have nq:=aZ z.1 hp;refine⟨aP nq ▸ z.1,z.2.1,λy=>?_⟩;rcases y with y|y
  exact nq y;exact z.2.2 y
 k:=λq xs z=>(Ex.laid (μ:=μ) hp).k q xs z
 m:=λ_ _ e=>e
 x:=λq o' u e=>aP (aZ e hp) ▸ e
 y:=λq fs e=>aP (aZ e hp) ▸ e
 o:=λq u z e=>⟨.inr z,aP (aZ e hp) ▸ e⟩}
theorem G5.nohid (R:G5 K μ H h)(hp:H p=Go):¬μ.hid p:=λz=>by
 obtain⟨⟨xs,e⟩,_⟩:=R.hd p z;grind
theorem G5.hide (R:G5 K μ H h)(hp:H p=Go):G5 K (μ.hide p) (G7 H p (.lst xs)) h where
 inj:=R.inj
 dom:=R.dom
 trk:=(R.laid hp).trk
 cel:=λn c e=>by
  obtain⟨q,e1,x⟩:=R.cel n c e;have:=R.trk n q e1
  exact⟨q,e1,x.ext (Hw.hide hp)<|aP (λz=>by subst z;rw[hp]at this;exact this)⟩
 hd:=λq z=>by
  rcases z with z|z
  subst z;refine⟨⟨xs,bD⟩,λn e=>?_⟩;have:=R.trk n q e
  rwa[hp]at this
  exact(R.laid hp).hd q z
theorem Ex0.grow (R:G5 K μ H h)(hp:μ.hid p):Ex0 K H μ (G7 H p (.lst ys)) μ where
 t:=λq xs z=>by
  rcases z with z|z
  refine .inl ?_;unfold Rd;rw[aP (λy=>?_)];exact z;subst y;obtain⟨⟨xs',e⟩,_⟩:=R.hd q hp;rcases z with r|⟨_,r⟩<;>rw[e]at r<;>cases r
  exact .inr z
 l:=λq xs z=>⟨by rw[aP (λy=>z.2.2 (by rwa[y]))];exact z.1,z.2⟩
 k:=λq xs z=>by
  rcases z with⟨o',z⟩|z
  refine .inl ⟨o',?_⟩;rw[aP (λy=>?_)];exact z;subst y;obtain⟨⟨xs',e⟩,_⟩:=R.hd q hp;grind
  exact .inr z
 m:=λ_ _ e=>e
 x:=λq o' u e=>by
  rw[aP (λy=>?_)];exact e;subst y;obtain⟨⟨xs',e'⟩,_⟩:=R.hd q hp;grind
 y:=λq fs e=>by
  rw[aP (λy=>?_)];exact e;subst y;obtain⟨⟨xs',e'⟩,_⟩:=R.hd q hp;grind
theorem Zm.grow (R:G5 K μ H h)(hp:μ.hid p):Zm p K H μ (G7 H p (.lst ys)) μ:=
 ⟨λ_ _ z=>Bq.ex (Ex0.grow R hp) z,λq u ne z e=>⟨z,aP ne ▸ e⟩⟩
theorem G5.grow (R:G5 K μ H h)(hp:μ.hid p):G5 K μ (G7 H p (.lst ys)) h where
 inj:=R.inj
 dom:=R.dom
 trk:=λn q e=>by
  have ne:q≠p:=λz=>(R.hd p hp).2 n (z ▸ e)
  rw[aP ne];exact R.trk n q e
 cel:=λn c e=>by
  obtain⟨q,e1,x⟩:=R.cel n c e;have ne:q≠p:=λz=>(R.hd p hp).2 n (z ▸ e1)
  refine⟨q,e1,?_⟩;cases c with
  | lst ws=>obtain⟨xs,a,b⟩:=x;exact⟨xs,(aP ne).trans a,aW.ex (Ex0.grow R hp) b⟩
  | obj C fs=>obtain⟨dx,fvs,a,b⟩:=x;exact⟨dx,fvs,(aP ne).trans a,Paired.mapP b λ_ _ z=>⟨z.1,Bq.ex (Ex0.grow R hp) z.2⟩⟩
  | dct kvs=>obtain⟨kvv,a,b⟩:=x;exact⟨kvv,(aP ne).trans a,Paired.mapP b λ_ _ z=>⟨z.1,Bq.ex (Ex0.grow R hp) z.2⟩⟩
  | dtt kvs=>obtain⟨xs,vs,a,b,c,d,f⟩:=x;exact⟨xs,vs,(aP ne).trans a,b,c,aW.ex (Ex0.grow R hp) d,aW.ex (Ex0.grow R hp) f⟩
 hd:=λq z=>by
  by_cases e:q=p
  subst e;exact⟨⟨ys,bD⟩,(R.hd q hp).2⟩;rw[aP e];exact R.hd q z
theorem Ex0.unhide:Ex0 K H μ H (μ.unhide p) where
 t:=λ_ _ z=>z
 l:=λq xs z=>⟨z.1,z.2.1,λy=>z.2.2 y.2⟩
 k:=λ_ _ z=>z
 m:=λ_ _ e=>e
 x:=λ_ _ _ e=>e
 y:=λ_ _ e=>e
theorem Zm.unhide:Zm p K H μ H (μ.unhide p):=⟨λ_ _ z=>Bq.ex Ex0.unhide z,λq u ne z e=>⟨⟨ne,z⟩,e⟩⟩
theorem G5.unhide (R:G5 K μ H h):G5 K (μ.unhide p) H h where
 inj:=R.inj
 dom:=R.dom
 trk:=R.trk
 cel:=λn c e=>by
  obtain⟨q,e1,x⟩:=R.cel n c e;refine⟨q,e1,?_⟩;cases c with
  | lst ws=>obtain⟨xs,a,b⟩:=x;exact⟨xs,a,aW.ex Ex0.unhide b⟩
  | obj C fs=>obtain⟨dx,fvs,a,b⟩:=x;exact⟨dx,fvs,a,Paired.mapP b λ_ _ z=>⟨z.1,Bq.ex Ex0.unhide z.2⟩⟩
  | dct kvs=>obtain⟨kvv,a,b⟩:=x;exact⟨kvv,a,Paired.mapP b λ_ _ z=>⟨z.1,Bq.ex Ex0.unhide z.2⟩⟩
  | dtt kvs=>obtain⟨xs,vs,a,b,c,d,f⟩:=x;exact⟨xs,vs,a,b,c,aW.ex Ex0.unhide d,aW.ex Ex0.unhide f⟩
 hd:=λq z=>R.hd q z.2
theorem Bq.built (R:G5 K μ H h)(hp:μ.hid p)(e:H p=Dn (.lst xs))(r:aW K H μ ws xs):Bq K H (μ.unhide p) (.lst ws) (.ref p):=⟨p,xs,rfl,⟨e,(R.hd p hp).2,λz=>z.1 rfl⟩,aW.ex Ex0.unhide r⟩
end
abbrev Sw:=List (Option W)
abbrev WK:=W->Gh->Prop
abbrev ME:=Sw->Gh->WK->Prop
abbrev MT:=Sw->Gh->(Bool->Gh->Prop)->Prop
abbrev MA:=Sw->Gh->(List W->Gh->Prop)->Prop
structure bR where
 nx:Sw->Gh->Prop
 rt:WK
 bk:Sw->Gh->Prop:=λ_ _=>False
 ct:Sw->Gh->Prop:=λ_ _=>False
abbrev MS:=bR->Sw->Gh->Prop
abbrev MG:=W->Sw->Gh->(Sw->Gh->Prop)->Prop
abbrev QX:=List W->Sw->Gh->(Sw->Gh->Prop)->Prop
structure Xw where
 cls:Str
 fs:List (Str×W)
abbrev CQ:=Xw->Gh->Prop
abbrev AP:=List W->Gh->WK->CQ->Prop
def EF:CQ:=λ_ _=>False
structure Slots (K:Bl) (H:Hp) (μ:Mu) (Uw:Sw) (U:St):Prop where
 len:Uw.length=U.length
 get:∀(i:Nat) (w:W),Uw[i]?=Dn (Dn w)->∃v,U[i]?=Dn (Dn v)/\Bq K H μ w v
inductive DQ (K:Bl) (H:Hp) (μ:Mu) (Q:WK) (v:V) (H':Hp):Prop where
 | mk (μ':Mu) (w:W) (h':Gh) (e:Hw K H μ H' μ') (R:G5 K μ' H' h') (r:Bq K H' μ' w v) (q:Q w h'):DQ K H μ Q v H'
inductive DB (K:Bl) (H:Hp) (μ:Mu) (Q:Bool->Gh->Prop) (b:Bool) (H':Hp):Prop where
 | mk (μ':Mu) (h':Gh) (e:Hw K H μ H' μ') (R:G5 K μ' H' h') (q:Q b h'):DB K H μ Q b H'
inductive DA (K:Bl) (H:Hp) (μ:Mu) (Q:List W->Gh->Prop) (vs:List V) (H':Hp):Prop where
 | mk (μ':Mu) (ws:List W) (h':Gh) (e:Hw K H μ H' μ') (R:G5 K μ' H' h') (r:aW K H' μ' ws vs) (q:Q ws h'):DA K H μ Q vs H'
inductive DN (K:Bl) (H:Hp) (μ:Mu) (N:Sw->Gh->Prop) (U':St) (H':Hp):Prop where
 | mk (μ':Mu) (Uw':Sw) (h':Gh) (e:Hw K H μ H' μ') (R:G5 K μ' H' h') (S:Slots K H' μ' Uw' U') (q:N Uw' h'):DN K H μ N U' H'
section
variable {K:Bl}{H H' H1 H2:Hp}{μ1 μ2:Mu}{h h' h1:Gh}{w:W}{v:V}{U:St}{Uw:Sw}
theorem Slots.ext (S:Slots K H μ Uw U)(e:Hw K H μ H' μ'):Slots K H' μ' Uw U:=⟨S.len,λi w q=>let⟨v,a,b⟩:=S.get i w q;⟨v,a,e.r _ _ b⟩⟩
theorem Slots.set (S:Slots K H μ Uw U)(r:Bq K H μ w v)(i:Nat):Slots K H μ (Uw.set i (Dn w)) (U.set i (Dn v)):=by
 refine⟨by rw[List.length_set,List.length_set,S.len],λj u q=>?_⟩;rw[List.getElem?_set]at q|-
 by_cases hij:i=j
 rw[if_pos hij]at q|-
 by_cases hl:i < Uw.length
 rw[if_pos hl]at q;rw[if_pos (S.len ▸ hl)];grind
 grind
 rw[if_neg hij]at q|-
 exact S.get j u q
theorem DQ.trans {Q:WK}(e:Hw K H μ H1 μ1)(q:DQ K H1 μ1 Q v H'):DQ K H μ Q v H':=let⟨μ',w,h',a,b,c,d⟩:=q;⟨μ',w,h',e.trans a,b,c,d⟩
theorem DB.trans {Q:Bool->Gh->Prop}{b:Bool}(e:Hw K H μ H1 μ1)(q:DB K H1 μ1 Q b H'):DB K H μ Q b H':=let⟨μ',h',a,b,c⟩:=q;⟨μ',h',e.trans a,b,c⟩
theorem DN.trans {N:Sw->Gh->Prop}{U':St}(e:Hw K H μ H1 μ1)(q:DN K H1 μ1 N U' H'):DN K H μ N U' H':=let⟨μ',w,h',a,b,c,d⟩:=q;⟨μ',w,h',e.trans a,b,c,d⟩
end
inductive tD (K:Bl) (m:ME) (U:St) (H:Hp) (Q:VK):Prop where
 | mk (μ:Mu) (h:Gh) (Uw:Sw) (Qw:WK) (R:G5 K μ H h) (S:Slots K H μ Uw U) (x:m Uw h Qw) (k:∀v H',DQ K H μ Qw v H'->Q v H'):tD K m U H Q
inductive tDT (K:Bl) (m:MT) (U:St) (H:Hp) (Q:Bool->Hp->Prop):Prop where
 | mk (μ:Mu) (h:Gh) (Uw:Sw) (Qw:Bool->Gh->Prop) (R:G5 K μ H h) (S:Slots K H μ Uw U) (x:m Uw h Qw) (k:∀b H',DB K H μ Qw b H'->Q b H'):tDT K m U H Q
inductive tDA (K:Bl) (m:MA) (U:St) (H:Hp) (Q:List V->Hp->Prop):Prop where
 | mk (μ:Mu) (h:Gh) (Uw:Sw) (Qw:List W->Gh->Prop) (R:G5 K μ H h) (S:Slots K H μ Uw U) (x:m Uw h Qw) (k:∀vs H',DA K H μ Qw vs H'->Q vs H'):tDA K m U H Q
inductive tDG (K:Bl) (g:MG) (v:V) (U:St) (H:Hp) (N:St->Hp->Prop):Prop where
 | mk (μ:Mu) (h:Gh) (Uw:Sw) (w:W) (Nw:Sw->Gh->Prop) (R:G5 K μ H h) (S:Slots K H μ Uw U) (r:Bq K H μ w v) (x:g w Uw h Nw) (k:∀U' H',DN K H μ Nw U' H'->N U' H'):tDG K g v U H N
inductive afm (K:Bl) (g:QX) (vs:List V) (U:St) (H:Hp) (N:St->Hp->Prop):Prop where
 | mk (μ:Mu) (h:Gh) (Uw:Sw) (ws:List W) (Nw:Sw->Gh->Prop) (R:G5 K μ H h) (S:Slots K H μ Uw U) (r:aW K H μ ws vs) (x:g ws Uw h Nw) (k:∀U' H',DN K H μ Nw U' H'->N U' H'):afm K g vs U H N
structure zL (K:Bl) (H:Hp) (μ:Mu) (Dw:bR) (D:Ends):Prop where
 nx:∀U' H',DN K H μ Dw.nx U' H'->D.nx U' H'
 rt:∀v H',DQ K H μ Dw.rt v H'->D.rt v H'
 bk:∀U' H',DN K H μ Dw.bk U' H'->D.bk U' H'
 ct:∀U' H',DN K H μ Dw.ct U' H'->D.ct U' H'
inductive tDS (K:Bl) (m:MS) (D:Ends) (U:St) (H:Hp):Prop where
 | mk (μ:Mu) (h:Gh) (Uw:Sw) (Dw:bR) (R:G5 K μ H h) (S:Slots K H μ Uw U) (x:m Dw Uw h) (k:zL K H μ Dw D):tDS K m D U H
theorem zL.trans {K:Bl}{H H1:Hp}{μ μ1:Mu}{Dw:bR}{D:Ends}(k:zL K H μ Dw D)(e:Hw K H μ H1 μ1):zL K H1 μ1 Dw D:=
 ⟨λ_ _ q=>k.nx _ _ (q.trans e),λ_ _ q=>k.rt _ _ (q.trans e),λ_ _ q=>k.bk _ _ (q.trans e),λ_ _ q=>k.ct _ _ (q.trans e)⟩
section
variable {X:Cx}{e:Expr}{es:List Expr}{st:Stmt}{sts:List Stmt}
theorem PE.of {t t':TE}(h:PE X e t)(k:∀U H Q,t' U H Q->t U H Q):PE X e t':=λamD s U H Q I q=>h amD s U H Q I (k U H Q q)
theorem PT.of {t t':TT}(h:PT X e t)(k:∀U H Q,t' U H Q->t U H Q):PT X e t':=λamD s U H Q I q=>h amD s U H Q I (k U H Q q)
theorem PW.of {t t':TT}(h:PW X e t)(k:∀U H Q,t' U H Q->t U H Q):PW X e t':=λwh amD s U H Q I q=>h wh amD s U H Q I (k U H Q q)
theorem PA.of {t t':TA}(h:PA X es t)(k:∀U H Q,t' U H Q->t U H Q):PA X es t':=λpos amD s U H Q I q=>h pos amD s U H Q I (k U H Q q)
theorem PG.of {t t':TG}(h:PG X e t)(k:∀v U H Q,t' v U H Q->t v U H Q):PG X e t':=λamD s U H v u Q I r q=>h amD s U H v u Q I r (k v U H Q q)
theorem Ve.of {t t':Uz}(h:Ve X es t)(k:∀v U H Q,t' v U H Q->t v U H Q):Ve X es t':=λamD s U H v u Q I r q=>h amD s U H v u Q I r (k v U H Q q)
theorem PS.of {t t':TS}(h:PS X st t)(k:∀D U H,t' D U H->t D U H):PS X st t':=λamD s U H D I q=>h amD s U H D I (k D U H q)
theorem Pg.of {t t':TS}(h:Pg X sts t)(k:∀D U H,t' D U H->t D U H):Pg X sts t':=λamD s U H D I q=>h amD s U H D I (k D U H q)
end
abbrev DE (X:Cx)(e:Expr)(m:ME):Prop:=PE X e (tD X.K m)
abbrev DT (X:Cx)(e:Expr)(m:MT):Prop:=PT X e (tDT X.K m)
abbrev DWt (X:Cx)(e:Expr)(m:MT):Prop:=PW X e (tDT X.K m)
abbrev KR (X:Cx)(es:List Expr)(m:MA):Prop:=PA X es (tDA X.K m)
abbrev DG (X:Cx)(e:Expr)(m:MG):Prop:=PG X e (tDG X.K m)
abbrev ac8 (X:Cx)(es:List Expr)(m:QX):Prop:=Ve X es (afm X.K m)
abbrev DS (X:Cx)(st:Stmt)(m:MS):Prop:=PS X st (tDS X.K m)
abbrev Ri (X:Cx)(st:List Stmt)(m:MS):Prop:=Pg X st (tDS X.K m)
section
variable {X:Cx}{e a b c:Expr}{ma mb mc:ME}{pos:Pos}
def aA (i:Nat):ME:=λU h Q=>match U[i]? with
 | some (Dn w)=>Q w h
 | _=>False
def mC (w:W):ME:=λ_ h Q=>Q w h
theorem dv (i:Nat)(he:PE X e (aeR i)):DE X e (aA i):=he.of λU H Q ⟨μ,h,Uw,Qw,R,S,m,k⟩=>by
 unfold aA at m;cases q:Uw[i]? with
 | none=>rw[q]at m;exact m.elim
 | some o=>
  rw[q]at m;cases o with
  | none=>cases m
  | some w=>
   obtain⟨v,h1,h2⟩:=S.get i w q;exact⟨v,h1,k _ _ ⟨μ,w,h,.refl,R,h2,m⟩⟩
theorem dc {w:W}{v:V}(he:PE X e (tC v))(r:∀H μ,Bq X.K H μ w v):DE X e (mC w):=he.of λU H Q ⟨μ,h,Uw,Qw,R,S,m,k⟩=>k _ _ ⟨μ,w,h,.refl,R,r H μ,m⟩
theorem aB {i:Int}{j pos}:DE X (.Constant (.int i) j pos) (mC (.int i)):=dc acM λ_ _=>by rw[Bq]
theorem Aq {i:Bool}{j pos}:DE X (.Constant (.bool i) j pos) (mC (.bl i)):=dc aer λ_ _=>by rw[Bq]
theorem QM {j pos}:DE X (.Constant .none j pos) (mC .non):=dc abN λ_ _=>by rw[Bq]
theorem aX {i:Str}{j pos}:DE X (.Constant (.str i) j pos) (mC (.str i)):=dc abr λ_ _=>by rw[Bq]
abbrev M2:=W->W->Gh->WK->Prop
def Af (r:M2)(ma mb:ME):ME:=λU h Q=>ma U h λx h1=>mb U h1 λy h2=>r x y h2 Q
def afv (K:Bl)(r:R2)(mr:M2):Prop:=∀{H:Hp}{μ:Mu}{h:Gh}{x y:V}{wx wy:W}{Qw:WK}{Q:VK},G5 K μ H h->Bq K H μ wx x->Bq K H μ wy y->mr wx wy h Qw ->
 (∀v H',DQ K H μ Qw v H'->Q v H')->r x y H Q
theorem two {K:Bl}{U:St}{H:Hp}{Q:VK}{mr:M2}{R2':V->V->Hp->Prop}(h:tD K (Af mr ma mb) U H Q)
  (k:∀{H2:Hp}{μ2:Mu}{h2:Gh}{x y:V}{wx wy:W}{Qw:WK},G5 K μ2 H2 h2->Bq K H2 μ2 wx x->Bq K H2 μ2 wy y->mr wx wy h2 Qw->(∀v H',DQ K H2 μ2 Qw v H'->Q v H')->R2' x y H2) :
  tD K ma U H λx H1=>tD K mb U H1 λy H2=>R2' x y H2:=by
 obtain⟨μ,g,Uw,Qw,R,S,m,q⟩:=h;exact⟨μ,g,Uw,_,R,S,m,λx H1 ⟨μ1,wx,h1,e1,R1,r1,m1⟩=>⟨μ1,h1,Uw,_,R1,S.ext e1,m1,λy H2 ⟨μ2,wy,h2,e2,R2,r2,m2⟩=>(k R2 (e2.r _ _ r1) r2 m2 λv H' z=>q _ _<|(z.trans e2).trans e1)⟩⟩
def Oe (X:Cx)(f:JI->JI->Sem JI)(mr:M2):Prop:=∃r,K3 X f r/\afv X.K r mr
theorem dW {op:Operator}{mr:M2}(ho:Oe X (Nu op) mr)(ha:DE X a ma)(hb:DE X b mb):DE X (.BinOp a op b pos) (Af mr ma mb):=by
 obtain⟨r,o,s⟩:=ho;exact(adq o ha hb).of λU H Q h=>two h λR r1 r2 m k=>s R r1 r2 m k
theorem adM {op:CmpOp}{mr:M2}(ho:Oe X (O2 op) mr)(ha:DE X a ma)(hb:DE X b mb)(hm:W8 op b=false):DE X (.Compare a [op] [b] pos) (Af mr ma mb):=by
 obtain⟨r,o,s⟩:=ho;exact(ajh o ha hb hm).of λU H Q h=>two h λR r1 r2 m k=>s R r1 r2 m k
def bF (m:ME):MT:=λU h Q=>m U h λw h1=>match w with
 | .bl c=>Q c h1
 | _=>False
theorem akm {K:Bl}{U:St}{H:Hp}{m:ME}{Q:Bool->Hp->Prop}(h:tDT K (bF m) U H Q):tD K m U H λx H'=>∃k,x=.bl k/\Q k H':=by
 obtain⟨μ,g,Uw,Qw,R,S,mm,q⟩:=h;refine⟨μ,g,Uw,_,R,S,mm,λv H' ⟨μ1,w,h1,e1,R1,r1,m1⟩=>?_⟩;cases w with
 | bl c=>rw[Bq]at r1;exact⟨c,r1,q _ _ ⟨μ1,h1,e1,R1,m1⟩⟩
 | _=>exact m1.elim
theorem aan {op:CmpOp}{mr:M2}(ho:Oe X (O2 op) mr)(ha:DE X a ma)(hb:DE X b mb)(hm:W8 op b=false):DT X (.Compare a [op] [b] pos) (bF (Af mr ma mb)):=by
 obtain⟨r,o,s⟩:=ho;exact(akX o ha hb hm).of λU H Q h=>two (akm h) λR r1 r2 m k=>s R r1 r2 m k
def Ir (c:Bool)(a b:Prop):Prop:=match c with
 | true=>a
 | false=>b
def br (c:Bool)(a b:Prop):Prop:=(c=true->a)/\(c=false->b)
theorem qR {c:Bool}{a b:Prop}(e:c=true)(x:a):br c a b:=⟨λ_=>x,λz=>by rw[e]at z;cases z⟩
theorem gH {c:Bool}{a b:Prop}(e:c=false)(x:b):br c a b:=⟨λz=>(by rw[e]at z;cases z),λ_=>x⟩
theorem Bp {c:Prop}[Decidable c]{a b:Prop}(x:c->a)(y:¬c->b):br (decide c) a b:=⟨λe=>x (of_decide_eq_true e),λe=>y (of_decide_eq_false e)⟩
def adn (t u:MT):MT:=λU h Q=>t U h λc h1=>br c (u U h1 Q) (Q false h1)
def QL (t u:MT):MT:=λU h Q=>t U h λc h1=>br c (Q true h1) (u U h1 Q)
def Aw (t:MT):MT:=λU h Q=>t U h λc h1=>Q (!c) h1
variable {tA tB':MT}{rest:List Expr}
theorem Je (ha:DT X a tA):DWt X (.BoolOp .And [a] pos) tA:=ajZ ha
theorem uX (ha:DT X a tA):DWt X (.BoolOp .Or [a] pos) tA:=abl ha
theorem Tt (ha:DT X a tA)(hb:DWt X (.BoolOp .And (b::rest) pos) tB'):DWt X (.BoolOp .And (a::b::rest) pos) (adn tA tB'):=(abg ha hb).of λU H Q ⟨μ,g,Uw,Qw,R,S,m,q⟩=>by
 refine⟨μ,g,Uw,_,R,S,m,λc H1 ⟨μ1,h1,e1,R1,m1⟩=>?_⟩;cases c with
 | true=>
  exact⟨μ1,h1,Uw,_,R1,S.ext e1,m1.1 rfl,λb H' z=>q _ _<|z.trans e1⟩
 | false=>
  exact q _ _ ⟨μ1,h1,e1,R1,m1.2 rfl⟩
theorem qK (ha:DT X a tA)(hb:DWt X (.BoolOp .Or (b::rest) pos) tB'):DWt X (.BoolOp .Or (a::b::rest) pos) (QL tA tB'):=(aeu ha hb).of λU H Q ⟨μ,g,Uw,Qw,R,S,m,q⟩=>by
 refine⟨μ,g,Uw,_,R,S,m,λc H1 ⟨μ1,h1,e1,R1,m1⟩=>?_⟩;cases c with
 | true=>
  exact q _ _ ⟨μ1,h1,e1,R1,m1.1 rfl⟩
 | false=>
  exact⟨μ1,h1,Uw,_,R1,S.ext e1,m1.2 rfl,λb H' z=>q _ _<|z.trans e1⟩
theorem iC (ha:DT X a tA):DT X (.UnaryOp .Not a pos) (Aw tA):=(aav ha).of λU H Q ⟨μ,g,Uw,Qw,R,S,m,q⟩=>
 ⟨μ,g,Uw,_,R,S,m,λc H1 ⟨μ1,h1,e1,R1,m1⟩=>q _ _ ⟨μ1,h1,e1,R1,m1⟩⟩
def Q7 (a b:ME):ME:=λU h Q=>a U h λx h1=>match x with
 | .bl true=>b U h1 Q
 | .bl false=>Q (.bl false) h1
 | _=>False
def agu (a b:ME):ME:=λU h Q=>a U h λx h1=>match x with
 | .bl false=>b U h1 Q
 | .bl true=>Q (.bl true) h1
 | _=>False
def Vl (a:ME):ME:=λU h Q=>a U h λx h1=>match x with
 | .bl c=>Q (.bl (!c)) h1
 | _=>False
theorem aa0 {op}(h:DE X a ma):DE X (.BoolOp op [a] pos) ma:=aaV h
theorem Z8 (ha:DE X a ma)(hb:DE X (.BoolOp .And (b::rest) pos) mb):DE X (.BoolOp .And (a::b::rest) pos) (Q7 ma mb):=(Zv ha hb).of λU H Q ⟨μ,g,Uw,Qw,R,S,m,q⟩=>by
 refine⟨μ,g,Uw,_,R,S,m,λv H1 ⟨μ1,w,h1,e1,R1,r1,m1⟩=>?_⟩;cases w with
 | bl c=>
  refine⟨c,r1,?_⟩;cases c with
  | true=>rw[if_pos rfl];exact⟨μ1,h1,Uw,_,R1,S.ext e1,m1,λb H' z=>q _ _ (z.trans e1)⟩
  | false=>rw[if_neg U5];exact q _ _ ⟨μ1,.bl false,h1,e1,R1,by rw[Bq],m1⟩
 | _=>exact m1.elim
theorem aeS (ha:DE X a ma):DE X (.UnaryOp .Not a pos) (Vl ma):=(acr ha).of λU H Q ⟨μ,g,Uw,Qw,R,S,m,q⟩=>by
 refine⟨μ,g,Uw,_,R,S,m,λv H1 ⟨μ1,w,h1,e1,R1,r1,m1⟩=>?_⟩;cases w with
 | bl c=>rw[Bq]at r1;exact⟨c,r1,q _ _ ⟨μ1,.bl (!c),h1,e1,R1,by rw[Bq],m1⟩⟩
 | _=>exact m1.elim
def Vn (t:MT)(a b:ME):ME:=λU h Q=>t U h λc h1=>br c (a U h1 Q) (b U h1 Q)
theorem ac3 (hc:DT X c tA)(ha:DE X a ma)(hb:DE X b mb):DE X (.IfExp c a b pos) (Vn tA ma mb):=(zbv hc ha hb).of λU H Q ⟨μ,g,Uw,Qw,R,S,m,q⟩=>by
 refine⟨μ,g,Uw,_,R,S,m,λc H1 ⟨μ1,h1,e1,R1,m1⟩=>?_⟩;cases c with
 | true=>
  exact⟨μ1,h1,Uw,_,R1,S.ext e1,m1.1 rfl,λb H' z=>q _ _<|z.trans e1⟩
 | false=>
  exact⟨μ1,h1,Uw,_,R1,S.ext e1,m1.2 rfl,λb H' z=>q _ _<|z.trans e1⟩
def mUn (r:W->Gh->WK->Prop)(a:ME):ME:=λU h Q=>a U h λx h1=>r x h1 Q
def Yc:W->Gh->WK->Prop:=λx h Q=>match x with
 | .int i=>Q (.int (-i)) h
 | _=>False
theorem Nt (ha:DE X a ma):DE X (.UnaryOp .USub a pos) (mUn Yc ma):=(aeF aaW ha).of λU H Q ⟨μ,g,Uw,Qw,R,S,m,q⟩=>by
 refine⟨μ,g,Uw,_,R,S,m,λv H1 ⟨μ1,w,h1,e1,R1,r1,m1⟩=>?_⟩;cases w with
 | int i=>rw[Bq]at r1;exact⟨i,r1,q _ _ ⟨μ1,.int (-i),h1,e1,R1,by rw[Bq],m1⟩⟩
 | _=>exact m1.elim
def aG:MA:=λ_ h Q=>Q [] h
def aj (a:ME)(r:MA):MA:=λU h Q=>a U h λx h1=>r U h1 λxs h2=>Q (x::xs) h2
variable {es:List Expr}{mr:MA}
theorem fD:KR X [] aG:=abw.of λU H Q ⟨μ,g,Uw,Qw,R,S,m,q⟩=>q _ _ ⟨μ,[],g,.refl,R,.nil,m⟩
theorem o8 (ha:DE X e ma)(hr:KR X es mr)(hs:Ca (e::es) X.env=(false,eval e X.env)::Ca es X.env:=by rfl):KR X (e::es) (aj ma mr):=(akQ ha hr hs).of λU H Q ⟨μ,g,Uw,Qw,R,S,m,q⟩=>⟨μ,g,Uw,_,R,S,m,λv H1 ⟨μ1,w,h1,e1,R1,r1,m1⟩=>⟨μ1,h1,Uw,_,R1,S.ext e1,m1,λvs H2 ⟨μ2,ws,h2,e2,R2,r2,m2⟩=>(q _ _ ⟨μ2,w::ws,h2,e1.trans e2,R2,.cons (e2.r _ _ r1) r2,m2⟩)⟩⟩
def gn (n:Nat)(P:Prop):Prop:=Ir (RJ n 1000) P (n<=G6/\P)
theorem gn.ok {n:Nat}{P:Prop}(h:gn n P):n<=G6/\P:=by
 unfold gn at h;cases e:RJ n 1000 with
 | true=>rw[e]at h;exact⟨HN (ML e) (by decide),h⟩
 | false=>rw[e]at h;exact h
theorem gn.mk {n:Nat}{P:Prop}(hn:n<=G6)(h:P):gn n P:=by
 unfold gn;cases e:RJ n 1000 with
 | true=>exact h
 | false=>exact⟨hn,h⟩
def bH (t:MA):ME:=λU h Q=>t U h λws h1=>gn ws.length (Q (.tup ws) h1)
def pC (t:MA):ME:=λU h Q=>t U h λws h1=>gn ws.length (Q (.lst ws) h1)
def pN (t:MA):ME:=λU h Q=>t U h λws h1=>gn ws.length (Q (.loc h1.nx) (h1.new (.lst ws)))
theorem aO {x1}(h:KR X es mr):DE X (.Tuple es x1 pos) (bH mr):=(aas h).of λU H Q ⟨μ,g,Uw,Qw,R,S,m,q⟩=>
 ⟨μ,g,Uw,_,R,S,m,λvs H1 ⟨μ1,ws,h1,e1,R1,r1,sz⟩=>⟨r1.len ▸ sz.ok.1,λp hp=>q _ _ ⟨μ1,.tup ws,h1,e1.trans (Ex.laid hp).ext,R1.laid hp,.tupNew hp r1,sz.ok.2⟩⟩⟩
theorem gC (h:KR X es mr):DE X (.List es pos) (pC mr):=(Us h).of λU H Q ⟨μ,g,Uw,Qw,R,S,m,q⟩=>
 ⟨μ,g,Uw,_,R,S,m,λvs H1 ⟨μ1,ws,h1,e1,R1,r1,sz⟩=>⟨r1.len ▸ sz.ok.1,λp hp=>q _ _ ⟨μ1,.lst ws,h1,e1.trans (Ex.laid hp).ext,R1.laid hp,.lstNew R1 hp r1,sz.ok.2⟩⟩⟩
theorem aat {K:Bl}{H:Hp}{h:Gh}{p:Addr}{xs:List V}(R:G5 K μ H h)(hp:H p=Go)(r:aW K H μ ws xs):
  G5 K (μ.put h.nx p) (G7 H p (.lst xs)) (h.new (.lst ws)):=R.newCell hp trivial ⟨xs,bD,(Ex.newCell R hp).ext.s r⟩
theorem lN (h:KR X es mr):DE X (.List es pos) (pN mr):=(Us h).of λU H Q ⟨μ,g,Uw,Qw,R,S,m,q⟩=>
 ⟨μ,g,Uw,_,R,S,m,λvs H1 ⟨μ1,ws,h1,e1,R1,r1,sz⟩=>⟨r1.len ▸ sz.ok.1,λp hp=>q _ _ ⟨μ1.put _ p,.loc _,h1.new _,e1.trans (Ex.newCell R1 hp).ext,aat R1 hp r1,⟨p,rfl,Mu.put_same⟩,sz.ok.2⟩⟩⟩
inductive lift (K:Bl) (ms:AP) (vs:List V) (H:Hp) (Q:VK) (E:XK):Prop where
 | mk (μ:Mu) (h:Gh) (ws:List W) (Qw:WK) (R:G5 K μ H h) (r:aW K H μ ws vs) (x:ms ws h Qw EF) (k:∀v H',DQ K H μ Qw v H'->Q v H'):lift K ms vs H Q E
def aL (ms:AP)(E:CQ)(ma:MA):ME:=λU h Q=>ma U h λws h1=>ms ws h1 Q E
theorem call_of {K:Bl}{U:St}{H:Hp}{Q:VK}{E:XK}{ms:AP}{ma:MA}(h:tD K (aL ms EF ma) U H Q):aaB (lift K ms) [] E (tDA K ma) U H Q:=by
 obtain⟨μ,g,Uw,Qw,R,S,m,q⟩:=h;refine⟨μ,g,Uw,_,R,S,m,λvs H1 ⟨μ1,ws,h1,e1,R1,r1,m1⟩=>?_⟩;rw[List.append_nil];exact⟨μ1,h1,ws,Qw,R1,r1,m1,λv H' z=>q _ _<|z.trans e1⟩
theorem Le {k:Nat}{f:Addr}{fd:Oh}{ps:List Str}{ms:AP}{x:Str}{p:Pos}(F:sE X.prog X.w X.K X.mg X.base QF k f fd ps (lift X.K ms))(hr:o7 k X.A)(hg:Gl X x)(hm:X.mg x=Dn (.ref f))(hk:RX X.K (.ref f)=true)
  (hb:Binds X.K fd ps []) (ha:KR X (e::es) mr) (hdb:(x==("__debug__" : Str))=false:=by decide) (he:Ca (e::es) X.env=(false,eval e X.env)::Ca es X.env:=by rfl) (hpl:(J1 pos (Ca es X.env)).any (·.1)=false:=by rfl) :
  DE X (.Call (.Name x p) (e::es) [] pos) (aL ms EF mr):=(zcb F hr hg hm hk hb .nil aej ha hdb he hpl).of λ_ _ _ h=>call_of h
def abF (h:Gh)(w:W):Option Bool:=match w with
 | .non=>Dn false
 | .bl b=>Dn b
 | .int i=>Dn (i != 0)
 | .tup ws=>Dn (!ws.isEmpty)
 | .lst ws=>Dn (!ws.isEmpty)
 | .kls ws=>Dn (!ws.isEmpty)
 | .loc n=>(match h.c n with
  | some (.lst ws)=>Dn (!ws.isEmpty)
  | _=>Go)
 | _=>Go
def pR (m:ME):MT:=λU h Q=>m U h λw h1=>match abF h1 w with
 | some b=>Q b h1
 | none=>False
theorem aW.emp {K:Bl}{H:Hp}{xs:List V}(r:aW K H μ ws xs):ws.isEmpty=xs.isEmpty:=by
 have:=r.len
 cases ws<;>cases xs<;>first|rfl|cases this
theorem c7 (he:DE X e ma)(h:∀whole,isTrue e X.env whole=(do let v <-whole;standAt e.pos;Rx [v] (truthy v)):=by intro _;rfl):DT X e (pR ma):=(Ed he h).of λU H Q ⟨μ,g,Uw,Qw,R,S,m,q⟩=>by
 refine⟨μ,g,Uw,_,R,S,m,λv H1 ⟨μ1,w,h1,e1,R1,r1,m1⟩=>?_⟩;split at m1
 ·rename_i b eb;refine⟨b,?_,q _ _ ⟨μ1,h1,e1,R1,m1⟩⟩;cases w with
  | non|bl c|int c=>rw[Bq]at r1;subst r1;cases eb;rfl
  | tup ws=>
   obtain⟨p,xs,ev,hs,rs⟩:=r1;subst ev;cases eb;exact .inr<|.inl ⟨xs,hs,by rw[rs.emp]⟩
  | lst ws|kls ws=>
   obtain⟨p,xs,ev,hs,rs⟩:=r1;subst ev;cases eb;exact .inl ⟨xs,hs.sq,by rw[rs.emp]⟩
  | loc n=>
   obtain⟨p,ev,hm⟩:=r1;subst ev;unfold abF at eb;dsimp only at eb;cases ec:h1.c n with
   | none=>rw[ec]at eb;cases eb
   | some cl=>
    rw[ec]at eb;cases cl with
    | lst ws=>
     cases eb;obtain⟨p',hm',xs,hx,rs⟩:=R1.cel n _ ec;cases by rw[hm]at hm';exact(IV hm').symm
     exact .inl ⟨xs,.of hx,by rw[rs.emp]⟩
    | _=>cases eb
  | _=>cases eb
 cases m1
abbrev MC:=List W->Gh->WK->Prop
def G8 (r:MC)(ma:MA):ME:=λU h Q=>ma U h λws h1=>r ws h1 Q
def afj (K:Bl)(r:List V->Hp->VK->Prop)(mr:MC):Prop:=∀{H:Hp}{μ:Mu}{h:Gh}{vs:List V}{ws:List W}{Qw:WK}{Q:VK},G5 K μ H h->aW K H μ ws vs->mr ws h Qw->(∀v H',DQ K H μ Qw v H'->Q v H')->r vs H Q
def fQ (X:Cx)(f:JI)(mr:MC):Prop:=∃r,gq X f r/\afj X.K r mr
theorem abp {K:Bl}{U:St}{H:Hp}{Q:VK}{r:List V->Hp->VK->Prop}{mc:MC}{ma:MA}(s:afj K r mc)(h:tD K (G8 mc ma) U H Q):tCB r (tDA K ma) U H Q:=by
 obtain⟨μ,g,Uw,Qw,R,S,m,q⟩:=h;exact⟨μ,g,Uw,_,R,S,m,λvs H1 ⟨μ1,ws,h1,e1,R1,r1,m1⟩=>s R1 r1 m1 λv H' z=>q _ _<|z.trans e1⟩
theorem ajn {x:Str}{p:Pos}{id:String}{mc:MC}(hc:fQ X (.builtin id) mc)(hg:Gl X x)(hm:X.mg x=Go)(hv:VF x=Dn (.builtin id))(ha:KR X (e::es) mr)(hn:x ≠ "__name__":=by decide)(hdb:(x==("__debug__" : Str))=false:=by decide)
  (he:Ca (e::es) X.env=(false,eval e X.env)::Ca es X.env:=by rfl) (hpl:(J1 pos (Ca es X.env)).any (·.1)=false:=by rfl):DE X (.Call (.Name x p) (e::es) [] pos) (G8 mc mr):=by
 obtain⟨r,c,s⟩:=hc;exact(aiE c hg hm hv ha hn hdb he hpl).of λ_ _ _ h=>abp s h
theorem ain {x:Str}{p:Pos}{T:String}{mc:MC}(hc:fQ X (.type T) mc)(hg:Gl X x)(hm:X.mg x=Go)(hv:VF x=Dn (.type T))(ha:KR X (e::es) mr)(hn:x ≠ "__name__":=by decide)(hdb:(x==("__debug__" : Str))=false:=by decide)
  (he:Ca (e::es) X.env=(false,eval e X.env)::Ca es X.env:=by rfl) (hpl:(J1 pos (Ca es X.env)).any (·.1)=false:=by rfl):DE X (.Call (.Name x p) (e::es) [] pos) (G8 mc mr):=by
 obtain⟨r,c,s⟩:=hc;exact(agY c hg hm hv ha hn hdb he hpl).of λ_ _ _ h=>abp s h
end
variable {mr:MA}{ma:ME}{ms:AP}
section
variable {X:Cx}{e a b c tg:Expr}{mb mc:ME}{pos:Pos}{es:List Expr}
def Mk (i:Nat):MG:=λw U h N=>N (U.set i (Dn w)) h
theorem ajK {i:Nat}(hg:PG X e (Jo i)):DG X e (Mk i):=hg.of λv U H N ⟨μ,h,Uw,w,Nw,R,S,r,m,k⟩=>k _ _ ⟨μ,Uw.set i _,h,.refl,R,S.set r i,m⟩
def Ik:QX:=λws U h N=>match ws with
 | []=>N U h
 | _=>False
def fY (g:MG)(r:QX):QX:=λws U h N=>match ws with
 | w::ws'=>g w U h λU1 h1=>r ws' U1 h1 N
 | []=>False
theorem jl:ac8 X [] Ik:=MK.of λvs U H N ⟨μ,h,Uw,ws,Nw,R,S,r,m,k⟩=>by
 cases ws with
 | nil=>rw[aW]at r;exact⟨r,k _ _ ⟨μ,Uw,h,.refl,R,S,m⟩⟩
 | cons w ws=>cases m
theorem bJ {g:MG}{u:QX}(h1:DG X e g)(h2:ac8 X es u)(hs:(Ny (e::es) X.env).map (·.2)=assign e X.env::(Ny es X.env).map (·.2):=by rfl):ac8 X (e::es) (fY g u):=(xG h1 h2 hs).of λvs U H N ⟨μ,h,Uw,ws,Nw,R,S,r,m,k⟩=>by
 cases ws with
 | nil=>cases m
 | cons w ws=>
  obtain⟨v,vr,ev,r1,r2⟩:=r;exact⟨v,vr,ev,μ,h,Uw,w,_,R,S,r1,m,λU1 H1 ⟨μ1,Uw1,h1,e1,R1,S1,m1⟩=>⟨μ1,h1,Uw1,ws,_,R1,S1,e1.s r2,m1,λU2 H2 z=>k _ _<|z.trans e1⟩⟩
def afc (n:Nat)(g:QX):MG:=λw U h N=>match w with
 | .tup ws=>Ir (JM ws.length n) (g ws U h N) False
 | _=>False
abbrev YQ:=W->W->W->Gh->(Gh->Prop)->Prop
def Gf (K:Bl)(t:XC)(ms:YQ):Prop:=∀{H:Hp}{μ:Mu}{h:Gh}{o i v:V}{wo wi w:W}{Nw:Gh->Prop}{N:Hp->Prop},G5 K μ H h->Bq K H μ wo o->Bq K H μ wi i->Bq K H μ w v->ms wo wi w h Nw ->
 (∀H',(∃μ' h',Hw K H μ H' μ'/\G5 K μ' H' h'/\Nw h')->N H')->t o i v H N
def W3 (mo mi:ME)(ms:YQ):MG:=λw U h N=>mo U h λo h1=>mi U h1 λi h2=>ms o i w h2 λh3=>N U h3
theorem zB {o i:Expr}{mo mi:ME}{t:XC}{ms:YQ}(ho:DE X o mo)(hi:DE X i mi)(hs:abW X t)(hm:Gf X.K t ms)
  (ha:∀v,assign (.Subscript o i pos) X.env v=(do
   let ov <-Rx [v] (eval o X.env)
   let iv <-Rx [v,ov] (eval i X.env)
   standAt pos
   Rx [v,ov,iv] (setItem ov iv v)
   release [v,ov,iv] []):=by intro _;rfl):DG X (.Subscript o i pos) (W3 mo mi ms):=
 (Zq ho hi hs ha).of λv U H N ⟨μ,h,Uw,w,Nw,R,S,r,m,k⟩=>⟨μ,h,Uw,_,R,S,m,λo H1 ⟨μ1,wo,h1,e1,R1,r1,m1⟩=>⟨μ1,h1,Uw,_,R1,S.ext e1,m1,λi H2 ⟨μ2,wi,h2,e2,R2,r2,m2⟩=>(hm R2 (e2.r _ _ r1) r2 (e2.r _ _ (e1.r _ _ r)) m2 λH3 ⟨μ3,h3,e3,R3,m3⟩=>(k _ _ ⟨μ3,Uw,h3,(e1.trans e2).trans e3,R3,S.ext ((e1.trans e2).trans e3),m3⟩))⟩⟩
def PN:YQ:=λo i w h N=>match o,i with
 | .loc n,.int k=>(match h.c n with
  | some (.lst ws)=>(match QS ws.length k with
   | some j=>N (h.set n (.lst (ws.set j w)))
   | none=>False)
  | _=>False)
 | _,_=>False
theorem G5.lstAt {K:Bl}{H:Hp}{h:Gh}{n:Nat}(R:G5 K μ H h)(e:h.c n=Dn (.lst ws)):∃p xs,μ.f n=Dn p/\H p=Dn (.lst xs)/\aW K H μ ws xs:=by
 obtain⟨p,e1,xs,e2,r⟩:=R.cel n _ e;grind
theorem Gu {K:Bl}:Gf K Z9 PN:=by
 intro H μ h o i v wo wi w Nw N R ro ri r m k;cases wo with
 | loc n=>
  cases wi with
  | int z=>
   obtain⟨p,eo,hp⟩:=ro;unfold PN at m;dsimp only at m;cases ec:h.c n with
   | none=>rw[ec]at m;cases m
   | some cl=>
    rw[ec]at m;cases cl with
    | lst ws=>
     dsimp only at m;obtain⟨p',xs,hp',hx,rs⟩:=R.lstAt ec;obtain rfl:=by rw[hp]at hp';exact(IV hp').symm
     cases ej:QS _ z with
     | none=>rw[ej]at m;exact m.elim
     | some j=>
      rw[ej]at m;refine⟨p',xs,z,j,eo,ri,hx,rs.len ▸ ej,k _ ⟨μ,_,(Ex.write R hp).ext,R.write hp trivial ?_,m⟩⟩;exact⟨_,bD,aW.set ((Ex.write R hp).ext.r _ _ r) j<|(Ex.write R hp).ext.s rs⟩
    | _=>cases m
  | _=>exact m.elim
 | _=>exact m.elim
variable {st:Stmt}{rest body:List Stmt}{m1 m2:MS}{t:MT}
def bV:MS:=λD U h=>D.nx U h
def bA (m u:MS):MS:=λD U h=>m {D with nx:=u D} U h
theorem aY:Ri X [] bV:=ait.of λD U H ⟨μ,h,Uw,Dw,R,S,m,k⟩=>k.nx _ _ ⟨μ,Uw,h,.refl,R,S,m⟩
theorem aD (h1:DS X st m1):Ri X [st] m1:=JF h1
theorem au (h1:DS X st m1)(h2:Ri X rest m2):Ri X (st::rest) (bA m1 m2):=(zbk h1 h2).of λD U H ⟨μ,h,Uw,Dw,R,S,m,k⟩=>by
 refine⟨μ,h,Uw,_,R,S,m,?_,k.rt,k.bk,k.ct⟩;intro U' H' ⟨μ1,Uw1,h1,e1,R1,S1,m1⟩;exact⟨μ1,h1,Uw1,Dw,R1,S1,m1,k.trans e1⟩
def kZ (m:ME):MS:=λD U h=>m U h λ_ h1=>D.nx U h1
theorem eV (he:DE X e ma)(hs:swapsWith e Go pos.line X.env=pure false:=by rfl):DS X (.Expr e pos) (kZ ma):=(akC he hs).of λD U H ⟨μ,h,Uw,Dw,R,S,m,k⟩=>
 ⟨μ,h,Uw,_,R,S,m,λv H1 ⟨μ1,w,h1,e1,R1,_,m1⟩=>k.nx _ _ ⟨μ1,Uw,h1,e1,R1,S.ext e1,m1⟩⟩
def bM (m:ME):MS:=λD U h=>m U h D.rt
theorem aM (he:DE X e ma):DS X (.Return (Dn e) pos) (bM ma):=(aax he).of λD U H ⟨μ,h,Uw,Dw,R,S,m,k⟩=>⟨μ,h,Uw,_,R,S,m,k.rt⟩
def fK (t:MT)(a b:MS):MS:=λD U h=>t U h λc h1=>br c (a D U h1) (b D U h1)
theorem cg {a b:List Stmt}(hc:DT X c t)(ha:Ri X a m1)(hb:Ri X b m2):DS X (.If c a b pos) (fK t m1 m2):=(aeW hc ha hb).of λD U H ⟨μ,h,Uw,Dw,R,S,m,k⟩=>by
 refine⟨μ,h,Uw,_,R,S,m,λb H1 ⟨μ1,h1,e1,R1,q⟩=>?_⟩;cases b with
 | true=>rw[if_pos rfl];exact⟨μ1,h1,Uw,Dw,R1,S.ext e1,q.1 rfl,k.trans e1⟩
 | false=>rw[if_neg U5];exact⟨μ1,h1,Uw,Dw,R1,S.ext e1,q.2 rfl,k.trans e1⟩
def p8 (x:Str)(E:CQ):MS:=λ_ _ h=>E ⟨x,[]⟩ h
theorem kJ {x:Str}:DS X st (p8 x EF):=ahz.of λ_ _ _ ⟨_,_,_,_,_,_,m,_⟩=>m.elim
def bQ (m:ME)(g:MG):MS:=λD U h=>m U h λw h1=>g w U h1 D.nx
theorem ZL {K:Bl}{U:St}{H:Hp}{D:Ends}{m:ME}{g:MG}(q:tDS K (bQ m g) D U H):aap (tD K m) (tDG K g) D U H:=by
 obtain⟨μ,h,Uw,Dw,R,S,m,k⟩:=q;exact⟨μ,h,Uw,_,R,S,m,λv H1 ⟨μ1,w,h1,e1,R1,r1,m1⟩=>⟨μ1,h1,Uw,w,_,R1,S.ext e1,r1,m1,λU' H' z=>k.nx _ _<|z.trans e1⟩⟩
theorem sy {g:MG}(he:DE X e ma)(hg:DG X tg g)(hs:swapsWithSole [tg] e pos.line X.env=pure false:=by rfl)(hw:swappedStores [tg] e X.env=pure Go:=by rfl)
  (h1:(Ny [tg] X.env).map (·.2)=[assign tg X.env]:=by rfl):DS X (.Assign [tg] e pos) (bQ ma g):=(abh he hg hs hw h1).of λ_ _ _ q=>ZL q
theorem Sq {K:Bl}{U:St}{H:Hp}{D:Ends}{m:ME}{t:TE}{i:Nat}(ht:∀U H Q,tD K m U H Q->t U H Q)(q:tDS K (bQ m (Mk i)) D U H):aap t (Jo i) D U H:=by
 obtain⟨μ,h,Uw,Dw,R,S,m,k⟩:=q;exact ht _ _ _ ⟨μ,h,Uw,_,R,S,m,λv H1 ⟨μ1,w,h1,e1,R1,r1,m1⟩=>k.nx _ _ ⟨μ1,Uw.set i _,h1,e1,R1,(S.ext e1).set r1 i,m1⟩⟩
theorem DX {i:Nat}{x:Str}{pos':Pos}(hN:X.N.Nodup)(hi:X.N[i]?=Dn x)(hx:Loc X.env.scope x)(he:DE X e ma)(hs:swapsWith e (Dn (.Name x pos')) pos.line X.env=pure false:=by rfl)
  (hf:X.fn x=true\/X.env.scope.names.lookup x=Dn .local:=by first|exact .inl rfl|exact .inr rfl|assumption) :
  DS X (.Assign [.Name x pos'] e pos) (bQ ma (Mk i)):=(acG hN hi hx he hs hf).of λ_ _ _ q=>Sq (λ_ _ _ z=>z) q
def agI (i j:Nat)(ta:MA):MS:=λD U h=>ta U h λws h1=>match ws with
 | [v,w]=>D.nx ((U.set i (Dn v)).set j (Dn w)) h1
 | _=>False
def FQ (t:MT)(b:MS):MS:=λD U h=>∃Wm:Nat->Sw->Gh->Prop,(∃m,Wm m U h)/\∀m U h,Wm m U h ->
 t U h λc h1=>br c (b {D with nx:=λU' h'=>∃m',m'<m/\Wm m' U' h',ct:=λU' h'=>∃m',m'<m/\Wm m' U' h',bk:=D.nx} U h1) (D.nx U h1)
theorem wB {body:List Stmt}{pos:Pos}(hp:ZJ (CJ X.prog X.w) X.A X.env X.xe)(hc:DT X c t)(hb:Ri X body m1):DS X (.While c body [] pos) (FQ t m1):=(aiw hp hc hb).of λD U H ⟨μ,h,Uw,Dw,R,S,m,k⟩=>by
 obtain⟨Wm,⟨m0,w0⟩,turn⟩:=m;refine⟨λn U' H'=>DN _ H μ (Wm n) U' H',⟨m0,μ,Uw,h,.refl,R,S,w0⟩,λn U1 H1 ⟨μ1,Uw1,h1,e1,R1,S1,w1⟩=>⟨μ1,h1,Uw1,_,R1,S1,turn n Uw1 h1 w1,λb H2 ⟨μ2,h2,e2,R2,q⟩=>?_⟩⟩;have e12:=e1.trans e2;cases b with
 | true=>
  refine⟨λU' H'=>∃m',m'<n/\DN _ H μ _ U' H',λ_ _ z=>z,μ2,h2,Uw1,_,R2,S1.ext e2,q.1 rfl,?_⟩;have again:∀(U':St) (H':Hp),DN _ H2 μ2 (λU' h'=>∃m',m'<n/\Wm m' U' h') U' H'->∃m',m'<n/\DN _ H μ _ U' H':=λU' H' ⟨μ3,Uw3,h3,e3,R3,S3,m',hm,w3⟩=>
   ⟨m',hm,μ3,Uw3,h3,e12.trans e3,R3,S3,w3⟩
  exact⟨again,λv H' z=>k.rt _ _<|z.trans e12,λU' H' z=>k.nx _ _<|z.trans e12,again⟩
 | false=>
  exact k.nx _ _ ⟨μ2,Uw1,h2,e12,R2,S1.ext e2,q.2 rfl⟩
structure Src where
 ws:List W
 cell:Option (Nat×List W)
def Src.chk (s:Src)(h:Gh):Prop:=match s.cell with
 | none=>True
 | some n=>h.c n.1=Dn (.lst n.2)
abbrev MI:=Sw->Gh->(Src->Gh->Prop)->Prop
def Zk (K:Bl)(J:It)(src:Src)(H:Hp)(μ:Mu):Prop:=∀{H2:Hp}{μ2:Mu}{h2:Gh}{i:Nat},Hw K H μ H2 μ2->G5 K μ2 H2 h2->src.chk h2 ->
 (∀w,src.ws[i]?=Dn w->J.go i H2/\∀x H3,J.yld i H2 x H3->∃μ3,Hw K H2 μ2 H3 μ3/\G5 K μ3 H3 h2/\Bq K H3 μ3 w x)/\(src.ws.length<=i->J.stop i H2)
inductive DI (K:Bl) (H:Hp) (μ:Mu) (Rw:Src->Gh->Prop) (J:It) (H':Hp):Prop where
 | mk (μ':Mu) (src:Src) (h':Gh) (e:Hw K H μ H' μ') (R:G5 K μ' H' h') (o:Zk K J src H' μ') (q:Rw src h'):DI K H μ Rw J H'
inductive tDI (K:Bl) (mi:MI) (U:St) (H:Hp) (R:It->Hp->Prop):Prop where
 | mk (μ:Mu) (h:Gh) (Uw:Sw) (Rw:Src->Gh->Prop) (q:G5 K μ H h) (S:Slots K H μ Uw U) (x:mi Uw h Rw) (k:∀J H',DI K H μ Rw J H'->R J H'):tDI K mi U H R
abbrev Rj (X:Cx)(tg iter:Expr)(mi:MI):Prop:=PI X tg iter (tDI X.K mi)
theorem PI.of {iter:Expr}{t t':TI}(h:PI X tg iter t)(k:∀U H R,t' U H R->t U H R):PI X tg iter t':=λamD s U H R I q=>h amD s U H R I (k U H R q)
def eU (h:Gh):W->Option (List W)
 | .lst ws=>Dn ws
 | .kls ws=>Dn ws
 | .loc n=>(match h.c n with
  | some (.lst ws)=>Dn ws
  | _=>Go)
 | _=>Go
def view (h:Gh):W->Option (List W)
 | .tup ws=>Dn ws
 | .lst ws=>Dn ws
 | .kls ws=>Dn ws
 | .loc n=>eU h (.loc n)
 | _=>Go
def J7 (h:Gh):W->Option Src
 | .tup ws=>Dn ⟨ws,Go⟩
 | .lst ws=>Dn ⟨ws,Go⟩
 | .kls ws=>Dn ⟨ws,Go⟩
 | .loc n=>(match h.c n with
  | some (.lst ws)=>Dn ⟨ws,Dn (n,ws)⟩
  | _=>Go)
 | _=>Go
theorem aia {K:Bl}{H:Hp}{p:Addr}(r:Bq K H μ (.lst ws) (.ref p)):Zk K (Itl K p) ⟨ws,Go⟩ H μ:=by
 intro H2 μ2 h2 i e R2 _;obtain⟨q,xs,eq,hf,rs⟩:=(e.r _ _ r)
 cases eq;refine⟨λw ew=>?_,λhl=>⟨xs,hf.sq,rs.len ▸ hl⟩⟩;obtain⟨v,ev,rv⟩:=rs.get ew;refine⟨⟨xs,v,hf.sq,ev⟩,λx H3 ⟨e3,y⟩=>?_⟩;subst e3;have:=y xs hf.sq
 rw[ev]at this;cases this;exact⟨μ2,.refl,R2,rv⟩
theorem zbZ {K:Bl}{H:Hp}{p:Addr}(r:Bq K H μ (.kls ws) (.ref p)):Zk K (Itl K p) ⟨ws,Go⟩ H μ:=by
 intro H2 μ2 h2 i e R2 _;obtain⟨q,xs,eq,hf,rs⟩:=(e.r _ _ r)
 cases eq;refine⟨λw ew=>?_,λhl=>⟨xs,hf.sq,rs.len ▸ hl⟩⟩;obtain⟨v,ev,rv⟩:=rs.get ew;refine⟨⟨xs,v,hf.sq,ev⟩,λx H3 ⟨e3,y⟩=>?_⟩;subst e3;have:=y xs hf.sq
 rw[ev]at this;cases this;exact⟨μ2,.refl,R2,rv⟩
theorem ajA {K:Bl}{H:Hp}{p:Addr}{n:Nat}(r:Bq K H μ (.loc n) (.ref p)):Zk K (Itl K p) ⟨ws,Dn (n,ws)⟩ H μ:=by
 intro H2 μ2 h2 i e R2 ck;obtain⟨q,eq,hm⟩:=(e.r _ _ r)
 cases eq;obtain⟨p',xs,hm',hx,rs⟩:=R2.lstAt ck;obtain rfl:=by rw[hm]at hm';exact(IV hm').symm
 refine⟨λw ew=>?_,λhl=>⟨xs,.of hx,rs.len ▸ hl⟩⟩;obtain⟨v,ev,rv⟩:=rs.get ew;refine⟨⟨xs,v,.of hx,ev⟩,λx H3 ⟨e3,y⟩=>?_⟩;subst e3;have:=y xs (.of hx)
 rw[ev]at this;cases this;exact⟨μ2,.refl,R2,rv⟩
theorem akv {K:Bl}{H:Hp}{p:Addr}(r:Bq K H μ (.tup ws) (.ref p)):Zk K (Itt K p) ⟨ws,Go⟩ H μ:=by
 intro H2 μ2 h2 i e R2 _;obtain⟨q,xs,eq,hf,rs⟩:=(e.r _ _ r)
 cases eq;refine⟨λw ew=>?_,λhl=>⟨xs,hf,rs.len ▸ hl⟩⟩;obtain⟨v,ev,rv⟩:=rs.get ew;refine⟨⟨xs,v,hf,ev⟩,λx H3 ⟨e3,y⟩=>?_⟩;subst e3;have:=y xs hf
 rw[ev]at this;cases this;exact⟨μ2,.refl,R2,rv⟩
def afW (K:Bl)(tl:TE):TI:=λU H R=>tl U H λx H1=>(∃a,x=.ref a/\(∃xs,JH K H1 a xs)/\R (Itl K a) H1)\/(∃a,x=.ref a/\(∃xs,Hi K H1 a xs)/\R (Itt K a) H1)
theorem ab0 {l:Expr}{tl:TE}(hl:PE X l tl):PI X tg l (afW X.K tl):=by
 intro amD s U H R I h;refine GJ (hl amD s U H _ I h) λv s1 ⟨x,H1,I1,r1,q1⟩=>?_;rcases q1 with⟨a,e,⟨xs,hq⟩,q⟩|⟨a,e,⟨xs,hq⟩,q⟩
 subst e;cases r1;obtain⟨its,rv,p,hz⟩:=I1.list hq;refine XS p.isList ⟨s1.heap.objs.size,[s1.heap.objs.size],_,_,H1,rfl,I1.kept λb o e=>GP _ e,zba a _,⟨_,JB _ rfl,rfl,rfl⟩,λb hb=>?_,q⟩;obtain rfl:=by simpa using hb
 exact I1.fpOk (GZ _)<|I1.hok.fresh<|GZ _
 subst e;cases r1;obtain⟨its,rv,p,hz⟩:=I1.tuple hq;refine wpAny_pyIter_tuple p ⟨s1.heap.objs.size,[s1.heap.objs.size],_,_,H1,rfl,I1.kept λb o e=>GP _ e,zay a _,⟨_,JB _ rfl,rfl,rfl⟩,λb hb=>?_,q⟩;obtain rfl:=by simpa using hb
 exact I1.fpOk (GZ _)<|I1.hok.fresh<|GZ _
def Hs (m:ME):MI:=λU h R=>m U h λw h1=>match J7 h1 w with
 | some s=>R s h1
 | none=>False
theorem bU {l:Expr}(hl:DE X l ma):Rj X tg l (Hs ma):=PI.of (ab0 hl) λU H Q ⟨μ,h,Uw,Rw,R,S,m,k⟩=>by
 refine⟨μ,h,Uw,_,R,S,m,λv H1 ⟨μ1,w,h1,e1,R1,r1,m1⟩=>?_⟩;cases w with
 | tup ws=>
  have r1':=r1;obtain⟨p,xs,ev,hs,_⟩:=r1;subst ev;exact .inr ⟨p,rfl,⟨xs,hs⟩,k _ _ ⟨μ1,⟨ws,Go⟩,h1,e1,R1,akv r1',m1⟩⟩
 | lst ws=>
  have r1':=r1;obtain⟨p,xs,ev,hs,_⟩:=r1;subst ev;exact .inl ⟨p,rfl,⟨xs,hs.sq⟩,k _ _ ⟨μ1,⟨ws,Go⟩,h1,e1,R1,aia r1',m1⟩⟩
 | kls ws=>
  have r1':=r1;obtain⟨p,xs,ev,hs,_⟩:=r1;subst ev;exact .inl ⟨p,rfl,⟨xs,hs.sq⟩,k _ _ ⟨μ1,⟨ws,Go⟩,h1,e1,R1,zbZ r1',m1⟩⟩
 | loc n=>
  have r1':=r1;obtain⟨p,ev,hm⟩:=r1;subst ev;unfold J7 at m1;dsimp only at m1;cases ec:h1.c n with
  | none=>rw[ec]at m1;cases m1
  | some cl=>
   rw[ec]at m1;cases cl with
   | lst ws=>
    obtain⟨p',xs,hm',hx,rs⟩:=R1.lstAt ec;obtain rfl:=by rw[hm]at hm';exact(IV hm').symm
    exact .inl ⟨p',rfl,⟨xs,.of hx⟩,k _ _ ⟨μ1,⟨ws,Dn _⟩,h1,e1,R1,ajA r1',m1⟩⟩
   | _=>cases m1
 | _=>exact m1.elim
def Ax (lo:Int)(n:Nat):List W:=(Ji n).map λ(k:Nat)=>.int (lo+(k:Int))
theorem T4 {K:Bl}{H:Hp}{lo:Int}{n:Nat}:Zk K (Itr lo n) ⟨Ax lo n,Go⟩ H μ:=by
 intro H2 μ2 h2 i e R2 _;refine⟨λw ew=>?_,λhl=>?_⟩;have hi:=by
  have:=(O4.mp ew).1
  simpa[Ax]using this
 have ew':=by
  unfold Ax at ew;rw[HI,Xq hi]at ew;exact(IV ew).symm
 subst ew';refine⟨hi,λx H3 ⟨e3,y⟩=>?_⟩;subst e3;exact⟨μ2,.refl,R2,by rwa[Bq]⟩;have:=by simpa[Ax]using hl
 exact this
def yI (j:Int)(P:Prop):Prop:=Ir (decide (-1000<=j)&&decide (j<=1000)) P ((-(2^62)<=j/\j<2^62)/\P)
theorem yI.ok {j:Int}{P:Prop}(h:yI j P):(-(2^62)<=j/\j<2^62)/\P:=by
 unfold yI at h;cases e:(decide (-1000<=j)&&decide (j<=1000))with
 | true=>
  rw[e]at h;rw[Ol,decide_eq_true_iff,decide_eq_true_iff]at e;exact⟨⟨by lia,by lia⟩,h⟩
 | false=>rw[e]at h;exact h
theorem yI.mk {j:Int}{P:Prop}(h1:-(2^62)<=j)(h2:j<2^62)(h:P):yI j P:=by
 unfold yI;cases e:(decide (-1000<=j)&&decide (j<=1000))with
 | true=>exact h
 | false=>exact⟨⟨h1,h2⟩,h⟩
def iZ (ma:MA):MI:=λU h R=>ma U h λws h1=>match ws with
 | [.int j]=>yI j (R ⟨Ax 0 j.toNat,Go⟩ h1)
 | _=>False
def Mv (ma:MA):MI:=λU h R=>ma U h λws h1=>match ws with
 | [.int i,.int j]=>yI i (yI j (R ⟨Ax i (j-i).toNat,Go⟩ h1))
 | _=>False
theorem agW {a:Expr}{p pos:Pos}(hg:Gl X "range")(hm:X.mg "range" = Go)(ha:KR X [a] mr)(hs:Ca [a] X.env=[(false,eval a X.env)]:=by rfl):Rj X tg (.Call (.Name "range" p) [a] [] pos) (iZ mr):=
 PI.of (zbm hg hm ha hs) λU H Q ⟨μ,h,Uw,Rw,R,S,m,k⟩=>by
  refine⟨μ,h,Uw,_,R,S,m,λvs H1 ⟨μ1,ws,h1,e1,R1,r1,m1⟩=>?_⟩;split at m1
  rename_i j;obtain⟨v,vr,ev,ra,r1⟩:=r1;subst ev r1 ra;exact⟨j,rfl,m1.ok.1.1,m1.ok.1.2,k _ _ ⟨μ1,_,h1,e1,R1,T4,m1.ok.2⟩⟩;cases m1
theorem zaS {a b:Expr}{p pos:Pos}(hg:Gl X "range")(hm:X.mg "range" = Go)(ha:KR X [a,b] mr)(hs:Ca [a,b] X.env=[(false,eval a X.env),(false,eval b X.env)]:=by rfl)(hs2:Ca [b] X.env=[(false,eval b X.env)]:=by rfl):
  Rj X tg (.Call (.Name "range" p) [a,b] [] pos) (Mv mr):=
 PI.of (ahD hg hm ha hs hs2) λU H Q ⟨μ,h,Uw,Rw,R,S,m,k⟩=>by
  refine⟨μ,h,Uw,_,R,S,m,λvs H1 ⟨μ1,ws,h1,e1,R1,r1,m1⟩=>?_⟩;split at m1
  rename_i i j;obtain⟨v,vr,ev,ra,r1⟩:=r1;obtain⟨v',vr',ev',rb,r1⟩:=r1;subst ev ev' r1 ra rb;exact⟨i,j,rfl,⟨m1.ok.1.1,m1.ok.1.2,m1.ok.2.ok.1.1,m1.ok.2.ok.1.2⟩,k _ _ ⟨μ1,_,h1,e1,R1,T4,m1.ok.2.ok.2⟩⟩;cases m1
def Src.go (s:Src)(h:Gh)(P:Prop):Prop:=match s.cell with
 | none=>P
 | some n=>h.c n.1=Dn (.lst n.2)/\P
theorem Src.go_ok {s:Src}{h:Gh}{P:Prop}(x:s.go h P):s.chk h/\P:=by
 unfold Src.go at x;unfold Src.chk;grind
def g8 (s:Src)(g:MG)(b:MS)(D:bR):List W->Sw->Gh->Prop
 | [],U,h=>s.go h (D.nx U h)
 | w::r,U,h=>s.go h (g w U h λU1 h1=>b {D with nx:=g8 s g b D r,ct:=g8 s g b D r,bk:=D.nx} U1 h1)
def qP (mi:MI)(g:MG)(b:MS):MS:=λD U h=>mi U h λs h1=>g8 s g b D s.ws U h1
theorem gk {iter:Expr}{body:List Stmt}{mi:MI}{g:MG}{mb0:MS}{pos:Pos}(hp:ZJ (CJ X.prog X.w) X.A X.env X.xe)(hc:X.calm=true)(hi:Rj X tg iter mi)(hg:DG X tg g)(hb:Ri X body mb0)
  (hs:∀x,WM iter X.env x=pure x:=by intro _;rfl):DS X (.For tg iter body [] pos) (qP mi g mb0):=(abx hp hc hi hg hb hs).of λD U H ⟨μ,h,Uw,Dw,R,S,m,k⟩=>by
 refine⟨μ,h,Uw,_,R,S,m,λJ H1 ⟨μ1,src,h1,e1,R1,ok,m1⟩=>⟨λi n U' H'=>n=src.ws.length-i/\i<=src.ws.length/\DN _ H1 μ1 (g8 src g mb0 Dw<|src.ws.drop i) U' H',⟨src.ws.length,by simp,Oj _,μ1,Uw,h1,.refl,R1,S.ext e1,m1⟩,?_⟩⟩;rintro i n U2 H2 ⟨hn,hle,μ2,Uw2,h2,e2,R2,S2,m2⟩;by_cases hlt:i<src.ws.length
 rw[XD hlt]at m2;obtain⟨ck,m2⟩:=Src.go_ok m2;obtain⟨hgo,hy⟩:=(ok e2 R2 ck).1 src.ws[i] (JD hlt);refine .inr ⟨hgo,λU' H'=>DN _ H2 μ2 _ U' H',λU' H' z=>⟨src.ws.length-(i+1),by lia,rfl,hlt,z.trans e2⟩,λx H3 y=>?_⟩;obtain⟨μ3,e3,R3,rx⟩:=hy x H3 y;refine⟨μ3,h2,Uw2,src.ws[i],_,R3,S2.ext e3,rx,m2,λU4 H4 ⟨μ4,Uw4,h4,e4,R4,S4,m4⟩=>?_⟩;have e24:=e3.trans e4;have e14:=(e1.trans e2).trans e24;exact⟨μ4,h4,Uw4,_,R4,S4,m4,λU' H' z=>z.trans e24,λv H' z=>k.rt _ _<|z.trans e14,λU' H' z=>k.nx _ _<|z.trans e14,λU' H' z=>z.trans e24⟩;have ei:i=src.ws.length:=by lia
 subst ei;rw[List.drop_length]at m2;obtain⟨ck,m2⟩:=Src.go_ok m2;exact .inl ⟨(ok e2 R2 ck).2 (GZ _),k.nx _ _ ⟨μ2,Uw2,h2,e1.trans e2,R2,S2,m2⟩⟩
def mU (ix:List Nat)(U:Sw):Sw:=ix.map λi=>(U[i]?).getD Go
theorem Slots.blk {K:Bl}{H:Hp}{Uw:Sw}{U:St}(S:Slots K H μ Uw U):∀{ws:List W}{vs:List V},aW K H μ ws vs->Slots K H μ (ws.map Dn++mU ix Uw) (vs.map Dn++Hf ix U):=by
 intro ws vs r;have hl:=r.len;refine⟨by simp[mU,Hf,hl],λi u q=>?_⟩;by_cases hi:i<ws.length
 rw[Vz (by simpa using hi),HI]at q;have q':ws[i]?=Dn u:=by
  grind
 obtain⟨v,hv,rv⟩:=r.get q';grind
 ·rw[Vd (by simpa using hi),CV]at q;rw[Vd (by rw[CV];lia),CV,<-hl];generalize i-ws.length=i at q|-
  unfold mU at q;unfold Hf;rw[HI]at q|-
  cases e:ix[i]? with
  | none=>rw[e]at q;cases q
  | some j=>
   rw[e]at q;cases e2:Uw[j]? with
   | none=>simp[e2]at q
   | some o=>
    obtain rfl:=by simpa[e2]using q
    obtain⟨v',h1,h2⟩:=S.get j u e2
    simp_all
def jd:MT:=λ_ h Q=>Q true h
def Ar (s:Src)(own:W->Option (List W))(ix:List Nat)(tt:MT)(te:ME)(U:Sw)(Q:WK):List W->List W->Gh->Prop
 | [],acc,h=>s.go h (Q (.lst acc) h)
 | w::r,acc,h=>s.go h (match own w with
  | some vs=>tt (vs.map Dn++mU ix U) h λc h1=>Ir c (te (vs.map Dn++mU ix U) h1 λv h2=>Ar s own ix tt te U Q r (acc++[v]) h2) (Ar s own ix tt te U Q r acc h1)
  | none=>False)
def HJ (own:W->Option (List W))(ix:List Nat)(mi:MI)(tt:MT)(te:ME):ME:=λU h Q=>mi U h λs h1=>gn s.ws.length (Ar s own ix tt te U Q s.ws [] h1)
def MN (K:Bl)(n:Nat)(own:V->Hp->List V->Prop)(ow:W->Option (List W)):Prop:=∀{H:Hp}{μ:Mu}{w:W}{v:V}{ws:List W},Bq K H μ w v->ow w=Dn ws->∃vs,own v H vs/\vs.length=n/\aW K H μ ws vs
def JR (w:W):Option (List W):=Dn [w]
def Q6 (n:Nat)(w:W):Option (List W):=match w with
 | .tup ws=>(match JM ws.length n with
  | true=>Dn ws
  | false=>Go)
 | _=>Go
def ov1:V->Hp->List V->Prop:=λv _ vs=>vs=[v]
def ovT (K:Bl):V->Hp->List V->Prop:=λv H vs=>∃a,v=.ref a/\Hi K H a vs
theorem Py {K:Bl}:MN K 1 ov1 JR:=by
 intro H μ w v ws r e;cases e;exact⟨[v],rfl,rfl,.one r⟩
theorem Ag {K:Bl}{n:Nat}:MN K n (ovT K) (Q6 n):=by
 intro H μ w v ws r e;cases w with
 | tup us=>
  unfold Q6 at e;dsimp only at e;cases en:JM _ n with
  | false=>rw[en]at e;cases e
  | true=>
   rw[en]at e;cases e;obtain⟨p,xs,ev,hs,rs⟩:=r;exact⟨xs,⟨p,ev,hs⟩,rs.len ▸ VJ en,rs⟩
 | _=>cases e
abbrev aag (X:Cx)(ifs:List Expr)(m:MT):Prop:=Ze X ifs (tDT X.K m)
theorem gJ:aag X [] jd:=λamD s U H Q I ⟨μ,h,Uw,Qw,R,S,m,k⟩=>akD amD s U H Q I (k _ _ ⟨μ,h,.refl,R,m⟩)
theorem oX (h:DT X c t):aag X [c] t:=akq h
theorem Zw {K:Bl}{U:St}{H:Hp}{Q:VK}{n:Nat}{ow:W->Option (List W)}{mi:MI}{tt:MT}{te:ME}(oo:MN K n own ow)(q:tD K (HJ ow ix mi tt te) U H Q):tLC n own ix (tDI K mi) (tDT K tt) (tD K te) U H Q:=by
 obtain⟨μ,h,Uw,Qw,R,S,m,k⟩:=q;refine⟨μ,h,Uw,_,R,S,m,λJ H1 ⟨μ1,src,h1,e1,R1,ok,hz0⟩=>?_⟩;obtain⟨hz,m1⟩:=hz0.ok;intro D hD;have nD:=R1.nohid hD;refine⟨λi n ys H'=>n=src.ws.length-i/\i<=src.ws.length/\ys.length<=i/\H' D=Dn (.lst ys)/\∃μ' acc h',Hw K H1 μ1 H' μ'/\G5 K μ' H' h'/\μ'.hid D/\aW K H' μ' acc ys/\Ar src ow ix tt te Uw Qw (src.ws.drop i) acc h',
  ⟨src.ws.length,by simp,Oj _,GZ _,bD,μ1.hide D,[],h1,(Hw.hide hD),R1.hide hD,.inl rfl,.nil,m1⟩,?_⟩
 rintro i n' ys H2 ⟨hn,hle,hys,hH2,μ2,acc,h2,e2,R2,hid2,ra,m2⟩ _;by_cases hlt:i<src.ws.length
 ·rw[XD hlt]at m2;obtain⟨ck,m2⟩:=Src.go_ok m2;obtain⟨hgo,hy⟩:=(ok e2 R2 ck).1 src.ws[i] (JD hlt);refine .inr ⟨hgo,by lia,λx H3 y=>?_⟩;obtain⟨μ3,e3,R3,rx⟩:=hy x H3 y;cases eo:ow src.ws[i]with
  | none=>rw[eo]at m2;exact m2.elim
  | some us=>
   rw[eo]at m2;obtain⟨vs,hov,hvl,rvs⟩:=oo rx eo;have S3:=(S.ext (e1.trans (e2.trans e3))).blk (ix:=ix) rvs;refine⟨vs,hov,hvl,μ3,h2,_,_,R3,S3,m2,λb H4 ⟨μ4,h4,e4,R4,m4⟩=>?_⟩;have e24:=e3.trans e4;obtain⟨hid4,hH4⟩:=e24.o D _ hid2 hH2;cases b with
   | false=>
    exact⟨hH4,src.ws.length-(i+1),by lia,rfl,hlt,by lia,hH4,μ4,acc,h4,e2.trans e24,R4,hid4,e24.s ra,m4⟩
   | true=>
    refine⟨μ4,h4,_,_,R4,S3.ext e4,m4,λv H5 ⟨μ5,w5,h5,e5,R5,r5,m5⟩=>?_⟩;have e25:=e24.trans e5;obtain⟨hid5,hH5⟩:=e25.o D _ hid2 hH2;exact⟨hH5,src.ws.length-(i+1),by lia,rfl,hlt,by simp;lia,bD,μ5,acc++[w5],h5,(e2.trans e25).x nD (Zm.grow R5 hid5),R5.grow hid5,hid5,(aW.ex (Ex0.grow R5 hid5)<|aW.append (e25.s ra)<|aW.one r5),m5⟩
 have ei:i=src.ws.length:=by lia
 subst ei;rw[List.drop_length]at m2;obtain⟨ck,m2⟩:=Src.go_ok m2;exact .inl ⟨(ok e2 R2 ck).2 (GZ _),k _ _ ⟨μ2.unhide D,.lst acc,h2,e1.trans<|e2.x nD .unhide,R2.unhide,Bq.built R2 hid2 hH2 ra,m2⟩⟩
variable {scope:Scope}{x:Str}{xs:List Str}{iter:Expr}{px:Pos}{mi:MI}{tt:MT}{te:ME}
theorem Pn (B:jM X scope [x] ix)(C:Addr)(s:kI)(H:Hp)(fp:List Addr):PG (blk X scope (jZ X [x] ix) C s H fp) (.Name x px) (YG 1 ov1):=by
 obtain⟨o1,o2⟩:=M4 B (y:=x) (by simp);intro amD s' U H' v u Q I r ⟨vs,hv,hl,q⟩;cases hv;refine xO (i:=0) B.nd rfl o1 o2 amD s' U H' v u Q I r ?_;have amE:U.length=(jZ X [x] ix).length:=I.len;cases U with
 | nil=>simp at amE
 | cons o U=>exact q
theorem zx {py pt:Pos}{kt:Nat}(hc:X.calm=true)(B:jM X scope [x,y] ix)(C:Addr)(s:kI)(H:Hp)(fp:List Addr)
  (h1:∀env,(Ny [.Name x px,.Name y py] env).map (·.2)=assign (.Name x px) env::(Ny [.Name y py] env).map (·.2):=by intro _;rfl)
  (h2:∀env,(Ny [.Name y py] env).map (·.2)=assign (.Name y py) env::(Ny [] env).map (·.2):=by intro _;rfl)
  (h3:∀env,(Ny [.Name x px,.Name y py] env).length=2:=by intro _;rfl) (h4:∀env,(Ny [.Name x px,.Name y py] env).findIdx? (·.1)=Go:=by intro _;rfl) :
  PG (blk X scope (jZ X [x,y] ix) C s H fp) (.Tuple [.Name x px,.Name y py] kt pt) (YG 2 (ovT X.K)):=by
 obtain⟨o1,u1⟩:=M4 B (y:=x) (by simp);obtain⟨o2,u2⟩:=M4 B (y:=y) (by simp);intro amD s' U H' v u Q I r ⟨vs,⟨a,ea,ha⟩,hl,q⟩;refine ab3 (X:=blk X scope _ C s H fp) hc (xG (xO (i:=0) B.nd rfl o1 u1) (xG (xO (i:=1) B.nd rfl o2 u2) MK<|h2 _)<|h1 _) (h3 _) (h4 _) amD s' U H' v u Q I r ⟨a,vs,ea,ha,hl,?_⟩;match vs,hl,q with
 | [v1,v2],_,q=>
  match U,I.len,q with
  | _::_::U,_,q=>exact⟨v1,[v2],rfl,v2,[],rfl,rfl,q⟩
theorem R0 {ow:W->Option (List W)}(ix:List Nat)(hc:X.calm=true)(B:jM X scope xs ix)(oo:MN X.K xs.length own ow)(hg:∀C s H fp,PG (blk X scope (jZ X xs ix) C s H fp) tg (YG xs.length own))(hi:Rj X tg iter mi)
  (ht:∀C s H fp,aag (blk X scope (jZ X xs ix) C s H fp) ifs tt) (he:∀C s H fp,DE (blk X scope (jZ X xs ix) C s H fp) elt te)
  (hs:∀v,WM iter X.env v=pure v:=by intro _;rfl):DE X (.ListComp elt [⟨tg,iter,ifs,0⟩] scope pos) (HJ ow ix mi tt te):=(ad0 ix hc B hg hi ht he hs).of λ_ _ _ q=>Zw oo q
theorem XJ {ow:W->Option (List W)}(ix:List Nat){i:Nat}{py spos:Pos}(hN:X.N.Nodup)(hi':X.N[i]?=Dn y)(hy:Loc X.env.scope y)(hc:X.calm=true)(B:jM X scope xs ix)(oo:MN X.K xs.length own ow)
  (hg:∀C s H fp,PG (blk X scope (jZ X xs ix) C s H fp) tg (YG xs.length own)) (hi:Rj X tg iter mi)
  (ht:∀C s H fp,aag (blk X scope (jZ X xs ix) C s H fp) ifs tt) (he:∀C s H fp,DE (blk X scope (jZ X xs ix) C s H fp) elt te)
  (hsw:swapsWith (.ListComp elt [⟨tg,iter,ifs,0⟩] scope pos) (Dn (.Name y py)) spos.line X.env=pure true:=by rfl)
  (hf:X.fn y=true\/X.env.scope.names.lookup y=Dn .local:=by first|exact .inl rfl|exact .inr rfl|assumption)
  (hs:∀v,WM iter X.env v=pure v:=by intro _;rfl):DS X (.Assign [.Name y py] (.ListComp elt [⟨tg,iter,ifs,0⟩] scope pos) spos) (bQ (HJ ow ix mi tt te) (Mk i)):=
 (adu ix hN hi' hy hc B hg hi ht he hsw hf hs).of λ_ _ _ q=>Sq (λ_ _ _ z=>Zw oo z) q
theorem aeY {κ:Type}{K:Bl}{H0 H:Hp}{μ0 μ:Mu}{k:Nat}(hd:∀n p,μ0.f n=Dn p->n<k):∀{fs:List (κ×W)}{f0 fv:List (κ×V)},lK K H0 μ0 fs f0->lK K H μ fs fv->lK K H (μ.cut k) fs fv
 | [],_,_,_,.nil=>.nil
 | _::_,_,_,.cons a b,.cons c d=>.cons ⟨c.1,Bq.cut c.2 (Bq.lo hd a.2)⟩ (aeY hd b d)
def mG (pure:Bool)(h:Gh)(w:W)(h':Gh)(Q:WK):Prop:=match pure with
 | false=>Q w h'
 | true=>(∀n c,n<h.nx->h.c n=Dn c->h'.c n=Dn c)/\((Lo h.nx w/\Q w h)\/∃n ws,w=.loc n/\h.nx<=n/\h'.c n=Dn (.lst ws)/\O6 h.nx ws/\Q (.lst ws) h)
def GF (n N:Nat)(pure:Bool)(body:CQ->MS):AP:=λws h Q E=>Ir (JM ws.length n)
 (body E {nx:=λ_ h'=>mG pure h .non h' Q,rt:=λw h'=>mG pure h w h' Q} (ws.map Dn++Iw (N-ws.length) Go) h) False
theorem S5 {n N:Nat}{pure:Bool}{body:CQ->MS}{h:Gh}{Q:WK}{E:CQ}(x:GF n N pure body ws h Q E):ws.length=n /\
  body E {nx:=λ_ h'=>mG pure h .non h' Q,rt:=λw h'=>mG pure h w h' Q} (ws.map Dn++Iw (N-ws.length) Go) h:=by
 unfold GF at x;cases e:JM _ n with
 | true=>rw[e]at x;exact⟨VJ e,x⟩
 | false=>rw[e]at x;exact x.elim
theorem G5.cut {K:Bl}{H H':Hp}{μ μ':Mu}{h h':Gh}(R:G5 K μ H h)(R':G5 K μ' H' h')(e:Hw K H μ H' μ')(hc:∀n c,h.c n=Dn c->h'.c n=Dn c):G5 K (μ'.cut h.nx) H' h where
 inj:=λm n p a b=>R'.inj m n p (Mu.cut_some a).2 (Mu.cut_some b).2
 dom:=λn p a=>(Mu.cut_some a).1
 trk:=λn p a=>R'.trk n p (Mu.cut_some a).2
 cel:=λn c a=>by
  obtain⟨p0,m0,x0⟩:=R.cel n c a;obtain⟨p,m,x⟩:=R'.cel n c (hc n c a);refine⟨p,by show(if n<h.nx then μ'.f n else Go)=Dn p;rw[if_pos<|R.dom n p0 m0];exact m,?_⟩;cases c with
  | lst ws=>
   obtain⟨xs0,_,r0⟩:=x0;obtain⟨xs,hx,r⟩:=x;exact⟨xs,hx,aW.cut r<|aW.lo R.dom r0⟩
  | obj C fs=>
   obtain⟨dx0,f0,_,r0⟩:=x0;obtain⟨dx,fv,hx,r⟩:=x;exact⟨dx,fv,hx,aeY R.dom r0 r⟩
  | dct kvs=>
   obtain⟨f0,_,r0⟩:=x0;obtain⟨fv,hx,r⟩:=x;exact⟨fv,hx,aeY R.dom r0 r⟩
  | dtt kvs=>
   obtain⟨_,_,_,_,_,d0,f0⟩:=x0;obtain⟨xs,vs,a,b,c,d,f⟩:=x;exact⟨xs,vs,a,b,c,aW.cut d<|aW.lo R.dom d0,aW.cut f<|aW.lo R.dom f0⟩
 hd:=λp z=>⟨(R'.hd p z).1,λn a=>(R'.hd p z).2 n (Mu.cut_some a).2⟩
theorem Hw.cut {K:Bl}{H H':Hp}{μ μ':Mu}{h:Gh}(R:G5 K μ H h)(e:Hw K H μ H' μ'):Hw K H μ H' (μ'.cut h.nx):=
 ⟨λw v r=>Bq.cut (e.r w v r) (Bq.lo R.dom r),λp u z a=>e.o p u z a⟩
theorem KY {K:Bl}{H H':Hp}{h h':Gh}{w:W}{v:V}{Q:WK}{pure:Bool}(R:G5 K μ H h)(e:Hw K H μ H' μ')(R':G5 K μ' H' h')(r:Bq K H' μ' w v)(x:mG pure h w h' Q):DQ K H μ Q v H':=by
 cases pure with
 | false=>exact⟨μ',w,h',e,R',r,x⟩
 | true=>
  obtain⟨hc0,⟨lo,q⟩|⟨n,ws,ew,hn,ec,lo,q⟩⟩:=x;all_goals have hc:=λn c a=>hc0 n c (let⟨p,m,_⟩:=R.cel n c a;R.dom n p m) a
  exact⟨μ'.cut _,w,h,e.cut R,R.cut R' e hc,Bq.cut r lo,q⟩;subst ew;refine⟨μ'.cut _,.lst ws,h,e.cut R,R.cut R' e hc,?_,q⟩;obtain⟨p,ev,hm⟩:=r;obtain⟨p',xs,hm',hx,rs⟩:=R'.lstAt ec;obtain rfl:=by rw[hm]at hm';exact(IV hm').symm
  refine⟨p',xs,ev,⟨hx,λm a=>?_,λz=>(R'.hd p' z).2 n hm⟩,aW.cut rs lo⟩;obtain⟨a1,a2⟩:=Mu.cut_some a;have:=R'.inj m n p' a2 hm
  lia
theorem zak {K:Bl}{H:Hp}{N:List Str}:∀{ws:List W}{vs:List V},aW K H μ ws vs->Slots K H μ (ws.map Dn++Iw (N.length-ws.length) Go) (start N vs):=by
 intro ws vs r;have hl:=r.len;refine⟨by simp[start,hl],λi w q=>?_⟩;by_cases hi:i<ws.length
 rw[Vz (by simpa using hi)]at q;have q':ws[i]?=Dn w:=by
  grind
 obtain⟨v,hv,rv⟩:=r.get q';refine⟨v,?_,rv⟩;unfold start;rw[Vz (by rw[CV];lia),HI,hv];rfl;rw[Vd (by simpa using hi),Yd]at q;grind
theorem afC {P:Ci}{w:CZ}{K:Bl}{mg:Str->Option JI}{base:Heap}{x qual:Str}{st:Stmt}{f:Addr}{fd:Oh}{N ps:List Str}{k:Nat}{pure:Bool}{body:CQ->MS}(F:W5 K x qual st f fd)(S:pI N ps (cD st))
  (hb:∀(cdv:JI) (A:G4) (outer:List Env) (s:kI) (H:Hp) (E:XK),o7 k (A.deeper (envOfC qual (cD st) s.heap.objs.size f cdv)) ->
   Ri (TF QF P w K mg base N qual (cD st) f cdv A outer s H E).nox (jw st) (body EF)):sE P w K mg base QF (k+1) f fd ps (lift K (GF ps.length N.length pure body)):=by
 refine F.ok S (λvs H Q E ⟨μ,h,ws,Qw,R,r,m,k⟩=>by rw[<-r.len];exact(S5 m).1)<|λcdv A outer s H vs Q E hr ⟨μ,h,ws,Qw,R,r,m0,k⟩=>?_
 obtain⟨hl,m⟩:=S5 m0;refine⟨_,hb cdv A outer s H E hr,μ,h,_,_,R,zak r,m,?_,?_,?_,?_⟩;rintro U' H' ⟨μ1,Uw1,h1,e1,R1,S1,m1⟩;exact k _ _<|KY R e1 R1 (by rw[Bq]) m1
 rintro v H' ⟨μ1,w1,h1,e1,R1,r1,m1⟩;exact k _ _<|KY R e1 R1 r1 m1
 rintro U' H' ⟨μ1,Uw1,h1,e1,R1,S1,m1⟩;exact m1.elim;rintro U' H' ⟨μ1,Uw1,h1,e1,R1,S1,m1⟩;exact m1.elim
end
variable {H0:Hp}{te:ME}{mi:MI}{tt:MT}{kt:Nat}
section
variable {X:Cx}{K:Bl}
theorem DQ.int {H:Hp}{μ:Mu}{h:Gh}{i:Int}{Q:WK}(R:G5 K μ H h)(q:Q (.int i) h):DQ K H μ Q (.int i) H:=⟨μ,.int i,h,.refl,R,by rw[Bq],q⟩
theorem DQ.bl {H:Hp}{μ:Mu}{h:Gh}{i:Bool}{Q:WK}(R:G5 K μ H h)(q:Q (.bl i) h):DQ K H μ Q (.bl i) H:=⟨μ,.bl i,h,.refl,R,by rw[Bq],q⟩
def agQ (C:Int->Int->Prop)(g:Int->Int->Int):M2:=λx y h Q=>match x,y with
 | .int i,.int j=>C i j/\Q (.int (g i j)) h
 | _,_=>False
def Rh:M2:=λx y h Q=>match x,y with
 | .int i,.int j=>Q (.int (i-j)) h
 | _,_=>False
theorem Hr:Oe X (Nu .Sub) Rh:=⟨_,ZQ,by
 intro H μ h x y wx wy Qw Q R rx ry m k;unfold Rh at m;split at m
 exact⟨_,_,rx,ry,k _ _<|.int R m⟩;cases m⟩
def Ij:M2:=λx y h Q=>match x,y with
 | .int i,.int j=>uU i j/\Q (.int (i*j)) h
 | _,_=>False
theorem wA:Oe X (Nu .Mult) Ij:=⟨_,Nm,by
 intro H μ h x y wx wy Qw Q R rx ry m k;unfold Ij at m;split at m
 exact⟨_,_,rx,ry,m.1,k _ _<|.int R m.2⟩;cases m⟩
def Qk:M2:=λx y h Q=>match x,y with
 | .int i,.int j=>Mr i j/\Q (.int (i.fdiv j)) h
 | _,_=>False
theorem Gz:Oe X (Nu .FloorDiv) Qk:=⟨_,ail,by
 intro H μ h x y wx wy Qw Q R rx ry m k;unfold Qk at m;split at m
 exact⟨_,_,rx,ry,m.1,k _ _<|.int R m.2⟩;cases m⟩
def Lb:M2:=λx y h Q=>match x,y with
 | .int i,.int j=>j≠0/\Q (.int (i.fmod j)) h
 | _,_=>False
theorem yM:Oe X (Nu .Mod) Lb:=⟨_,ajB,by
 intro H μ h x y wx wy Qw Q R rx ry m k;unfold Lb at m;split at m
 exact⟨_,_,rx,ry,m.1,k _ _<|.int R m.2⟩;cases m⟩
def aeN:M2:=λx y h Q=>match x,y with
 | .int i,.int j=>afp i j/\Q (.int (i^j.toNat)) h
 | _,_=>False
theorem ael:Oe X (Nu .Pow) aeN:=⟨_,ace,by
 intro H μ h x y wx wy Qw Q R rx ry m k;unfold aeN at m;split at m
 exact⟨_,_,rx,ry,m.1,k _ _<|.int R m.2⟩;cases m⟩
def kLt:M2:=λx y h Q=>match x,y with
 | .int i,.int j=>Q (.bl (decide (i<j))) h
 | _,_=>False
theorem adh:Oe X (O2 .Lt) kLt:=⟨_,aeJ,by
 intro H μ h x y wx wy Qw Q R rx ry m k;unfold kLt at m;split at m
 exact⟨_,_,rx,ry,k _ _<|.bl R m⟩;cases m⟩
def Rt:M2:=λx y h Q=>match x,y with
 | .int i,.int j=>Q (.bl (decide (j<i))) h
 | _,_=>False
theorem YB:Oe X (O2 .Gt) Rt:=⟨_,ad1,by
 intro H μ h x y wx wy Qw Q R rx ry m k;unfold Rt at m;split at m
 exact⟨_,_,rx,ry,k _ _<|.bl R m⟩;cases m⟩
def kGe:M2:=λx y h Q=>match x,y with
 | .int i,.int j=>Q (.bl (decide (j<=i))) h
 | _,_=>False
theorem agv:Oe X (O2 .GtE) kGe:=⟨_,aee,by
 intro H μ h x y wx wy Qw Q R rx ry m k;unfold kGe at m;split at m
 exact⟨_,_,rx,ry,k _ _<|.bl R m⟩;cases m⟩
theorem aW.ne_nil {H:Hp}{xs:List V}(r:aW K H μ ws xs):xs=[]↔ws=[]:=by
 have:=r.len
 grind
def Bm:M2:=λx y h Q=>match y with
 | .int i=>(match view h x with
  | some ws=>(match Mi ws i with
   | some w=>Q w h
   | none=>False)
  | none=>False)
 | _=>False
theorem aW.at {H:Hp}{μ:Mu}{ws:List W}{xs:List V}{i:Int}{w:W}(r:aW K H μ ws xs)(e:Mi ws i=Dn w):∃v,Mi xs i=Dn v/\Bq K H μ w v:=by
 unfold Mi at e|-
 rw[<-r.len];cases q:QS _ i with
 | none=>rw[q]at e;cases e
 | some j=>rw[q]at e;exact r.get e
theorem cY {H:Hp}{h:Gh}{w:W}{v:V}(R:G5 K μ H h)(r:Bq K H μ w v)(e:eU h w=Dn ws):∃p xs,v=.ref p/\JH K H p xs/\aW K H μ ws xs:=by
 cases w with
 | lst us|kls us=>
  obtain⟨p,xs,ev,hs,rs⟩:=r;cases e;exact⟨p,xs,ev,hs.sq,rs⟩
 | loc n=>
  obtain⟨p,ev,hm⟩:=r;unfold eU at e;dsimp only at e;cases ec:h.c n with
  | none=>rw[ec]at e;cases e
  | some cl=>
   rw[ec]at e;cases cl with
   | lst us=>
    cases e;obtain⟨p',xs,hm',hx,rs⟩:=R.lstAt ec;obtain rfl:=by rw[hm]at hm';exact(IV hm').symm
    exact⟨p',xs,ev,.of hx,rs⟩
   | _=>cases e
 | _=>cases e
theorem Ce {H:Hp}{h:Gh}{w:W}{v:V}(R:G5 K μ H h)(r:Bq K H μ w v)(e:view h w=Dn ws):∃p xs,v=.ref p/\(JH K H p xs\/Hi K H p xs)/\aW K H μ ws xs:=by
 cases w with
 | tup us=>
  obtain⟨p,xs,ev,hs,rs⟩:=r;cases e;grind
 | lst us|kls us|loc n=>
  obtain⟨p,xs,ev,hs,rs⟩:=cY R r e;grind
 | _=>cases e
theorem aaI:afv K (rIx K) Bm:=by
 intro H μ h x y wx wy Qw Q R rx ry m k;unfold Bm at m;split at m
 rename_i i;split at m
 rename_i ws ev;split at m
 rename_i w ew;obtain⟨p,xs,ex,hs,rs⟩:=Ce R rx ev;obtain⟨v,hv,rv⟩:=rs.at ew;have fin:=k _ _ ⟨μ,w,h,.refl,R,rv,m⟩;rcases hs with hs|hs
 exact .inl ⟨p,xs,i,v,ex,ry,hs,hv,fin⟩;exact .inr<|.inl ⟨p,xs,i,v,ex,ry,hs,hv,fin⟩
 cases m;cases m;cases m
theorem af7 {a b:Expr}{mb:ME}{pos:Pos}(ha:DE X a ma)(hb:DE X b mb)(hs:Ck b):DE X (.Subscript a b pos) (Af Bm ma mb):=(ad2 acv ha hb hs).of λU H Q h=>two h λR r1 r2 m k=>aaI R r1 r2 m k
abbrev MO:=Sw->Gh->(Option Int->Gh->Prop)->Prop
def tDO (K:Bl)(m:MO):TO:=λU H Q=>∃μ h Uw Qw,G5 K μ H h/\Slots K H μ Uw U/\m Uw h Qw/\∀o H',(∃μ' h',Hw K H μ H' μ'/\G5 K μ' H' h'/\Qw o h')->Q o H'
abbrev DO (X:Cx)(e:Option Expr)(m:MO):Prop:=PO X e (tDO X.K m)
theorem PO.of {e:Option Expr}{t t':TO}(h:PO X e t)(k:∀U H Q,t' U H Q->t U H Q):PO X e t':=by
 unfold PO at h|-
 intros
 grind
def rC:MO:=λ_ h Q=>Q Go h
def Lg (m:ME):MO:=λU h Q=>m U h λw h1=>match w with
 | .int i=>Q (Dn i) h1
 | _=>False
theorem Cd:DO X Go rC:=PO.of ajv λU H Q ⟨μ,h,Uw,Qw,R,S,m,k⟩=>k _ _ ⟨μ,h,.refl,R,m⟩
theorem Bf {e:Expr}(he:DE X e ma):DO X (Dn e) (Lg ma):=PO.of (ajt he) λU H Q ⟨μ,h,Uw,Qw,R,S,m,k⟩=>by
 refine⟨μ,h,Uw,_,R,S,m,λv H1 ⟨μ1,w,h1,e1,R1,r1,m1⟩=>?_⟩;split at m1
 exact⟨_,r1,k _ _ ⟨μ1,h1,e1,R1,m1⟩⟩;cases m1
def Kw (xs:List W)(lo hi:Option Int):List W:=(xs.drop (HT.sIx xs.length 0 lo)).take (HT.sIx xs.length xs.length hi-HT.sIx xs.length 0 lo)
def mSl (r:W->Option Int->Option Int->Gh->WK->Prop)(m:ME)(l u:MO):ME:=λU h Q=>m U h λx h1=>l U h1 λlo h2=>u U h2 λhi h3=>r x lo hi h3 Q
theorem aW.cutv {H:Hp}{xs:List V}(r:aW K H μ ws xs)(lo hi:Option Int):aW K H μ (Kw ws lo hi) (VL xs lo hi):=by
 unfold Kw VL;exact r.len ▸ (r.drop _).take _
end
mutual
def Hg:W->W->Bool
 | .non,.non=>true
 | .bl a,.bl b=>a==b
 | .bl a,.int b=>(if a then 1 else 0)==b
 | .int a,.bl b=>a==(if b then 1 else 0)
 | .int a,.int b=>a==b
 | .str a,.str b=>a==b
 | .tup a,.tup b=>lX a b
 | .lst a,.lst b=>lX a b
 | _,_=>false
def lX:List W->List W->Bool
 | [],[]=>true
 | a::as,b::bs=>Hg a b&&lX as bs
 | _,_=>false
end
def Gy:Nat->W->Bool
 | _,.non=>true
 | _,.bl _=>true
 | _,.int _=>true
 | _,.str _=>true
 | n+1,.tup ws=>ws.all (Gy n)
 | n+1,.lst ws=>ws.all (Gy n)
 | _,_=>false
mutual
def Dt (K:Bl)(H:Hp):W->V->Prop
 | .non,v=>v=.non
 | .bl b,v=>v=.bl b
 | .int i,v=>v=.int i
 | .str x,v=>v=.str x
 | .tup ws,v=>∃p xs,v=.ref p/\Hi K H p xs/\LK K H ws xs
 | .lst ws,v=>∃p xs,v=.ref p/\JH K H p xs/\LK K H ws xs
 | .ty _,_=>False
 | .kls _,_=>False
 | .loc _,_=>False
 | .exc _,_=>False
 | .exa _ _,_=>False
 | .fnv _ _,_=>False
def LK (K:Bl)(H:Hp):List W->List V->Prop
 | [],xs=>xs=[]
 | w::ws,xs=>∃v vs,xs=v::vs/\Dt K H w v/\LK K H ws vs
end
section
variable {X:Cx}{K:Bl}{H:Hp}{h:Gh}
theorem LK.len:∀{ws:List W}{xs:List V},LK K H ws xs->ws.length=xs.length
 | [],xs,h=>by
  have e:=h;rw[e];rfl
 | w::ws,xs,h=>by
  obtain⟨v,vs,e,_,h⟩:=h;rw[e,PB,PB,LK.len h]
theorem LK.get:∀{ws:List W}{xs:List V}{i:Nat}{w:W},LK K H ws xs->ws[i]?=Dn w->∃v,xs[i]?=Dn v/\Dt K H w v
 | a::ws,xs,0,w,h,e=>by
  obtain⟨v,vs,e1,r,_⟩:=h;grind
 | a::ws,xs,i+1,w,h,e=>by
  obtain⟨v,vs,e1,_,h⟩:=h;subst e1;obtain⟨u,h1,h2⟩:=LK.get h (by simpa using e)
  simp_all
theorem Dy {n:Nat}(one:∀{w:W}{v:V},Bq K H μ w v->Gy n w=true->Dt K H w v):∀{ws:List W}{xs:List V},aW K H μ ws xs->ws.all (Gy n)=true->LK K H ws xs
 | [],_,h,_=>by rwa[LK]
 | w::ws,_,h,p=>by
  obtain⟨v,vs,e,r,h⟩:=h;rw[List.all_cons,Ol]at p;exact⟨v,vs,e,one r p.1,Dy one h p.2⟩
theorem Z0:∀(n:Nat) {w:W}{v:V},Bq K H μ w v->Gy n w=true->Dt K H w v:=by
 intro n;induction n with
 | zero=>
  intro w v r p;cases w with
  | non|bl _|int _|str _=>rw[Bq]at r;exact r
  | _=>simp[Gy]at p
 | succ n ih=>
  intro w v r p;cases w with
  | non|bl _|int _|str _=>rw[Bq]at r;exact r
  | tup ws=>
   obtain⟨p',xs,e,hs,rs⟩:=r;exact⟨p',xs,e,hs,Dy ih rs<|by simpa[Gy]using p⟩
  | lst ws=>
   obtain⟨p',xs,e,hs,rs⟩:=r;exact⟨p',xs,e,hs.sq,Dy ih rs<|by simpa[Gy]using p⟩
  | _=>simp[Gy]at p
theorem vX:∀{a b:List W},a.length≠b.length->lX a b=false
 | [],_::_,_|_::_,[],_=>by simp[lX]
 | a::as,b::bs,h=>by
  rw[lX,vX (by simpa using h),Bool.and_false]
def acW (a b:List W)(j:Nat):Bool:=Hg (a.getD j .non) (b.getD j .non)
theorem wO:∀{a b:List W},a.length=b.length->(Ji a.length).all (acW a b)=lX a b
 | [],[],_=>by simp[lX]
 | a::as,b::bs,h=>by
  rw[lX,<-wO (by simpa using h),PB,List.range_succ_eq_map,List.all_cons,List.all_map];rfl
mutual
theorem Gp {amD:List (Addr×Obj)}{s:kI}{U:St}(I:BJ X amD U H s):∀{w u:W}{v:V},Dt X.K H w v->Dt X.K H u v->Hg w u=true
 | .non,u,v,h,g=>by rw[Dt]at h;subst h;cases u<;>rw[Dt]at g<;>first|rfl|exact g.elim|(obtain⟨_,_,g,_⟩:=g;cases g;done)|(cases g;done)
 | .bl b,u,v,h,g=>by rw[Dt]at h;subst h;cases u<;>rw[Dt]at g<;>first|(injection g with g;simp[Hg,g];done)|exact g.elim|(obtain⟨_,_,g,_⟩:=g;cases g;done)|(cases g;done)
 | .int b,u,v,h,g=>by rw[Dt]at h;subst h;cases u<;>rw[Dt]at g<;>first|(injection g with g;simp[Hg,g];done)|exact g.elim|(obtain⟨_,_,g,_⟩:=g;cases g;done)|(cases g;done)
 | .str b,u,v,h,g=>by rw[Dt]at h;subst h;cases u<;>rw[Dt]at g<;>first|(injection g with g;simp[Hg,g];done)|exact g.elim|(obtain⟨_,_,g,_⟩:=g;cases g;done)|(cases g;done)
 | .tup ws,u,v,h,g=>by
  rw[Dt]at h;obtain⟨p,xs,e,hs,ds⟩:=h;subst e;cases u with
  | tup us=>
   rw[Dt]at g;obtain⟨p',xs',e',hs',ds'⟩:=g;cases e'
   have:=I.tuple_inj hs hs'
   subst this;rw[Hg];exact sH I ds ds'
  | lst us=>
   rw[Dt]at g;obtain⟨p',xs',e',hs',ds'⟩:=g;cases e'
   obtain⟨_,_,t,_⟩:=I.tuple hs;obtain⟨_,_,l,_⟩:=I.list hs';exact absurd rfl<|Yv l.isList<|show s.heap.IsTuple _ _ from t
  | ty _=>rw[Dt]at g;exact g.elim
  | loc _=>rw[Dt]at g;exact g.elim
  | kls _=>rw[Dt]at g;exact g.elim
  | _=>rw[Dt]at g;cases g
 | .lst ws,u,v,h,g=>by
  rw[Dt]at h;obtain⟨p,xs,e,hs,ds⟩:=h;subst e;cases u with
  | lst us=>
   rw[Dt]at g;obtain⟨p',xs',e',hs',ds'⟩:=g;cases e'
   have:=I.list_inj hs hs'
   subst this;rw[Hg];exact sH I ds ds'
  | tup us=>
   rw[Dt]at g;obtain⟨p',xs',e',hs',ds'⟩:=g;cases e'
   obtain⟨_,_,t,_⟩:=I.tuple hs';obtain⟨_,_,l,_⟩:=I.list hs;exact absurd rfl<|Yv l.isList<|show s.heap.IsTuple _ _ from t
  | ty _=>rw[Dt]at g;exact g.elim
  | loc _=>rw[Dt]at g;exact g.elim
  | kls _=>rw[Dt]at g;exact g.elim
  | _=>rw[Dt]at g;cases g
 | .ty _,_,_,h,_=>by rw[Dt]at h;exact h.elim
 | .loc _,_,_,h,_=>by rw[Dt]at h;exact h.elim
 | .exc _,_,_,h,_=>by rw[Dt]at h;exact h.elim
 | .exa _ _,_,_,h,_=>by rw[Dt]at h;exact h.elim
 | .kls _,_,_,h,_=>by rw[Dt]at h;exact h.elim
theorem sH {amD:List (Addr×Obj)}{s:kI}{U:St}(I:BJ X amD U H s):∀{ws us:List W}{vs:List V},LK X.K H ws vs->LK X.K H us vs->lX ws us=true
 | [],us,vs,h,g=>by
  rw[LK]at h;subst h;cases us with
  | nil=>rfl
  | cons _ _=>rw[LK]at g;obtain⟨_,_,g,_⟩:=g;cases g
 | w::ws,us,vs,h,g=>by
  rw[LK]at h;obtain⟨v,vs',e,h1,h2⟩:=h;subst e;cases us with
  | nil=>rw[LK]at g;cases g
  | cons u us=>
   rw[LK]at g;obtain⟨v',vs'',e',g1,g2⟩:=g;cases e'
   rw[lX,Gp I h1 g1,sH I h2 g2];rfl
end
theorem akp {n:Nat}(h:Gy n (.lst ws)=true):∃m,n=m+1/\ws.all (Gy m)=true:=by
 cases n with
 | zero=>simp[Gy]at h
 | succ m=>exact⟨m,rfl,by simpa[Gy]using h⟩
theorem Fo {s:kI}{A:G4}{n:Nat}{us:List W}{xs ys:List V}{its jts:List JI}(d1:LK K H ws xs)(d2:LK K H us ys)(p1:ws.all (Gy n)=true)(p2:us.all (Gy n)=true)(r1:Ba xs its)(r2:Ba ys jts)
  (one:∀{w u:W}{v x:V}{a b:JI},Dt K H w v->Dt K H u x->Gy n w=true->Gy n u=true->RelV v a->RelV x b->XH A s a b (Hg w u)) :
  ∀j (h1:j<its.toArray.size) (h2:j<jts.toArray.size),XH A s its.toArray[j] jts.toArray[j] (acW ws us j):=by
 intro j h1 h2;have l1:j<ws.length:=by rw[d1.len,r1.length];simpa using h1
 have l2:j<us.length:=by rw[d2.len,r2.length];simpa using h2
 obtain⟨v,ev,dv⟩:=d1.get (JD l1);obtain⟨x,ex,dx⟩:=d2.get (JD l2);obtain⟨a,ea,ra⟩:=r1.get ev;obtain⟨b,eb,rb⟩:=r2.get ex;have ea':its.toArray[j]=a:=by simpa using(O4.mp ea).2
 have eb':jts.toArray[j]=b:=by simpa using(O4.mp eb).2
 have e:acW ws us j=Hg ws[j] us[j]:=by
  unfold acW
  simp_all
 rw[ea',eb',e];exact one dv dx (Qe.mp p1 _<|RQ l1) (Qe.mp p2 _<|RQ l2) ra rb
theorem size_of {xs:List V}{its:List JI}(d:LK K H ws xs)(r:Ba xs its):its.toArray.size=ws.length:=by
 rw[d.len,r.length];simp
theorem akd {us:List W}:((Ji (min ws.length us.length)).all (acW ws us)&&ws.length==us.length)=lX ws us:=by
 by_cases e:ws.length=us.length
 rw[<-e,Nat.min_self,wO e];simp;rw[vX e,(beq_eq_false_iff_ne.mpr e),Bool.and_false]
inductive Kd (s:kI):W->JI->Prop where
 | non:Kd s .non .none
 | bl (b:Bool):Kd s (.bl b) (.bool b)
 | int (i:Int) (t:Tok):Kd s (.int i) (.int i t)
 | str (x:Str) (t:Tok):Kd s (.str x) (.str x t)
 | tup (ws:List W) {p:Addr}{its:Array JI}(q:s.heap.IsTuple p its):Kd s (.tup ws) (.ref p)
 | lst (ws:List W) {p:Addr}{its:Array JI}(q:s.heap.IsList p its):Kd s (.lst ws) (.ref p)
theorem Ac {amD:List (Addr×Obj)}{s:kI}{U:St}(I:BJ X amD U H s){w:W}{v:V}{a:JI}(d:Dt X.K H w v)(r:RelV v a):Kd s w a:=by
 cases w with
 | non=>rw[Dt]at d;subst d;cases r;exact .non
 | bl b=>rw[Dt]at d;subst d;cases r;exact .bl b
 | int b=>rw[Dt]at d;subst d;obtain⟨t,rfl⟩:=r;exact .int b t
 | str b=>rw[Dt]at d;subst d;obtain⟨t,rfl⟩:=r;exact .str b t
 | tup ws=>rw[Dt]at d;obtain⟨p,xs,e,hs,_⟩:=d;subst e;cases r;obtain⟨its,_,q,_⟩:=I.tuple hs;exact .tup ws q
 | lst ws=>rw[Dt]at d;obtain⟨p,xs,e,hs,_⟩:=d;subst e;cases r;obtain⟨its,_,q,_⟩:=I.list hs;exact .lst ws q.isList
 | _=>rw[Dt]at d;exact d.elim
def sq1:W->Bool
 | .tup _=>true
 | .lst _=>true
 | _=>false
def tX:W->W->Bool
 | .tup _,.tup _=>true
 | .lst _,.lst _=>true
 | _,_=>false
def ada (w u:W):Bool:=!(sq1 w||sq1 u)
open SeqAt.EqAt in
theorem SM {s:kI}{A:G4}{w u:W}{a b:JI}(hu:A.units<Ko)(k1:Kd s w a)(k2:Kd s u b)(h:tX w u=false)(f:ada w u=false):XH A s a b (Hg w u):=by
 cases k1<;>cases k2<;>try (first|(cases h;done)|(cases f;done))
 apply none_tuple<;>assumption
 apply none_list<;>assumption
 apply bool_tuple<;>assumption
 apply bool_list<;>assumption
 apply int_tuple<;>assumption
 apply int_list<;>assumption
 apply str_tuple<;>assumption
 apply str_list<;>assumption
 apply tuple_none<;>assumption
 apply tuple_bool<;>assumption
 apply tuple_int<;>assumption
 apply tuple_str<;>assumption
 apply tuple_list<;>assumption
 apply list_none<;>assumption
 apply list_bool<;>assumption
 apply list_int<;>assumption
 apply list_str<;>assumption
 apply list_tuple<;>assumption
open SeqAt.RcAt in
theorem acC {s:kI}{A:G4}{w u:W}{a b:JI}(hu:A.units<Ko)(k1:Kd s w a)(k2:Kd s u b)(h:tX w u=false):SeqAt.RcAt A s a b (Hg w u):=by
 cases k1<;>cases k2<;>try (first|(cases h;done))
 apply none_none<;>assumption
 apply none_bool<;>assumption
 apply none_int<;>assumption
 apply none_str<;>assumption
 apply none_tuple<;>assumption
 apply none_list<;>assumption
 apply bool_none<;>assumption
 apply bool_bool<;>assumption
 apply bool_int<;>assumption
 apply bool_str<;>assumption
 apply bool_tuple<;>assumption
 apply bool_list<;>assumption
 apply int_none<;>assumption
 apply int_bool<;>assumption
 apply int_int<;>assumption
 apply int_str<;>assumption
 apply int_tuple<;>assumption
 apply int_list<;>assumption
 apply str_none<;>assumption
 apply str_bool<;>assumption
 apply str_int<;>assumption
 apply str_str<;>assumption
 apply str_tuple<;>assumption
 apply str_list<;>assumption
 apply tuple_none<;>assumption
 apply tuple_bool<;>assumption
 apply tuple_int<;>assumption
 apply tuple_str<;>assumption
 apply tuple_list<;>assumption
 apply list_none<;>assumption
 apply list_bool<;>assumption
 apply list_int<;>assumption
 apply list_str<;>assumption
 apply list_tuple<;>assumption
open SeqAt.RcNeAt in
theorem acX {s:kI}{A:G4}{w u:W}{a b:JI}(hu:A.units<Ko)(k1:Kd s w a)(k2:Kd s u b)(h:tX w u=false):SeqAt.RcNeAt A s a b (!Hg w u):=by
 cases k1<;>cases k2<;>try (first|(cases h;done))
 apply none_none<;>assumption
 apply none_bool<;>assumption
 apply none_int<;>assumption
 apply none_str<;>assumption
 apply none_tuple<;>assumption
 apply none_list<;>assumption
 apply bool_none<;>assumption
 apply bool_bool<;>assumption
 apply bool_int<;>assumption
 apply bool_str<;>assumption
 apply bool_tuple<;>assumption
 apply bool_list<;>assumption
 apply int_none<;>assumption
 apply int_bool<;>assumption
 apply int_int<;>assumption
 apply int_str<;>assumption
 apply int_tuple<;>assumption
 apply int_list<;>assumption
 apply str_none<;>assumption
 apply str_bool<;>assumption
 apply str_int<;>assumption
 apply str_str<;>assumption
 apply str_tuple<;>assumption
 apply str_list<;>assumption
 apply tuple_none<;>assumption
 apply tuple_bool<;>assumption
 apply tuple_int<;>assumption
 apply tuple_str<;>assumption
 apply tuple_list<;>assumption
 apply list_none<;>assumption
 apply list_bool<;>assumption
 apply list_int<;>assumption
 apply list_str<;>assumption
 apply list_tuple<;>assumption
theorem xX:∀{w u:W},tX w u=true->(∃ws us,w=.tup ws/\u=.tup us)\/∃ws us,w=.lst ws/\u=.lst us
 | .tup ws,.tup us,_=>.inl ⟨ws,us,rfl,rfl⟩
 | .lst ws,.lst us,_=>.inr ⟨ws,us,rfl,rfl⟩
def wV:V->W
 | .bl b=>.bl b
 | .int b=>.int b
 | .str b=>.str b
 | _=>.non
theorem aeg {v x:V}(h:Mw v=true)(g:Mw x=true):Hg (wV v) (wV x)=eqV v x:=by
 cases v<;>first|(cases h;done)|(cases x<;>first|(cases g;done)|rfl)
theorem T3 {w:W}{v:V}(d:Dt K H w v)(h:sq1 w=false):Mw v=true/\w=wV v:=by
 cases w with
 | tup _|lst _=>cases h
 | non|bl _|int _|str _=>rw[Dt]at d;subst d;exact⟨rfl,rfl⟩
 | _=>rw[Dt]at d;cases d
theorem T6 {s:kI}{A:G4}{w u:W}{v x:V}{a b:JI}(dw:Dt K H w v)(du:Dt K H u x)(hf:ada w u=true)(ra:RelV v a)(rb:RelV x b):XH A s a b (Hg w u):=by
 have hf:=Bool.or_eq_false_iff.mp (Eq.mp (Bool.not_eq_true' _) hf);have⟨f1,e1⟩:=T3 dw hf.1;have⟨f2,e2⟩:=T3 du hf.2;rw[e1,e2,aeg f1 f2];exact abd ra rb f1 f2
theorem Sh {amD:List (Addr×Obj)}{s:kI}{U:St}(I:BJ X amD U H s){n:Nat}{A:G4}{w u:W}{v x:V}{a b:JI}(ih:∀{w u:W}{v x:V}{a b:JI},Dt X.K H w v->Dt X.K H u x->Gy n w=true->Gy n u=true->RelV v a->RelV x b->XH A.in1 s a b (Hg w u))(hu:A.units<Ko)(h2:tX w u=true)(dw:Dt X.K H w v)(du:Dt X.K H u x)(pw:Gy (n+1) w=true)(pu:Gy (n+1) u=true)(ra:RelV v a)(rb:RelV x b):∃p q,v=.ref p/\x=.ref q/\a=.ref p/\b=.ref q/\SeqAt.RcAt A s a b (Hg w u)/\SeqAt.RcNeAt A s a b (!Hg w u):=by
 rcases xX h2 with⟨ws,us,rfl,rfl⟩|⟨ws,us,rfl,rfl⟩<;>obtain⟨p,xs1,rfl,hs1,ds1⟩:=dw<;>obtain⟨q,xs2,rfl,hs2,ds2⟩:=du<;>cases ra<;>cases rb<;>refine⟨p,q,rfl,rfl,rfl,rfl,?_⟩<;>rw[Hg]<;>rw[Gy]at pw pu
 obtain⟨its1,rv1,q1,_⟩:=I.tuple hs1;obtain⟨its2,rv2,q2,_⟩:=I.tuple hs2;have it:=Fo ds1 ds2 pw pu rv1 rv2 ih;rw[<-akd,<-size_of ds1 rv1,<-size_of ds2 rv2];exact⟨.tuples q1 q2 hu it,.tuples q1 q2 hu it⟩;obtain⟨its1,rv1,q1,_⟩:=I.list hs1;obtain⟨its2,rv2,q2,_⟩:=I.list hs2;by_cases hl:ws.length=us.length
 have it:=Fo ds1 ds2 pw pu rv1 rv2 ih;have e:its1.toArray.size=its2.toArray.size:=by rw[size_of ds1 rv1,size_of ds2 rv2,hl]
 rw[<-wO hl,<-size_of ds1 rv1];exact⟨.lists q1.isList q2.isList e hu it,.lists q1.isList q2.isList e hu it⟩;rw[vX hl];have e:(its1.toArray.size != its2.toArray.size)=true:=by rw[size_of ds1 rv1,size_of ds2 rv2];exact bne_iff_ne.mpr hl
 exact⟨.lists_lengths q1.isList q2.isList e hu,.lists_lengths q1.isList q2.isList e hu⟩
theorem Lk {w u:W}(h:tX w u=true):∀{n:Nat},Gy n w=true->∃m,n=m+1
 | 0,p=>by rcases xX h with⟨_,_,rfl,_⟩|⟨_,_,rfl,_⟩<;>cases p
 | m+1,_=>⟨m,rfl⟩
theorem ae6 {amD:List (Addr×Obj)}{s:kI}{U:St}(I:BJ X amD U H s):∀(n:Nat) {A:G4}{w u:W}{v x:V}{a b:JI},A.units+n<Ko->Dt X.K H w v->Dt X.K H u x->Gy n w=true->Gy n u=true->RelV v a->RelV x b->XH A s a b (Hg w u):=by
 intro n;induction n with
 | zero=>
  intro A w u v x a b hu dw du pw pu ra rb;by_cases hf:ada w u=true
  exact T6 dw du hf ra rb;by_cases h2:tX w u=true
  obtain⟨m,e⟩:=Lk h2 pw;cases e;exact SM hu (Ac I dw ra) (Ac I du rb) (XR _ ▸ h2)<|XR _ ▸ hf
 | succ n ih=>
  intro A w u v x a b hu dw du pw pu ra rb;by_cases hf:ada w u=true
  exact T6 dw du hf ra rb;by_cases h2:tX w u=true
  obtain⟨p,q,rfl,rfl,rfl,rfl,z,_⟩:=Sh I (ih (by rw[Nat.add_assoc,Nat.add_comm 1];exact hu)) (Wz (Nat.le_add_right _ _) hu) h2 dw du pw pu ra rb;by_cases hp:p=q
  subst hp;rw[Gp I dw du];exact SeqAt.EqAt.same _;exact SeqAt.EqAt.of_refs hp z;exact SM (Wz (Nat.le_add_right _ _) hu) (Ac I dw ra) (Ac I du rb) (XR _ ▸ h2)<|XR _ ▸ hf
theorem rcN {amD:List (Addr×Obj)}{s:kI}{U:St}(I:BJ X amD U H s){A:G4}{w u:W}{v x:V}{a b:JI}{p:Prop}(hu:A.units+(m+1)<Ko)(hu':A.units<Ko)(h2:tX w u=true)(dw:Dt X.K H w v)(du:Dt X.K H u x)(pw:Gy (m+1) w=true)(pu:Gy (m+1) u=true)(ra:RelV v a)(rb:RelV x b)(f:SeqAt.RcAt A s a b (Hg w u)/\SeqAt.RcNeAt A s a b (!Hg w u)->p):p:=by
 obtain⟨_,_,_,_,_,_,z⟩:=Sh I (ae6 I m (by rw[Nat.add_assoc,Nat.add_comm 1];exact hu)) hu' h2 dw du pw pu ra rb;exact f z
theorem adH {amD:List (Addr×Obj)}{s:kI}{U:St}(I:BJ X amD U H s)(n:Nat){A:G4}{w u:W}{v x:V}{a b:JI}(hu:A.units+n<Ko)(dw:Dt X.K H w v)(du:Dt X.K H u x)(pw:Gy n w=true)(pu:Gy n u=true)(ra:RelV v a)(rb:RelV x b):SeqAt.RcAt A s a b (Hg w u):=by
 have hu':=Wz (Nat.le_add_right _ _) hu;by_cases h2:tX w u=true
 obtain⟨m,rfl⟩:=Lk h2 pw;exact rcN I hu hu' h2 dw du pw pu ra rb (·.1);exact acC hu' (Ac I dw ra) (Ac I du rb)<|XR _ ▸ h2
theorem akl {amD:List (Addr×Obj)}{s:kI}{U:St}(I:BJ X amD U H s)(n:Nat){A:G4}{w u:W}{v x:V}{a b:JI}(hu:A.units+n<Ko)(dw:Dt X.K H w v)(du:Dt X.K H u x)(pw:Gy n w=true)(pu:Gy n u=true)(ra:RelV v a)(rb:RelV x b):SeqAt.RcNeAt A s a b (!Hg w u):=by
 have hu':=Wz (Nat.le_add_right _ _) hu;by_cases h2:tX w u=true
 obtain⟨m,rfl⟩:=Lk h2 pw;exact rcN I hu hu' h2 dw du pw pu ra rb (·.2);exact acX hu' (Ac I dw ra) (Ac I du rb)<|XR _ ▸ h2
def Sv (h:Gh):W->Option W
 | .loc n=>(match h.c n with
  | some (.lst ws)=>Dn (.lst ws)
  | _=>Go)
 | w=>Dn w
theorem vY {w d:W}{v:V}{n:Nat}(R:G5 K μ H h)(r:Bq K H μ w v)(e:Sv h w=Dn d)(p:Gy n d=true):Dt K H d v:=by
 have other:Sv h w=Dn w->Dt K H d v:=λz=>by
  rw[z]at e;cases e;exact Z0 n r p
 cases w with
 | loc m=>
  unfold Sv at e;dsimp only at e;cases ec:h.c m with
  | none=>rw[ec]at e;cases e
  | some cl=>
   rw[ec]at e;cases cl with
   | lst us=>
    cases e;obtain⟨p',xs,hm',hx,rs⟩:=R.lstAt ec;obtain⟨q,ev,hm⟩:=r;cases by rw[hm]at hm';exact(IV hm').symm
    obtain⟨k,rfl,p⟩:=akp p;exact⟨p',xs,ev,.of hx,Dy (Z0 k) rs p⟩
   | _=>cases e
 | _=>exact other rfl
def afz (K:Bl)(neg:Bool):R2:=λx y H Q=>∃w u,Dt K H w x/\Dt K H u y/\Gy 30 w=true/\Gy 30 u=true/\Q (.bl (if neg then !Hg w u else Hg w u)) H
theorem abV (hu:X.A.units+30<Ko):K3 X (O2 .Eq) (afz X.K false):=by
 intro amD s U H x y v u Q I rx ry ⟨w,w',d1,d2,p1,p2,q⟩;exact adH I 30 hu d1 d2 p1 p2 rx ry _ _ _ _<|u0 I q rfl
theorem acR (hu:X.A.units+30<Ko):K3 X (O2 .NotEq) (afz X.K true):=by
 intro amD s U H x y v u Q I rx ry ⟨w,w',d1,d2,p1,p2,q⟩;exact akl I 30 hu d1 d2 p1 p2 rx ry _ _ _ _<|u0 I q rfl
def Ib:M2:=λx y h Q=>match Sv h x,Sv h y with
 | some a,Dn b=>Ir (Gy 30 a&&Gy 30 b) (Q (.bl (Hg a b)) h) False
 | _,_=>False
def Kv:M2:=λx y h Q=>match Sv h x,Sv h y with
 | some a,Dn b=>Ir (Gy 30 a&&Gy 30 b) (Q (.bl (!Hg a b)) h) False
 | _,_=>False
theorem ni (hu:X.A.units+30<Ko):Oe X (O2 .Eq) Ib:=⟨_,abV hu,by
 intro H μ h x y wx wy Qw Q R rx ry m k;unfold Ib at m;split at m
 ·rename_i a b ea eb;cases hp:(Gy 30 a&&Gy 30 b)with
  | true=>
   rw[hp]at m;rw[Ol]at hp;exact⟨a,b,vY R rx ea hp.1,vY R ry eb hp.2,hp.1,hp.2,k _ _<|.bl R m⟩
  | false=>rw[hp]at m;cases m
 cases m⟩
theorem Bk (hu:X.A.units+30<Ko):Oe X (O2 .NotEq) Kv:=⟨_,acR hu,by
 intro H μ h x y wx wy Qw Q R rx ry m k;unfold Kv at m;split at m
 ·rename_i a b ea eb;cases hp:(Gy 30 a&&Gy 30 b)with
  | true=>
   rw[hp]at m;rw[Ol]at hp;exact⟨a,b,vY R rx ea hp.1,vY R ry eb hp.2,hp.1,hp.2,k _ _<|.bl R m⟩
  | false=>rw[hp]at m;cases m
 cases m⟩
theorem af3 {A:G4}{k:Nat}(hr:o7 k A):A.units+30<Ko:=by have:=hr.units;lia
end
section
variable {X:Cx}{K:Bl}
theorem fV {H:Hp}{w:W}{vs:List V}(r:aW K H μ [w] vs):∃v,vs=[v]/\Bq K H μ w v:=by
 obtain⟨v,vr,ev,ra,r⟩:=r;subst r;grind
theorem Bc {H:Hp}{w u:W}{vs:List V}(r:aW K H μ [w,u] vs):∃v x,vs=[v,x]/\Bq K H μ w v/\Bq K H μ u x:=by
 obtain⟨v,vr,ev,ra,r⟩:=r;obtain⟨x,e,rb⟩:=fV r;grind
theorem uU.of {i j:Int}{n:Nat}(hi:Sm m i)(hj:Sm n j)(hm:m<=1000000)(hn:n<=1000000):uU i j:=⟨m,n,hm,hn,hi,hj⟩
theorem Sm.lit {i:Int}(h:RJ (i.natAbs+1) (2^64)=true):Sm 64 i:=by
 have:=ML h
 assumption
def HB:MC:=λws h Q=>match ws with
 | [w]=>(match view h w with
  | some xs=>Q (.int (xs.length:Int)) h
  | none=>False)
 | _=>False
theorem fU:fQ X (.builtin "len") HB:=⟨_,yG,by
 intro H μ h vs ws Qw Q R r m k;unfold HB at m;split at m
 split at m
 rename_i w _ xs ev;obtain⟨v,e,rv⟩:=fV r;obtain⟨p,ys,ex,hs,rs⟩:=Ce R rv ev;subst e ex;exact⟨p,ys,rfl,hs,rs.len ▸ k _ _ (.int R m)⟩;cases m;cases m⟩
def Tp:MC:=λws h Q=>match ws with
 | [.int i]=>Q (.int (if i<0 then -i else i)) h
 | _=>False
theorem Oc:fQ X (.builtin "abs") Tp:=⟨_,aii,by
 intro H μ h vs ws Qw Q R r m k;unfold Tp at m;split at m
 obtain⟨v,e,rv⟩:=fV r;subst e rv;exact⟨_,rfl,k _ _<|.int R m⟩;cases m⟩
def adV:MC:=λws h Q=>match ws with
 | [.int i,.int j]=>Q (.int (if j>i then j else i)) h
 | _=>False
theorem aeC (hc:X.calm=true):fQ X (.builtin "max") adV:=⟨_,aic hc,by
 intro H μ h vs ws Qw Q R r m k;unfold adV at m;split at m
 obtain⟨v,x,e,rv,rx⟩:=Bc r;subst e rv rx;exact⟨_,_,rfl,k _ _<|.int R m⟩;cases m⟩
def Ox:List W->Option (List Bool)
 | []=>Dn []
 | .bl b::ws=>(Ox ws).map (b::·)
 | _=>Go
theorem La {H:Hp}{μ:Mu}:∀{ws:List W}{xs:List V}{bs:List Bool},aW K H μ ws xs->Ox ws=Dn bs->xs=bs.map V.bl
 | [],xs,bs,r,e=>by
  cases e;exact r
 | w::ws,xs,bs,r,e=>by
  obtain⟨v,vr,ev,ra,r⟩:=r;cases w with
  | bl b=>
   rw[Ox]at e;cases q:Ox ws with
   | none=>rw[q]at e;cases e
   | some cs=>
    rw[q]at e;cases e;rw[ev,ra,La r q];rfl
  | _=>cases e
def afo:MC:=λws h Q=>match ws with
 | [w]=>(match eU h w with
  | some us=>(match Ox us with
   | some bs=>Q (.bl (bs.all id)) h
   | none=>False)
  | none=>False)
 | _=>False
def acS (h:Gh)(w:W)(T:String):Option Bool:=match w with
 | .int _=>if T = "int" then Dn true else if T = "bool"\/T = "tuple"\/T = "list" then Dn false else Go
 | .bl _=>if T = "int"\/T = "bool" then Dn true else if T = "tuple"\/T = "list" then Dn false else Go
 | .str _=>if T = "int"\/T = "bool"\/T = "tuple"\/T = "list" then Dn false else Go
 | .non=>if T = "int"\/T = "bool"\/T = "tuple"\/T = "list" then Dn false else Go
 | .tup _=>if T = "tuple" then Dn true else if T = "int"\/T = "bool"\/T = "list" then Dn false else Go
 | w=>(match eU h w with
  | some _=>if T = "list" then Dn true else if T = "int"\/T = "bool"\/T = "tuple" then Dn false else Go
  | none=>Go)
theorem zcl {H:Hp}{h:Gh}{w:W}{v:V}{T:String}{b:Bool}(R:G5 K μ H h)(r:Bq K H μ w v)(e:acS h w T=Dn b):afk K H v T b:=by
 unfold acS at e;split at e
 subst r;split at e
 rename_i t;subst t;cases e;exact .inl ⟨rfl,rfl⟩;split at e
 rename_i t;cases e;rcases t with t|t|t<;>subst t
 exact .inr<|.inl ⟨rfl,rfl⟩
 exact .inr<|.inr<|.inl ⟨rfl,rfl⟩
 exact .inr<|.inr<|.inr ⟨rfl,rfl⟩
 cases e;subst r;split at e
 rename_i t;cases e;rcases t with t|t<;>subst t
 exact .inl ⟨rfl,rfl⟩;exact .inr<|.inl ⟨rfl,rfl⟩
 split at e
 rename_i t;cases e;rcases t with t|t<;>subst t
 exact .inr<|.inr<|.inl ⟨rfl,rfl⟩
 exact .inr<|.inr<|.inr ⟨rfl,rfl⟩
 cases e;subst r;split at e
 rename_i t;cases e;rcases t with t|t|t|t<;>subst t
 exact .inl ⟨rfl,rfl⟩;exact .inr<|.inl ⟨rfl,rfl⟩
 exact .inr<|.inr<|.inl ⟨rfl,rfl⟩
 exact .inr<|.inr<|.inr ⟨rfl,rfl⟩
 cases e;subst r;split at e
 rename_i t;cases e;rcases t with t|t|t|t<;>subst t
 exact .inl ⟨rfl,rfl⟩;exact .inr<|.inl ⟨rfl,rfl⟩
 exact .inr<|.inr<|.inl ⟨rfl,rfl⟩
 exact .inr<|.inr<|.inr ⟨rfl,rfl⟩
 cases e;obtain⟨p,xs,ev,hs,_⟩:=r;subst ev;refine .inl ⟨xs,hs,?_⟩;split at e
 rename_i t;subst t;cases e;exact .inr (.inr (.inl ⟨rfl,rfl⟩));split at e
 rename_i t;cases e;rcases t with t|t|t<;>subst t
 exact .inl ⟨rfl,rfl⟩;exact .inr<|.inl ⟨rfl,rfl⟩
 exact .inr<|.inr<|.inr ⟨rfl,rfl⟩
 cases e;split at e
 rename_i ws ev;obtain⟨p,xs,ex,hs,_⟩:=cY R r ev;subst ex;refine .inr ⟨xs,hs,?_⟩;split at e
 rename_i t;subst t;cases e;exact .inr (.inr (.inr ⟨rfl,rfl⟩));split at e
 rename_i t;cases e;rcases t with t|t|t<;>subst t
 exact .inl ⟨rfl,rfl⟩;exact .inr<|.inl ⟨rfl,rfl⟩
 exact .inr<|.inr<|.inl ⟨rfl,rfl⟩
 cases e;cases e
def GQ:MC:=λws h Q=>match ws with
 | [w,.ty T]=>(match acS h w T with
  | some b=>Q (.bl b) h
  | none=>False)
 | _=>False
theorem wz:fQ X (.builtin "isinstance") GQ:=⟨_,ahJ,by
 intro H μ h vs ws Qw Q R r m k;unfold GQ at m;split at m
 split at m
 rename_i w T _ b eb;obtain⟨v,x,e,rv,rx⟩:=Bc r;subst e rx;exact⟨v,T,b,rfl,(zcl R rv eb),k _ _<|.bl R m⟩;cases m;cases m⟩
def iB:MC:=λws h Q=>match ws with
 | [.tup us]=>Q (.tup us) h
 | [w]=>(match eU h w with
  | some us=>Q (.tup us) h
  | none=>False)
 | _=>False
theorem gY:fQ X (.type "tuple") iB:=⟨_,wQ,by
 intro H μ h vs ws Qw Q R r m k;unfold iB at m;split at m
 obtain⟨v,e,rv⟩:=fV r;have rv':=rv;obtain⟨p,xs,ex,hs,rs⟩:=rv;subst e ex;exact⟨p,xs,rfl,.inr ⟨hs,k _ _ ⟨μ,_,h,.refl,R,rv',m⟩⟩⟩;split at m
 rename_i w _ _ us ev;obtain⟨v,e,rv⟩:=fV r;obtain⟨p,ys,ex,hs,rs⟩:=cY R rv ev;subst e ex;exact⟨p,ys,rfl,.inl ⟨hs,λl hl=>k _ _ ⟨μ,_,h,(Ex.laid hl).ext,R.laid hl,.tupNew hl rs,m⟩⟩⟩;cases m;cases m⟩
def qI:MC:=λws h Q=>match ws with
 | [w]=>(match view h w with
  | some us=>Q (.lst us) h
  | none=>False)
 | _=>False
theorem rZ:fQ X (.type "list") qI:=⟨_,zae,by
 intro H μ h vs ws Qw Q R r m k;unfold qI at m;split at m
 split at m
 rename_i w _ xs ev;obtain⟨v,e,rv⟩:=fV r;obtain⟨p,ys,ex,hs,rs⟩:=Ce R rv ev;subst e ex;exact⟨p,ys,rfl,hs,λl hl=>k _ _ ⟨μ,_,h,(Ex.laid hl).ext,R.laid hl,.lstNew R hl rs,m⟩⟩;exact m.elim;cases m⟩
abbrev MM:=W->List W->Gh->WK->Prop
def Qz (K:Bl)(r:V->List V->Hp->VK->Prop)(mr:MM):Prop:=∀{H:Hp}{μ:Mu}{h:Gh}{x:V}{vs:List V}{wx:W}{ws:List W}{Qw:WK}{Q:VK},G5 K μ H h->Bq K H μ wx x->aW K H μ ws vs->mr wx ws h Qw->(∀v H',DQ K H μ Qw v H'->Q v H')->r x vs H Q
def Ak (h:Gh)(w:W)(P:Prop):Prop:=match w with
 | .loc n=>(match h.c n with
  | some (.lst _)=>P
  | _=>False)
 | _=>False
theorem rm {H:Hp}{h:Gh}{w:W}{v:V}{P:Prop}(R:G5 K μ H h)(r:Bq K H μ w v)(e:Ak h w P):tyV K "list" v H/\P:=by
 unfold Ak at e;split at e
 split at e
 rename_i n _ ws ec;obtain⟨p,ev,hm⟩:=r;obtain⟨p',xs,hm',hx,rs⟩:=R.lstAt ec;have ep:=by rw[hm]at hm';exact(IV hm').symm
 subst ep ev;exact⟨.inl ⟨rfl,xs,.of hx⟩,e⟩;cases e;cases e
def zF (r:MM)(mo:ME)(ma:MA):ME:=λU h Q=>mo U h λx h1=>Ak h1 x (ma U h1 λxs h2=>r x xs h2 Q)
def Rz (r:MM)(mo:ME):ME:=λU h Q=>mo U h λx h1=>Ak h1 x (r x [] h1 Q)
variable {o e:Expr}{es:List Expr}{mo:ME}{ma:MA}{name:Str}{apos amF:Pos}{id:String}{r:V->List V->Hp->VK->Prop}{mr:MM}
theorem ac9 (slot:Slot "list" name id)(hty:typeOf (.builtin id)=pure (.type "method_descriptor"))(hm:R6 X id r)(hs:Qz X.K r mr)(ho:DE X o mo)(ha:KR X (e::es) ma)
  (hbase:Qo o name X.env (eval o X.env)=eval o X.env:=by rfl)
  (hfew:((J1 amF (Ca (e::es) X.env)).all (λx=>!x.1)&&(RL amF (RM [] X.env)).all (λx=>x.1.isSome)
   && decide ((e::es).length+([]:List MH).length+(if([]:List MH).isEmpty then 0 else 1)<30))=true:=by rfl)
  (hline:(apos.endLine==amF.line)=true:=by rfl) (hst:Ca (e::es) X.env=(false,eval e X.env)::Ca es X.env:=by rfl) (hplain:(J1 amF (Ca es X.env)).any (·.1)=false:=by rfl) :
  DE X (.Call (.Attribute o name apos) (e::es) [] amF) (zF mr mo ma):=(aco PySem.F.plainAttrs_list slot hty hm ho ha hbase hfew hline hst hplain).of λU H Q ⟨μ,h,Uw,Qw,R,S,m,k⟩=>by
 exact⟨μ,h,Uw,_,R,S,m,λv H1 ⟨μ1,w,h1,e1,R1,r1,il⟩=>⟨(rm R1 r1 il).1,μ1,h1,Uw,_,R1,S.ext e1,((rm R1 r1 il).2),λvs H2 ⟨μ2,ws,h2,e2,R2,r2,m2⟩=>hs R2 (e2.r _ _ r1) r2 m2 λv H' z=>k _ _<|(z.trans e2).trans e1⟩⟩
theorem adF (slot:Slot "list" name id)(hty:typeOf (.builtin id)=pure (.type "method_descriptor"))(hm:R6 X id r)(hs:Qz X.K r mr)(ho:DE X o mo)
  (hbase:Qo o name X.env (eval o X.env)=eval o X.env:=by rfl) (hline:(apos.endLine==amF.line)=true:=by rfl) :
  DE X (.Call (.Attribute o name apos) [] [] amF) (Rz mr mo):=(aaF PySem.F.plainAttrs_list slot hty hm ho hbase hline).of λU H Q ⟨μ,h,Uw,Qw,R,S,m,k⟩=>by
 exact⟨μ,h,Uw,_,R,S,m,λv H1 ⟨μ1,w,h1,e1,R1,r1,il⟩=>⟨(rm R1 r1 il).1,(hs R1 r1 .nil ((rm R1 r1 il).2) λv H' z=>k _ _<|z.trans e1)⟩⟩
def fL:MM:=λx ws h Q=>match x,ws with
 | .loc n,[w]=>(match h.c n with
  | some (.lst us)=>us.length<G6/\Q .non (h.set n (.lst (us++[w])))
  | _=>False)
 | _,_=>False
theorem Ht {H:Hp}{h:Gh}{n:Nat}{v:V}{us:List W}(R:G5 K μ H h)(r:Bq K H μ (.loc n) v)(ec:h.c n=Dn (.lst us)):∃p xs,v=.ref p/\μ.f n=Dn p/\H p=Dn (.lst xs)/\aW K H μ us xs:=by
 obtain⟨p,ev,hm⟩:=r;obtain⟨p',xs,hm',hx,rs⟩:=R.lstAt ec;grind
theorem DQ.wrote {H:Hp}{h:Gh}{n:Nat}{p:Addr}{us:List W}{xs:List V}{Q:WK}{w:W}{v:V}(R:G5 K μ H h)(hm:μ.f n=Dn p)(rs:aW K H μ us xs)(rw':Bq K H μ w v)(q:Q w (h.set n (.lst us))):DQ K H μ Q v (G7 H p (.lst xs)):=
 ⟨μ,w,h.set n (.lst us),(Ex.write R hm).ext,R.write hm trivial ⟨xs,bD,(Ex.write R hm).ext.s rs⟩,(Ex.write R hm).ext.r _ _ rw',q⟩
theorem ajX:Qz K Lq fL:=by
 intro H μ h x vs wx ws Qw Q R rx rs m k;unfold fL at m;split at m
 split at m
 rename_i n w _ us ec;obtain⟨p,xs,ex,hm,hx,r1⟩:=Ht R rx ec;obtain⟨v,ev,rv⟩:=fV rs;exact⟨p,xs,v,ex,ev,hx,r1.len ▸ m.1,k _ _<|.wrote R hm (r1.append<|.one rv) (by rw[Bq]) m.2⟩;cases m;cases m
def aaU:MM:=λx ws h Q=>match x,ws with
 | .loc n,[]=>(match h.c n with
  | some (.lst us)=>(match us[us.length-1]? with
   | some w=>Q w (h.set n (.lst us.dropLast))
   | none=>False)
  | _=>False)
 | _,_=>False
theorem aW.dropLast {H:Hp}{μ:Mu}{ws:List W}{xs:List V}(r:aW K H μ ws xs):aW K H μ ws.dropLast xs.dropLast:=by
 rw[List.dropLast_eq_take,List.dropLast_eq_take,<-r.len];exact r.take _
theorem s_pop:Qz K afD aaU:=by
 intro H μ h x vs wx ws Qw Q R rx rs m k;unfold aaU at m;split at m
 split at m
 split at m
 rename_i n _ us ec _ w ew;obtain⟨p,xs,ex,hm,hx,r1⟩:=Ht R rx ec;obtain⟨v,ev,rv⟩:=r1.get ew;exact⟨p,xs,v,ex,rs,hx,r1.len ▸ ev,k _ _<|.wrote R hm r1.dropLast rv m⟩;cases m;cases m;cases m
theorem jm (ho:DE X o mo)(ha:KR X [e] ma)
  (hbase:Qo o "append" X.env (eval o X.env)=eval o X.env:=by rfl)
  (hfew:((J1 amF (Ca [e] X.env)).all (λx=>!x.1)&&(RL amF (RM [] X.env)).all (λx=>x.1.isSome)
   && decide (([e]:List Expr).length+([]:List MH).length+(if([]:List MH).isEmpty then 0 else 1)<30))=true:=by rfl)
  (hline:(apos.endLine==amF.line)=true:=by rfl) (hst:Ca [e] X.env=(false,eval e X.env)::Ca [] X.env:=by rfl) (hplain:(J1 amF (Ca [] X.env)).any (·.1)=false:=by rfl) :
  DE X (.Call (.Attribute o "append" apos) [e] [] amF) (zF fL mo ma):=ac9 PySem.F.slot_list_append PySem.F.type_list_append zm ajX ho ha hbase hfew hline hst hplain
theorem adA (ho:DE X o mo)(hbase:Qo o "pop" X.env (eval o X.env)=eval o X.env:=by rfl)(hline:(apos.endLine==amF.line)=true:=by rfl):
  DE X (.Call (.Attribute o "pop" apos) [] [] amF) (Rz aaU mo):=adF PySem.F.slot_list_pop PySem.F.type_list_pop aa9 s_pop ho hbase hline
end
section
variable {X:Cx}{K:Bl}
theorem acw:K3 X (O2 .Is) (λx y H Q=>∃c b,x=.bl c/\y=.bl b/\Q (.bl (c==b)) H):=by
 intro amD s U H x y v u Q I rx ry ⟨c,b,ex,ey,q⟩;subst ex ey;cases rx;cases ry;exact is_bool<|u0 I q rfl
theorem ahI:K3 X (O2 .IsNot) (λx y H Q=>∃c b,x=.bl c/\y=.bl b/\Q (.bl (!(c==b))) H):=by
 intro amD s U H x y v u Q I rx ry ⟨c,b,ex,ey,q⟩;subst ex ey;cases rx;cases ry;exact Bv<|u0 I q (by cases c<;>cases b<;>rfl)
def V1:W->Bool
 | .non=>true
 | _=>false
theorem IW {H:Hp}{w:W}{v:V}(r:Bq K H μ w v):decide (v=.non)=V1 w:=by
 cases w with
 | non|bl _|int _|str _|ty _|fnv _ _=>rw[Bq]at r;subst r;rfl
 | tup _|lst _|kls _=>rw[Bq]at r;obtain⟨_,_,e,_⟩:=r;subst e;rfl
 | loc _=>rw[Bq]at r;obtain⟨_,e,_⟩:=r;subst e;rfl
 | exc _=>rw[Bq]at r;obtain⟨_,_,_,e,_⟩:=r;subst e;rfl
 | exa _ _=>rw[Bq]at r;obtain⟨_,_,_,_,_,_,e,_⟩:=r;subst e;rfl
def kIs:M2:=λx y h Q=>match x,y with
 | .bl c,.bl b=>Q (.bl (c==b)) h
 | w,.non=>Q (.bl (V1 w)) h
 | _,_=>False
def PK:M2:=λx y h Q=>match x,y with
 | .bl c,.bl b=>Q (.bl (!(c==b))) h
 | w,.non=>Q (.bl (!V1 w)) h
 | _,_=>False
theorem afe:Oe X (O2 .Is) kIs:=⟨_,acw.or Zt,by
 intro H μ h x y wx wy Qw Q R rx ry m k;unfold kIs at m;split at m
 exact .inl ⟨_,_,rx,ry,k _ _<|.bl R m⟩;exact IW rx ▸ .inr ⟨ry,k _ _<|.bl R m⟩;cases m⟩
theorem acy:Oe X (O2 .IsNot) PK:=⟨_,ahI.or akT,by
 intro H μ h x y wx wy Qw Q R rx ry m k;unfold PK at m;split at m
 exact .inl ⟨_,_,rx,ry,k _ _<|.bl R m⟩;exact IW rx ▸ .inr ⟨ry,k _ _<|.bl R m⟩;cases m⟩
theorem zaA (bs:List Bool):((Ji bs.length).any λi=>(bs[i]?).getD true)=bs.any id:=by
 rw[XQ,VR,VR];constructor;rintro⟨i,hi,e⟩;have hi':=UG.mp hi;exact⟨bs[i],RQ hi',by simpa[hi']using e⟩;rintro⟨b,hb,e⟩;obtain⟨i,hi,rfl⟩:=X3.mp hb;exact⟨i,UG.mpr hi,by simpa[hi]using e⟩
theorem ahA (hc:X.calm=true):gq X (.builtin "any") (λxs H Q=>∃(p:Addr) (bs:List Bool),xs=[.ref p]/\JH X.K H p (bs.map V.bl)/\Q (.bl (bs.any id)) H):=by
 intro amD s U H xs us Q I r ⟨p,bs,e,hS,q⟩;subst e;obtain⟨u,rfl,ru⟩:=vals1 r;cases ru;obtain⟨its,rv,pl,hz⟩:=I.list hS;have amE:its.length=bs.length:=by rw[<-rv.length,CV]
 have hl:=pl.isList;refine call_any_walk<|XS hl ?_
 refine⟨s.heap.objs.size,[s.heap.objs.size,p],[s.heap.objs.size],its.toArray.size,_,_,λi=>(bs[i]?).getD true,rfl,Walks.list (A:=X.A.in1) (I.ok.hd hc) _ p (Jl (by obtain⟨_,e,_⟩:=hl;exact GK e)) _,
  ⟨⟨_,JB _ rfl,rfl,rfl⟩,hl.push _⟩,λi v s' Q' E' hP hQ=>?_,λh' tk hk=>?_⟩
 obtain⟨b,e,rfl⟩:=yX rv (by simpa using hP);simp[e]at hQ;exact Xl hQ;have e:((Ji its.toArray.size).any λi=>(bs[i]?).getD true)=bs.any id:=by
  rw[Jr,amE];exact zaA bs
 rw[e];refine⟨.bl _,H,I.kept<|λb x e=>?_,rfl,q⟩;exact hk b x (λhm=>by rw[Q0.mp hm]at e;exact Qd _ (GK e))<|GP _ e
def Zo:MC:=λws h Q=>match ws with
 | [w]=>(match eU h w with
  | some us=>(match Ox us with
   | some bs=>Q (.bl (bs.any id)) h
   | none=>False)
  | none=>False)
 | _=>False
theorem abL (hc:X.calm=true):fQ X (.builtin "any") Zo:=⟨_,ahA hc,by
 intro H μ h vs ws Qw Q R r m k;unfold Zo at m;split at m
 split at m
 split at m
 rename_i w _ us ev _ bs eb;obtain⟨v,e,rv⟩:=fV r;obtain⟨p,ys,ex,hs,rs⟩:=cY R rv ev;subst e ex;exact⟨p,bs,rfl,La rs eb ▸ hs,k _ _<|.bl R m⟩;cases m;cases m;cases m⟩
theorem zbP:K3 X (Nu .Add) (λx y H Q=>∃a b ys,x=.ref a/\y=.ref b/\Hi X.K H a []/\Hi X.K H b ys/\Q (.ref b) H):=by
 intro amD s U H x y v u Q I rx ry ⟨a,b,ys,ex,ey,ha,hb,q⟩;subst ex ey;cases rx;cases ry;obtain⟨its,r1,p1,_⟩:=I.tuple ha;obtain⟨jts,r2,p2,_⟩:=I.tuple hb;cases r1;obtain⟨⟨cls,dd,data,sl⟩,ho,hc,n,hd⟩:=p1;obtain⟨⟨cls2,dd2,data2,sl2⟩,ho2,hc2,n2,hd2⟩:=p2;subst hc hd hc2 hd2;exact concat_meets ⟨_,ho,rfl⟩ ⟨_,ho2,rfl⟩ noFill_tuple_add seq_tuple_add PySem.F.slot_tuple_add PySem.F.entry_tuple_add (PySem.F.args_tuple_add_2 _ _)
  (tuple_addW0 a b _ _ n n2 dd dd2 sl sl2 (by simp)) ⟨ho,ho2,.ref b,H,I,rfl,q⟩
def aa2 (h:Gh):W->Option (List W)
 | .lst ws=>Dn ws
 | .loc n=>(match h.c n with
  | some (.lst ws)=>Dn ws
  | _=>Go)
 | _=>Go
theorem Cg {H:Hp}{h:Gh}{w:W}{v:V}(R:G5 K μ H h)(r:Bq K H μ w v)(e:aa2 h w=Dn ws):∃p xs,v=.ref p/\H p=Dn (.lst xs)/\aW K H μ ws xs:=by
 cases w with
 | lst us=>
  obtain⟨p,xs,ev,hs,rs⟩:=r;cases e;exact⟨p,xs,ev,hs.1,rs⟩
 | loc n=>
  unfold aa2 at e;dsimp only at e;cases ec:h.c n with
  | none=>rw[ec]at e;cases e
  | some cl=>
   rw[ec]at e;cases cl with
   | lst us=>
    cases e;obtain⟨p,xs,ev,_,hx,rs⟩:=Ht R r ec;grind
   | _=>cases e
 | _=>cases e
def cO:M2:=λx y h Q=>match x,y with
 | .int i,.int j=>Q (.int (i+j)) h
 | .tup [],.tup b=>Q (.tup b) h
 | .tup (a0::a),.tup b=>gn (a.length+1+b.length) (Q (.tup (a0::a++b)) h)
 | x,y=>(match aa2 h x,aa2 h y with
  | some a,Dn b=>gn (a.length+b.length) (Q (.lst (a++b)) h)
  | _,_=>False)
theorem cF:Oe X (Nu .Add) cO:=⟨_,(abv.or (zbP.or akh)).or abq,by
 intro H μ h x y wx wy Qw Q R rx ry m k;unfold cO at m;split at m
 exact .inl<|.inl ⟨_,_,rx,ry,k _ _<|.int R m⟩
 have ry':=ry;obtain⟨p,xs,ex,hx,r1⟩:=rx;obtain⟨q,ys,ey,hy,r2⟩:=ry;subst r1;rw[ey]at ry';exact .inl<|.inr<|.inl ⟨p,q,ys,ex,ey,hx,hy,k _ _ ⟨μ,_,h,.refl,R,ry',m⟩⟩
 rename_i a0 a b;have rx':=rx;obtain⟨p,xs,ex,hx,r1⟩:=rx;obtain⟨q,ys,ey,hy,r2⟩:=ry;refine .inl<|.inr<|.inr ⟨p,q,xs,ys,ex,ey,hx,hy,λz=>(by have:=r1.ne_nil.mp z;cases this),by rw[<-r1.len,<-r2.len];exact m.ok.1,λz=>?_,λz l hl=>?_⟩
 cases r2.ne_nil.mp z
 refine k _ _ ⟨μ,.tup _,h,.refl,R,?_,m.ok.2⟩
 rwa[List.append_nil,<-ex]
 exact k _ _ ⟨μ,_,h,(Ex.laid hl).ext,R.laid hl,.tupNew hl<|r1.append r2,m.ok.2⟩;split at m
 rename_i a b ea eb;obtain⟨p,xs,ex,hx,r1⟩:=Cg R rx ea;obtain⟨q,ys,ey,hy,r2⟩:=Cg R ry eb;exact .inr ⟨p,q,xs,ys,ex,ey,hx,hy,by rw[<-r1.len,<-r2.len];exact m.ok.1,λl hl=>k _ _ ⟨μ,_,h,(Ex.laid hl).ext,R.laid hl,.lstNew R hl<|r1.append r2,m.ok.2⟩⟩;cases m⟩
def jR:MM:=λx ws h Q=>match x,ws with
 | .loc n,[w]=>(match h.c n,aa2 h w with
  | some (.lst us),Dn zs=>gn (us.length+zs.length) (Q .non (h.set n (.lst (us++zs))))
  | _,_=>False)
 | _,_=>False
theorem zbp:Qz K Oq jR:=by
 intro H μ h x vs wx ws Qw Q R rx rs m k;unfold jR at m;split at m
 split at m
 rename_i n w _ _ us zs ec ez;obtain⟨p,xs,ex,hm,hx,r1⟩:=Ht R rx ec;obtain⟨v,ev,rv⟩:=fV rs;obtain⟨q,ys,ey,hy,r2⟩:=Cg R rv ez;subst ey;exact⟨p,q,xs,ys,ex,ev,hx,hy,by rw[<-r1.len,<-r2.len];exact m.ok.1,k _ _<|.wrote R hm (r1.append r2) (by rw[Bq]) m.ok.2⟩;cases m;cases m
variable {o e:Expr}{mo:ME}{ma:MA}{apos amF:Pos}
theorem zbS (ho:DE X o mo)(ha:KR X [e] ma)
  (hbase:Qo o "extend" X.env (eval o X.env)=eval o X.env:=by rfl)
  (hfew:((J1 amF (Ca [e] X.env)).all (λx=>!x.1)&&(RL amF (RM [] X.env)).all (λx=>x.1.isSome)
   && decide (([e]:List Expr).length+([]:List MH).length+(if([]:List MH).isEmpty then 0 else 1)<30))=true:=by rfl)
  (hline:(apos.endLine==amF.line)=true:=by rfl) (hst:Ca [e] X.env=(false,eval e X.env)::Ca [] X.env:=by rfl) (hplain:(J1 amF (Ca [] X.env)).any (·.1)=false:=by rfl) :
  DE X (.Call (.Attribute o "extend" apos) [e] [] amF) (zF jR mo ma):=ac9 PySem.F.slot_list_extend PySem.F.type_list_extend zaV zbp ho ha hbase hfew hline hst hplain
end
def Xg (K:Bl):Sp:=λvs H Q _=>∃(a:Addr) (ns:List Int),vs=[.ref a]/\JH K H a (ns.map V.int)/\Only H/\ns.length<=63/\∀H',Q (.bl true) H'
def g0:Gh:=⟨0,λ_=>Go⟩
def μ0:Mu:=⟨λ_=>Go,λ_=>False⟩
theorem aeh {K:Bl}{H:Hp}:G5 K μ0 H g0 where
 inj:=nofun
 dom:=nofun
 trk:=nofun
 cel:=nofun
 hd:=λp h=>False.elim h
theorem uw {K:Bl}{H:Hp}{μ:Mu}:∀ns:List Int,aW K H μ (ns.map W.int) (ns.map V.int)
 | []=>.nil
 | n::ns=>.cons (by rw[Bq]) (uw ns)
theorem akg {P:Ci}{w:CZ}{K:Bl}{mg:Str->Option JI}{base:Heap}{k:Nat}{f:Addr}{fd:Oh}{ps:List Str}
  (hm:∀ns:List Int,ns.length<=63->ms [.kls (ns.map W.int)] g0 (λw _=>w=.bl true) EF) (F:sE P w K mg base QF k f fd ps (lift K ms)):sE P w K mg base QF k f fd ps (Xg K):=
 F.imp λvs H Q E ⟨a,ns,e,hS,hO,hl,q⟩=>by
  subst e;refine⟨μ0,g0,[.kls _],_,aeh,.one ?_,hm ns hl,λv H' ⟨μ',w',h',_,_,r,e⟩=>?_⟩;refine⟨a,ns.map _,rfl,?_,uw ns⟩;rcases hS with(hS|hS)|hS
  rcases hO a with z|⟨o,xs,z⟩<;>rw[hS]at z<;>cases z
  exact .inl hS;exact .inr hS;subst e r;exact q H'
inductive Sk where
 | l|t
def Sk.sq (k:Sk)(h:Heap)(a:Addr)(its:Array JI):Prop:=match k with
 | .l=>h.IsList a its
 | .t=>h.IsTuple a its
def Sk.it (k:Sk)(h:Heap)(i a:Addr)(n:Nat):Prop:=match k with
 | .l=>h.IsListIter i a n
 | .t=>h.IsTupleIter i a n
def Sk.nm:Sk->String
 | .l => "list_iterator"
 | .t => "tuple_iterator"
section
variable {P:Ci}{w:CZ}{A:G4}{E:JI->kI->Prop}{s:kI}{k k1 k2:Sk}
theorem Sk.it_at {h h':Heap}{i a:Addr}{n:Nat}(x:k.it h i a n)(e:∀o,h.get? i=Dn o->h'.get? i=Dn o):k.it h' i a n:=by
 cases k with
 | l|t=>obtain⟨o,ho,r⟩:=x;exact⟨o,e o ho,r⟩
theorem Sk.sq_at {h h':Heap}{a:Addr}{its:Array JI}(x:k.sq h a its)(e:∀o,h.get? a=Dn o->h'.get? a=Dn o):k.sq h' a its:=by
 cases k with
 | l|t=>obtain⟨o,ho,r⟩:=x;exact⟨o,e o ho,r⟩
theorem Sk.it_obj {h:Heap}{i a:Addr}{n:Nat}(x:k.it h i a n):∃o,h.get? i=Dn o/\o.cls=.type k.nm/\o.data=.fields #[.ref a,.int n 0]:=by
 cases k with
 | l|t=>exact x
theorem zbT {it t:Addr}{i:Nat}{its:Array JI}{x:JI}{Q:JI->kI->Prop}(hi:s.heap.IsTupleIter it t i)(ht:s.heap.IsTuple t its)(hx:its[i]?=Dn x)
  (q:∀h',h'.IsTupleIter it t (i+1)->Wa it s.heap h'->Q x {s with heap:=h'}):Bs (CJ P w) A (Wg (.ref it)) Q E s:=by
 obtain⟨o,go,gc,gd⟩:=id hi;obtain⟨ol,gol,_,nl,gdl⟩:=ht;refine Ay (Vy hi.typeIs Z6
  (RN Z6 hi.typeIs PySem.F.entry_tuple_iterator_next ?_ (PySem.F.args_tuple_iterator_next_1 _)))
 show Bs _ _ (field _ 0 >>= _) _ _ s;refine Ay<|N6 go gd rfl<|Ay<|N6 go gd rfl<|Ay<|VB gol gdl ?_
 simp[hx];refine Ay<|Wj go gd (by simp)<|Bv ⟨x,rfl,Bv<|q _ ?_<|Ym ..⟩
 exact⟨_,UW _ go<|Wc<|Vb gd _,(Obj.cls_mapFields ..).trans gc,by rw[Vb gd];simp[Pj]⟩
theorem yE {it t:Addr}{i:Nat}{its:Array JI}{Q:JI->kI->Prop}(hh:A.handled=Go)(hi:s.heap.IsTupleIter it t i)(ht:s.heap.IsTuple t its)(hx:its[i]?=Go)
  (q:∀h' e,XM it s.heap h'->(∃o,h'.get? e=Dn o/\o.cls=.type "StopIteration")->E (.ref e) {s with heap:=h'}):Bs (CJ P w) A (Wg (.ref it)) Q E s:=by
 obtain⟨o,go,gc,gd⟩:=id hi;obtain⟨ol,gol,_,nl,gdl⟩:=ht;refine Ay (Vy hi.typeIs Z6
  (RN Z6 hi.typeIs PySem.F.entry_tuple_iterator_next ?_ (PySem.F.args_tuple_iterator_next_1 _)))
 show Bs _ _ (field (.ref it) 0 >>= _) _ _ s;refine Ay<|N6 go gd rfl ?_
 refine Ay<|N6 go gd rfl ?_
 refine Ay<|VB gol gdl ?_
 simp only[Int.toNat_natCast,hx];refine Ay<|Pu<|Ay<|Wj go gd (by simp) ?_
 refine Ay ?_;refine Ay (m:=Y0 _ _)<|wpAny_of_eq (by first|rfl|(rfl)) ?_
 refine Qu ?_<|by size_fits
 refine Ay<|wpAny_handled ?_
 first|rw[hh]|rw[hh]
 refine Ay<|Bv<|wpAny_throw ?_
 exact q _ _ (((Ym ..).extBut.push _).push _) ⟨_,JB _ rfl,rfl⟩
theorem Sk.next {it a:Addr}{i:Nat}{its:Array JI}{x:JI}{Q:JI->kI->Prop}(hi:k.it s.heap it a i)(hs:k.sq s.heap a its)(hx:its[i]?=Dn x)
  (q:∀h',k.it h' it a (i+1)->Wa it s.heap h'->Q x {s with heap:=h'}):Bs (CJ P w) A (Wg (.ref it)) Q E s:=by
 cases k with
 | l=>exact wpAny_nextOf_list_item hi hs hx q
 | t=>exact zbT hi hs hx q
theorem Sk.stop {it a:Addr}{i:Nat}{its:Array JI}{Q:JI->kI->Prop}(hh:A.handled=Go)(hi:k.it s.heap it a i)(hs:k.sq s.heap a its)(hx:its[i]?=Go)
  (q:∀h' e,XM it s.heap h'->(∃o,h'.get? e=Dn o/\o.cls=.type "StopIteration")->E (.ref e) {s with heap:=h'}):Bs (CJ P w) A (Wg (.ref it)) Q E s:=by
 cases k with
 | l=>exact wpAny_nextOf_list_end hh hi hs hx q
 | t=>exact yE hh hi hs hx q
theorem Sk.iter {a:Addr}{its:Array JI}{Q:JI->kI->Prop}(hs:k.sq s.heap a its)
  (q:Q (.ref s.heap.objs.size) {s with heap:=s.heap.push {cls:=.type k.nm,data:=.fields #[.ref a,.int 0 0]} }):Bs (CJ P w) A (pyIter (.ref a)) Q E s:=by
 cases k with
 | l=>exact XS hs q
 | t=>exact wpAny_pyIter_tuple hs q
structure Zap (z TI TO i1 i2:Addr):Prop where
 a1:TI≠z
 a2:TO≠z
 a3:i1≠z
 a4:i2≠z
 a5:TI≠TO
 a6:TI≠i1
 a7:TI≠i2
 a8:TO≠i1
 a9:TO≠i2
 b1:i1≠i2
structure Off (a z TO i1 i2:Addr):Prop where
 z:a≠z
 o:a≠TO
 i:a≠i1
 j:a≠i2
theorem aiG {z TI TO i1 i2 l1 l2:Addr}{n1 n2:Nat}{xs ys:Array JI}{x y a b:JI}{Q:Option JI->kI->Prop}(D:Zap z TI TO i1 i2)(o1:Off l1 z TO i1 i2)(o2:Off l2 z TO i1 i2)
  (gz:IsZip s.heap z TI TO .none) (gI:Q8 s.heap TI (.ref i1) (.ref i2)) (gO:Q8 s.heap TO a b) (g1:k1.it s.heap i1 l1 n1) (g2:k2.it s.heap i2 l2 n2) (gx:k1.sq s.heap l1 xs) (gy:k2.sq s.heap l2 ys)
  (hx:xs[n1]?=Dn x) (hy:ys[n2]?=Dn y)
  (q:∀h',IsZip h' z TI TO (Pj s.heap.objs.size)->Q8 h' TO x y->k1.it h' i1 l1 (n1+1)->k2.it h' i2 l2 (n2+1)->Q8 h' s.heap.objs.size x y->h'.objs.size=s.heap.objs.size+1 ->
   (∀c o,c≠z->c≠TO->c≠i1->c≠i2->s.heap.get? c=Dn o->h'.get? c=Dn o)->Q (Dn (.ref s.heap.objs.size)) {s with heap:=h'}) :
  Bs (CJ P w) A (pyNext (.ref z)) Q E s:=by
 have gT:s.TypeIs (.ref z) "zip":=⟨_,gz,rfl⟩
 refine Ay<|Xf<|Vy (name:=Str.ofString "__next__") gT Ys<|RN Ys gT PySem.F.entry_zip_next ?_<|PySem.F.args_zip_next_1 _
 show Bs _ _ (field (.ref z) 2 >>= _) _ _ _;refine Ay<|N6 gz rfl (x:=.bool false) rfl ?_
 refine Ay<|N6 gz rfl (x:=.ref TI) rfl ?_
 refine Ay<|VB gI rfl ?_
 refine Ay ?_;refine Ay<|N6 gz rfl (x:=.none) rfl<|Bv ?_
 refine Ay<|Pu ?_
 refine Ay<|N6 gz rfl (x:=.ref TO) rfl ?_
 refine Ay<|Xo gz (by simp) λh₁ z₁ s₁=>?_
 refine Ay ?_
 -- the first one
 refine Ay<|Ay<|wpAny_onRaise ?_
 show Bs _ _ (Wg (.ref i1) >>= _) _ _ _;refine Ay<|Sk.next (k:=k1) (s:={s with heap:=h₁}) (Sk.it_at g1 λo e=>s₁.extBut _ o D.a3 e) (Sk.sq_at gx λo e=>s₁.extBut _ o o1.z e) hx λh₂ g1₂ s₂=>Bv ?_
 have gO₂:Q8 h₂ TO a b:=s₂.extBut _ _ D.a8 (s₁.extBut _ _ D.a2 gO);refine Ay<|VB gO₂ rfl ?_
 refine Ay<|wpAny_updateSeq_pair gO₂ λh₃ gO₃ s₃=>?_
 replace gO₃:Q8 h₃ TO x b:=gO₃;refine Ay<|wpAny_letGo<|Bv ?_
 -- the second one
 refine Ay<|Ay<|wpAny_onRaise ?_
 show Bs _ _ (Wg (.ref i2) >>= _) _ _ _;refine Ay (Sk.next (k:=k2) (s:={s with heap:=h₃}) (Sk.it_at g2 λo e=>s₃.extBut _ o D.a9.symm (s₂.extBut _ o D.b1.symm (s₁.extBut _ o D.a4 e)))
  (Sk.sq_at gy λo e=>s₃.extBut _ o o2.o (s₂.extBut _ o o2.i (s₁.extBut _ o o2.z e))) hy λh₄ g2₄ s₄=>Bv ?_)
 have gO₄:Q8 h₄ TO x b:=s₄.extBut _ _ D.a9 gO₃;refine Ay<|VB gO₄ rfl ?_
 refine Ay<|wpAny_updateSeq_pair gO₄ λh₅ gO₅ s₅=>?_
 replace gO₅:Q8 h₅ TO x y:=gO₅;refine Ay<|wpAny_letGo<|Bv<|Bv ?_
 -- the pair is handed out
 refine Ay<|VB gO₅ rfl ?_
 refine Ay<|wpAny_newTuple ?_
 have size:h₅.objs.size=s.heap.objs.size:=by rw[s₅.1,s₄.1,s₃.1,s₂.1,s₁.1]
 have z₅:IsZip h₅ z TI TO .ellipsis:=s₅.extBut _ _ D.a2.symm (s₄.extBut _ _ D.a4.symm (s₃.extBut _ _ D.a2.symm (s₂.extBut _ _ D.a3.symm z₁)));have all₅:∀c o,c≠z->c≠TO->c≠i1->c≠i2->s.heap.get? c=Dn o->h₅.get? c=Dn o:=λc o c1 c2 c3 c4 e=>s₅.extBut _ _ c2 (s₄.extBut _ _ c4 (s₃.extBut _ _ c2 (s₂.extBut _ _ c3 (s₁.extBut _ _ c1 e))))
 have g1₅:k1.it h₅ i1 l1 (n1+1):=Sk.it_at g1₂ λo e=>s₅.extBut _ o D.a8.symm (s₄.extBut _ o D.b1 (s₃.extBut _ o D.a8.symm e))
 have g2₅:k2.it h₅ i2 l2 (n2+1):=Sk.it_at g2₄ λo e=>s₅.extBut _ o D.a9.symm e
 have zlt:z<h₅.objs.size:=GK z₅;show Bs _ _ (Builtin.SmallTypes.ownedTupleHandOut (.ref z) (.ref h₅.objs.size) >>= _) _ _ _;refine Ay ?_;unfold Builtin.SmallTypes.ownedTupleHandOut;have z₆:IsZip (h₅.push {cls:=.type "tuple",data:=.seq #[x,y]}) z TI TO .ellipsis:=GP _ z₅;refine Ay<|Xo z₆ (by simp) λh₇ z₇ s₇=>?_
 replace z₇:IsZip h₇ z TI TO (Pj h₅.objs.size):=z₇;refine Xo z₇ (by simp) λh₈ z₈ s₈=>?_;replace z₈:IsZip h₈ z TI TO (Pj h₅.objs.size):=z₈;have up:∀c o,c≠z->h₅.get? c=Dn o->h₈.get? c=Dn o:=λc o c1 e=>s₈.extBut _ _ c1 (s₇.extBut _ _ c1 (GP _ e))
 have T₈:Q8 h₈ h₅.objs.size x y:=s₈.extBut _ _ (OJ zlt) (s₇.extBut _ _ (OJ zlt) (JB _ rfl));have size8:h₈.objs.size=h₅.objs.size+1:=by rw[s₈.1,s₇.1,RW]
 rw[size]at z₈ T₈ size8;refine Bv ⟨_,rfl,Bv ?_⟩;show Q (Dn (.ref h₅.objs.size)) _;rw[size];exact q h₈ z₈ (up _ _ D.a2 gO₅) (Sk.it_at g1₅ λo e=>up _ o D.a3 e) (Sk.it_at g2₅ λo e=>up _ o D.a4 e) T₈ size8 λc o c1 c2 c3 c4 e=>up c o c1<|all₅ c o c1 c2 c3 c4 e
theorem zbs {z TI TO i1 i2 l1 l2:Addr}{n1 n2:Nat}{xs ys:Array JI}{a b:JI}{Q:Option JI->kI->Prop}(hh:A.handled=Go)(D:Zap z TI TO i1 i2)(o1:Off l1 z TO i1 i2)(o2:Off l2 z TO i1 i2)
  (gz:IsZip s.heap z TI TO .none) (gI:Q8 s.heap TI (.ref i1) (.ref i2)) (gO:Q8 s.heap TO a b) (g1:k1.it s.heap i1 l1 n1) (g2:k2.it s.heap i2 l2 n2) (gx:k1.sq s.heap l1 xs) (gy:k2.sq s.heap l2 ys)
  (hend:xs[n1]?=Go\/ys[n2]?=Go)
  (q:∀h',(∀c o,c≠z->c≠TO->c≠i1->c≠i2->s.heap.get? c=Dn o->h'.get? c=Dn o)->Q Go {s with heap:=h'}):Bs (CJ P w) A (pyNext (.ref z)) Q E s:=by
 have gT:s.TypeIs (.ref z) "zip":=⟨_,gz,rfl⟩
 have fin:∀(h':Heap) (e:Addr),(∀c o,c≠z->c≠TO->c≠i1->c≠i2->s.heap.get? c=Dn o->h'.get? c=Dn o)->(∃o,h'.get? e=Dn o/\o.cls=.type "StopIteration") ->
   Bs (CJ P w) A (do if <-isInstance (.ref e) (.type "StopIteration")then pure Go else throw (.ref e)) Q E {s with heap:=h'}:=λh' e all ⟨o,ho,hc⟩=>
  Ay (wpAny_isInstance (T := "StopIteration") (b:=true) ⟨o,ho,hc⟩ isSubtype_stop (Bv (q _ all)))
 refine Ay<|Xf<|Vy (name:=Str.ofString "__next__") gT Ys<|RN Ys gT PySem.F.entry_zip_next ?_<|PySem.F.args_zip_next_1 _
 show Bs _ _ (field (.ref z) 2 >>= _) _ _ _;refine Ay<|N6 gz rfl (x:=.bool false) rfl ?_
 refine Ay<|N6 gz rfl (x:=.ref TI) rfl ?_
 refine Ay<|VB gI rfl ?_
 refine Ay ?_;refine Ay<|N6 gz rfl (x:=.none) rfl<|Bv ?_
 refine Ay<|Pu ?_
 refine Ay<|N6 gz rfl (x:=.ref TO) rfl ?_
 refine Ay<|Xo gz (by simp) λh₁ z₁ s₁=>?_
 refine Ay ?_;simp only[List.zipIdx_cons,List.zipIdx_nil,YL,List.forIn_nil];refine Ay<|Ay<|wpAny_onRaise ?_
 show Bs _ _ (Wg (.ref i1) >>= _) _ _ _;have g1₁:k1.it h₁ i1 l1 n1:=Sk.it_at g1 λo e=>s₁.extBut _ o D.a3 e
 have gx₁:k1.sq h₁ l1 xs:=Sk.sq_at gx λo e=>s₁.extBut _ o o1.z e
 cases hx:xs[n1]? with
 | none=>
  refine Ay<|Sk.stop (k:=k1) (s:={s with heap:=h₁}) hh g1₁ gx₁ hx λh₂ e s₂ he=>?_
  obtain⟨oe,hoe,hce⟩:=he;have z₂:IsZip h₂ z TI TO .ellipsis:=s₂ _ _ D.a3.symm z₁;have ez:e≠z:=λy=>by subst y;rw[z₂]at hoe;cases hoe;simp at hce
  refine Xo z₂ (by simp) λh₃ _ s₃=>fin h₃ e (λc o c1 _ c3 _ y=>s₃.extBut _ _ c1<|s₂ _ _ c3<|s₁.extBut _ _ c1 y) ⟨oe,s₃.extBut _ _ ez hoe,hce⟩
 | some x=>
  have hy:ys[n2]?=Go:=by
   rcases hend with h|h
   rw[hx]at h;cases h;exact h
  refine Ay<|Sk.next (k:=k1) (s:={s with heap:=h₁}) g1₁ gx₁ hx λh₂ g1₂ s₂=>Bv ?_
  have gO₂:Q8 h₂ TO a b:=s₂.extBut _ _ D.a8 (s₁.extBut _ _ D.a2 gO);refine Ay<|VB gO₂ rfl ?_
  refine Ay<|wpAny_updateSeq_pair gO₂ λh₃ gO₃ s₃=>?_
  refine Ay<|wpAny_letGo<|Bv ?_
  refine Ay<|Ay<|wpAny_onRaise ?_
  show Bs _ _ (Wg (.ref i2) >>= _) _ _ _;refine Ay (Sk.stop (k:=k2) (s:={s with heap:=h₃}) hh (Sk.it_at g2 λo e=>s₃.extBut _ o D.a9.symm (s₂.extBut _ o D.b1.symm (s₁.extBut _ o D.a4 e)))
   (Sk.sq_at gy λo e=>s₃.extBut _ o o2.o (s₂.extBut _ o o2.i (s₁.extBut _ o o2.z e))) hy λh₄ e s₄ he=>?_)
  obtain⟨oe,hoe,hce⟩:=he;have z₄:IsZip h₄ z TI TO .ellipsis:=s₄ _ _ D.a4.symm (s₃.extBut _ _ D.a2.symm (s₂.extBut _ _ D.a3.symm z₁));have ez:e≠z:=λy=>by subst y;rw[z₄]at hoe;cases hoe;simp at hce
  refine Xo z₄ (by simp) λh₅ _ s₅=>fin h₅ e (λc o c1 c2 c3 c4 y=>s₅.extBut _ _ c1<|s₄ _ _ c4<|s₃.extBut _ _ c2<|s₂.extBut _ _ c3<|s₁.extBut _ _ c1 y) ⟨oe,s₅.extBut _ _ ez hoe,hce⟩
abbrev zh1 (k1:Sk)(h:Heap)(l1:Addr):Heap:=h.push {cls:=.type k1.nm,data:=.fields #[.ref l1,.int 0 0]}
abbrev zh2 (k1 k2:Sk)(h:Heap)(l1 l2:Addr):Heap:=(zh1 k1 h l1).push {cls:=.type k2.nm,data:=.fields #[.ref l2,.int 0 0]}
abbrev zh3 (k1 k2:Sk)(h:Heap)(l1 l2:Addr):Heap:=(zh2 k1 k2 h l1 l2).push {cls:=.type "tuple",data:=.seq #[.ref h.objs.size,.ref (zh1 k1 h l1).objs.size]}
abbrev zh4 (k1 k2:Sk)(h:Heap)(l1 l2:Addr):Heap:=(zh3 k1 k2 h l1 l2).push {cls:=.type "tuple",data:=.seq #[.none,.none]}
abbrev zh5 (k1 k2:Sk)(h:Heap)(l1 l2:Addr):Heap:=(zh4 k1 k2 h l1 l2).push {cls:=.type "zip",data:=.fields #[.none,.bool false,.bool false,.ref (zh2 k1 k2 h l1 l2).objs.size,.ref (zh3 k1 k2 h l1 l2).objs.size]}
theorem ajm (l1 l2:Addr)(xs ys:Array JI):Meets (Wh.«zip.__new__» ⟨[.type "zip",.ref l1,.ref l2],[]⟩) (λ_ R s=>k1.sq s.heap l1 xs/\k2.sq s.heap l2 ys /\
   R (.ok (.ret (.ref (zh4 k1 k2 s.heap l1 l2).objs.size))) {s with heap:=zh5 k1 k2 s.heap l1 l2}):=
 .of_wp λprog w A R s h=>by
  obtain⟨hp,g,d,tk,os⟩:=s;obtain⟨gl1,gl2,h⟩:=h;have hsub:=sub_zip;have L1:k1.sq (Shared.heap ⟨hp,g,d,tk,os⟩) l1 xs:=gl1;have L2':k2.sq (Shared.heap ⟨hp.push {cls:=.type k1.nm,data:=.fields #[.ref l1,.int 0 0]},g,d,tk,os⟩) l2 ys:=Sk.sq_at gl2 λo e=>GP _ e
  wp_walk using Sk.iter L1,Sk.iter L2'
  exact⟨_,rfl,h⟩
theorem aiT {l1 l2:Addr}{xs ys:Array JI}{Q:JI->kI->Prop}(gl1:k1.sq s.heap l1 xs)(gl2:k2.sq s.heap l2 ys)
  (q:∀h',IsZip h' (s.heap.objs.size+4) (s.heap.objs.size+2) (s.heap.objs.size+3) .none->Q8 h' (s.heap.objs.size+2) (.ref s.heap.objs.size) (.ref (s.heap.objs.size+1)) ->
   Q8 h' (s.heap.objs.size+3) .none .none->k1.it h' s.heap.objs.size l1 0->k2.it h' (s.heap.objs.size+1) l2 0->h'.objs.size=s.heap.objs.size+5 ->
   (∀c o,s.heap.get? c=Dn o->h'.get? c=Dn o)->Q (.ref (s.heap.objs.size+4)) {s with heap:=h'}):Bs (CJ P w) A (call (.type "zip") [.ref l1,.ref l2]) Q E s:=by
 refine callType_new PySem.F.called_zip (by decide) (PySem.F.typeCall_zip_2 _ _) (PySem.F.newCall_zip_2 _ _) (λobj=>PySem.F.args_object_init_3 obj _ _) PySem.F.entry_zip_new (ajm l1 l2 xs ys) ⟨gl1,gl2,?_⟩;have e1:(zh1 k1 s.heap l1).objs.size=s.heap.objs.size+1:=RW ..;have e2:(zh2 k1 k2 s.heap l1 l2).objs.size=s.heap.objs.size+2:=by rw[RW,e1]
 have e3:(zh3 k1 k2 s.heap l1 l2).objs.size=s.heap.objs.size+3:=by rw[RW,e2]
 have e4:(zh4 k1 k2 s.heap l1 l2).objs.size=s.heap.objs.size+4:=by rw[RW,e3]
 have f5:(zh5 k1 k2 s.heap l1 l2).get? (zh4 k1 k2 _ l1 l2).objs.size=Dn _:=JB _ rfl;have f4:(zh5 k1 k2 s.heap l1 l2).get? (zh3 k1 k2 _ l1 l2).objs.size=Dn _:=GP _ (JB _ rfl);have f3:(zh5 k1 k2 s.heap l1 l2).get? (zh2 k1 k2 _ l1 l2).objs.size=Dn _:=GP _ (GP _ (JB _ rfl));have f2:(zh5 k1 k2 s.heap l1 l2).get? (zh1 k1 s.heap l1).objs.size=Dn _:=GP _ (GP _ (GP _ (JB _ rfl)));have f1:(zh5 k1 k2 _ l1 l2).get? s.heap.objs.size=Dn _:=GP _ (GP _ (GP _ (GP _ (JB _ rfl))));rw[e2,e3,e4]at f5;rw[e1,e2]at f3;rw[e3]at f4;rw[e1]at f2;rw[e4];refine⟨⟨_,f5,rfl⟩,q _ f5 f3 f4 ?_ ?_ (by rw[RW,e4]) λc o x=>GP _<|GP _<|GP _<|GP _<|GP _ x⟩
 ·cases k1 with
  | l=>exact⟨_,f1,rfl,rfl⟩
  | t=>exact⟨_,f1,rfl,rfl⟩
 ·cases k2 with
  | l=>exact⟨_,f2,rfl,rfl⟩
  | t=>exact⟨_,f2,rfl,rfl⟩
end
section
variable {X:Cx}{amD:List (Addr×Obj)}{U:St}{H:Hp}{s:kI}{h':Heap}
theorem BJ.turnedL {t':Nat}{ch:List Addr}(I:BJ X amD U H s)(k:∀b o,b∉ch->s.heap.get? b=Dn o->h'.get? b=Dn o)(hf:∀b∈ch,Ia X amD H b):BJ X amD U H {s with heap:=h',toks:=t'}:=by
 have nit:∀b u,H b=Dn u->b∉ch:=λb u e z=>by rw[(hf b z).1]at e;cases e
 refine I.step (λb hb=>?_) (λb o _ _ hc e _=>k b o hc e) (λb o _ _ hc e _=>⟨o.slots,k b o hc e⟩) (λ_ _ _ _ n=>n)
  (λb o hc e=>⟨o,k b o hc e⟩) (λ_ _ e=>e) (λ_ _ _ e=>e) (λb ps e=>⟨#[],by rw[e];simp⟩) (λm hm=>?_) (λb u e=>?_) I.bare
 obtain⟨_,f1,_,f3,f4,f5⟩:=hf b hb;exact⟨f3,f1,f4,f5⟩;obtain⟨o,es,ep,ho,r⟩:=hm;exact⟨o,es,ep,k _ o (λz=>(hf _ z).2.1 rfl) ho,r⟩;refine(I.hok b u e).stay (λc v hc q=>k c v ?_ q) (λ_ q=>q) λ_ _ q=>q;grind
end
def Sk.v (k:Sk)(K:Bl)(H:Hp)(a:Addr)(xs:List V):Prop:=match k with
 | .l=>JH K H a xs
 | .t=>Hi K H a xs
theorem BJ.sk {X:Cx}{amD:List (Addr×Obj)}{U:St}{H:Hp}{s:kI}{k:Sk}{a:Addr}{xs:List V}(I:BJ X amD U H s)(h:k.v X.K H a xs):∃its:List JI,Ba xs its/\k.sq s.heap a its.toArray:=by
 cases k with
 | l=>obtain⟨its,r,p,_⟩:=I.list h;exact⟨its,r,p.isList⟩
 | t=>obtain⟨its,r,p,_⟩:=I.tuple h;exact⟨its,r,p⟩
theorem BJ.sk_inj {X:Cx}{amD:List (Addr×Obj)}{U:St}{H:Hp}{s:kI}{k:Sk}{a:Addr}{xs ys:List V}(I:BJ X amD U H s)(h:k.v X.K H a xs)(g:k.v X.K H a ys):xs=ys:=by
 cases k with
 | l=>exact I.list_inj h g
 | t=>exact I.tuple_inj h g
def Itz (K:Bl)(k1 k2:Sk)(l1 l2:Addr):It:=
  ⟨λi H=>∃xs ys x y,k1.v K H l1 xs/\k2.v K H l2 ys/\xs[i]?=Dn x/\ys[i]?=Dn y,
   λi H v H'=>∃p x y,H p=Go/\v=.ref p/\H'=G7 H p (.tup [x,y])/\(∀xs,k1.v K H l1 xs->xs[i]?=Dn x)/\∀ys,k2.v K H l2 ys->ys[i]?=Dn y,
   λi H=>∃xs ys,k1.v K H l1 xs/\k2.v K H l2 ys/\(xs.length<=i\/ys.length<=i),true⟩
def aeO (k1 k2:Sk)(z TI TO i1 i2 l1 l2:Addr)(n:Nat)(h:Heap):Prop:=IsZip h z TI TO .none/\Q8 h TI (.ref i1) (.ref i2)/\(∃a b,Q8 h TO a b)/\k1.it h i1 l1 n/\k2.it h i2 l2 n
variable {elts:List Expr}
theorem zbU {P:Ci}{w:CZ}{K:Bl}{pos:Pos}{k1 k2:Sk}{z TI TO i1 i2 l1 l2:Addr}(D:Zap z TI TO i1 i2)(o1:Off l1 z TO i1 i2)(o2:Off l2 z TO i1 i2):
  Turn P w K (.Tuple elts kt pos) (Itz K k1 k2 l1 l2) [z,TI,TO,i1,i2] z (aeO k1 k2 z TI TO i1 i2 l1 l2) where
 mem:=by simp
 obj:=λi h st b hb=>by
  obtain⟨gz,gI,⟨a,b',gO⟩,g1,g2⟩:=st;simp at hb;rcases hb with rfl|rfl|rfl|rfl|rfl
  exact⟨_,gz,nofun⟩;exact⟨_,gI,λv y=>by cases y⟩;exact⟨_,gO,nofun⟩;obtain⟨o,e,_,d⟩:=Sk.it_obj g1;exact⟨o,e,λv y=>by rw[d]at y;cases y⟩;obtain⟨o,e,_,d⟩:=Sk.it_obj g2;exact⟨o,e,λv y=>by rw[d]at y;cases y⟩
 keep:=λi h h' st k=>by
  obtain⟨gz,gI,⟨a,b,gO⟩,g1,g2⟩:=st;exact⟨k z (by simp) _ gz,k TI (by simp) _ gI,⟨a,b,k TO (by simp) _ gO⟩,Sk.it_at g1 λo e=>k i1 (by simp) o e,Sk.it_at g2 λo e=>k i2 (by simp) o e⟩
 item:=by
  intro X hP hw hK hc i amD s U H E I hf st hg;subst hP hw hK;obtain⟨gz,gI,⟨a,b,gO⟩,g1,g2⟩:=st;obtain⟨xs,ys,x,y,hx,hy,ex,ey⟩:=hg;obtain⟨its,r1,p1⟩:=I.sk hx;obtain⟨jts,r2,p2⟩:=I.sk hy;obtain⟨u,hu,ru⟩:=r1.get ex;obtain⟨v,hv,rv⟩:=r2.get ey;refine aiG D o1 o2 gz gI gO g1 g2 p1 p2 (x:=u) (y:=v) (by simpa using hu) (by simpa using hv) λh1 z1 O1 g1' g2' T1 size1 all1=>⟨_,rfl,?_⟩;have lt:∀b∈[z,TI,TO,i1,i2],s.heap.objs.size≠b:=λb hb=>by
   simp at hb;rcases hb with rfl|rfl|rfl|rfl|rfl
   exact(OJ<|GK gz);exact OJ<|GK gI
   exact OJ<|GK gO
   obtain⟨o,e,_⟩:=Sk.it_obj g1;exact OJ (GK e);obtain⟨o,e,_⟩:=Sk.it_obj g2;exact OJ (GK e)
  have all:∀c o,c∉[z,TI,TO,i1,i2]->s.heap.get? c=Dn o->h1.get? c=Dn o:=λc o hc e=>
   all1 c o (λq=>hc (by simp[q])) (λq=>hc (by simp[q])) (λq=>hc (by simp[q])) (λq=>hc (by simp[q])) e
  refine wpAny_letOwnedTupleGo_zip z1 λh2 z2 sb=>?_;have I1:BJ X amD U (G7 H s.heap.objs.size (.tup [x,y])) {s with heap:=s.heap.push {cls:=.type "tuple",data:=.seq #[u,v]} }:=
   I.laid (λb o e=>GP _ e) (GZ _) ⟨(by show 2<=G6;decide),[u,v],.cons ru (.cons rv .nil),⟨_,JB _ rfl,rfl,⟨_,rfl⟩,rfl⟩⟩
  have hf1:∀b∈[z,TI,TO,i1,i2],Ia X amD (G7 H s.heap.objs.size (.tup [x,y])) b:=λb hb=>⟨by rw[aP (Lr (lt b hb))];exact(hf b hb).1,(hf b hb).2⟩
  have I2:=by
   refine BJ.turnedL (h':=h2) (t':=s.toks) I1 (λb o hb e=>?_) hf1;have bz:b≠z:=λq=>hb (by simp[q])
   rcases Heap.get?_push_cases e with⟨rfl,rfl⟩|e'
   exact sb.extBut _ _ bz T1;exact sb.extBut _ _ bz<|all b o hb e'
  refine⟨.ref s.heap.objs.size,_,I2,rfl,⟨s.heap.objs.size,x,y,(I.hok.fresh<|GZ _),rfl,rfl,λxs' q=>by rw[I.sk_inj q hx];exact ex,λys' q=>by rw[I.sk_inj q hy];exact ey⟩,?_,λb hb=>(hf1 b hb).1⟩;exact⟨z2,sb.extBut _ _ D.a1<|all1 _ _ D.a1 D.a5 D.a6 D.a7 gI,⟨u,v,sb.extBut _ _ D.a2 O1⟩,Sk.it_at g1' λo e=>sb.extBut _ o D.a3 e,Sk.it_at g2' λo e=>sb.extBut _ o D.a4 e⟩
 done:=by
  intro X hP hw hK hc i amD s U H E I hf st hg;subst hP hw hK;obtain⟨gz,gI,⟨a,b,gO⟩,g1,g2⟩:=st;obtain⟨xs,ys,hx,hy,hend⟩:=hg;obtain⟨its,r1,p1⟩:=I.sk hx;obtain⟨jts,r2,p2⟩:=I.sk hy;have l1:=r1.length;have l2:=r2.length;refine zbs (I.ok.hd<|hc rfl) D o1 o2 gz gI gO g1 g2 p1 p2 (hend.imp (λq=>by simp;lia) λq=>by simp;lia) λh1 all1=>⟨rfl,I.turnedL (t':=s.toks) (λc o hc e=>?_) hf⟩;exact all1 c o (λq=>hc<|by simp[q]) (λq=>hc<|by simp[q]) (λq=>hc<|by simp[q]) (λq=>hc<|by simp[q]) e
 self:=λ_ _ _ _ _ st h=>wpAny_pyIter_zip st.1 h
section
variable {X:Cx}{K:Bl}
def sqk (K:Bl)(H:Hp)(x:V)(k:Sk)(a:Addr):Prop:=x=.ref a/\∃xs,k.v K H a xs
def afX (K:Bl)(ta:TA):TI:=λU H R=>ta U H λvs H1=>∃x y k1 k2 a b,vs=[x,y]/\sqk K H1 x k1 a/\sqk K H1 y k2 b/\R (Itz K k1 k2 a b) H1
theorem Sk.sq_lt {k:Sk}{h:Heap}{a:Addr}{its:Array JI}(x:k.sq h a its):a<h.objs.size:=by
 cases k with
 | l|t=>obtain⟨o,e,_⟩:=x;exact GK e
theorem mR {a b:Nat}(h:a≠b):(show Addr from a)≠(show Addr from b):=h
theorem aah (n:Nat):Zap (n+4) (n+2) (n+3) n (n+1) where
 a1:=mR (show n+2≠n+4 by lia)
 a2:=mR (show n+3≠n+4 by lia)
 a3:=mR (show n≠n+4 by lia)
 a4:=mR (show n+1≠n+4 by lia)
 a5:=mR (show n+2≠n+3 by lia)
 a6:=mR (show n+2≠n by lia)
 a7:=mR (show n+2≠n+1 by lia)
 a8:=mR (show n+3≠n by lia)
 a9:=mR (show n+3≠n+1 by lia)
 b1:=mR (show n≠n+1 by lia)
theorem Ss {a n:Nat}(h:a<n):Off a (n+4) (n+3) n (n+1) where
 z:=mR (show a≠n+4 by lia)
 o:=mR (show a≠n+3 by lia)
 i:=mR (show a≠n by lia)
 j:=mR (show a≠n+1 by lia)
theorem aev {n c:Nat}(h:c∈([n+4,n+2,n+3,n,n+1]:List Nat)):n<=c:=by grind
theorem acF {e1 e2:Expr}{ta:TA}{p pos tpos:Pos}(hg:Gl X "zip")(hm:X.mg "zip" = Go)(ha:PA X [e1,e2] ta)
  (hs:Ca [e1,e2] X.env=(false,eval e1 X.env)::Ca [e2] X.env:=by rfl) (hpl:(J1 pos (Ca [e2] X.env)).any (·.1)=false:=by rfl) :
  PI X (.Tuple elts kt tpos) (.Call (.Name "zip" p) [e1,e2] [] pos) (afX X.K ta):=by
 intro amD s U H R I h;refine Wy<|nU I hg hm boot_zip (X7 (GJ (ha pos amD s U H _ I h) λus s1 ⟨vs,H1,I1,r1,q1⟩=>?_) hs hpl) (by decide)<|by decide
 obtain⟨x,y,k1,k2,a,b,ev,⟨ex,xs,hx⟩,⟨ey,ys,hy⟩,q⟩:=q1;subst ev ex ey;obtain⟨u1,u2,eu,ru1,ru2⟩:=vals2 r1;subst eu;cases ru1;cases ru2;obtain⟨its,r1,p1⟩:=I1.sk hx;obtain⟨jts,r2,p2⟩:=I1.sk hy;have la:=Sk.sq_lt p1;have lb:=Sk.sq_lt p2;refine aiT p1 p2 λh' gz gI gO g1 g2 size all=>(wpAny_pyIter_zip gz ?_);generalize hn:s1.heap.objs.size=n at gz gI gO g1 g2 size la lb|-
 refine⟨n+4,[n+4,n+2,n+3,n,n+1],_,_,H1,rfl,(I1.kept all),zbU (aah n) (Ss la)<|Ss lb,⟨gz,gI,⟨_,_,gO⟩,g1,g2⟩,λc hc=>?_,q⟩;have hc':=aev hc;exact I1.fpOk (hn ▸ hc')<|I1.hok.fresh<|hn ▸ hc'
def qG:List W->List W->List W
 | a::as,b::bs=>.tup [a,b]::qG as bs
 | _,_=>[]
theorem qY:∀{as bs:List W}{i:Nat}{w:W},(qG as bs)[i]?=Dn w->∃a b,as[i]?=Dn a/\bs[i]?=Dn b/\w=.tup [a,b]
 | a::as,b::bs,0,w,e=>⟨a,b,rfl,rfl,(IV e).symm⟩
 | a::as,b::bs,i+1,w,e=>by
  obtain⟨x,y,h1,h2,h3⟩:=qY (by simpa[qG]using e);grind
theorem vZ:∀{as bs:List W},(qG as bs).length=min as.length bs.length
 | [],bs|_::_,[]=>by simp[qG]
 | a::as,b::bs=>by rw[qG,PB,vZ,PB,PB];lia
def oO:W->Option (List W)
 | .tup ws=>Dn ws
 | .lst ws=>Dn ws
 | .kls ws=>Dn ws
 | _=>Go
theorem Fy {H:Hp}{w:W}{v:V}(r:Bq K H μ w v)(e:oO w=Dn ws):∃k a,v=.ref a/\∀{H2:Hp}{μ2:Mu},Hw K H μ H2 μ2->∃xs,Sk.v k K H2 a xs/\aW K H2 μ2 ws xs:=by
 cases w with
 | tup us=>
  cases e;have r0:=r;obtain⟨p,xs,ev,hs,rs⟩:=r;subst ev;refine⟨.t,p,rfl,λ{H2 μ2} x=>?_⟩;obtain⟨q,ys,ev,hs,rs⟩:=(x.r _ _ r0)
  cases ev;exact⟨ys,hs,rs⟩
 | lst us|kls us=>
  cases e;have r0:=r;obtain⟨p,xs,ev,hs,rs⟩:=r;subst ev;refine⟨.l,p,rfl,λ{H2 μ2} x=>?_⟩;obtain⟨q,ys,ev,hs,rs⟩:=(x.r _ _ r0)
  cases ev;exact⟨ys,hs.sq,rs⟩
 | _=>cases e
def J9 (h:Gh)(x y:W):Option Src:=match oO x,oO y with
 | some as,Dn bs=>Dn ⟨qG as bs,Go⟩
 | none,Dn bs=>(match x with
  | .loc n=>(match h.c n with
   | some (.lst as)=>Dn ⟨qG as bs,Dn (n,as)⟩
   | _=>Go)
  | _=>Go)
 | _,_=>Go
theorem aky {H:Hp}{h:Gh}{w:W}{v:V}{o:Option (Nat×List W)}(R:G5 K μ H h)(r:Bq K H μ w v)(e:(oO w=Dn ws/\o=Go)\/∃n,w=.loc n/\h.c n=Dn (.lst ws)/\o=Dn (n,ws)):
  ∃k a,v=.ref a/\∀{H2:Hp}{μ2:Mu}{h2:Gh},Hw K H μ H2 μ2->G5 K μ2 H2 h2->Src.chk ⟨ws,o⟩ h2->∃xs,Sk.v k K H2 a xs/\aW K H2 μ2 ws xs:=by
 rcases e with⟨e,rfl⟩|⟨n,rfl,ec,rfl⟩
 obtain⟨k,a,ev,f⟩:=Fy r e;exact⟨k,a,ev,λx _ _=>f x⟩;have r0:=r;obtain⟨p,ev,hm⟩:=r;subst ev;refine⟨.l,p,rfl,λ{H2 μ2 h2} x R2 ck=>?_⟩;obtain⟨q,eq,hm2⟩:=(x.r _ _ r0)
 cases eq;obtain⟨p',xs,hm',hx,rs⟩:=R2.lstAt ck;cases by rw[hm2]at hm';exact(IV hm').symm
 exact⟨xs,.of hx,rs⟩
theorem zce {h:Gh}{x y:W}{s:Src}(e:J9 h x y=Dn s):∃as bs o,s=⟨qG as bs,o⟩/\((oO x=Dn as/\o=Go)\/∃n,x=.loc n/\h.c n=Dn (.lst as)/\o=Dn (n,as))/\oO y=Dn bs:=by
 unfold J9 at e;grind
def XF (ma:MA):MI:=λU h R=>ma U h λws h1=>match ws with
 | [x,y]=>(match J9 h1 x y with
  | some s=>R s h1
  | none=>False)
 | _=>False
theorem Ga {e1 e2:Expr}{p pos tpos:Pos}(hg:Gl X "zip")(hm:X.mg "zip" = Go)(ha:KR X [e1,e2] mr)
  (hs:Ca [e1,e2] X.env=(false,eval e1 X.env)::Ca [e2] X.env:=by rfl) (hpl:(J1 pos (Ca [e2] X.env)).any (·.1)=false:=by rfl) :
  Rj X (.Tuple elts kt tpos) (.Call (.Name "zip" p) [e1,e2] [] pos) (XF mr):=PI.of (acF hg hm ha hs hpl) λU H Q ⟨μ,h,Uw,Rw,R,S,m,k⟩=>by
 refine⟨μ,h,Uw,_,R,S,m,λvs H1 ⟨μ1,ws,h1,e1,R1,r1,m1⟩=>?_⟩;split at m1
 split at m1
 rename_i x y _ s es;obtain⟨as,bs,o,rfl,ea,eb⟩:=zce es;obtain⟨v,u,ev,rv,ru⟩:=Bc r1;obtain⟨ka,a,e3,fa⟩:=aky R1 rv ea;obtain⟨kb,b,e4,fb⟩:=Fy ru eb;have ck1:Src.chk ⟨as,o⟩ h1:=by
  rcases ea with⟨_,rfl⟩|⟨n,_,ec,rfl⟩
  exact trivial;exact ec
 obtain⟨xs,hxs,_⟩:=fa .refl R1 ck1;obtain⟨ys,hys,_⟩:=fb .refl;refine⟨v,u,ka,kb,a,b,ev,⟨e3,xs,hxs⟩,⟨e4,ys,hys⟩,k _ _ ⟨μ1,⟨qG as bs,o⟩,h1,e1,R1,?_,m1⟩⟩;intro H2 μ2 h2 i e2 R2 ck;obtain⟨xs2,hxs2,rxs⟩:=fa e2 R2 ck;obtain⟨ys2,hys2,rys⟩:=fb e2;refine⟨λw ew=>?_,λhl=>⟨xs2,ys2,hxs2,hys2,?_⟩⟩;obtain⟨p1,p2,ep1,ep2,rfl⟩:=qY ew;obtain⟨q1,eq1,rq1⟩:=rxs.get ep1;obtain⟨q2,eq2,rq2⟩:=rys.get ep2;refine⟨⟨xs2,ys2,q1,q2,hxs2,hys2,eq1,eq2⟩,λx' H3 ⟨pa,x1,x2,hp,ex',eH3,f1,f2⟩=>?_⟩;have g1:=f1 xs2 hxs2;have g2:=f2 ys2 hys2;rw[eq1]at g1;rw[eq2]at g2;cases g1;cases g2;subst ex' eH3;exact⟨μ2,(Ex.laid hp).ext,R2.laid hp,.tupNew hp<|.cons rq1<|.one rq2⟩;have l1:=rxs.len;have l2:=rys.len;have:=vZ ▸ hl
 lia;cases m1;cases m1
end
variable {e1 e2:Expr}
section
variable {X:Cx}{K:Bl}
theorem Dd:∀{ns:List Int}{its:List JI}{i:Nat}{v:JI},Ba (ns.map V.int) its->its[i]?=Dn v->∃t,v=.int (ns.getD i 0) t
 | [],_,_,_,.nil,e=>by simp at e
 | n::ns,_,0,_,.cons r _,e=>by
  simp at e;subst e;exact r
 | _::ns,_,i+1,v,.cons _ t,e=>by
  obtain⟨t',h⟩:=Dd t (by simpa using e)
  simp_all
def wW:List W->Option (List Int)
 | []=>Dn []
 | .int i::ws=>(wW ws).map (i::·)
 | _=>Go
theorem Gs {H:Hp}{μ:Mu}:∀{ws:List W}{xs:List V}{ns:List Int},aW K H μ ws xs->wW ws=Dn ns->xs=ns.map V.int
 | [],xs,ns,r,e=>by
  cases e;exact r
 | w::ws,xs,ns,r,e=>by
  obtain⟨v,vr,ev,ra,r⟩:=r;cases w with
  | int b=>
   rw[wW]at e;cases q:wW ws with
   | none=>rw[q]at e;cases e
   | some cs=>
    rw[q]at e;cases e;rw[ev,ra,Gs r q];rfl
  | _=>cases e
def afO:MC:=λws h Q=>match ws with
 | [w]=>(match eU h w with
  | some us=>(match wW us with
   | some ns=>Q (.int ns.sum) h
   | none=>False)
  | none=>False)
 | _=>False
end
section
variable {P:Ci}{w:CZ}{A:G4}{E:JI->kI->Prop}{s:kI}
end
section
variable {X:Cx}{K:Bl}
end
section
variable {X:Cx}
def adJ (i j k:Nat)(ta:MA):MS:=λD U h=>ta U h λws h1=>match ws with
 | [a,b,c]=>D.nx (((U.set i (Dn a)).set j (Dn b)).set k (Dn c)) h1
 | _=>False
end
section
variable {X:Cx}{K:Bl}
end
theorem GD {K:Bl}{H:Hp}:aW K H μ [] []:=rfl
theorem lB {K:Bl}{H:Hp}{w:W}{v:V}{vs:List V}(h:Bq K H μ w v)(t:aW K H μ ws vs):aW K H μ (w::ws) (v::vs):=⟨v,vs,rfl,h,t⟩
theorem vM {K:Bl}{H:Hp}{i:Int}:Bq K H μ (.int i) (.int i):=rfl
theorem Yl {K:Bl}{H:Hp}{i:Str}:Bq K H μ (.str i) (.str i):=rfl
theorem nQ {K:Bl}{a:Addr}{sl:Array (Option JI)}{its:Array JI}{n:Nat}{xs:List V}(h:K.lookup a=Dn ⟨.type "tuple",Go,.seq its n,sl⟩)(hz:its.size<=G6)(hv:Ba xs its.toList)(hr:∀H μ,aW K H μ ws xs):∀H μ,Bq K H μ (.tup ws) (.ref a):=by
 intro H μ;exact⟨a,xs,rfl,.inr ⟨_,its,n,h,rfl,rfl,hz,hv,rfl⟩,hr H μ⟩
theorem Ii {i:Int}{t}:RelV (.int i) (.int i t):=⟨t,rfl⟩
theorem Vp {i:Str}{t}:RelV (.str i) (.str i t):=⟨t,rfl⟩
theorem adg {a:Addr}:RelV (.ref a) (.ref a):=rfl
section
variable {prog:Ci}{w:CZ}{A:G4}{E:JI->kI->Prop}{s:kI}
theorem Ae {it t:Addr}{items:Array JI}(hne:t≠it):∀(n i:Nat) (s:kI) (Q:List JI->kI->Prop),s.heap.IsListIter it t i->s.heap.IsList t items->i+n<=items.size ->
  (∀h',h'.IsListIter it t (i+n)->Wa it s.heap h'->Q ((items.toList.drop i).take n) {s with heap:=h'})->Bs (CJ prog w) A (draw (.ref it) n) Q E s
 | 0,i,s,Q,hit,_,_,hQ=>Bv (by simpa using hQ _ hit (Heap.SameBut.refl ..))
 | n+1,i,s,Q,hit,ht,hle,hQ=>by
  have hlt:i<items.size:=by lia
  refine Ay<|wpAny_pyNext_list_item hit ht (x:=items[i]) (by simp) λh1 hit1 hs1=>(Ay<|Ob<|Ae hne n _ _ _ hit1 (ht.at λo e=>hs1.extBut _ o hne e) (by lia) λh2 hit2 hs2=>Bv ?_)
  have hd:items.toList.drop i=items[i]::items.toList.drop (i+1):=by simp[XD,hlt]
  have:=hQ h2 (show i+(n+1)=i+1+n by lia ▸ hit2) (hs1.trans hs2)
  rwa[hd]at this
theorem qO {t:Addr}{items:Array JI}{Q:List JI->kI->Prop}(hh:A.handled=Go)(ht:s.heap.IsList t items)
  (hQ:∀h',XM s.heap.objs.size s.heap h'->Q items.toList {s with heap:=h'}):Bs (CJ prog w) A (unpackItems (.ref t) items.size Go) Q E s:=by
 have hlt:t≠s.heap.objs.size:=by obtain⟨o,ho,_⟩:=ht;exact Jl (GK ho)
 refine Ay ?_;refine Ay<|wpAny_specialOf ht.typeIs slot_list_iter.lookup<|Bv<|Ay<|Ob<|XS ht<|Ay<|Ob<|Ae hlt _ 0 _ _ ⟨_,JB _ rfl,rfl,rfl⟩ (ht.at λo e=>GP _ e) (by lia) λh1 hit1 hs1=>?_
 rw[(Yp (by simp)),if_neg (by simp)];refine Ay<|Ob<|wpAny_pyNext_list_end hh hit1 (ht.at λo e=>hs1.extBut _ o hlt<|GP _ e) (by simp) λh2 he2=>?_
 refine Bv<|hQ h2 λb o hb e=>he2 b o hb<|hs1.extBut b o hb<|GP _ e
theorem oW {x1}{pos:Pos}{t:Addr}{items:Array JI}{Q:Unit->kI->Prop}(hh:A.handled=Go)(ht:s.heap.IsList t items)
  (hn:(Ny elts env).length=items.size) (hstar:(Ny elts env).findIdx? (·.1)=Go)
  (h:∀h',XM s.heap.objs.size s.heap h'->Bs (CJ prog w) A (assignInOrder ((Ny elts env).map (·.2)) items.toList) Q E {s with heap:=h'}) :
  Bs (CJ prog w) A (assign (.Tuple elts x1 pos) env (.ref t)) Q E s:=by
 refine Ay<|wpAny_standAt ?_
 unfold unpack;rw[hn,hstar];exact Ay<|Ob<|qO hh ht h
end
section
variable {X:Cx}{pos:Pos}
def ae1 (K:Bl)(n:Nat)(t:Uz):TG:=λv U H Q=>∃a xs,v=.ref a/\(Hi K H a xs\/JH K H a xs)/\xs.length=n/\t xs U H Q
theorem ajy {es:List Expr}{k:Nat}{t:Uz}{n:Nat}(hc:X.calm=true)(h:Ve X es t)
  (hn:(Ny es X.env).length=n:=by rfl) (hst:(Ny es X.env).findIdx? (·.1)=Go:=by rfl):PG X (.Tuple es k pos) (ae1 X.K n t):=by
 intro amD s U H v u Q I r hw;obtain⟨a,xs,e1,hq,hl,hw⟩:=hw;subst e1;cases r;rcases hq with hq|hq
 obtain⟨its,rv,ht,hz⟩:=I.tuple hq;exact assign_Tuple_tuple (I.ok.hd hc) ht (by simp[hn,<-hl,rv.length]) hst λh' hx=>(h amD _ U H xs _ Q (I.kept λb o e=>hx b o (Jl<|GK e) e) (by simpa using rv) hw);obtain⟨its,rv,ht,hz⟩:=I.list hq;exact oW (I.ok.hd hc) ht.isList (by simp[hn,<-hl,rv.length]) hst λh' hx=>(h amD _ U H xs _ Q (I.kept λb o e=>hx b o (Jl<|GK e) e) (by simpa using rv) hw)
def lC (n:Nat)(g:QX):MG:=λw U h N=>match w with
 | .tup ws=>Ir (JM ws.length n) (g ws U h N) False
 | .lst ws=>Ir (JM ws.length n) (g ws U h N) False
 | .loc j=>(match h.c j with
  | some (.lst ws)=>Ir (JM ws.length n) (g ws U h N) False
  | _=>False)
 | _=>False
theorem jy {es:List Expr}{k:Nat}{g:QX}{n:Nat}(hc:X.calm=true)(h:ac8 X es g)(hn:(Ny es X.env).length=n:=by rfl)(hst:(Ny es X.env).findIdx? (·.1)=Go:=by rfl):DG X (.Tuple es k pos) (lC n g):=
 (ajy (n:=n) hc h hn hst).of λv U H N ⟨μ,h,Uw,w,Nw,R,S,r,m,k⟩=>by
  cases w with
  | tup ws=>
   obtain⟨p,xs,e1,hs,hr⟩:=r;have m:Ir _ _ False:=m;cases en:JM ws.length n with
   | true=>rw[en]at m;exact⟨p,xs,e1,.inl hs,hr.len ▸ VJ en,μ,h,Uw,ws,Nw,R,S,hr,m,k⟩
   | false=>rw[en]at m;exact(m).elim
  | lst ws=>
   obtain⟨p,xs,e1,hs,hr⟩:=r;have m:Ir _ _ False:=m;cases en:JM ws.length n with
   | true=>rw[en]at m;exact⟨p,xs,e1,.inr hs.sq,hr.len ▸ VJ en,μ,h,Uw,ws,Nw,R,S,hr,m,k⟩
   | false=>rw[en]at m;exact(m).elim
  | loc j=>
   have m:(match h.c j with
    | some (.lst ws)=>Ir _ _ False
    | _=>False):=m
   split at m
   ·rename_i ws ec;obtain⟨p,xs,e1,hs,hr⟩:=cY R r (show eU h (.loc j)=Dn ws by simp only[eU,ec]);cases en:JM ws.length n with
    | true=>rw[en]at m;exact⟨p,xs,e1,.inr hs,hr.len ▸ VJ en,μ,h,Uw,ws,Nw,R,S,hr,m,k⟩
    | false=>rw[en]at m;exact(m).elim
   exact m.elim
  | _=>exact m.elim
end
section
variable {K:Bl}{H:Hp}{h:Gh}{p:Addr}{xs:List V}
end
def afi (Q:WK):WK:=λw h=>match w with
 | .lst ws=>Q (.loc h.nx) (h.new (.lst ws))
 | _=>False
def afY (own:W->Option (List W))(ix:List Nat)(mi:MI)(tt:MT)(te:ME):ME:=λU h Q=>HJ own ix mi tt te U h (afi Q)
section
variable {X:Cx}{tg iter:Expr}{pos:Pos}{scope:Scope}{xs:List Str}
end
def GR:Expr->Bool
 | .Starred _ _=>true
 | _=>false
theorem bw {e:Expr}{es:List Expr}(h:GR e=false):Ca (e::es) env=(false,eval e env)::Ca es env:=by
 cases e<;>first|rfl|cases h
theorem Ur {e:Expr}(h:GR e=false):Ca [e] env=[(false,eval e env)]:=(bw h).trans rfl
def noStar:List Expr->Bool
 | []=>true
 | e::r=>!GR e&&noStar r
theorem bZ {pos:Pos}{env:Env}:∀{es:List Expr},noStar es=true->(J1 pos (Ca es env)).any (·.1)=false
 | [],_=>rfl
 | e::r,h=>by
  rw[noStar,Ol,Bool.not_eq_true']at h;rw[bw h.1];show(false||(J1 pos _).any _)=false;rw[bZ h.2];rfl
theorem qL {amF:Pos}{e:Expr}(h:GR e=false):((J1 amF (Ca [e] env)).all (λx=>!x.1)&&(RL amF (RM [] env)).all (λx=>x.1.isSome)
   && decide (([e]:List Expr).length+([]:List MH).length+(if([]:List MH).isEmpty then 0 else 1)<30))=true:=by
 rw[Ur h];rfl
section
variable {prog:Ci}{w:CZ}{A:G4}{E:JI->kI->Prop}{s:kI}
open HT in
theorem mY {t sl:Addr}{items:Array JI}{vl vu:JI}{lo hi:Option Int}{Q:JI->kI->Prop}(ht:IsTup s.heap t items)(hs:s.heap.IsSliceOf sl vl vu .none)(pl:IsPart vl lo)(pu:IsPart vu hi)
  (h0:sIx items.size 0 lo=0) (h1:sIx items.size items.size hi=items.size) (h:Q (.ref t) s):Bs (CJ prog w) A (getItem (.ref t) (.ref sl)) Q E s:=by
 obtain⟨os,hos,hcs,hds⟩:=id hs;unfold getItem;try with_reducible refine Ob ?_
 refine Ay<|wpAny_sequenceKey ht.typeIs (by decide) ?_
 refine Ay (Vy ht.typeIs Xv
  (RN Xv ht.typeIs entry_tuple_getitem ?_ (args_tuple_getitem _ _)))
 show Bs _ _ (Builtin.Tuple.tupleItemsOf _ >>= _) _ _ s;refine Ay<|tupleItemsOf_ ht ?_
 refine Ay<|Qj ⟨os,hos,hcs⟩ ?_
 refine Ay<|jF hs pl pu ?_
 have hyes:((((sIx items.size 0 lo:Nat):Int)==0&&(1:Int)==1&&(sIx items.size items.size hi-sIx items.size 0 lo)==items.size)=true):=by
  rw[h0,h1];simp
 show Bs _ _ (if _=true then _ else _) _ _ s;rw[if_pos hyes];refine Ay<|Ay<|Qj ht.typeIs<|Bv ?_
 refine Ay<|Pu ?_
 first
  | exact Ay (Bv (Bv ⟨_,rfl,Bv h⟩))
end
section
variable {X:Cx}
def agx (K:Bl):V->Option Int->Option Int->Hp->VK->Prop:=λx lo hi H Q=>∃a xs,x=.ref a/\Hi K H a xs /\
 HT.sIx xs.length 0 lo=0/\HT.sIx xs.length xs.length hi=xs.length/\Q x H
theorem aiS:V0 X (agx X.K):=by
 intro amD s U H x v vl vu lo hi sl Q I rx hs pl pu h;obtain⟨a,xs,rfl,hx,h0,h1,q⟩:=h;cases rx;obtain⟨its,r,ht,hz⟩:=I.tuple hx;have amE:its.toArray.size=xs.length:=r.length.symm;exact⟨"tuple",_,Xv.lookup,ht.typeIs,(mY ht hs pl pu (amE ▸ h0) (amE ▸ h1) ⟨.ref a,H,I,rfl,q⟩)⟩
def acP (x:W)(lo hi:Option Int)(h:Gh)(Q:WK):Prop:=match x with
 | .tup ws=>Q (.tup (Kw ws lo hi)) h
 | x=>(match eU h x with
  | some ws=>Q (.lst (Kw ws lo hi)) h
  | none=>False)
theorem Xr {e:Expr}{lo hi:Option Expr}{ml mh:MO}{p2 pos:Pos}(he:DE X e ma)(hl:DO X lo ml)(hu:DO X hi mh):DE X (.Subscript e (.Slice lo hi Go p2) pos) (mSl acP ma ml mh):=
 (zbB (V0.or (V0.or ajQ aa1) aiS) he hl hu).of λU H Q ⟨μ,h,Uw,Qw,R,S,m,k⟩=>by
  refine⟨μ,h,Uw,_,R,S,m,λx H1 ⟨μ1,wx,h1,e1,R1,r1,m1⟩=>(⟨μ1,h1,Uw,_,R1,S.ext e1,m1,λlo H2 ⟨μ2,h2,e2,R2,m2⟩=>(⟨μ2,h2,Uw,_,R2,(S.ext e1).ext e2,m2,λhi H3 ⟨μ3,h3,e3,R3,m3⟩=>?_⟩)⟩)⟩;have e13:=(e1.trans e2).trans e3;have r3:=e3.r _ _ (e2.r _ _ r1);have oth:∀wy,Bq X.K H3 μ3 wy x->(match eU h3 wy with
    | some ws=>Qw (.lst (Kw ws lo hi)) h3
    | none=>False)->∃p xs,x=.ref p/\JH X.K H3 p xs/\∀l,H3 l=Go->Q (.ref l) (G7 H3 l (.lst (VL xs lo hi))):=by
   intro wy ry my;split at my
   rename_i ws ev;obtain⟨p,xs,ex,hs,rs⟩:=cY R3 ry ev;exact⟨p,xs,ex,hs,λl hl=>k _ _ ⟨μ3,_,h3,e13.trans (Ex.laid hl).ext,R3.laid hl,.lstNew R3 hl<|rs.cutv lo hi,my⟩⟩;cases my
  cases wx with
  | tup ws=>
   have m3:Qw _ h3:=m3;have r30:=r3;obtain⟨p,xs,ex,hx,rs⟩:=r3;have hl:=rs.len;by_cases hw:HT.sIx xs.length 0 lo=0/\HT.sIx xs.length xs.length hi=xs.length
   have ec:Kw ws lo hi=ws:=by
    unfold Kw;grind
   rw[ec]at m3;exact .inr ⟨p,xs,ex,hx,hw.1,hw.2,k _ _ ⟨μ3,.tup ws,h3,e13,R3,r30,m3⟩⟩;exact .inl<|.inr ⟨p,xs,ex,hx,hw,λq hq=>k _ _ ⟨μ3,.tup _,h3,e13.trans (Ex.laid hq).ext,R3.laid hq,.tupNew hq<|rs.cutv lo hi,m3⟩⟩
  | _=>exact .inl (.inl (oth _ r3 m3))
def ac4:MC:=λws h Q=>match ws with
 | [.int i]=>Q (.int i) h
 | [.bl b]=>Q (.int (if b then 1 else 0)) h
 | _=>False
theorem ad3:fQ X (.type "int") ac4:=⟨_,zbb,by
 intro H μ h vs ws Qw Q R r m k;unfold ac4 at m;split at m
 obtain⟨v,e,rv⟩:=fV r;subst e rv;exact .inl ⟨_,rfl,k _ _<|.int R m⟩;obtain⟨v,e,rv⟩:=fV r;subst e rv;exact .inr ⟨_,rfl,k _ _<|.int R m⟩;cases m⟩
theorem uM:fillsNumberSlot (.type "tuple") "mul" = pure false:=
 PySem.fillsNumberSlot_seq F.slot_tuple_mul.lookup (by decide +kernel) F.slot_tuple_rmul.lookup (by decide +kernel)
theorem zaF:seqRepeat? (.type "tuple")=pure (Dn (.builtin "tuple.__mul__")):=by
 unfold seqRepeat?;rw[PySem.seqSlot_of (name := "__mul__") F.slot_tuple_mul.lookup (by decide +kernel),PySem.seqSlot_of (name := "__rmul__") F.slot_tuple_rmul.lookup (by decide +kernel)];rfl
theorem zX (a:Int)(t:Tok)(l:Addr)(items:Array JI):
  Meets (Wh.«int.__rmul__» ⟨[.int a t,.ref l],[]⟩) (λ_ R s=>IsTup s.heap l items/\R (.ok (.ret Value.notImplemented)) s):=
 .of_wp λprog w A R s h=>by
  obtain⟨⟨o,ho,hc,n,hd⟩,h⟩:=h;obtain⟨cl,dd,da,sl⟩:=o;subst hc hd
  wp_walk
  simp_all
theorem akc (l:Addr)(items:Array JI)(k:Int)(t:Tok)(h0:0<=k)(h1:k<2^63)(hz:items.size*k.toNat<=G6):
  Meets (Wh.«tuple.__mul__» ⟨[.ref l,.int k t],[]⟩) (λ_ R s=>IsTup s.heap l items/\(if items.size=0\/k=1 then R (.ok (.ret (.ref l))) s else
   R (.ok (.ret (.ref s.heap.objs.size))) {s with heap:=s.heap.push {cls:=.type "tuple",data:=.seq (Iw k.toNat items.toList).flatten.toArray} })):=
 .of_wp λprog w A R s h=>by
  obtain⟨hp,g,d,tk,os⟩:=s;obtain⟨⟨o,ho,hc,n,hd⟩,h⟩:=h;obtain⟨cl,dd,da,sl⟩:=o;subst hc hd;have ht:IsTup hp l items:=⟨_,ho,rfl,n,rfl⟩
  wp_walk
  rw[if_neg (by simp;lia)];refine Ay<|tupleItemsOf_ (s:=⟨hp,g,d,tk,os⟩) ht ?_
  have hemp:items.isEmpty=decide (items.size=0):=rfl;by_cases e:items.size=0\/k=1
  rw[if_pos e]at h;rw[if_pos (by rcases e with e|e<;>simp[hemp,e])];refine Ay<|Ay<|Qj ⟨_,ho,rfl⟩<|Bv ?_
  rw[if_pos (by decide)];refine Ay<|Pu ?_
  exact Bv ⟨_,rfl,h⟩;rw[if_neg e]at h;rw[not_or]at e;rw[if_neg (by simp[hemp,e.1,e.2])];by_cases k0:k=0
  rw[if_pos (by simp[k0])];subst k0;have ee:(Iw (0:Int).toNat items.toList).flatten.toArray=#[]:=rfl;rw[ee]at h;exact Ay (m:=ZD _)<|Qu (Bv ⟨_,rfl,h⟩) (by show 0<=G6;exact Oj _)
  rw[if_neg (by simp[hemp,e.1];lia)];have hp8:((2:Int)^63-1) / 8=1152921504606846975:=by decide
  have hsz:(G6:Nat)<=1152921504606846975:=by decide
  have hk:((items.size*k.toNat:Nat):Int)=(items.size:Int)*k:=by rw[Int.natCast_mul,Int.toNat_of_nonneg h0]
  rw[if_neg (by rw[hp8,<-hk];lia)];rw[if_neg (by unfold Builtin.Tuple.tupleTooMany;rw[<-hk,decide_eq_true_iff];lia)];have hnew:List.foldl (λx1 x2=>x1++x2) #[] (Iw k.toNat items)=(Iw k.toNat items.toList).flatten.toArray:=by
   have:=foldl_rep items.toList k.toNat []
   rw[List.nil_append]at this
   simpa using this
  rw[hnew];refine Ay (m:=ZD _)<|Qu (Bv ⟨_,rfl,h⟩) ?_
  show(Iw k.toNat items.toList).flatten.toArray.size<=G6;rw[Jr,len_rep,Nat.mul_comm]
  simpa using hz
def adE (K:Bl):R2:=λx y H Q=>∃a xs k,x=.ref a/\y=.int k/\Hi K H a xs/\0<=k/\k<2^63/\xs.length*k.toNat<=G6 /\
 ((xs.length=0\/k=1)->Q (.ref a) H)/\(¬(xs.length=0\/k=1)->∀p,H p=Go->Q (.ref p) (G7 H p (.tup (Iw k.toNat xs).flatten)))
theorem ajR:K3 X (Nu .Mult) (adE X.K):=by
 intro amD s U H x y v u Q I rx ry h;obtain⟨a,xs,k,rfl,rfl,hx,h0,h1,hz,q1,q2⟩:=h;cases rx;obtain⟨t,rfl⟩:=ry;obtain⟨its,r,ht,hsz⟩:=I.tuple hx;have amE:its.toArray.size=xs.length:=r.length.symm;refine wpAny_binaryOp_repeat_ref (by decide) ht.typeIs (λs'=>typeIs_int s' k t) uM F.fills_int_mul F.slot_int_rmul zaF F.slot_int_index.lookup
  (V9 F.slot_int_rmul (typeIs_int s k t) F.entry_int_rmul (F.args_int_rmul_2 _ _) (zX k t a _)
   ⟨ht,rfl,ht.typeIs,V9 F.slot_tuple_mul ht.typeIs F.entry_tuple_mul (F.args_tuple_mul_2 _ _) (akc a _ k t h0 h1 (amE ▸ hz)) ⟨ht,?_⟩⟩)
 rw[amE];by_cases e:xs.length=0\/k=1
 exact if_pos e ▸ ⟨.ref a,H,I,rfl,q1 e⟩;rw[if_neg e];refine⟨.ref _,_,I.laid (λb ob q=>GP _ q) (GZ _) ?_,rfl,q2 e _<|I.hok.fresh<|GZ _⟩;exact⟨by rw[len_rep,Nat.mul_comm];exact hz,_,r.rep _,NT.new _ _⟩
def abb:M2:=λx y h Q=>match x,y with
 | .int i,.int j=>uU i j/\Q (.int (i*j)) h
 | .tup ws,.int k=>(0<=k/\k<=1000/\ws.length*k.toNat<=1000)/\Q (.tup (Iw k.toNat ws).flatten) h
 | _,_=>False
theorem FP {K:Bl}{H:Hp}{μ:Mu}{ws:List W}{xs:List V}(r:aW K H μ ws xs):∀k:Nat,aW K H μ (Iw k ws).flatten (Iw k xs).flatten
 | 0=>GD
 | k+1=>aW.append r (FP r k)
theorem ab5:Oe X (Nu .Mult) abb:=⟨_,Nm.or ajR,by
  intro H μ h x y wx wy Qw Q R rx ry m k;cases wx with
  | int i=>cases wy with
    | int j=>
      exact .inl ⟨_,_,rx,ry,m.1,k _ _<|.int R m.2⟩
    | _=>exact(m).elim
  | tup ws=>cases wy with
    | int n=>
      obtain⟨⟨h0,h1,h2⟩,m⟩:=m;have rx0:=rx;obtain⟨p,xs,ex,hx,rs⟩:=rx;have hl:=rs.len;have sz:(1000:Nat)<=G6:=by decide
      refine .inr ⟨p,xs,n,ex,ry,hx,h0,by lia,by rw[<-hl];lia,λe=>?_,λe q hq=>?_⟩
      . have ee:(Iw n.toNat ws).flatten=ws:=by
          rcases e with e|e
          . have:ws=[]:=Qs (by lia)
            subst this;have:∀k:Nat,(Iw k ([]:List W)).flatten=[]:=λk=>by induction k with
              | zero=>rfl
              | succ k ih=>rw[Yz,List.flatten_cons,ih];rfl
            exact this _
          . subst e
            simp
        rw[ee]at m;rw[<-ex];exact k _ _ ⟨μ,.tup ws,h,.refl,R,rx0,m⟩
      . exact k _ _ ⟨μ,.tup (Iw _ ws).flatten,h,(Ex.laid hq).ext,R.laid hq,.tupNew hq (FP rs _),m⟩
    | _=>exact m.elim
  | _=>exact(show False from by cases wy<;>exact m).elim⟩
def Ma (K:Bl):V->List V->Hp->VK->Prop:=λx vs H Q=>∃(l:Addr) (ns:List Int) (k:Int) (j:Nat),x=.ref l/\vs=[.int k]/\JH K H l (ns.map V.int)/\ns[j]?=Dn k/\(∀m,m<j->ns[m]?≠Dn k)/\Q (.int j) H
theorem zbQ:R6 X "list.index" (Ma X.K):=by
 intro amD s U H x vs v us Q I rx rv h;obtain⟨l,ns,k,j,rfl,rfl,hx,hj,hno,q⟩:=h;cases rx;obtain⟨u,rfl,ru⟩:=rv.one;obtain⟨t,rfl⟩:=ru;obtain⟨its,r,pl,hz⟩:=I.list hx;obtain⟨⟨cl,dd,da,sl⟩,n,e,c1,c2,c3⟩:=pl;subst c1 c2 c3;have hl:=r.length;rw[CV]at hl;have at':∀{m:Nat}(hm:m<its.toArray.size),∃a t',ns[m]?=Dn a/\its.toArray[m]=.int a t':=λ{m} hm=>by
  have hm':m<ns.length:=by rw[Jr]at hm;lia
  obtain⟨u,hu,ru⟩:=r.get (show(ns.map V.int)[m]?=Dn (.int ns[m]) by rw[HI,JD hm'];rfl);obtain⟨t',rfl⟩:=ru;refine⟨ns[m],t',JD hm',?_⟩;have:=(O4.mp hu).2
  simpa using this
 have hjl:j<its.toArray.size:=by
  have:=(O4.mp hj).1
  rw[Jr];lia
 have h63:(G6:Nat)<2^63-1:=by decide
 have hz':ns.length<=G6:=by rw[CV]at hz;exact hz
 let ev:JI->Bool:=λy=>match y with
  | .int a _=>a==k
  | _=>false
 refine V9 F.slot_list_index ⟨_,e,rfl⟩ F.entry_list_index (F.args_list_index_2 _ _) (SeqAt.list_indexAt l its.toArray n Go sl (.int k t) ev j hjl ?_ ?_ ?_) ⟨e,?_,?_⟩;rw[Jr]at hjl;lia;obtain⟨a,t',ea,e2⟩:=at' hjl;rw[e2];rw[hj]at ea;cases ea;exact beq_self_eq_true k;intro m hm hmj;obtain⟨a,t',ea,e2⟩:=at' hm;rw[e2];show(a==k)=false;refine beq_eq_false_iff_ne.mpr λx=>hno m hmj ?_;rw[ea,x];intro y hy;obtain⟨m,hm,e2⟩:=Array.mem_iff_getElem.mp hy;obtain⟨a,t',ea,e3⟩:=at' hm;rw[<-e2,e3];exact SeqAt.EqAt.int_int a t' k t;exact⟨.int j,H,I.tok _,⟨_,rfl⟩,q⟩
def Nv:MM:=λx ws h Q=>match ws with
 | [.int k]=>(match eU h x with
  | some us=>∃(ns:List Int) (j:Nat),us=ns.map W.int/\ns[j]?=Dn k/\(∀m,m<j->ns[m]?≠Dn k)/\Q (.int j) h
  | none=>False)
 | _=>False
theorem oV {K:Bl}{H:Hp}{μ:Mu}:∀{ns:List Int}{xs:List V},aW K H μ (ns.map W.int) xs->xs=ns.map V.int
 | [],xs,r=>r
 | n::ns,xs,r=>by
  obtain⟨v,vs,e,rv,r⟩:=r;rw[e,rv,oV r];rfl
theorem zcj {K:Bl}:Qz K (Ma K) Nv:=by
 intro H μ h x vs wx ws Qw Q R rx rs m k;unfold Nv at m;split at m
 rename_i i;obtain⟨v,ev,rv⟩:=fV rs;subst ev rv;split at m
 rename_i us ev;obtain⟨ns,j,eu,hj,hno,m⟩:=m;obtain⟨p,xs,ex,hs,rr⟩:=cY R rx ev;rw[eu]at rr;cases oV rr
 exact⟨p,ns,i,j,ex,rfl,hs,hj,hno,k _ _<|.int R m⟩;exact m.elim;exact m.elim
def LR (h:Gh)(w:W)(P:Prop):Prop:=match eU h w with
 | some _=>P
 | none=>False
theorem z9 {K:Bl}{H:Hp}{h:Gh}{w:W}{v:V}{P:Prop}(R:G5 K μ H h)(r:Bq K H μ w v)(e:LR h w P):tyV K "list" v H/\P:=by
 unfold LR at e;split at e
 rename_i us ev;obtain⟨p,xs,ex,hs,_⟩:=cY R r ev;subst ex;exact⟨.inl ⟨rfl,xs,hs⟩,e⟩;cases e
def afL (r:MM)(mo:ME)(ma:MA):ME:=λU h Q=>mo U h λx h1=>LR h1 x (ma U h1 λxs h2=>r x xs h2 Q)
def QG (i j:Int):Prop:=uU i j\/Sm 64 i\/Sm 64 j
theorem QG.ok {i j:Int}(h:QG i j):IntMulOk i j:=by
 rcases h with h|h|h
 exact h.ok;exact .of_left h.bits;exact .of_right h.bits
theorem akj:K3 X (Nu .Mult) (rI QG λi j=>.int (i*j)):=opI λ_ _ _ _ _ _ _ hc q=>mul_int q hc.ok
def W0:M2:=λx y h Q=>match x,y with
 | .int i,.int j=>QG i j/\Q (.int (i*j)) h
 | _,_=>False
theorem akE:Oe X (Nu .Mult) W0:=⟨_,akj,by
 intro H μ h x y wx wy Qw Q R rx ry m k;unfold W0 at m;split at m
 exact⟨_,_,rx,ry,m.1,k _ _<|.int R m.2⟩;cases m⟩
end
def Cz (Z:JI->Prop)(vs:Array JI):Prop:=∃z,vs[2]?=Dn z/\Z z
variable {Z:JI->Prop}
theorem Cz.size {Z:JI->Prop}{vs:Array JI}(c:Cz Z vs):2<vs.size:=let⟨_,e,_⟩:=c;(Array.getElem?_eq_some_iff.mp e).1
theorem Cz.mono {Z':JI->Prop}{vs:Array JI}(c:Cz Z vs)(k:∀z,Z z->Z' z):Cz Z' vs:=let⟨z,e,h⟩:=c;⟨z,e,k z h⟩
def XO (h:Heap)(P:Addr->Prop)(Z:JI->Prop)(e C:Addr)(od:Option Addr):Prop:=P e/\∃(oe:Obj) (vs:Array JI),h.get? e=Dn oe/\oe.cls=.ref C/\oe.dict=od/\oe.data=.fields vs/\vs.size<=1000/\Cz Z vs /\
 (vs[1]?=Dn .none\/∃(T:Addr) (oT:Obj) (ts:Array JI),vs[1]?=Dn (.ref T)/\T≠e/\P T/\h.get? T=Dn oT/\oT.data=.fields ts/\3<ts.size)
def XN (h:Heap)(P:Addr->Prop)(Z:JI->Prop)(e C:Addr)(od:Option Addr):Prop:=P e/\∃(oe:Obj) (vs:Array JI),h.get? e=Dn oe/\oe.cls=.ref C/\oe.dict=od/\oe.data=.fields vs/\vs.size<=1000/\Cz Z vs /\
 ∃(T:Addr) (oT:Obj) (ts:Array JI),vs[1]?=Dn (.ref T)/\T≠e/\P T/\h.get? T=Dn oT/\oT.data=.fields ts/\3<ts.size
theorem XO.mono {h:Heap}{P P':Addr->Prop}{Z Z':JI->Prop}{e C:Addr}{od:Option Addr}(x:XO h P Z e C od)(k:∀b,P b->P' b)(kz:∀z,Z z->Z' z):XO h P' Z' e C od:=by
 obtain⟨p,oe,vs,a,b,c,d,f,g,z⟩:=x;refine⟨k _ p,oe,vs,a,b,c,d,f,g.mono kz,?_⟩;rcases z with z|⟨T,oT,ts,z1,z2,z3,z4⟩
 exact .inl z;exact .inr ⟨T,oT,ts,z1,z2,k _ z3,z4⟩
structure Ra (P:Addr->Prop) (fs:List Addr) (h h':Heap):Prop where
 keep:∀b o,¬P b->b∉fs->h.get? b=Dn o->h'.get? b=Dn o
 slot:∀b o,¬P b->h.get? b=Dn o->∃sl,h'.get? b=Dn {o with slots:=sl}
 there:∀b o,h.get? b=Dn o->∃o',h'.get? b=Dn o'
theorem Ra.refl {P:Addr->Prop}{fs:List Addr}{h:Heap}:Ra P fs h h:=⟨λ_ _ _ _ e=>e,λ_ o _ e=>⟨o.slots,e⟩,λ_ o e=>⟨o,e⟩⟩
theorem Ra.trans {P:Addr->Prop}{fs:List Addr}{h h1 h2:Heap}(a:Ra P fs h h1)(b:Ra P fs h1 h2):Ra P fs h h2:=
 ⟨λc o n m e=>b.keep c o n m (a.keep c o n m e),λc o n e=>let⟨_,e1⟩:=a.slot c o n e;let⟨sl,e2⟩:=b.slot c _ n e1;⟨sl,e2⟩,λc o e=>let⟨o1,e1⟩:=a.there c o e;b.there c o1 e1⟩
section
variable {M:Model}{A:G4}{E:JI->kI->Prop}{s:kI}{P:Addr->Prop}{e C:Addr}{od:Option Addr}
theorem aix {fl:Option Addr}{fs:List Addr}{Q:Unit->kI->Prop}(x:XN s.heap P Z e C od)(h:∀h',XN h' P Z e C od->Ra P fs s.heap h'->Q () {s with heap:=h'}):Bs M A (setFlight (.ref e) fl) Q E s:=by
 obtain⟨p,oe,vs,he,hc,hdd,hd,hz,h2,T,oT,ts,h1,hne,pT,hT,hdT,h3⟩:=x;refine Ay<|N6 he hd h1<|Wj hT hdT h3<|h _ ?_ ?_
 have hd3:=Vb hdT (·.setIfInBounds 3 (fl.elim Value.none λf=>Pj f));refine⟨p,oe,vs,?_,hc,hdd,hd,hz,h2,T,_,_,h1,hne,pT,UW _ hT<|Wc hd3,hd3,by simpa using h3⟩;rw[Pz _ _ hne];exact he;have ne:∀b,¬P b->T≠b:=λb n q=>n (q ▸ pT)
 refine⟨λb o n _ q=>by rwa[Pz _ _<|ne b n],λb o n q=>⟨o.slots,by rwa[Pz _ _<|ne b n]⟩,λb o q=>?_⟩;by_cases hb:T=b
 subst hb;exact⟨_,UW _ hT<|Wc<|Vb hdT _⟩;exact⟨o,by rwa[Pz _ _ hb]⟩
theorem Dj {base:Heap}{outer:List Env}{L:Addr}{oe:Obj}{vs:Array JI}{head:JI}{hadNext:Bool}{Q:Unit->kI->Prop}
  (hfr:A.frames=Dn (env::outer)) (hl:s.heap.FunFrames base (env::outer)) (hf:env.frame=Dn L) (pe:P e) (he:s.heap.get? e=Dn oe) (hc:oe.cls=.ref C) (hdd:oe.dict=od) (hd:oe.data=.fields vs) (hz:vs.size<=1000) (h2:Cz Z vs)
  (pn:∀b,s.heap.get? b=Go->P b) (h:∀h',XN h' P Z e C od->Ra P (frs (env::outer)) s.heap h'->Q () {s with heap:=h'}) :
  Bs M A (do let a <-frameOf env;let pl <-entryPlaceOf L hadNext;let b <-EntryCells.newEntry head a .none (Pj L) .none pl;setField (.ref e) 1 b) Q E s:=by
 have hsz:1<vs.size:=Xa (by decide) h2.size;have hene:e∉(env::outer).filterMap (·.frame):=λhm=>by
  obtain⟨_,o,ho,hnf⟩:=hl.mem hm;rw[he]at ho;injection ho with ho;subst ho;exact hnf vs hd
 refine Ay<|wpAny_frameOf_fun hfr hl hf λh₁ hs₁=>(Ay<|wpAny_entryPlaceOf λpl hpl=>(Ay<|Qu ?_<|hpl.sizeOk5 _ _ _ _ _))
 have he₁:=(hs₁.2.1 e hene).trans he;have he₂:=GP (h:=h₁) {cls:=.type "traceback",dict:=Go,data:=.fields ([head,.ref L,.none,Pj L,.none]++(if pl.isEmpty then Iw 6 Value.none else pl)).toArray} he₁;refine Wj he₂ hd hsz<|h _ ?_ ?_
 have hTe:=OJ (GK he₁);have hd₃:=Vb hd (·.setIfInBounds 1 (Value.ref h₁.objs.size));refine⟨pe,_,_,UW _ he₂ (Wc hd₃),by rwa[Obj.cls_mapFields],?_,hd₃,by simpa using hz,(let⟨z,e2,hz2⟩:=h2;⟨z,by rw[Array.getElem?_setIfInBounds_ne (by decide)];exact e2,hz2⟩),h₁.objs.size,_,_,by simp[hsz],hTe,
  pn _ (Wb (hs₁.1 ▸ GZ _)),(Pz _ _ (Lr hTe)).trans (JB h₁ rfl),rfl,by simp<;>lia⟩
 obtain⟨c,dd,dt,sl⟩:=oe;cases hd;exact hdd;have ne:∀b,¬P b->e≠b:=λb n q=>n (q ▸ pe)
 refine⟨λb o n m q=>?_,λb o n q=>?_,λb o q=>?_⟩;rw[Pz _ _ (ne b n)];exact GP _<|(hs₁.2.1 b m).trans q
 obtain⟨sl,e1⟩:=hs₁.2.2 b o q;exact⟨sl,by rw[Pz _ _<|ne b n];exact GP _ e1⟩;obtain⟨sl,e1⟩:=hs₁.2.2 b o q;by_cases hb:e=b
 subst hb;exact⟨_,UW _ he₂<|Wc<|Vb hd _⟩;exact⟨_,Pz _ _ hb ▸ GP _ e1⟩
theorem zcm {base:Heap}{outer:List Env}{L:Addr}{Q:Unit->kI->Prop}(hfr:A.frames=Dn (env::outer))(hl:s.heap.FunFrames base (env::outer))(hf:env.frame=Dn L)(x:XO s.heap P Z e C od)
  (pn:∀b,s.heap.get? b=Go->P b) (pf:∀b∈frs (env::outer),¬P b) (h:∀h',XN h' P Z e C od->Ra P (frs (env::outer)) s.heap h'->Q () {s with heap:=h'}):Bs M A (noteFrame (.ref e) env) Q E s:=by
 obtain⟨p,oe,vs,he,hc,hdd,hd,hz,h2,z⟩:=x;unfold noteFrame;simp only[hf];rcases z with h1|⟨T,oT,ts,h1,hne,pT,hT,hdT,h3⟩
 refine Ay<|N6 he hd h1 ?_
 exact Dj hfr hl hf p he hc hdd hd hz h2 pn h;refine Ay<|N6 he hd h1 ?_
 refine Ay<|N6 hT hdT (x:=ts[3]) (by simp) ?_
 by_cases q:(ts[3]==Pj L)=true
 rw[if_pos q];exact Bv<|h _ ⟨p,oe,vs,he,hc,hdd,hd,hz,h2,T,oT,ts,h1,hne,pT,hT,hdT,h3⟩ .refl
 rw[if_neg q];refine Ay<|Wj hT hdT h3 ?_
 have other:∀b,b≠T->(s.heap.update T (Obj.mapFields (·.setIfInBounds 3 Value.none))).get? b=s.heap.get? b:=λb hb=>Pz _ _ (Lr hb)
 have nT:∀b,¬P b->b≠T:=λb n q=>n (q ▸ pT)
 have st:Ra P (frs (env::outer)) s.heap (s.heap.update T (Obj.mapFields (·.setIfInBounds 3 Value.none))):=by
  refine⟨λb o n _ q=>(other b<|nT b n).trans q,λb o n q=>⟨o.slots,(other b<|nT b n).trans q⟩,λb o q=>?_⟩;by_cases hb:T=b
  subst hb;exact⟨_,UW _ hT<|Wc<|Vb hdT _⟩;exact⟨o,(other b<|Lr hb).trans q⟩
 refine Dj hfr (hl.of_keeps λb o hb hnf=>⟨o,(other b λq=>?_).trans hb,rfl⟩) hf p ((other e<|Lr hne).trans he) hc hdd hd hz h2 (λb q=>?_) λh' x1 x2=>h h' x1<|st.trans x2
 rw[q,hT]at hb;injection hb with hb;subst hb;exact hnf ts hdT
 by_cases hb:b=T
 rw[hb];exact pT;exact pn b<|(other b hb).symm.trans q
end
variable {L:Addr}
theorem fM.obj {P:Ci}{w:CZ}{H:Hp}{h:Heap}{a:Addr}{o:HO}(x:fM P w H h a o):∃ob,h.get? a=Dn ob:=by
 cases o with
 | lst xs=>obtain⟨_,_,_,_,e⟩:=x;exact⟨_,e⟩
 | tup xs=>obtain⟨_,_,_,ob,e,_⟩:=x;exact⟨_,e⟩
 | dK kvs|dT kvs=>obtain⟨_,_,_,_,o,_,_,e,_⟩:=x;exact⟨_,e⟩
 | set S n=>obtain⟨o,_,_,_,e,_⟩:=x;exact⟨_,e⟩
 | ins C dx fs=>obtain⟨_,_,_,e,_⟩:=x;exact⟨_,e⟩
 | own y=>obtain⟨_,e⟩:=x;exact⟨_,e⟩
 | xd fs=>obtain⟨_,⟨_,_,_,e,_⟩,_⟩:=x;exact⟨_,e⟩
 | rng lo hi=>obtain⟨_,_,_,e⟩:=x;exact⟨_,e⟩
 | frz ob u=>obtain⟨e,_⟩:=x;exact⟨_,e⟩
 | tbl ps|met f y=>exact⟨_,x⟩
 | ext φ=>obtain⟨_,⟨_,e⟩,_⟩:=x;exact⟨_,e⟩
section
variable {X:Cx}{amD:List (Addr×Obj)}{U:St}{H H':Hp}{s s':kI}{b e C:Addr}{od:Option Addr}
structure New (X:Cx) (amD:List (Addr×Obj)) (H:Hp) (b:Addr):Prop where
 h:H b=Go
 s:b∈X.ex\/X.s₀.heap.get? b=Go
 l:b≠X.env.locals
 c:∀x c,X.env.cells.lookup x=Dn c->c≠b
 p:∀p∈X.pn++amD,p.1≠b
 f:b∉X.fs
theorem BJ.newOf (I:BJ X amD U H s)(hb:s.heap.get? b=Go):New X amD H b where
 h:=by
  cases q:H b with
  | none=>rfl
  | some u=>obtain⟨ob,e⟩:=(I.hok b u q).obj;rw[hb]at e;cases e
 s:=by
  by_cases hx:b∈X.ex
  exact .inl hx
  ·cases q:X.s₀.heap.get? b with
   | none=>exact .inr rfl
   | some o=>obtain⟨o',e⟩:=I.base.there b o q hx;rw[hb]at e;cases e
 l:=λz=>by obtain⟨m,⟨o,_,_,ho,_⟩,_⟩:=I.loc;rw[<-z,hb]at ho;cases ho
 c:=λx c e z=>by obtain⟨v,o,ho,_⟩:=I.cell x c e;rw[z,hb]at ho;cases ho
 p:=λp hp z=>by have ho:=(I.pin p hp).1;rw[z,hb]at ho;cases ho
 f:=λhm=>by obtain⟨_,o,ho,_⟩:=I.funs.mem hm;rw[hb]at ho;cases ho
open Classical in
theorem BJ.stp {h':Heap}(I:BJ X amD U H s)(st:Ra (New X amD H) (frs X.stack) s.heap h'):BJ X amD U H {s with heap:=h'}:=by
 have inCh:∀b o,s.heap.get? b=Dn o->b∉(Ji _).filter (λb=>decide _)->¬New X amD H b:=λb o e n z=>
  n (Qm.mpr ⟨UG.mpr (GK e),decide_eq_true z⟩)
 refine I.stepG (λb hb=>?_) (λb o hL hf hc e n=>?_) (λb o _ _ hc e _=>st.slot b o (inCh b o e hc) e) (λ_ _ _ _ n=>n)
  (λb o _ e=>st.there b o e) (λ_ _ q=>q) (λ_ _ _ q=>q) (λ_ ps q=>⟨#[],by rw[q];simp⟩) (λm hm=>?_) (λb u q=>?_) I.bare
 have z:=of_decide_eq_true (Qm.mp hb).2;exact⟨z.s,z.l,z.c,z.p⟩;exact st.keep b o (inCh b o e hc) (λz=>(Jz.mp<|I.stkSub b z).elim hL hf) e;obtain⟨o,es,ep,ho,r⟩:=hm;obtain⟨sl,q⟩:=st.slot _ o (λz=>z.l rfl) ho;exact⟨_,es,ep,q,r⟩;refine(I.hok b u q).stay (λc v hc r=>?_) (λ_ q=>q) λ_ _ q=>q;have hH:H c≠Go:=by
  grind
 exact st.keep c v (λz=>hH z.h) (λz=>hH<|I.stkFree c z) r
inductive QD (N:Addr->Prop) (H:Hp):JI->Prop
 | nil:QD N H .none
 | cons {c:Addr}{o:Obj}{u:HO}{vs:Array JI}{z:JI}(n:N c) (h1:H c=Dn (.frz o u)) (h2:o.data=.fields vs) (h3:vs[2]?=Dn z) (t:QD N H z):QD N H (.ref c)
inductive Rc (H:Hp):JI->Addr->Prop
 | here {c:Addr}{o:Obj}{u:HO}(h1:H c=Dn (.frz o u)):Rc H (.ref c) c
 | next {c b:Addr}{o:Obj}{u:HO}{vs:Array JI}{z:JI}(h1:H c=Dn (.frz o u)) (h2:o.data=.fields vs) (h3:vs[2]?=Dn z) (t:Rc H z b):Rc H (.ref c) b
theorem Rc.frz {H:Hp}{v:JI}{b:Addr}(r:Rc H v b):∃o u,H b=Dn (.frz o u):=by
 induction r with
 | here h1=>exact⟨_,_,h1⟩
 | next _ _ _ _ ih=>exact ih
theorem QD.rc {N:Addr->Prop}{H:Hp}{v:JI}(c:QD N H v):∀{b:Addr},Rc H v b->N b:=by
 induction c with
 | nil=>intro b r;cases r
 | cons n h1 h2 h3 _ ih=>
  intro b r;cases r with
  | here _=>exact n
  | next g1 g2 g3 t=>
   grind
def RcO (H:Hp)(hd:Option JI)(b:Addr):Prop:=∃v,hd=Dn v/\Rc H v b
def W2 (X:Cx)(c:Addr):Prop:=(c∈X.ex\/X.s₀.heap.get? c=Go)\/RcO X.H₀ X.A.handled c
structure FX (X:Cx) (amD:List (Addr×Obj)) (U:St) (H:Hp) (s:kI) (e C:Addr) (od:Option Addr):Prop where
 inv:BJ X amD U H s
 xo:XO s.heap (New X amD H) (QD (W2 X) H) e C od
structure FN (X:Cx) (amD:List (Addr×Obj)) (U:St) (H:Hp) (s:kI) (e C:Addr) (od:Option Addr):Prop where
 inv:BJ X amD U H s
 xn:XN s.heap (New X amD H) (QD (W2 X) H) e C od
def Top (X:Cx):Prop:=X.stack=X.env::X.outer/\X.env.frame=Dn X.env.locals
theorem FX.note {M:Model}{A:G4}{E:JI->kI->Prop}{Q:Unit->kI->Prop}(F:FX X amD U H s e C od)(ht:Top X)(hA:A.frames=Dn X.stack)(h:∀h',FN X amD U H {s with heap:=h'} e C od->Q () {s with heap:=h'}):
  Bs M A (noteFrame (.ref e) X.env) Q E s:=by
 have hst:=F.inv.stack;rw[ht.1]at hst hA;refine zcm hA hst ht.2 F.xo (λb hb=>F.inv.newOf hb) (λb hb z=>?_) λh' x st=>h h' ⟨F.inv.stp<|ht.1 ▸ st,x⟩;rcases Jz.mp (F.inv.stkSub b (ht.1 ▸ hb))with q|q
 exact z.l q;exact z.f q
theorem FN.flight {M:Model}{A:G4}{E:JI->kI->Prop}{Q:Unit->kI->Prop}{fl:Option Addr}(F:FN X amD U H s e C od)(h:∀h',FN X amD U H {s with heap:=h'} e C od->Q () {s with heap:=h'}):
  Bs M A (setFlight (.ref e) fl) Q E s:=aix F.xn λh' x st=>h h' ⟨F.inv.stp st,x⟩
def CXX (P:Ci)(w:CZ):V5:=λhd outer H s E e s'=>∃(a C:Addr) (od:Option Addr) (H':Hp),e=.ref a/\s'.os=s.os/\Rv s'.gens/\Un (frs outer) [] H H' s.heap s'.heap/\Kp P w H' s'.heap /\
 XN s'.heap (λb=>H' b=Go/\s.heap.get? b=Go) (QD (λb=>s.heap.get? b=Go\/RcO H hd b) H') a C od/\E (.ref C) od H'
end
section
variable {X:Cx}{amD:List (Addr×Obj)}{U:St}{H:Hp}{s:kI}{C:Addr}{x:Str}{np amF pos:Pos}{e:Expr}{es:List Expr}{t:TA}
end
variable {np:Pos}
def afQ (K:Bl)(H:Hp)(μ:Mu)(C:Addr)(n:Str)(od:Option Addr)(fs:List (Str×W)):Prop:=
 (od=Go/\fs=[])\/∃dd ws xs,od=Dn dd/\afI K C n=true/\fs=(Zd n).zip ws/\ws.length=(Zd n).length/\(Zd n).length=xs.length/\H dd=Dn (.xd ((Zd n).zip xs))/\aW K H μ ws xs
def akY (X:Cx)(H:Hp)(μ:Mu)(Γ:St->Prop)(E:CQ):JI->kI->Prop:=λev s=>∃(a C:Addr) (n:Str) (od:Option Addr) (fs:List (Str×W)) (amD:List (Addr×Obj)) (U:St) (H':Hp) (μ':Mu) (h':Gh),ev=.ref a/\FX X amD U H' s a C od/\Ot X.K C n=true/\Γ U /\
 Hw X.K H μ H' μ'/\G5 X.K μ' H' h'/\afQ X.K H' μ' C n od fs/\E ⟨n,fs⟩ h'
def afJ (X:Cx)(Γ:St->Prop)(m:CQ->MS):TS:=λD U H=>Γ U/\∃μ h Uw Dw E,G5 X.K μ H h/\Slots X.K H μ Uw U/\m E Dw Uw h/\zL X.K H μ Dw D/\∀ev s',akY X H μ Γ E ev s'->X.xe ev s'
abbrev DSx (X:Cx)(Γ:St->Prop)(st:Stmt)(m:CQ->MS):Prop:=PS X st (afJ X Γ m)
abbrev afA (X:Cx)(Γ:St->Prop)(st:List Stmt)(m:CQ->MS):Prop:=Pg X st (afJ X Γ m)
def abt (K:Bl)(ms:AP):Sp:=λvs H Q E=>∃μ h ws Qw Ew,G5 K μ H h/\aW K H μ ws vs/\ms ws h Qw Ew/\(∀v H',DQ K H μ Qw v H'->Q v H') /\
 ∀(C:Addr) (n:Str) (od:Option Addr) (fs:List (Str×W)) (H':Hp),Ot K C n=true->(∃μ' h',Hw K H μ H' μ'/\G5 K μ' H' h'/\afQ K H' μ' C n od fs/\Ew ⟨n,fs⟩ h')->E (.ref C) od H'
section
variable {X:Cx}{Γ:St->Prop}{e c:Expr}{es:List Expr}{pos:Pos}{st:Stmt}{rest:List Stmt}
theorem Ux {m:MS}(h:DS X st m):DSx X Γ st (λ_=>m):=h.of λD U H ⟨_,μ,h,Uw,Dw,_,R,S,m,k,_⟩=>⟨μ,h,Uw,Dw,R,S,m,k⟩
theorem Gn {m:CQ->MS}(h:DSx X Γ st m):afA X Γ [st] m:=JF h
end
variable {Γ:St->Prop}
abbrev Cx.tr (X:Cx)(amD:List (Addr×Obj))(xe:JI->kI->Prop):Cx:={X with pn:=X.pn++amD,xe:=xe}
abbrev Cx.hnd (X:Cx)(a:Addr)(H0:Hp):Cx:={X with A:=X.A.mark (Dn (.ref a)),H₀:=H0,calm:=false}
def Dq (a:Addr)(o:Obj):HO:=.ext λh=>h.get? a=Dn o
section
variable {X:Cx}{amD pins':List (Addr×Obj)}{U:St}{H:Hp}{s:kI}{xe:JI->kI->Prop}{a C:Addr}{o:Obj}{u:HO}
theorem Cx.Ok.tr (ok:X.Ok)(amD:List (Addr×Obj))(xe:JI->kI->Prop):(X.tr amD xe).Ok:=
 ⟨ok.mod,ok.kind,ok.glob,ok.blt,ok.above,ok.inj,ok.has,ok.cab,ok.hd,ok.qt,ok.frames,ok.stk,ok.exf,ok.bs,ok.bsz,ok.noex,ok.exfs,ok.funs,ok.frf⟩
theorem Cx.Ok.untr (ok:(X.tr amD xe).Ok):X.Ok:=
 ⟨ok.mod,ok.kind,ok.glob,ok.blt,ok.above,ok.inj,ok.has,ok.cab,ok.hd,ok.qt,ok.frames,ok.stk,ok.exf,ok.bs,ok.bsz,ok.noex,ok.exfs,ok.funs,ok.frf⟩
theorem BJ.tr (I:BJ X amD U H s):BJ (X.tr amD xe) [] U H s:=⟨I.ok.tr amD xe,I.os,I.bare,I.base,I.loc,I.cell,I.free,I.freeC,λp hp=>I.pin p (by
 have hp':=hp;rw[List.append_nil]at hp';exact hp'),I.hok,I.len⟩
theorem BJ.untr (I:BJ (X.tr amD xe) pins' U H s):BJ X amD U H s:=⟨I.ok.untr,I.os,I.bare,I.base,I.loc,I.cell,I.free,I.freeC,λp hp=>I.pin p (Qv _ hp),I.hok,I.len⟩
theorem New.untr {b:Addr}(n:New (X.tr amD xe) pins' H b):New X amD H b:=⟨n.h,n.s,n.l,n.c,λp hp=>n.p p (Qv _ hp),n.f⟩
theorem FX.untr {e:Addr}{od:Option Addr}(F:FX (X.tr amD xe) pins' U H s e C od):FX X amD U H s e C od:=⟨F.inv.untr,F.xo.mono (λ_ n=>n.untr) λ_ z=>z⟩
theorem SP.untr {D:Ends}{f:Flow}{s':kI}(h:SP (X.tr amD xe) [] D f s'):SP X amD D f s':=by
 cases f with
 | next|brk|cont=>obtain⟨U',H',I,q⟩:=h;exact⟨U',H',I.untr,q⟩
 | ret v=>obtain⟨v,U',H',I,r,q⟩:=h;exact⟨v,U',H',I.untr,r,q⟩
structure Y8 (X:Cx) (H0:Hp):Prop where
 s0:∀b ob,X.s₀.heap.get? b=Dn ob->H0 b=X.H₀ b
 tups:∀b xs,X.H₀ b=Dn (.tup xs)->H0 b=Dn (.tup xs)
 frzs:∀b ob v,X.H₀ b=Dn (.frz ob v)->H0 b=Dn (.frz ob v)
 tbls:∀b ps,X.H₀ b=Dn (.tbl ps)->H0 b=Dn (.tbl ps)
theorem QD.lst {N:Addr->Prop}{H:Hp}{z:JI}(c:QD N H z):∃l:List Addr,(∀b∈l,N b/\∃o u,H b=Dn (.frz o u))/\∀H0:Hp,(∀b∈l,H0 b=H b)->QD N H0 z:=by
 induction c with
 | nil=>exact⟨[],λb hb=>absurd hb (by simp),λ_ _=>.nil⟩
 | @cons c o u vs z n h1 h2 h3 _ ih=>
  obtain⟨l,p,q⟩:=ih;refine⟨c::l,λb hb=>?_,λH0 k=>.cons n ((k c<|by simp).trans h1) h2 h3<|q H0 λb hb=>k b<|by simp[hb]⟩;rcases Jz.mp hb with rfl|hb
  grind
  exact p b hb
theorem QD.chn {N:Addr->Prop}{H:Hp}{z:JI}(c:QD N H z):V4 H z:=by
 induction c with
 | nil=>exact .nil
 | cons _ h1 h2 h3 _ ih=>exact .cons h1 h2 h3 ih
open Classical in
theorem BJ.hnd {vs:Array JI}{z:JI}(I:BJ X amD U H s)(n:New X amD H a)(hx:X.ex=[])(ho:s.heap.get? a=Dn o)(hd:o.data=.fields vs)(h2:vs[2]?=Dn z)(ch:QD (W2 X) H z) :
  ∃H0,Y8 X H0/\(∀b,W2 (X.hnd a H0) b->W2 X b)/\BJ (X.hnd a H0) amD U (G7 H a (.frz o (Dq a o))) s:=by
 obtain⟨l1,lp1,lq⟩:=ch.lst;have s0:X.s₀.heap.get? a=Go:=by
  rcases n.s with q|q
  rw[hx]at q;cases q;exact q
 let l:List Addr:=l1.filter λb=>decide (X.s₀.heap.get? b=Go)
 have l0:∀b∈l,X.s₀.heap.get? b=Go:=λb hb=>of_decide_eq_true (Qm.mp hb).2
 have lp:∀b∈l,True/\∃o u,H b=Dn (.frz o u):=λb hb=>⟨trivial,(lp1 b (Qm.mp hb).1).2⟩
 have la:∀b∈l,b≠a:=λb hb q=>by
  obtain⟨_,_,_,e⟩:=lp b hb;rw[q,n.h]at e;cases e
 let H0:Hp:=λb=>if b=a then Dn (.frz o (Dq a o))else if b∈l then H b else X.H₀ b
 have hA:H0 a=Dn (.frz o (Dq a o)):=if_pos rfl;have hL:∀b∈l,H0 b=H b:=λb hb=>(if_neg (la b hb)).trans (if_pos hb)
 have hO:∀b,b≠a->b∉l->H0 b=X.H₀ b:=λb h1 h3=>(if_neg h1).trans (if_neg h3)
 have ne:∀b ob,X.s₀.heap.get? b=Dn ob->b≠a:=λb ob e z=>by rw[z,s0]at e;cases e
 have nl:∀b ob,X.s₀.heap.get? b=Dn ob->b∉l:=λb ob e z=>by rw[l0 b z]at e;cases e
 have eq0:∀b ob,X.s₀.heap.get? b=Dn ob->H0 b=X.H₀ b:=λb ob e=>hO b (ne b ob e) (nl b ob e)
 have nf:∀b∈X.fs,b≠a:=λb hb z=>n.f (by rw[<-z];exact hb)
 have nfl:∀b∈X.fs,b∉l:=λb hb z=>by
  obtain⟨_,ob,ho,_⟩:=I.ok.funs.mem hb;exact nl b ob ho z
 have kf:∀b ob v,X.H₀ b=Dn (.frz ob v)->H0 b=Dn (.frz ob v):=λb ob v e=>by
  have e1:=I.base.frzs b ob v e;by_cases hb:b=a
  rw[hb,n.h]at e1;cases e1;by_cases hl:b∈l
  rw[hL b hl];exact e1;rw[hO b hb hl];exact e
 have kt:∀b xs,X.H₀ b=Dn (.tup xs)->H0 b=Dn (.tup xs):=λb xs e=>by
  have e1:=I.base.tups b xs e;by_cases hb:b=a
  rw[hb,n.h]at e1;cases e1;by_cases hl:b∈l
  rw[hL b hl];exact e1;rw[hO b hb hl];exact e
 have kb:∀b ps,X.H₀ b=Dn (.tbl ps)->H0 b=Dn (.tbl ps):=λb ps e=>by
  obtain⟨_,e1⟩:=I.base.tbls b ps e;by_cases hb:b=a
  rw[hb,n.h]at e1;cases e1;by_cases hl:b∈l
  obtain⟨_,_,_,e2⟩:=lp b hl;rw[e1]at e2;cases e2;rw[hO b hb hl];exact e
 have hL1:∀b∈l1,H0 b=H b:=λb hb=>by
  by_cases q:X.s₀.heap.get? b=Go
  exact hL b<|Qm.mpr ⟨hb,decide_eq_true q⟩
  have nb:b≠a:=λz=>q (by rw[z];exact s0)
  rw[hO b nb (λz=>q (l0 b z))];rcases(lp1 b hb).1 with(z|z)|⟨v,_,r⟩
  rw[hx]at z;cases z;exact absurd z q;obtain⟨o',u',e⟩:=r.frz;rw[e];exact(I.base.frzs b o' u' e).symm
 have ch1:QD (W2 X) H0 (.ref a):=.cons (.inl n.s) hA hd h2 (lq H0 hL1);have nw:∀b,W2 (X.hnd a H0) b->W2 X b:=λb q=>by
  rcases q with q|⟨v,e,r⟩
  exact .inl q;cases e;exact ch1.rc r
 have ok:(X.hnd a H0).Ok:=by
  have k:=I.ok;refine⟨k.mod,k.kind,k.glob,k.blt,k.above,k.inj,k.has,k.cab,λz=>(nomatch z),λv e=>?_,k.frames,k.stk,k.exf,λb ob e=>?_,k.bsz,k.noex,k.exfs,k.funs,λb hb=>?_⟩;cases e;exact⟨⟨a,rfl⟩,ch1.chn⟩;obtain⟨e1,e2⟩:=k.bs b ob e;exact⟨e1,(eq0 b ob e1).trans e2⟩;exact(hO b (nf b hb)<|nfl b hb).trans (k.frf b hb)
 refine⟨H0,⟨eq0,kt,kf,kb⟩,nw,ok,I.os,I.bare,⟨λb ob e z hf hx=>I.base.keep b ob e ((eq0 b ob e).symm.trans z) hf hx,λb ob e z hf hx=>I.base.slot b ob e ((eq0 b ob e).symm.trans z) hf hx,λb ob e z hx=>?_,I.base.there,λb xs z=>?_,λb ob v z=>?_,λb ps z=>?_⟩,I.loc,I.cell,?_,λx c e=>?_,λp hp=>?_,λb v z=>?_,I.len⟩;rw[aP (ne b ob e)];exact I.base.free b ob e ((eq0 b ob e).symm.trans z) hx;have z:H0 b=Dn (.tup xs):=z;by_cases hb:b=a
 rw[hb,hA]at z;cases z;rw[aP hb];by_cases hl:b∈l
 rw[hL b hl]at z;exact z;rw[hO b hb hl]at z;exact I.base.tups b xs z;have z:H0 b=Dn (.frz ob v):=z;by_cases hb:b=a
 rw[hb,hA]at z;rw[hb,bD];exact z;rw[aP hb];by_cases hl:b∈l
 rw[hL b hl]at z;exact z;rw[hO b hb hl]at z;exact I.base.frzs b ob v z;have z:H0 b=Dn (.tbl ps):=z;by_cases hb:b=a
 rw[hb,hA]at z;cases z;rw[aP hb];by_cases hl:b∈l
 obtain⟨_,_,_,e2⟩:=lp b hl;rw[hL b hl,e2]at z;cases z;rw[hO b hb hl]at z;exact I.base.tbls b ps z;rw[aP (Lr n.l)];exact I.free;rw[aP (n.c x c e)];exact I.freeC x c e;obtain⟨h1,h3,h4⟩:=I.pin p hp;exact⟨h1,(aP<|n.p p hp).trans h3,h4⟩;by_cases hb:b=a
 subst hb;rw[bD]at z;cases z;exact⟨ho,ho,⟨o,ho⟩,λh1 h2 q k=>k o q⟩;rw[aP hb]at z;exact(I.hok b v z).stay (λ_ _ _ q=>q) (λc q=>by rw[aP (aZ q n.h)];exact q) λc xs q=>by rw[aP (aZ q n.h)];exact q
theorem BJ.unhnd (ok:X.Ok)(k:Y8 X H0)(I:BJ (X.hnd a H0) pins' U H s):BJ X pins' U H s:=by
 have up:∀b ob,X.s₀.heap.get? b=Dn ob->X.H₀ b=Go->(X.hnd a H0).H₀ b=Go:=λb ob e z=>(k.s0 b ob e).trans z
 exact⟨ok,I.os,I.bare,⟨λb ob e z hf hx=>I.base.keep b ob e (up b ob e z) hf hx,λb ob e z hf hx=>I.base.slot b ob e (up b ob e z) hf hx,λb ob e z hx=>I.base.free b ob e (up b ob e z) hx,I.base.there,λb xs z=>I.base.tups b xs<|k.tups b xs z,λb ob v z=>I.base.frzs b ob v<|k.frzs b ob v z,λb ps z=>I.base.tbls b ps<|k.tbls b ps z⟩,I.loc,I.cell,I.free,I.freeC,I.pin,I.hok,I.len⟩
end
variable {xe:JI->kI->Prop}
section
variable {prog:Ci}{w:CZ}{A:G4}{E:JI->kI->Prop}{s:kI}{K:Bl}{x:Addr}{ox:Obj}
end
def Np (n d:Str):Bool:=n==d||d == "EaselError"
section
variable {K:Bl}{C:Addr}{n d:Str}
theorem U8 (h:Ig K D d=true):Ku K J4 d=Dn (Dn (.ref D))/\PySem.W.typeIn K (.ref D)=Dn (.type "type")/\∃cd,Wn K D=Dn cd/\cd.name=d/\cd.mro.contains (.type "BaseException")=true:=by
 unfold Ig at h;grind
theorem ae2 (h:Ot K C n=true):Ig K C n=true/\(∃cd R,Wn K C=Dn cd/\cd.mro=.ref C::.ref R::vmB/\Ku K J4 "EaselError" = Dn (Dn (.ref R))/\∃cr,Wn K R=Dn cr/\cr.name = "EaselError") /\
  Qq K (.ref C) "__getattribute__" = Dn (Dn (.builtin "BaseException.__getattribute__"))/\Qq K (.ref C) "__getattr__" = Dn Go/\Qq K (.ref C) "__class__" = Dn (Dn (.builtin "object.__class__"))/\PySem.W.specialIn K (.builtin "object.__class__") "__get__" = Dn (Dn (.builtin "getset_descriptor.__get__"))/\PySem.W.takesIn K (.builtin "object.__class__")=Dn true:=by
 unfold Ot at h;simp at h;obtain⟨⟨⟨⟨⟨⟨h1,h2⟩,h3⟩,h3'⟩,h4⟩,h5⟩,h6⟩:=h;refine⟨h1,?_,h3,h3',h4,h5,h6⟩;split at h2
 split at h2
 simp at h2;obtain⟨⟨⟨e1,e2⟩,e3⟩,e4⟩:=h2;obtain⟨cr,e5,e6⟩:=PySem.W.any_some e4;grind
 cases h2;cases h2
theorem acp (h:Ot K C n=true)(hd:Ig K D d=true):PySem.W.mroIn K C (.ref D)=Dn (Np n d):=by
 obtain⟨hx,⟨cd,R,hc,hm,hR,cr,hcr,hnr⟩,_⟩:=ae2 h;obtain⟨n1,_,cd',hc',nm,_⟩:=U8 hx;obtain⟨d1,_,dd,hdd,dm,_⟩:=U8 hd;rw[hc]at hc';cases hc';unfold PySem.W.mroIn;rw[hc,Option.bind_some,hm];show Dn _=Dn _;unfold Np;have e1:(Value.ref C::Value.ref R::vmB).contains (.ref D)=((Value.ref D==Value.ref C)||((Value.ref D==Value.ref R)||false)):=by
  rfl
 rw[e1,Bool.or_false];have a1:(Value.ref D==Value.ref C)=(n==d):=by
  grind
 have a2:(Value.ref D==Value.ref R)=(d == "EaselError"):=by
  grind
 rw[a1,a2]
def agg (K:Bl)(v:V)(f:Str->Bool):Prop:=∀(u:JI),RelV v u->∀(C:Addr) (n:Str),Ot K C n=true->PySem.W.kitOne K (.ref C) u=Dn (f n)
theorem zal {M:Model}{A:G4}{E:JI->kI->Prop}{s:kI}{e:Addr}{oe:Obj}{Q:Bool->kI->Prop}(X:K.In s.heap)(he:s.heap.get? e=Dn oe)(hcls:oe.cls=.ref C)(h:Ot K C n=true)(hd:Ig K D d=true)(hq:Q (Np n d) s):
  Bs M A (excMatches (.ref e) (.ref D)) Q E s:=by
 obtain⟨_,ht,dd,hdd,_,hB⟩:=U8 hd;have L1:YX M s.heap (typeOf (.ref D)) (.type "type"):=PySem.W.looks_typeIn X ht;have L2:YX M s.heap (isSubtype (.ref C) (.ref D)) (Np n d):=PySem.W.looks_mroIn X (acp h hd);have L3:YX M s.heap (isSubtype (.ref D) (.type "BaseException")) true:=PySem.W.looks_mroIn X (by
  unfold PySem.W.mroIn;rw[hdd,Option.bind_some,hB,if_neg];intro q;rw[List.isEmpty_iff]at q;rw[q]at hB;cases hB)
 have hcl:∃c' d' sl',K.lookup D=Dn ⟨c',d',.cls dd,sl'⟩:=by
  unfold Wn at hdd;split at hdd
  rename_i c' d' cd' sl' ho;cases hdd;exact⟨c',d',sl',ho⟩;cases hdd
 obtain⟨c',d',sl',ho⟩:=hcl;have L4:YX M s.heap (isType (.ref D)) true:=by
  intro A' Q' E' s' k q;exact Ay<|wpAny_loadPart (k _ _<|X _ _ ho)<|Bv q
 have L5:YX M s.heap (typeOf (.ref e)) (.ref C):=hcls ▸ (PySem.W.Looks.ld he).andThen .now;have f:=tc_notTuple;refine Ay ?_;refine Ay<|PySem.W.Looks.at L1 ?_
 rw[f];refine Bv ?_;refine Ay<|Bv ?_
 dsimp only;rw[YL];refine Ay<|Ay ?_
 refine Ay<|Ay<|PySem.W.Looks.at L4 ?_
 rw[if_pos rfl];refine PySem.W.Looks.at L3 ?_;rw[if_neg (by decide)];refine Bv ?_;dsimp only;rw[List.forIn_nil];refine Bv ?_;refine Ay<|PySem.W.Looks.at L5 ?_
 rw[YL];refine Ay<|Ay<|Ay<|PySem.W.Looks.at L2 ?_
 cases hb:Np n d with
 | true=>
  rw[hb]at hq;rw[if_pos rfl];exact Bv<|Bv<|Bv hq
 | false=>
  rw[hb]at hq;rw[if_neg U5];refine Bv ?_;dsimp only;rw[List.forIn_nil];exact Bv<|Bv hq
end
def bR.lost (D:bR):bR:={D with nx:=λU h=>D.nx (U.map λ_=>Go) h,bk:=λU h=>D.bk (U.map λ_=>Go) h,ct:=λU h=>D.ct (U.map λ_=>Go) h}
def ade (x:Xw):W:=match x.fs with
 | []=>.exc x.cls
 | f::fs=>.exa x.cls ((f::fs).map (·.2))
def agG (i:Nat)(d:Str)(mb:CQ->MS)(mh:MS):MS:=λD U h=>mb (λx h'=>Ir (Np x.cls d) (mh D.lost (U.set i (Dn (ade x))) h') False) D U h
section
variable {X:Cx}{body:List Stmt}{b₀:Stmt}{suite:List Stmt}{d:Str}{hpos pos:Pos}{i:Nat}{mb:CQ->MS}{mh:MS}
end
variable {suite:List Stmt}{mh:MS}{hpos:Pos}{b₀:Stmt}{mb:CQ->MS}
theorem DR {k:Nat}{A:G4}{a:Addr}(r:o7 k A)(h:8<=k):o7 8 (A.mark (Dn (.ref a))):=⟨nofun,by have:=r.dp;show A.depth+_<_;lia,by have:=r.un;show A.units+_<_;lia⟩
section
variable {X:Cx}{a:Expr}{pos p:Pos}
def af2 (f:Str->Bool)(m:ME):ME:=λU h Q=>m U h λw h1=>match w with
 | .exc n=>Q (.bl (f n)) h1
 | .exa n _=>Q (.bl (f n)) h1
 | _=>False
inductive PCs (X:Cx):List Expr->List V->(Str->Bool)->Prop
 | nil:PCs X [] [] (λ_=>false)
 | cons {e:Expr}{es:List Expr}{v:V}{vs:List V}{f g:Str->Bool}:PE X e (tC v)->agg X.K v f->PCs X es vs g->Ca (e::es) X.env=(false,eval e X.env)::Ca es X.env->PCs X (e::es) (v::vs) (λn=>f n||g n)
end
section
variable {X:Cx}{tg:Expr}{scope:Scope}{xs:List Str}{pos p ppos:Pos}
end
section
variable {prog:Ci}{w:CZ}{A:G4}{E:JI->kI->Prop}{s:kI}
end
section
variable {X:Cx}
end
section
variable {X:Cx}{K:Bl}{o e:Expr}{mo:ME}{ma:MA}{apos amF:Pos}
variable {H:Hp}{amD:List (Addr×Obj)}{s:kI}{U:St}
mutual
theorem aio (I:BJ X amD U H s):∀{w u:W}{v:V},Dt X.K H w v->Dt X.K H u v->w=u
 | .non,u,v,h,g=>by rw[Dt]at h;subst h;cases u<;>rw[Dt]at g<;>first|rfl|exact g.elim|(obtain⟨_,_,g,_⟩:=g;cases g;done)|(cases g;done)
 | .bl b,u,v,h,g=>by rw[Dt]at h;subst h;cases u<;>rw[Dt]at g<;>first|(injection g with g;rw[g];done)|exact g.elim|(obtain⟨_,_,g,_⟩:=g;cases g;done)|(cases g;done)
 | .int b,u,v,h,g=>by rw[Dt]at h;subst h;cases u<;>rw[Dt]at g<;>first|(injection g with g;rw[g];done)|exact g.elim|(obtain⟨_,_,g,_⟩:=g;cases g;done)|(cases g;done)
 | .str b,u,v,h,g=>by rw[Dt]at h;subst h;cases u<;>rw[Dt]at g<;>first|(injection g with g;rw[g];done)|exact g.elim|(obtain⟨_,_,g,_⟩:=g;cases g;done)|(cases g;done)
 | .tup ws,u,v,h,g=>by
  rw[Dt]at h;obtain⟨p,xs,e,hs,ds⟩:=h;subst e;cases u with
  | tup us=>
   rw[Dt]at g;obtain⟨p',xs',e',hs',ds'⟩:=g;cases e'
   have:=I.tuple_inj hs hs'
   subst this;rw[wM I ds ds']
  | lst us=>
   rw[Dt]at g;obtain⟨p',xs',e',hs',ds'⟩:=g;cases e'
   obtain⟨_,_,t,_⟩:=I.tuple hs;obtain⟨_,_,l,_⟩:=I.list hs';exact absurd rfl<|Yv l.isList<|show s.heap.IsTuple _ _ from t
  | ty _=>rw[Dt]at g;exact g.elim
  | loc _=>rw[Dt]at g;exact g.elim
  | kls _=>rw[Dt]at g;exact g.elim
  | exc _=>rw[Dt]at g;exact g.elim
  | exa _ _=>rw[Dt]at g;exact g.elim
  | _=>rw[Dt]at g;cases g
 | .lst ws,u,v,h,g=>by
  rw[Dt]at h;obtain⟨p,xs,e,hs,ds⟩:=h;subst e;cases u with
  | lst us=>
   rw[Dt]at g;obtain⟨p',xs',e',hs',ds'⟩:=g;cases e'
   have:=I.list_inj hs hs'
   subst this;rw[wM I ds ds']
  | tup us=>
   rw[Dt]at g;obtain⟨p',xs',e',hs',ds'⟩:=g;cases e'
   obtain⟨_,_,t,_⟩:=I.tuple hs';obtain⟨_,_,l,_⟩:=I.list hs;exact absurd rfl<|Yv l.isList<|show s.heap.IsTuple _ _ from t
  | ty _=>rw[Dt]at g;exact g.elim
  | loc _=>rw[Dt]at g;exact g.elim
  | kls _=>rw[Dt]at g;exact g.elim
  | exc _=>rw[Dt]at g;exact g.elim
  | exa _ _=>rw[Dt]at g;exact g.elim
  | _=>rw[Dt]at g;cases g
 | .ty _,_,_,h,_=>by rw[Dt]at h;exact h.elim
 | .kls _,_,_,h,_=>by rw[Dt]at h;exact h.elim
 | .loc _,_,_,h,_=>by rw[Dt]at h;exact h.elim
 | .exc _,_,_,h,_=>by rw[Dt]at h;exact h.elim
 | .exa _ _,_,_,h,_=>by rw[Dt]at h;exact h.elim
theorem wM (I:BJ X amD U H s):∀{ws us:List W}{vs:List V},LK X.K H ws vs->LK X.K H us vs->ws=us
 | [],us,vs,h,g=>by
  have e:vs=[]:=by rw[LK]at h;exact h
  subst e;cases us with
  | nil=>rfl
  | cons u us=>rw[LK]at g;obtain⟨_,_,e,_⟩:=g;cases e
 | w::ws,us,vs,h,g=>by
  rw[LK]at h;obtain⟨v,vs',e,d,ds⟩:=h;subst e;cases us with
  | nil=>
   have e:v::vs'=[]:=by rw[LK]at g;exact g
   cases e
  | cons u us=>
   rw[LK]at g;obtain⟨v2,vs2,e2,d2,ds2⟩:=g;cases e2;rw[aio I d d2,wM I ds ds2]
end
end
section
variable {X:Cx}{iter tg:Expr}{scope:Scope}{pos:Pos}{xs:List Str}
end
section
variable {X:Cx}{e:Expr}{es:List Expr}{pos:Pos}
variable {mr:CQ->MA}
end
section
variable {X:Cx}{K:Bl}{H:Hp}{amD:List (Addr×Obj)}{s:kI}{U:St}
end
section
variable {X:Cx}{K:Bl}{H:Hp}{h:Gh}
end
section
variable {X:Cx}{K:Bl}{o e e':Expr}{mo:ME}{ma:MA}{apos amF:Pos}
theorem yQ:∀{xs:List V}{us:List JI}(n:Nat),Ba xs us->Ba (xs.take n) (us.take n)/\Ba (xs.drop n) (us.drop n)
 | _,_,0,r=>⟨.nil,r⟩
 | _,_,_+1,.nil=>⟨.nil,.nil⟩
 | _,_,n+1,.cons r t=>let⟨a,b⟩:=yQ n t;⟨.cons r a,b⟩
theorem yd {H:Hp}{μ:Mu}:∀{ws:List W}{vs:List V}(n:Nat),aW K H μ ws vs->aW K H μ (ws.take n) (vs.take n)/\aW K H μ (ws.drop n) (vs.drop n)
 | _,_,0,r=>⟨.nil,r⟩
 | [],vs,n+1,r=>by
  rw[aW]at r;subst r;exact⟨.nil,.nil⟩
 | w::ws,vs,n+1,r=>by
  rw[aW]at r;obtain⟨v,vs',e,r1,r2⟩:=r;subst e;obtain⟨a,b⟩:=yd n r2;exact⟨.cons r1 a,b⟩
theorem WL {amF:Pos}{e e':Expr}(h:GR e=false)(h':GR e'=false):((J1 amF (Ca [e,e'] env)).all (λx=>!x.1)&&(RL amF (RM [] env)).all (λx=>x.1.isSome)
   && decide (([e,e']:List Expr).length+([]:List MH).length+(if([]:List MH).isEmpty then 0 else 1)<30))=true:=by
 rw[bw h,bw h'];rfl
end
def Vm (m:Nat):List Nat:=(Ji 8).filter λj=>m.testBit j
def rk (m j:Nat):Nat:=((Ji j).filter λi=>m.testBit i).length
def pq (h:Int):Nat->Nat×Nat
 | 0=>(Wo h % 8,Wo h)
 | n+1=>SetTable.leap 7 (pq h n).1 (pq h n).2
def pb (h:Int)(n:Nat):SetTable.Probe:=⟨(pq h n).1,0,(pq h n).1,(pq h n).2,Go⟩
theorem JQ (h:Int):∀n,(pq h n).2=Wo h / 32^n
 | 0=>by simp[pq]
 | n+1=>by
  show(pq h n).2 / 32=_;rw[JQ h n,Nat.div_div_eq_div_mul,Nat.pow_succ]
theorem aiO (h:Int)(n:Nat)(hn:13<=n):(pq h n).2=0:=by
 rw[JQ];apply Nat.div_eq_of_lt;have h1:Wo h<2^64:=by
  unfold Wo;lia
 have h2:32^13<=32^n:=Z5 (by decide) hn;lia
def lcg:Nat->Nat->Nat
 | i,0=>i
 | i,k+1=>(lcg i k*5+1) % 8
theorem TX (h:Int):∀k,(pq h (13+k)).1=lcg (pq h 13).1 k
 | 0=>rfl
 | k+1=>by
  show((pq h (13+k)).1*5+1+(pq h (13+k)).2 / 32) % (7+1)=_;rw[aiO h _ (by lia),TX h k];rfl
theorem least {P:Nat->Bool}:∀(B:Nat),(∃n,n<B/\P n=true)->∃N,N<B/\P N=true/\∀n,n<N->P n=false
 | B+1,⟨n,h,e⟩=>by
  by_cases q:∃n,n<B/\P n=true
  obtain⟨N,a,b,c⟩:=least B q;grind
  grind
section
variable {prog:Ci}{w:CZ}{A:G4}{E:JI->kI->Prop}{s:kI}{ka:Nat->List Int}{ad:Nat->Addr}{t:Yw}{a b:Addr}{k:List Int}
abbrev ajb (prog:Ci)(w:CZ)(h:Heap)(k:List Int)(a:Addr):Prop:=IsTupleKey (intKind prog w) h k a
def hT (prog:Ci)(w:CZ)(k:List Int):Int:=tupleKeyHash (intKind prog w) k
def elL (prog:Ci)(w:CZ)(m:Nat)(ka:Nat->List Int)(ad:Nat->Addr):List (Int×JI):=(Vm m).map λj=>(hT prog w (ka j),Value.ref (ad j))
structure agz (prog:Ci) (w:CZ) (h:Heap) (m:Nat) (ka:Nat->List Int) (ad:Nat->Addr) (t:Yw):Prop where
 mask:t.mask=7
 place:t.place=(Vm m).toArray
 dum:t.dummies=#[]
 m8:m<256
 few:(Vm m).length<=4
 key:∀j,j∈Vm m->ajb prog w h (ka j) (ad j)
 way:∀j,j∈Vm m->∃n,(pq (hT prog w (ka j)) n).1=j/\∀i,i<n->m.testBit (pq (hT prog w (ka j)) i).1=true
def agj (es:Array (Int×JI))(ep:Nat)(t:Yw):Obj:={cls:=.type "set",dict:=Go,data:=.set es ep t}
def aac (prog:Ci)(w:CZ)(h:Heap)(a:Addr)(m:Nat)(ka:Nat->List Int)(ad:Nat->Addr):Prop:=∃ep t,h.get? a=Dn (agj (elL prog w m ka ad).toArray ep t)/\agz prog w h m ka ad t
end
variable {k:List Int}{ad:Nat->Addr}{ka:Nat->List Int}
section
variable {prog:Ci}{w:CZ}{A:G4}{E:JI->kI->Prop}{R:Q9->kI->Prop}
structure agb (prog:Ci) (w:CZ) (z:Nat) (h:Heap) (S:Addr) (seen:List (List Int)) (m:Nat) (ka:Nat->List Int) (ad:Nat->Addr):Prop where
 set:aac prog w h S m ka ad
 low:∀j,j∈Vm m->ad j<z
 mem:∀k,k∈seen↔∃j,j∈Vm m/\ka j=k
 len:(Vm m).length=seen.length
end
section
variable {prog:Ci}{w:CZ}{A:G4}{E:JI->kI->Prop}{s:kI}
end
section
variable {X:Cx}{K:Bl}
theorem El {prog:Ci}{w:CZ}:∀{k:List Int}{us:List JI},Ba (k.map V.int) us->ItemsAre (intKind prog w) k us
 | [],_,.nil=>.nil
 | i::k,_,.cons r t=>by
  obtain⟨tk,rfl⟩:=r;exact .cons (intKind_is _ _ _ _)<|El t
theorem su {α β:Type}{F:α->β->Prop}:∀{l:List α}{k:List β}{j:Nat}{x:α},Mx F l k->l[j]?=Dn x->∃y,k[j]?=Dn y/\F x y
 | _,_,0,_,.cons r _,e=>by simp at e;subst e;exact⟨_,rfl,r⟩
 | _,_,j+1,x,.cons _ t,e=>by
  obtain⟨y,a,b⟩:=su t (by simpa using e);exact⟨y,by simpa using a,b⟩
theorem zQ {xs:List V}{us:List JI}(r:Ba xs us){j:Nat}{u:JI}(e:us[j]?=Dn u):∃x,xs[j]?=Dn x/\RelV x u:=by
 have hl:=r.length;have hj:=(O4.mp e).1;have hj':j<xs.length:=by lia
 obtain⟨y,a,b⟩:=Ba.get r (JD hj');grind
end
section
variable {κ:Type}[DecidableEq κ]
def Hq (kvs:List (κ×V))(k:κ):Option V:=(kvs.find? λkv=>decide (kv.1=k)).map (·.2)
def Mg (kvs:List (κ×V))(k:κ)(v:V):List (κ×V):=
 if(kvs.any λkv=>decide (kv.1=k))=true then kvs.map (λkv=>if kv.1=k then(kv.1,v)else kv)else kvs++[(k,v)]
def Az (kvs:List (κ×V))(k:κ):List (κ×V):=kvs.filter λkv=>decide (kv.1≠k)
theorem Ft {p:κ×V}{r:List (κ×V)}{k:κ}(e:p.1=k):Hq (p::r) k=Dn p.2:=by simp[Hq,e]
theorem Eo {p:κ×V}{r:List (κ×V)}{k:κ}(e:¬p.1=k):Hq (p::r) k=Hq r k:=by simp[Hq,e]
theorem ux (kvs:List (κ×V))(k:κ)(v:V):(Mg kvs k v).length<=kvs.length+1:=by
 unfold Mg;grind
theorem Om.getD {o:Option V}{u:Option JI}{d:V}{d':JI}(r:Om o u)(rd:RelV d d'):RelV (o.getD d) (u.getD d'):=by
 cases o with
 | none=>cases u with
  | none=>exact rd
  | some _=>cases r
 | some _=>cases u with
  | none=>cases r
  | some _=>exact r
theorem KV.val {kvs:List (κ×V)}{vs:List (κ×JI)}(r:KV kvs vs)(k:κ):Om (Hq kvs k) (valueAt vs k):=by
 induction r with
 | nil=>exact True.intro
 | @cons p q ps qs h t ih=>
  obtain⟨h1,h2⟩:=h;by_cases e:p.1=k
  have e':=h1.symm.trans e;have b:valueAt (q::qs) k=Dn q.2:=by simp[valueAt,e']
  rw[Ft e,b];exact h2;have e':¬q.1=k:=λz=>e (h1.trans z)
  have b:valueAt (q::qs) k=valueAt qs k:=by simp[valueAt,e']
  rw[Eo e,b];exact ih
theorem KV.any {kvs:List (κ×V)}{vs:List (κ×JI)}(r:KV kvs vs)(k:κ):(kvs.any λkv=>decide (kv.1=k))=vs.any λkv=>decide (kv.1=k):=by
 induction r with
 | nil=>rfl
 | cons h t ih=>rw[WR,WR,ih,h.1]
theorem KV.repl {kvs:List (κ×V)}{vs:List (κ×JI)}(r:KV kvs vs)(k:κ){y:V}{u:JI}(ry:RelV y u):
  KV (kvs.map λkv=>if kv.1=k then(kv.1,y)else kv) (vs.map λkv=>if kv.1=k then(kv.1,u)else kv):=by
 induction r with
 | nil=>exact .nil
 | @cons p q ps qs h t ih=>
  rw[HY];refine .cons ?_ ih;grind
theorem KV.put {kvs:List (κ×V)}{vs:List (κ×JI)}(r:KV kvs vs)(k:κ){y:V}{u:JI}(ry:RelV y u):KV (Mg kvs k y) (stored vs k u):=by
 unfold Mg stored;rw[r.any k];by_cases e:(vs.any λkv=>decide (kv.1=k))=true
 rw[if_pos e,if_pos e];exact r.repl k ry;rw[if_neg e,if_neg e];exact Paired.snoc r ⟨rfl,ry⟩
theorem KV.drop {kvs:List (κ×V)}{vs:List (κ×JI)}(r:KV kvs vs)(k:κ):KV (Az kvs k) (without vs k):=by
 unfold Az without;induction r with
 | nil=>exact .nil
 | @cons p q ps qs h t ih=>
  obtain⟨h1,h2⟩:=h;rw[Qg,Qg];by_cases e:p.1=k
  grind
  have e':¬q.1=k:=λz=>e (h1.trans z)
  rw[if_pos (by simp[e]),if_pos (by simp[e'])];exact .cons ⟨h1,h2⟩ ih
theorem KV.length {kvs:List (κ×V)}{vs:List (κ×JI)}(r:KV kvs vs):kvs.length=vs.length:=Vx r
theorem alg (kvs:List (κ×V))(k:κ):(Az kvs k).length<=kvs.length:=List.length_filter_le _ _
end
theorem Aj {P:Ci}{w:CZ}{k:Key}{u:JI}(r:RelV (kV k) u):(bL P w).is k u=true:=by
 cases k with
 | inl i=>obtain⟨t,e⟩:=r;subst e;exact zag P w i t
 | inr x=>obtain⟨t,e⟩:=r;subst e;exact zaf P w x t
section
variable {P:Ci}{w:CZ}{H:Hp}{h:Heap}{a:Addr}
theorem aeE {u:HO}(ok:Kp P w H h)(e:Rd H a u):fM P w H h a u:=e.ok ok
theorem Y5 {kvs:List (Key×V)}(ok:Kp P w H h)(e:Rd H a (.dK kvs)):kvs.length<=G6/\(a==PX)=false/\∃vs,KV kvs vs/\h.DictOf (bL P w) a vs:=
 aeE ok e
theorem Cr {kvs:List (Key×V)}(ok:Kp P w H h)(e:H a=Dn (.dK kvs)):kvs.length<=G6/\(a==PX)=false/\∃vs,KV kvs vs/\h.DictOf (bL P w) a vs:=Y5 ok (.inl e)
end
section
variable {X:Cx}{amD:List (Addr×Obj)}{U:St}{H:Hp}{s:kI}{a:Addr}{y v:V}{u r:JI}{o:Option V}{A:G4}{E:JI->kI->Prop}
theorem BJ.big (I:BJ X amD U H s):PX<s.heap.objs.size:=Xa (by decide) ((I.mod.glob.keeps I.bk).lt)
theorem Bg {h':Heap}{t':Nat}{ob:HO}(I:BJ X amD U H s)(mu:Mut (H a))(hs:Wa a s.heap h')(he:∃q,h'.get? a=Dn q)(new:fM X.prog X.w (G7 H a ob) h' a ob):
  BJ X amD U (G7 H a ob) {s with heap:=h',toks:=t'}:=
 I.write mu (.inl rfl) (λb q hb z=>(hs.2 b hb).trans z) he new
theorem Jp {P:Ci}{w:CZ}{H':Hp}{h':Heap}{kvs:List (Key×V)}{vs:List (Key×JI)}(z:kvs.length<=G6)(hd:(a==PX)=false)(rel:KV kvs vs)(dd:h'.DictOf (bL P w) a vs):
  fM P w H' h' a (.dK kvs):=⟨z,hd,vs,rel,dd⟩
end
section
variable {X:Cx}{amD:List (Addr×Obj)}{U:St}{H:Hp}{s:kI}{a:Addr}{kvs:List (Key×V)}{k:Key}{u:JI}{A:G4}{E:JI->kI->Prop}
theorem aci {v:V}{more:List JI}{Q:JI->kI->Prop}(I:BJ X amD U H s)(e:H a=Dn (.dK kvs))(ry:RelV (kV k) u)(l:Hq kvs k=Dn v)(hm:more=[]\/∃x,more=[x])
  (h:∀w' s',BJ X amD U (G7 H a (.dK (Az kvs k))) s'->RelV v w'->Q w' s'):Bs (CJ X.prog X.w) A (call (.builtin "dict.pop") (.ref a::u::more)) Q E s:=by
 obtain⟨z,hd,vs,rel,dd⟩:=Cr I.hok e;obtain⟨w',hw,rw'⟩:=Om.some_of (l ▸ rel.val k);have hp:(keyPart u).isSome=true:=by
  cases k with
  | inl i=>obtain⟨t,q⟩:=ry;subst q;rfl
  | inr x=>obtain⟨t,q⟩:=(ry);subst q;rfl
 have ha:argsOk "dict.pop" ⟨.ref a::u::more,[]⟩:=by
  rcases hm with q|⟨x,q⟩
  subst q;exact PySem.F.args_dict_pop_2 _ _;subst q;exact PySem.F.args_dict_pop_3 _ _ _
 refine call_meetsIn PySem.F.slot_dict_pop dd.typeIs PySem.F.entry_dict_pop ha (meets_dict_pop_there _ a (Aj ry) more hm hp)
  ⟨vs,w',dd,rel.length ▸ z,hw,λh' dd' hs=>h w' _ ?_ rw'⟩
 exact Bg I (e ▸ True.intro) hs (let⟨q,_,_,hq,_⟩:=dd';⟨q,hq⟩)<|Jp (HN (alg kvs k) z) hd (rel.drop k) dd'
end
def Zj (i:Expr):Prop:=∀ov iv,subscripted i false ov iv=operate [ov,iv] (getItem ov iv)
theorem CW {prog:Ci}{w:CZ}{A:G4}{E:JI->kI->Prop}{s:kI}{value slice:Expr}{pos:Pos}{T id:String}{Q:JI->kI->Prop}
  (hl:typeLookup (.type T) "__getitem__" = pure (Dn (.builtin id))) (hs:Zj slice)
  (h:Bs (CJ prog w) A (eval value env) (λo s₁=>Bs (CJ prog w) A (eval slice env) (λi s₂=>s₂.TypeIs o T/\Bs (CJ prog w) A (getItem o i) Q E s₂) E s₁) E s) :
  Bs (CJ prog w) A (eval (.Subscript value slice pos) env) Q E s:=by
 refine Subscript_<|Mq h (λo s₁ h₁=>Mq h₁ (λi s₂ h₂=>?_) λ_ _ x=>x) λ_ _ x=>x
 obtain⟨hT,h₂⟩:=h₂;refine Ay<|Ay<|wpAny_specialOf hT hl ?_
 have fin:Bs (CJ prog w) A (subscripted slice false o i) (λr s₃=>Bs (CJ prog w) A (letTemporaryGo value o r >>= λ_=>pure r) Q E s₃) E s₂:=hs o i ▸ wpAny_operating (Mq h₂ (λr s₃ h₃=>Ay (wpAny_letTemporaryGo (Bv h₃))) λ_ _ x=>x);first
  | exact Bv (Ay fin)
  | exact Ay fin
section
variable {X:Cx}{o i e value:Expr}{pos pos' tpos:Pos}{td ty tv:TE}
end
theorem ahP {P:Ci}{w:CZ}{H:Hp}(h:Heap)(hb:PX<h.objs.size):fM P w H (h.push {cls:=.type "dict",data:=.dict #[]}) h.objs.size (.dK []):=
 ⟨Oj _,beq_eq_false_iff_ne.mpr (Lr (Jl hb)),[],.nil,Heap.DictOf.new h⟩
theorem Ez {P:Ci}{w:CZ}{H:Hp}(h:Heap)(hb:PX<h.objs.size):fM P w H (h.push {cls:=.type "dict",data:=.dict #[]}) h.objs.size (.dT []):=
 ⟨Oj _,beq_eq_false_iff_ne.mpr (Lr (Jl hb)),[],.nil,_,#[],0,JB _ rfl,⟨rfl,rfl,rfl⟩,rfl,rfl,YH⟩
def abR:TE:=λ_ H Q=>∀p,H p=Go->Q (.ref p) (G7 H p (.dK []))
section
variable {X:Cx}{pos:Pos}
theorem ajN:PE X (.Dict [] [] pos) abR:=λamD s U H Q I h=>
 wpAny_Dict_empty ⟨.ref _,_,I.laid (λ_ _ q=>GP _ q) (GZ _) (ahP _ I.big),rfl,h _ (I.hok.fresh (GZ _))⟩
end
def uG (kvs more:List (Key×V)):List (Key×V):=more.foldl (λacc kv=>Mg acc kv.1 kv.2) kvs
theorem KV.merge:∀{more:List (Key×V)}{rs:List (Key×JI)}{kvs:List (Key×V)}{vs:List (Key×JI)},KV more rs->KV kvs vs->KV (uG kvs more) (Qa vs rs):=by
 intro more rs kvs vs r;induction r generalizing kvs vs with
 | nil=>intro q;exact q
 | @cons p q ps qs h t ih=>
  intro r0;have e:KV (Mg kvs p.1 p.2) (stored vs q.1 q.2):=by
   have:=r0.put p.1 h.2
   grind
  exact ih e
theorem nP:∀(more kvs:List (Key×V)),(uG kvs more).length<=kvs.length+more.length
 | [],kvs=>by show kvs.length<=kvs.length+0;lia
 | p::r,kvs=>by
  have h1:=nP r (Mg kvs p.1 p.2);have h2:=ux kvs p.1 p.2;show(uG _ r).length<=_;grind
def S9:W->Option Key
 | .int i=>Dn (.inl i)
 | .str x=>Dn (.inr x)
 | _=>Go
def ql (kvs:List (Key×W))(k:Key):Option W:=(kvs.find? λkv=>decide (kv.1=k)).map (·.2)
def Vi (kvs:List (Key×W))(k:Key)(w:W):List (Key×W):=
 if(kvs.any λkv=>decide (kv.1=k))=true then kvs.map (λkv=>if kv.1=k then(kv.1,w)else kv)else kvs++[(k,w)]
section
variable {K:Bl}{H:Hp}{kvs:List (Key×W)}{kvv:List (Key×V)}{k:Key}{w:W}{v:V}
theorem ju (r:Bq K H μ w v)(e:S9 w=Dn k):v=kV k:=by
 cases w with
 | int i|str x=>rw[Bq]at r;cases e;exact r
 | _=>cases e
theorem lK.val (r:lK K H μ kvs kvv)(e:ql kvs k=Dn w):∃v,Hq kvv k=Dn v/\Bq K H μ w v:=by
 induction r with
 | nil=>cases e
 | @cons p q ps qs h t ih=>
  by_cases z:p.1=k
  have e1:ql (p::ps) k=Dn p.2:=by simp[ql,z]
  rw[e1]at e;cases e;exact⟨q.2,Ft<|h.1.symm.trans z,h.2⟩;have e1:ql (p::ps) k=ql ps k:=by simp[ql,z]
  rw[e1]at e;obtain⟨v,a,b⟩:=ih e;exact⟨v,by rwa[Eo<|λy=>z<|h.1.trans y],b⟩
theorem lK.any (r:lK K H μ kvs kvv)(k:Key):(kvs.any λkv=>decide (kv.1=k))=(kvv.any λkv=>decide (kv.1=k)):=by
 induction r with
 | nil=>rfl
 | @cons p q ps qs h t ih=>rw[WR,WR,ih,h.1]
theorem lK.repl (r:lK K H μ kvs kvv)(rv:Bq K H μ w v)(k:Key):lK K H μ (kvs.map λkv=>if kv.1=k then(kv.1,w)else kv) (kvv.map λkv=>if kv.1=k then(kv.1,v)else kv):=by
 induction r with
 | nil=>exact .nil
 | @cons p q ps qs h t ih=>
  rw[HY];refine .cons ?_ ih;grind
theorem lK.put (r:lK K H μ kvs kvv)(rv:Bq K H μ w v)(k:Key):lK K H μ (Vi kvs k w) (Mg kvv k v):=by
 unfold Vi Mg;rw[<-r.any k];by_cases e:(kvs.any λkv=>decide (kv.1=k))=true
 rw[if_pos e,if_pos e];exact r.repl rv k;rw[if_neg e,if_neg e];exact Paired.snoc r ⟨rfl,rv⟩
theorem G5.dctAt {h:Gh}{n:Nat}(R:G5 K μ H h)(e:h.c n=Dn (.dct kvs)):∃p kvv,μ.f n=Dn p/\H p=Dn (.dK kvv)/\lK K H μ kvs kvv:=by
 obtain⟨p,e1,xs,e2,r⟩:=R.cel n _ e;grind
end
variable {kvv:List (Key×V)}
section
variable {X:Cx}{a b:Expr}{mb:ME}{pos:Pos}
def Xu:M2:=λx y h Q=>match x,S9 y with
 | .loc n,Dn k=>(match h.c n with
  | some (.dct kvs)=>(match ql kvs k with
   | some w=>Q w h
   | none=>False)
  | _=>False)
 | _,_=>False
theorem ali {o i:Expr}{td ty:TE}(ho:PE X o td)(hi:PE X i ty)(hs:Zj i):PE X (.Subscript o i pos) (λU H Q=>td U H λx H1=>ty U H1 λy H2=>∃a kvs k v,x=.ref a/\Rd H2 a (.dK kvs)/\y=kV k/\Hq kvs k=Dn v/\Q v H2):=by
 intro amD s U H Q I h;refine CW PySem.F.slot_dict_getitem.lookup hs<|GJ (ho amD s U H _ I h) λu s1 ⟨x,H1,I1,rx,q1⟩=>GJ (hi amD s1 U H1 _ I1 q1) λiv s2 ⟨y,H2,I2,ry,a,kvs,k,v,ex,e,ey,l,q2⟩=>?_
 subst ex ey;obtain rfl:u=Value.ref a:=rx;obtain⟨z,hd,vs,rel,dd⟩:=Y5 I2.hok e;obtain⟨w',hw,rw'⟩:=Om.some_of (l ▸ rel.val k);exact⟨dd.typeIs,wpAny_getItem_of (Aj ry) dd.mapOf hw ⟨v,H2,I2.tok _,rw',q2⟩⟩
theorem aeU (ha:DE X a ma)(hb:DE X b mb)(hs:Zj b):DE X (.Subscript a b pos) (Af Xu ma mb):=(ali ha hb hs).of λU H Q h=>two h λ{H2 μ2 h2 x y wx wy Qw} R r1 r2 m k=>by
 unfold Xu at m;split at m
 rename_i n kk e;split at m
 rename_i kvs ec;split at m
 rename_i w ev;obtain⟨p,kvv,hp,hx,rf⟩:=R.dctAt ec;obtain⟨p',e1,hp'⟩:=r1;obtain rfl:=by rw[hp]at hp';exact(IV hp').symm
 obtain⟨v,e2,rv⟩:=rf.val ev;exact⟨p',kvv,kk,v,e1,.inl hx,ju r2 e,e2,k _ _ ⟨μ2,w,h2,.refl,R,rv,m⟩⟩;cases m;cases m;cases m
def aaS:XC:=λo i v H N=>∃a kvs k,o=.ref a/\H a=Dn (.dK kvs)/\i=kV k/\kvs.length<G6/\N (G7 H a (.dK (Mg kvs k v)))
theorem set_dict:abW X aaS:=by
 intro amD s U H o i v ov iv u Q I ro ri rv ⟨a,kvs,k,eo,e,ei,l,q⟩;subst eo ei;obtain rfl:ov=Value.ref a:=ro;obtain⟨z,hd,vs,rel,dd⟩:=Cr I.hok e;refine wpAny_setItem_pairs (hsz:=(rel.length ▸ z)) (Aj ri) dd λh' dd' hs=>⟨_,?_,q⟩;exact Bg I (e ▸ True.intro) hs (let⟨q,_,_,hq,_⟩:=dd';⟨q,hq⟩)<|Jp (by have:=ux kvs k v;lia) hd (rel.put k rv) dd'
def Jf:YQ:=λo i w h N=>match o,S9 i with
 | .loc n,Dn k=>(match h.c n with
  | some (.dct kvs)=>gn (kvs.length+1) (N (h.set n (.dct (Vi kvs k w))))
  | _=>False)
 | _,_=>False
theorem Gb {K:Bl}:Gf K aaS Jf:=by
 intro H μ h o i v wo wi w Nw N R ro ri r m k;unfold Jf at m;split at m
 rename_i n kk e;split at m
 rename_i kvs ec;obtain⟨p,kvv,hp,hx,rf⟩:=R.dctAt ec;obtain⟨p',e1,hp'⟩:=ro;obtain rfl:=by rw[hp]at hp';exact(IV hp').symm
 refine⟨p',kvv,kk,e1,hx,ju ri e,?_,k _ ⟨μ,_,(Ex.write R hp).ext,R.write (c:=.dct _) hp trivial ⟨_,bD,(lK.put (Paired.mapP rf λ_ _ z=>⟨z.1,(Ex.write R hp).ext.r _ _ z.2⟩) ((Ex.write R hp).ext.r _ _ r) kk)⟩,m.ok.2⟩⟩;have:=m.ok.1
 rw[Vx rf]at this;lia;cases m;cases m
inductive DDs (X:Cx):List (Option Expr)->List Expr->List (Key×ME)->Prop
 | nil:DDs X [] [] []
 | cons {x:Str} {j pos} {v:Expr}{m:ME}{ks:List (Option Expr)}{vs:List Expr}{r:List (Key×ME)}(h:DE X v m) (t:DDs X ks vs r):DDs X (Dn (.Constant (.str x) j pos)::ks) (v::vs) ((.inr x,m)::r)
end
inductive Dl (w:CZ) (K:Bl):List Ql->List (Key×W)->Prop
 | nil:Dl w K [] []
 | cons {x:Str} {t} {v:V}{u:JI}{d:W}{es:List Ql}{tbl:List (Key×W)}(r:RelV v u) (q:∀H μ,Bq K H μ d v) (h:Dl w K es tbl):Dl w K (⟨WW w.params x,.str x t,u⟩::es) ((.inr x,d)::tbl)
def ac5 (w:CZ)(K:Bl)(a:Addr)(tbl:List (Key×W)):Prop:=(a==PX)=false/\(tbl.map (·.1)).Nodup/\tbl.length<=G6/\∃es n,K.lookup a=Dn ⟨.type "dict",Go,.dict es n,#[]⟩/\Dl w K es.toList tbl
variable {tbl:List (Key×W)}
theorem Dl.pairs {P:Ci}{w:CZ}{K:Bl}{es:List Ql}(h:Dl w K es tbl):
  (∀e∈es,∃k,(bL P w).is k e.key=true/\e.hash=(bL P w).hash k)/\∃vs kvv,Pairs (bL P w) es vs/\KV kvv vs/\(∀H μ,lK K H μ tbl kvv)/\vs.map (·.1)=tbl.map (·.1):=by
 induction h with
 | nil=>exact⟨λe z=>(nomatch z),[],[],.nil,.nil,λ_ _=>.nil,rfl⟩
 | @cons x t v u d es tbl r q h ih=>
  obtain⟨h1,vs,kvv,h2,h3,h4,h5⟩:=ih;have hk:(bL P w).is (.inr x) _=true:=Aj ⟨t,rfl⟩;refine⟨λe z=>?_,(.inr x,u)::vs,(.inr x,v)::kvv,.cons hk rfl h2,.cons ⟨rfl,r⟩ h3,λH μ=>.cons ⟨rfl,q H μ⟩<|h4 H μ,by rw[HY,HY,h5]⟩;rcases Jz.mp z with z|z
  subst z;exact⟨.inr x,hk,rfl⟩;exact h1 e z
theorem ac5.dict {X:Cx}{amD:List (Addr×Obj)}{U:St}{H:Hp}{s:kI}{a:Addr}(T:ac5 X.w X.K a tbl)(I:BJ X amD U H s):
  ∃vs kvv,s.heap.DictOf (bL X.prog X.w) a vs/\KV kvv vs/\∀H μ,lK X.K H μ tbl kvv:=by
 obtain⟨_,nd,_,es,n,hl,he⟩:=T;obtain⟨h1,vs,kvv,h2,h3,h4,h5⟩:=he.pairs;exact⟨vs,kvv,⟨_,es,n,I.kIn _ _ hl,⟨rfl,rfl,rfl⟩,rfl,λe z=>h1 e<|Array.mem_toList_iff.mpr z,h2,h5 ▸ nd⟩,h3,h4⟩
section
variable {X:Cx}{b:Expr}{mb:ME}{pos p:Pos}{x:Str}{a:Addr}
def adi (tbl:List (Key×W))(mb:ME):ME:=λU h Q=>mb U h λy h1=>match S9 y with
 | some k=>(match ql tbl k with
  | some w=>Q w h1
  | none=>False)
 | none=>False
theorem aeH (T:ac5 X.w X.K a tbl)(hg:Gl X x)(hm:X.mg x=Dn (.ref a))(hb:DE X b mb)(hs:Zj b)(hd:(x==("__debug__" : Str))=false:=by decide):DE X (.Subscript (.Name x p) b pos) (adi tbl mb):=by
 intro amD s U H Q I ⟨μ,g,Uw,Qw,R,S,m,q⟩;refine CW PySem.F.slot_dict_getitem.lookup hs<|GJ ((jo hg hm rfl hd:PE X _ (tC<|.ref a)) amD s U H (λv H'=>v=.ref a/\H'=H) I ⟨rfl,rfl⟩) λu s1 ⟨v1,H1,I1,rx,ev,eH⟩=>?_
 subst ev eH;obtain rfl:u=Value.ref a:=rx;refine GJ (hb amD s1 U H1 _ I1 ⟨μ,g,Uw,_,R,S,m,λy H2 z=>z⟩) λiv s2 ⟨y,H2,I2,ry,μ2,wy,h2,e2,R2,r2,z⟩=>?_;obtain⟨vs,kvv,dd,rel,rf⟩:=T.dict I2;split at z
 rename_i k ek;split at z
 rename_i w ew;cases ju r2 ek
 obtain⟨v,ev,rv⟩:=(rf H2 μ2).val ew;obtain⟨w',hw,rw'⟩:=Om.some_of (ev ▸ rel.val k);exact⟨dd.typeIs,wpAny_getItem_of (Aj ry) dd.mapOf hw ⟨v,H2,I2.tok _,rw',q _ _ ⟨μ2,w,h2,e2,R2,rv,z⟩⟩⟩;cases z;cases z
end
section
variable {X:Cx}{pos p p':Pos}{x:Str}{a:Addr}
end
section
variable {X:Cx}
def Io (K:Bl):V->List V->Hp->VK->Prop:=λx vs H Q=>∃(l:Addr) (ns:List Str) (k:Str) (j:Nat),x=.ref l/\vs=[.str k]/\JH K H l (ns.map V.str)/\ns[j]?=Dn k/\(∀m,m<j->ns[m]?≠Dn k)/\Q (.int j) H
theorem zbd:R6 X "list.index" (Io X.K):=by
 intro amD s U H x vs v us Q I rx rv h;obtain⟨l,ns,k,j,rfl,rfl,hx,hj,hno,q⟩:=h;cases rx;obtain⟨u,rfl,ru⟩:=rv.one;obtain⟨t,rfl⟩:=ru;obtain⟨its,r,pl,hz⟩:=I.list hx;obtain⟨⟨cl,dd,da,sl⟩,n,e,c1,c2,c3⟩:=pl;subst c1 c2 c3;have hl:=r.length;rw[CV]at hl;have at':∀{m:Nat}(hm:m<its.toArray.size),∃a t',ns[m]?=Dn a/\its.toArray[m]=.str a t':=λ{m} hm=>by
  have hm':m<ns.length:=by rw[Jr]at hm;lia
  obtain⟨u,hu,ru⟩:=r.get (show(ns.map V.str)[m]?=Dn (.str ns[m]) by rw[HI,JD hm'];rfl);obtain⟨t',rfl⟩:=ru;refine⟨ns[m],t',JD hm',?_⟩;have:=(O4.mp hu).2
  simpa using this
 have hjl:j<its.toArray.size:=by
  have:=(O4.mp hj).1
  rw[Jr];lia
 have h63:(G6:Nat)<2^63-1:=by decide
 have hz':ns.length<=G6:=by rw[CV]at hz;exact hz
 let ev:JI->Bool:=λy=>match y with
  | .str a _=>a==k
  | _=>false
 refine V9 F.slot_list_index ⟨_,e,rfl⟩ F.entry_list_index (F.args_list_index_2 _ _) (SeqAt.list_indexAt l its.toArray n Go sl (.str k t) ev j hjl ?_ ?_ ?_) ⟨e,?_,?_⟩;rw[Jr]at hjl;lia;obtain⟨a,t',ea,e2⟩:=at' hjl;rw[e2];rw[hj]at ea;cases ea;exact beq_self_eq_true k;intro m hm hmj;obtain⟨a,t',ea,e2⟩:=at' hm;rw[e2];show(a==k)=false;refine beq_eq_false_iff_ne.mpr λx=>hno m hmj ?_;rw[ea,x];intro y hy;obtain⟨m,hm,e2⟩:=Array.mem_iff_getElem.mp hy;obtain⟨a,t',ea,e3⟩:=at' hm;rw[<-e2,e3];exact SeqAt.EqAt.str_str a t' k t;exact⟨.int j,H,I.tok _,⟨_,rfl⟩,q⟩
def wk:MM:=λx ws h Q=>match ws with
 | [.str k]=>(match eU h x with
  | some us=>∃(ns:List Str) (j:Nat),us=ns.map W.str/\ns[j]?=Dn k/\(∀m,m<j->ns[m]?≠Dn k)/\Q (.int j) h
  | none=>False)
 | ws=>Nv x ws h Q
theorem vH {K:Bl}{H:Hp}{μ:Mu}:∀{ns:List Str}{xs:List V},aW K H μ (ns.map W.str) xs->xs=ns.map V.str
 | [],xs,r=>r
 | n::ns,xs,r=>by
  obtain⟨v,vs,e,rv,r⟩:=r;rw[e,rv,vH r];rfl
theorem zbO {K:Bl}:Qz K (λx vs H Q=>Ma K x vs H Q\/Io K x vs H Q) wk:=by
 intro H μ h x vs wx ws Qw Q R rx rs m k;unfold wk at m;split at m
 rename_i i;obtain⟨v,ev,rv⟩:=fV rs;subst ev rv;split at m
 rename_i us ev;obtain⟨ns,j,eu,hj,hno,m⟩:=m;obtain⟨p,xs,ex,hs,rr⟩:=cY R rx ev;rw[eu]at rr;obtain rfl:=vH rr;exact .inr ⟨p,ns,i,j,ex,rfl,hs,hj,hno,k _ _<|.int R m⟩;cases m;exact .inl<|zcj R rx rs m k
theorem zbD {o e:Expr}{mo:ME}{ma:MA}{apos amF:Pos}(ho:DE X o mo)(ha:KR X [e] ma)
  (hbase:Qo o "index" X.env (eval o X.env)=eval o X.env:=by rfl)
  (hfew:((J1 amF (Ca [e] X.env)).all (λx=>!x.1)&&(RL amF (RM [] X.env)).all (λx=>x.1.isSome)
   && decide (([e]:List Expr).length+([]:List MH).length+(if([]:List MH).isEmpty then 0 else 1)<30))=true:=by rfl)
  (hline:(apos.endLine==amF.line)=true:=by rfl) (hst:Ca [e] X.env=(false,eval e X.env)::Ca [] X.env:=by rfl) (hplain:(J1 amF (Ca [] X.env)).any (·.1)=false:=by rfl) :
  DE X (.Call (.Attribute o "index" apos) [e] [] amF) (afL wk mo ma):=(aco PySem.F.plainAttrs_list PySem.F.slot_list_index PySem.F.type_list_index (R6.or zbQ zbd) ho ha hbase hfew hline hst hplain).of λU H Q ⟨μ,h,Uw,Qw,R,S,m,k⟩=>by
 exact⟨μ,h,Uw,_,R,S,m,λv H1 ⟨μ1,w,h1,e1,R1,r1,il⟩=>⟨(z9 R1 r1 il).1,μ1,h1,Uw,_,R1,S.ext e1,((z9 R1 r1 il).2),λvs H2 ⟨μ2,ws,h2,e2,R2,r2,m2⟩=>zbO R2 (e2.r _ _ r1) r2 m2 λv H' z=>k _ _<|(z.trans e2).trans e1⟩⟩
end
section
variable {X:Cx}{K:Bl}{H:Hp}{h:Gh}
end
section
variable {X:Cx}{a b c:Expr}{mb mc:ME}{pos:Pos}
end
section
variable {K:Bl}{H:Hp}{fs:List (Str×W)}{fvs:List (Str×V)}{f:Str}{w:W}{v:V}
end
section
variable {X:Cx}{e o value:Expr}{es:List Expr}{mo mv:ME}{f:Str}{C:Addr}{pos pos' apos:Pos}
end
section
variable {prog:Ci}{w:CZ}{A:G4}{E:JI->kI->Prop}{s:kI}
theorem zch:typeLookup (.type "list_reverseiterator") "__len__" = pure Go:=by rw[typeLookup_type,Z2];kernel_rfl
theorem zbw:typeLookup (.type "list_reverseiterator") "__length_hint__" = pure (Dn (.builtin "list_reverseiterator.__length_hint__")):=by rw[typeLookup_type,Z2];kernel_rfl
theorem ahZ {r:Addr}{Q:Bool->kI->Prop}(hT:s.TypeIs (.ref r) "list_reverseiterator")(h:Q false s):Bs (CJ prog w) A (Builtin.List.listLengthHint (.ref r)) Q E s:=by
 refine Ay<|wpAny_specialOf hT zch ?_
 refine Ay<|wpAny_specialOf hT zbw ?_
 generalize hid:("list_reverseiterator.__length_hint__" : String)=id0;subst hid;refine Ay<|wpAny_isInstance (T := "list_reverseiterator") (b:=true) hT (by rw[isSubtype_type];kernel_rfl) ?_
 exact Bv h
theorem zaE {R:Q9->kI->Prop}{r l:Addr}{items:Array JI}(hh:A.handled=Go)(hit:s.heap.IsRevIter r l ((items.size:Int)-1))(hl:s.heap.IsList l items)(hne:l≠r)(S:Addr)(hSr:S≠r)(hSl:S≠l)(res:JI)(c₀:Nat)(hS:s.heap.get? S=Dn {cls:=.type "list",data:=.seq #[] c₀})
  (hR:∀h' tk acc' c',(∀b o,b≠S->b≠r->s.heap.get? b=Dn o->h'.get? b=Dn o)->h'.get? S=Dn {cls:=.type "list",dict:=Go,data:=.seq acc' c',slots:=#[]}->ItemsOf (λi v=>items[items.size-1-i]?=Dn v) acc' items.size->R (.ok (.ret res)) {s with heap:=h',toks:=tk}) (hn:items.size<=G6) :
  Bs (CJ prog w) A.in1 (Builtin.List.listExtendWith (.ref S) (.ref r) res)
   (λfin s'=>match fin with|.done f=>R (.ok f) s'|.again c'=>c'.quiet=true/\PL (CJ prog w) A c' R s') (λe s'=>R (.error e) s') s:=by
 have hSf:S∉[r,l]:=by simp only[Jz,Va,or_false,not_or];exact⟨hSr,hSl⟩
 have W:=Walks.listRev (prog:=prog) (w:=w) (A:=A.in1) hh r l hne items;have st:(λ(i:Nat) (h:Heap)=>i<=items.size/\h.IsRevIter r l ((items.size:Int)-1-(i:Int))/\h.IsList l items) 0 s.heap:=⟨Oj _,by simpa using hit,hl⟩
 have key:∀(h:Heap) (c₁ tk:Nat),(λ(i:Nat) (h:Heap)=>i<=items.size/\h.IsRevIter r l ((items.size:Int)-1-(i:Int))/\h.IsList l items) 0 h->(∀b o,b≠S->s.heap.get? b=Dn o->h.get? b=Dn o) ->
   h.get? S=Dn {cls:=.type "list",data:=.seq #[] c₁}->PL (CJ prog w) A (.builtin "list.extend.loop" ⟨[.ref S,.ref r,res],[]⟩) R {s with heap:=h,toks:=tk}:=by
  intro h c₁ tk hst hk hS₁;refine codeAny_extend_loopS W.toS hn S hSf res items.size 0 _ #[] c₁ rfl (Oj _) hst hS₁ (ItemsOf.nil _) λs' acc' c' hm hS' hacc=>?_;rw[Moved.eq_with hm];refine hR s'.heap s'.toks acc' c' (λb o hb hr e=>hm.heap b o (λhmem=>?_)<|hk b o hb e) hS' hacc;rcases Jz.mp hmem with e'|hmem
  exact hb e';exact hr<|Q0.mp hmem
 unfold Builtin.List.listExtendWith;refine Ay<|Qj (T := "list_reverseiterator") hit.typeIs ?_
 have h1:Builtin.List.listSameRef (.ref S) (.ref r)=false:=by simp[Builtin.List.listSameRef,hSr]
 have n1:(Value.type "list_reverseiterator"==Value.type "list")=false:=by decide +kernel
 have n2:(Value.type "list_reverseiterator"==Value.type "tuple")=false:=by decide +kernel
 simp only[h1,n1,n2,Bool.or_false,Xp,if_false];refine Ay<|wpAny_pyIter_revIter hit ?_
 refine Ay<|Ob<|ahZ hit.typeIs ?_
 refine wpAny_ite_split (λ_=>?_)<|λ_=>Bv ⟨Qp PySem.F.plain_extend_loop _,key _ c₀ _ st (λb o _ e=>e) hS⟩
 refine Ay<|Pu ?_
 refine Ay ?_;show Bs _ _ (updateSeq S (·.push .none) >>= λ_=>updateSeq S (·.pop)) _ _ _;refine Ay<|wpAny_updateSeq hS rfl ?_
 have hS₂:=UW (Wq (·.push Value.none)) hS rfl;refine wpAny_updateSeq (hz:=by seq_fits) hS₂ rfl ?_;have hS₃:=UW (Wq (·.pop)) hS₂ rfl;refine Bv ⟨Qp PySem.F.plain_extend_loop _,key _ _ _ ?_ (λb o hb e=>?_) hS₃⟩;refine W.frame 0 _ _ st λb hb o e=>?_;have hbS:b≠S:=λh=>hSf (h ▸ hb)
 exact(Pz _ _<|Lr hbS).trans ((Pz _ _<|Lr hbS).trans e);exact(Pz _ _<|Lr hb).trans ((Pz _ _<|Lr hb).trans e)
end
theorem aiz:∀{xs:List V}{us:List JI},Ba xs us->Ba xs.reverse us.reverse:=by
 intro xs us r;induction r with
 | nil=>exact .nil
 | cons h t ih=>
  rw[Y4,Y4];exact Ba.append ih<|.cons h .nil
theorem Gq {K:Bl}{H:Hp}{μ:Mu}:∀{ws:List W}{vs:List V},aW K H μ ws vs->aW K H μ ws.reverse vs.reverse
 | [],vs,r=>by subst r;exact aW.nil
 | w::ws,vs,r=>by
  obtain⟨v,vs',e,rv,r⟩:=r;subst e;rw[Y4,Y4];exact aW.append (Gq r)<|aW.cons rv aW.nil
section
variable {X:Cx}
end
section
variable {X:Cx}{e:Expr}{me:ME}{x:Str}{a:Addr}{p pos:Pos}
end
section
variable {X:Cx}{C:Addr}{o e:Expr}{es:List Expr}{mo:ME}{pos apos:Pos}
end
def EY (kvs:List (List Int×W))(k:List Int):Option W:=(kvs.find? λx=>decide (x.1=k)).map (·.2)
def Zz (kvs:List (List Int×W))(k:List Int)(w:W):List (List Int×W):=if(EY kvs k).isSome then kvs.map (λx=>if x.1=k then(x.1,w)else x)else kvs++[(k,w)]
section
variable {X:Cx}{amD:List (Addr×Obj)}{U:St}{H:Hp}{s:kI}{K:Bl}
def J6 (K:Bl)(H:Hp)(xs:List (List Int×Addr×JI)):Prop:=∀x∈xs,Hi K H x.2.1 (x.1.map V.int)
theorem z7 {b:Addr}(I:BJ X amD U H s)(hb:Hi X.K H b (k.map V.int)):(tupleKind (intKind X.prog X.w)).is s.heap k b:=by
 obtain⟨its2,r2,⟨o,ho,hcl,n,hd⟩,_⟩:=I.tuple hb;exact⟨o,_,_,ho,hcl,hd,El r2⟩
theorem Cy {a:Addr}{xs:List (List Int×Addr×JI)}(I:BJ X amD U H s)(e:H a=Dn (.ext (Ov a xs)))(hk:J6 X.K H xs):xs.length<=G6/\(a==PX)=false/\s.heap.DictOfH (tupleKind (intKind X.prog X.w)) a xs:=by
 obtain⟨⟨z,y,nd,o,es,ep,h1,h2,h3,h4⟩,_⟩:=I.hok a _ e;exact⟨z,y,o,es,ep,h1,h2,h3,h4,λx hx=>z7 I<|hk x hx,nd⟩
theorem Jj {P:Ci}{w:CZ}{H':Hp}{a:Addr}{xs:List (List Int×Addr×JI)}{h:Heap}(z:xs.length<=G6)(y:(a==PX)=false)(d:h.DictOfH (tupleKind (intKind P w)) a xs):fM P w H' h a (.ext (Ov a xs)):=by
 obtain⟨o,es,ep,h1,h2,h3,h4,_,h5⟩:=d;exact⟨⟨z,y,h5,o,es,ep,h1,h2,h3,h4⟩,⟨o,h1⟩,λg1 g2 ⟨z,y,nd,o,es,ep,a1,a2,a3,a4⟩ k=>⟨z,y,nd,o,es,ep,k o a1,a2,a3,a4⟩⟩
theorem ajj {x:List Int×Addr×JI}{xs:List (List Int×Addr×JI)}:atKey (x::xs) k=if x.1=k then Dn x.2 else atKey xs k:=by
 unfold atKey;grind
theorem Eu {x:List Int×W}{kvs:List (List Int×W)}:EY (x::kvs) k=if x.1=k then Dn x.2 else EY kvs k:=by
 unfold EY;grind
theorem wY:∀{kvs:List (List Int×W)}{xs:List (List Int×Addr×JI)}{vs:List V},kvs.map (·.1)=xs.map (·.1)->Ba vs (xs.map (·.2.2))->aW K H μ (kvs.map (·.2)) vs->∀k:List Int,
  (∀w,EY kvs k=Dn w->∃p v,atKey xs k=Dn p/\RelV v p.2/\Bq K H μ w v)/\(EY kvs k).isSome=(atKey xs k).isSome
 | [],[],_,_,_,_,k=>⟨λw e=>by simp[EY]at e,rfl⟩
 | x::kvs,y::xs,vs,e,hv,hr,k=>by
  rw[HY]at e;obtain⟨e1,e2⟩:=TK e;obtain⟨v,vs',rfl,r1,r2⟩:=hr;cases hv with
  | cons a b=>
   obtain⟨i1,i2⟩:=wY e2 b r2 k;rw[Eu,ajj,e1];by_cases z:y.1=k
   grind
   rw[if_neg z,if_neg z];grind
theorem G5.dttAt {h:Gh}{n:Nat}{kvs:List (List Int×W)}(R:G5 K μ H h)(e:h.c n=Dn (.dtt kvs)):∃p xs vs,μ.f n=Dn p/\H p=Dn (.ext (Ov p xs))/\kvs.map (·.1)=xs.map (·.1)/\Ba vs (xs.map (·.2.2))/\aW K H μ (kvs.map λx=>W.tup (x.1.map W.int)) (xs.map λx=>V.ref x.2.1)/\aW K H μ (kvs.map (·.2)) vs:=by
 obtain⟨p,e1,xs,vs,a,b,c,d,f⟩:=R.cel n _ e;grind
theorem DK:∀{k:List Int}{vs:List V},aW K H μ (k.map W.int) vs->vs=k.map V.int
 | [],_,h=>h
 | i::k,_,h=>by
  obtain⟨v,vs,rfl,r,t⟩:=h;rw[r,DK t];rfl
theorem ale {b:Addr}(r:Bq K H μ (.tup (k.map .int)) (.ref b)):Hi K H b (k.map V.int):=by
 obtain⟨p,xs,e,hs,hr⟩:=r;cases e
 rwa[DK hr]at hs
theorem kO:∀{kvs:List (List Int×W)}{xs:List (List Int×Addr×JI)},kvs.map (·.1)=xs.map (·.1)->aW K H μ (kvs.map λx=>W.tup (x.1.map W.int)) (xs.map λx=>V.ref x.2.1)->J6 K H xs
 | [],[],_,_=>λx hx=>nomatch hx
 | x::kvs,y::xs,e,hr=>by
  rw[HY]at e;obtain⟨e1,e2⟩:=TK e;rw[HY]at hr;obtain⟨v,vs',ev,r1,r2⟩:=hr;obtain⟨rfl,rfl⟩:=TK ev;intro z hz;rcases Jz.mp hz with rfl|hz
  rw[e1]at r1;exact ale r1;exact kO e2 r2 z hz
end
section
variable {X:Cx}{a b o i:Expr}{mb:ME}{td ty:TE}{pos:Pos}
def Tz:W->Option (List Int)
 | .tup ws=>wW ws
 | _=>Go
def aaJ:M2:=λx y h Q=>match x,Tz y with
 | .loc n,Dn k=>(match h.c n with
  | some (.dtt kvs)=>(match EY kvs k with
   | some w=>Q w h
   | none=>False)
  | _=>False)
 | _,_=>False
theorem qW {K:Bl}{H:Hp}{y:W}{v:V}(r:Bq K H μ y v)(e:Tz y=Dn k):∃b,v=.ref b/\Hi K H b (k.map V.int):=by
 unfold Tz at e;split at e
 obtain⟨p,xs,e1,hs,hr⟩:=r;exact Gs hr e ▸ ⟨p,e1,hs⟩;cases e
theorem zU {k:List Int}{v:JI}:∀{xs:List (List Int×Addr×JI)},(xs.map (putAt k v)).map (·.1)=xs.map (·.1)
 | []=>rfl
 | x::xs=>by
  rw[HY,HY,zU];unfold putAt;grind
theorem yg {k:List Int}{v:JI}:∀{xs:List (List Int×Addr×JI)},(xs.map (putAt k v)).map (λx=>V.ref x.2.1)=xs.map (λx=>V.ref x.2.1)
 | []=>rfl
 | x::xs=>by
  rw[HY,HY,yg];unfold putAt;grind
def abB (K:Bl):XC:=λo i v H N=>∃a xs k b,o=.ref a/\H a=Dn (.ext (Ov a xs))/\J6 K H xs/\i=.ref b/\Hi K H b (k.map V.int)/\xs.length<G6/\∀u,RelV v u->N (G7 H a (.ext (Ov a (storedH xs k b u))))
theorem zaH {xs:List (List Int×Addr×JI)}{b:Addr}{u:JI}:(storedH xs k b u).length<=xs.length+1:=by
 unfold storedH;grind
theorem ahG (hu:X.A.units+30<Ko):abW X (abB X.K):=by
 intro amD s U H o i v ov iv u Q I ro ri rv ⟨a,xs,k,b,eo,e,hk,ei,hb,l,q⟩;subst eo ei;obtain rfl:ov=Value.ref a:=ro;obtain rfl:iv=Value.ref b:=ri;obtain⟨z,hd,dd⟩:=Cy I e hk;refine wpAny_setItem_heap (hsz:=z) (tupleKind_room_in1<|by lia) (z7 I hb) dd λh' dd' hs=>⟨_,?_,q u rv⟩;exact Bg I (e ▸ True.intro) hs (let⟨q,_,_,hq,_⟩:=dd';⟨q,hq⟩)<|Jj (by have:=zaH (xs:=xs) (k:=k) (b:=b) (u:=u);lia) hd dd'
def Mp:YQ:=λo i w h N=>match o,Tz i with
 | .loc n,Dn k=>(match h.c n with
  | some (.dtt kvs)=>gn (kvs.length+1) (N (h.set n (.dtt (Zz kvs k w))))
  | _=>False)
 | _,_=>False
theorem Nb {K:Bl}{H:Hp}{μ:Mu}{k:List Int}{w:W}{v:V}{u:JI}(rv:RelV v u)(r:Bq K H μ w v):∀{kvs:List (List Int×W)}{xs:List (List Int×Addr×JI)}{vs:List V},kvs.map (·.1)=xs.map (·.1)->Ba vs (xs.map (·.2.2))->aW K H μ (kvs.map (·.2)) vs ->
  ∃vs',Ba vs' ((xs.map (putAt k u)).map (·.2.2))/\aW K H μ ((kvs.map (λx=>if x.1=k then(x.1,w)else x)).map (·.2)) vs'
 | [],[],_,_,_,_=>⟨[],.nil,by rw[Vv,Vv,aW]⟩
 | x::kvs,y::xs,vs,e,hv,hr=>by
  obtain⟨e1,e2⟩:=TK e;obtain⟨v1,vs',rfl,r1,r2⟩:=hr;cases hv with
  | cons a b=>
   obtain⟨vs2,i1,i2⟩:=Nb rv r e2 b r2;by_cases z:y.1=k
   refine⟨v::vs2,?_,?_⟩;refine .cons ?_ i1;unfold putAt
   rwa[if_pos z]
   rw[HY];refine⟨v,vs2,rfl,?_,i2⟩
   rwa[if_pos (e1.trans z)]
   refine⟨v1::vs2,?_,?_⟩;refine .cons ?_ i1;unfold putAt
   rwa[if_neg z]
   rw[HY];refine⟨v1,vs2,rfl,?_,i2⟩
   rwa[if_neg (λq=>z (e1.symm.trans q))]
theorem Mt {k:List Int}{w:W}:∀{kvs:List (List Int×W)},(kvs.map (λx=>if x.1=k then(x.1,w)else x)).map (·.1)=kvs.map (·.1)
 | []=>rfl
 | x::kvs=>by
  rw[HY,HY,Mt];grind
theorem J2 {k:List Int}{w:W}:∀{kvs:List (List Int×W)},(kvs.map (λx=>if x.1=k then(x.1,w)else x)).map (λx=>W.tup (x.1.map W.int))=kvs.map (λx=>W.tup (x.1.map W.int))
 | []=>rfl
 | x::kvs=>by
  rw[HY,HY,J2];grind
theorem aW.snoc {K:Bl}{H:Hp}{μ:Mu}{w:W}{v:V}(r:Bq K H μ w v):∀{ws:List W}{vs:List V},aW K H μ ws vs->aW K H μ (ws++[w]) (vs++[v])
 | [],_,h=>by
  rw[h];exact⟨v,[],rfl,r,by rw[aW]⟩
 | a::ws,_,h=>by
  obtain⟨b,bs,rfl,h1,h2⟩:=h;exact⟨b,bs++[v],rfl,h1,aW.snoc r h2⟩
theorem qU {K:Bl}{H:Hp}{μ:Mu}:∀k:List Int,aW K H μ (k.map W.int) (k.map V.int)
 | []=>by rw[Vv,Vv,aW]
 | i::k=>⟨_,_,rfl,by rw[Bq],qU k⟩
theorem aiL {K:Bl}:Gf K (abB K) Mp:=by
 intro H μ h o i v wo wi w Nw N R ro ri r m k;unfold Mp at m;split at m
 ·rename_i n kk e;split at m
  ·rename_i kvs ec;obtain⟨p,xs,vs,hp,hx,e1,e2,r3,r4⟩:=R.dttAt ec;obtain⟨p',ex,hp'⟩:=ro;obtain rfl:=by rw[hp]at hp';exact(IV hp').symm
   obtain⟨b,eb,hb⟩:=qW ri e;have amE:=by have:=congrArg Wu e1;rwa[CV,CV]at this
   have we:=λ(o:HO)=>(Ex.write (o:=o) R hp).ext
   refine⟨p',xs,kk,b,ex,hx,kO e1 r3,eb,hb,by have:=m.ok.1;lia,λu ru=>k _ ⟨μ,_,we _,R.write hp trivial ?_,m.ok.2⟩⟩;have hs:=(wY e1 e2 r4 kk).2;cases ea:atKey xs kk with
   | some q=>
    rw[ea]at hs;obtain⟨vs',i1,i2⟩:=Nb ru r e1 e2 r4;rw[storedH_old ea];unfold Zz;rw[if_pos (show(EY kvs kk).isSome=true from hs)];exact⟨_,vs',bD,Mt.trans<|e1.trans zU.symm,i1,by rw[J2,yg];exact(we _).s r3,(we _).s i2⟩
   | none=>
    rw[ea]at hs;rw[storedH_new ea];unfold Zz;rw[if_neg (by rw[hs];decide)];refine⟨_,vs++[v],bD,?_,?_,?_,?_⟩;rw[Jb,Jb,e1];rfl;rw[Jb];exact Ba.append e2 (.cons ru .nil);rw[Jb,Jb];exact(we _).s (aW.snoc (by exact⟨b,_,rfl,hb,qU kk⟩) r3);rw[Jb];exact(we _).s (aW.snoc r r4)
  cases m
 cases m
end
section
variable {prog:Ci}{w:CZ}{A:G4}{E:JI->kI->Prop}{s:kI}
end
section
variable {X:Cx}
end
def ps (h:Int):Nat->Nat×Nat
 | 0=>(Wo h % 32,Wo h)
 | n+1=>SetTable.leap 31 (ps h n).1 (ps h n).2
def liv (o:Array (Option Nat)):List (Nat×Nat):=(Ji 32).filterMap λj=>(o.getD j Go).map (j,·)
structure Lay (o:Array (Option Nat)) (k:Nat):Prop where
 sz:o.size=32
 len:(liv o).length=k
 low:∀p,p∈liv o->p.2<k
section
variable {prog:Ci}{w:CZ}{A:G4}{E:JI->kI->Prop}{s:kI}{a:Addr}
end
section
variable {prog:Ci}{w:CZ}{A:G4}{E:JI->kI->Prop}{s:kI}{t:Yw}{a b:Addr}
end
section
variable {prog:Ci}{w:CZ}{A:G4}{E:JI->kI->Prop}{R:Q9->kI->Prop}
end
section
variable {prog:Ci}{w:CZ}{A:G4}{E:JI->kI->Prop}{s:kI}
end
section
variable {X:Cx}{K:Bl}
end
section
variable {X:Cx}{K:Bl}{o e:Expr}{mo:ME}{apos amF:Pos}
end
section
variable {prog:Ci}{w:CZ}{A:G4}{s:kI}{K:Bl}{x C:Addr}{R:Q9->kI->Prop}
end
section
variable {prog:Ci}{w:CZ}{A:G4}{E:JI->kI->Prop}{s:kI}{K:Bl}{x dx C f:Addr}{mA:Str->Option JI}{name:Str}{v:JI}
end
section
variable {prog:Ci}{w:CZ}{A:G4}{E:JI->kI->Prop}{s:kI}{K:Bl}{x:Addr}{ox:Obj}
end
section
variable {prog:Ci}{w:CZ}{A:G4}{E:JI->kI->Prop}{h:Heap}{g:Array GenState}{d:Drawn}{t:Nat}{os:OsState}
variable {nm q:Str}{C N:Addr}{bs bm bmB:List JI}{hdct:Bool}{sn:List Str}{sub:List JI}{ab:Bool}{col:Option Bool}{dd:Option Addr}{k0 k1 k2 k3 k5:Option JI}{B newId initId:String}{K:Bl}{f:Addr}
end
variable {hdct:Bool}{sn:List Str}{sub:List JI}{dd:Option Addr}{col:Option Bool}{initId newId:String}
section
variable {prog:Ci}{w:CZ}{M:Model}{A:G4}{E:JI->kI->Prop}{s:kI}{K:Bl}{f:Addr}
variable {nm q:Str}{C N:Addr}{bs bm bmB:List JI}{ab:Bool}{k0 k1 k2 k3 k5:Option JI}{B:String}
end
section
variable {X:Cx}{o value:Expr}{f:Str}{C:Addr}{pos pos':Pos}{ta tv:TE}
end
section
variable {X:Cx}{amD:List (Addr×Obj)}{U:St}{H:Hp}{s:kI}{e:Addr}
end
section
variable {X:Cx}{amD:List (Addr×Obj)}{U:St}{H:Hp}{s:kI}{C fi:Addr}{x f:Str}{amF pos:Pos}{e:Expr}{t:TA}{k:Nat}{fd:Oh}{ps:List Str}
end
section
variable {X:Cx}{e:Expr}{pos:Pos}
end
section
variable {X:Cx}{e:Expr}{f:Str}{pos:Pos}
end
section
variable {X:Cx}
end
section
variable {X:Cx}{tg:Expr}
end
def Ite (K:Bl)(l:Addr):It:=
  ⟨λi H=>∃xs x,JH K H l xs/\xs[i]?=Dn x,
   λi H v H'=>∃p x,H p=Go/\v=.ref p/\H'=G7 H p (.tup [.int (i:Int),x])/\∀xs,JH K H l xs->xs[i]?=Dn x,
   λi H=>∃xs,JH K H l xs/\xs.length<=i,true⟩
def af6 (e it l:Addr)(n:Nat)(h:Heap):Prop:=(∃old,IsEnum h e it (n:Int) old)/\h.IsListIter it l n
theorem zbc {P:Ci}{w:CZ}{K:Bl}{pos:Pos}{e it l:Addr}(ne:e≠it):Turn P w K (.Tuple elts kt pos) (Ite K l) [e,it] e (af6 e it l) where
 mem:=by simp
 obj:=λi h st b hb=>by
  obtain⟨⟨old,ge⟩,o,gi,_,d⟩:=st;simp at hb;rcases hb with rfl|rfl
  exact⟨_,ge,nofun⟩;exact⟨o,gi,λv y=>by rw[d]at y;cases y⟩
 keep:=λi h h' st k=>⟨⟨_,k e (by simp) _ st.1.choose_spec⟩,st.2.at λo q=>k it (by simp) o q⟩
 item:=by
  intro X hP hw hK hc i amD s U H E I hf st hg;subst hP hw hK;obtain⟨⟨old,ge⟩,gi⟩:=st;obtain⟨xs,x,hx,ex⟩:=hg;obtain⟨its,r,pl,hz⟩:=I.list hx;obtain⟨u,hu,ru⟩:=r.get ex;refine wpAny_pyNext_enum_item ge gi pl.isList (by simpa using hu) ne λh1 go gi1 T1 size1 all1=>⟨_,rfl,?_⟩;refine wpAny_letOwnedTupleGo_enum go λh2 ge2 sb=>?_;have I1:BJ X amD U (G7 H _ (.tup [.int _,x])) {s with heap:=s.heap.push {cls:=.type "tuple",data:=.seq #[.int _ _,u]},toks:=s.toks+1}:=
   I.laid (λb o q=>GP _ q) (GZ _) ⟨(by show 2<=G6;decide),[.int (i:Int) s.toks,u],.cons ⟨_,rfl⟩ (.cons ru .nil),⟨_,JB _ rfl,rfl,⟨_,rfl⟩,rfl⟩⟩
  have lt:∀b∈[e,it],s.heap.objs.size≠b:=λb hb=>by
   simp at hb;rcases hb with rfl|rfl
   exact(OJ<|GK ge);exact(by obtain⟨o,q,_⟩:=gi;exact OJ (GK q))
  have hf1:∀b∈[e,it],Ia X amD (G7 H _ (.tup [.int (i:Int),x])) b:=λb hb=>⟨by rw[aP (Lr (lt b hb))];exact(hf b hb).1,(hf b hb).2⟩
  have I2:=by
   refine BJ.turnedL (h':=h2) (t':=s.toks+1) I1 (λb o hb q=>?_) hf1;have be:b≠e:=λq=>hb (by simp[q])
   rcases Heap.get?_push_cases q with⟨rfl,rfl⟩|q'
   exact sb.extBut _ _ be T1;exact sb.extBut _ _ be<|all1 b o be (λq=>hb<|by simp[q]) q'
  refine⟨.ref s.heap.objs.size,_,I2,rfl,⟨s.heap.objs.size,x,(I.hok.fresh<|GZ _),rfl,rfl,λxs' q=>I.list_inj q hx ▸ ex⟩,?_,λb hb=>(hf1 b hb).1⟩;exact⟨⟨_,by rwa[Int.natCast_add]⟩,gi1.at λo q=>sb.extBut _ o (Lr ne) q⟩
 done:=by
  intro X hP hw hK hc i amD s U H E I hf st hg;subst hP hw hK;obtain⟨⟨old,ge⟩,gi⟩:=st;obtain⟨xs,hx,hl⟩:=hg;obtain⟨its,r,pl,hz⟩:=I.list hx;have hn:=r.length;refine wpAny_pyNext_enum_end (I.ok.hd<|hc rfl) ge gi pl.isList (by simp;lia) λh1 eb=>⟨rfl,I.turnedL (λb o hb q=>eb b o (λz=>hb<|by simp[z]) q) hf⟩
 self:=λ_ _ _ _ _ st h=>wpAny_pyIter_enum st.1.choose_spec h
section
variable {X:Cx}{K:Bl}
def adZ (K:Bl)(ta:TA):TI:=λU H R=>ta U H λvs H1=>∃a xs,vs=[.ref a]/\JH K H1 a xs/\R (Ite K a) H1
theorem akJ {ta:TA}{p pos tpos:Pos}(hg:Gl X "enumerate")(hm:X.mg "enumerate" = Go)(ha:PA X [e1] ta)
  (hs:Ca [e1] X.env=(false,eval e1 X.env)::Ca [] X.env:=by rfl) (hpl:(J1 pos (Ca [] X.env)).any (·.1)=false:=by rfl) :
  PI X (.Tuple elts kt tpos) (.Call (.Name "enumerate" p) [e1] [] pos) (adZ X.K ta):=by
 intro amD s U H R I h;refine Wy<|nU I hg hm boot_enumerate (X7 (GJ (ha pos amD s U H _ I h) λus s1 ⟨vs,H1,I1,r1,q1⟩=>?_) hs hpl) (by decide)<|by decide
 obtain⟨a,xs,ev,hx,q⟩:=q1;subst ev;obtain⟨u1,eu,ru1⟩:=vals1 r1;subst eu;cases ru1;obtain⟨its,r,pl,hz⟩:=I1.list hx;refine call_enumerate_list pl.isList λh' ge gi size all=>(wpAny_pyIter_enum ge ?_);generalize hn:s1.heap.objs.size=n at ge gi size|-
 refine⟨n+1,[n+1,n],_,_,H1,rfl,(I1.kept all),zbc<|mR<|show n+1≠n by lia,⟨⟨_,ge⟩,gi⟩,λc hc=>?_,q⟩;have hc':n<=c:=by
  grind
 exact I1.fpOk (hn ▸ hc')<|I1.hok.fresh<|hn ▸ hc'
def QT:Nat->List W->List W
 | _,[]=>[]
 | i,a::as=>.tup [.int (i:Int),a]::QT (i+1) as
theorem Bw:∀{as:List W}{j i:Nat}{w:W},(QT j as)[i]?=Dn w->∃a,as[i]?=Dn a/\w=.tup [.int ((j+i:Nat):Int),a]
 | a::as,j,0,w,e=>⟨a,rfl,(IV e).symm⟩
 | a::as,j,i+1,w,e=>by
  obtain⟨x,h1,h2⟩:=Bw (by simpa[QT]using e);grind
theorem M6:∀{as:List W}{j:Nat},(QT j as).length=as.length
 | [],_=>rfl
 | a::as,j=>by rw[QT,PB,M6,PB]
def enS (h:Gh)(x:W):Option Src:=match x with
 | .lst as=>Dn ⟨QT 0 as,Go⟩
 | .kls as=>Dn ⟨QT 0 as,Go⟩
 | .loc n=>(match h.c n with
  | some (.lst as)=>Dn ⟨QT 0 as,Dn (n,as)⟩
  | _=>Go)
 | _=>Go
theorem aaM {H:Hp}{h:Gh}{w:W}{v:V}{s:Src}(R:G5 K μ H h)(r:Bq K H μ w v)(e:enS h w=Dn s):
  ∃a ws o,v=.ref a/\s=⟨QT 0 ws,o⟩/\Src.chk ⟨ws,o⟩ h/\∀{H2:Hp}{μ2:Mu}{h2:Gh},Hw K H μ H2 μ2->G5 K μ2 H2 h2->Src.chk ⟨ws,o⟩ h2->∃xs,JH K H2 a xs/\aW K H2 μ2 ws xs:=by
 cases w with
 | lst us=>
  cases(e)
  have r0:=r;obtain⟨p,xs,ev,hs,rs⟩:=r;subst ev;refine⟨p,us,Go,rfl,rfl,trivial,λ{H2 μ2 h2} x _ _=>?_⟩;obtain⟨q,ys,ev,hs,rs⟩:=(x.r _ _ r0)
  cases ev;exact⟨ys,hs.sq,rs⟩
 | kls us=>
  cases e;have r0:=r;obtain⟨p,xs,ev,hs,rs⟩:=r;subst ev;refine⟨p,us,Go,rfl,rfl,trivial,λ{H2 μ2 h2} x _ _=>?_⟩;obtain⟨q,ys,ev,hs,rs⟩:=(x.r _ _ r0)
  cases ev;exact⟨ys,hs.sq,rs⟩
 | loc n=>
  have e:(match h.c n with
   | some (.lst as)=>Dn _
   | _=>Go)=Dn s:=e
  split at e
  rename_i as ec;cases e;have r0:=r;obtain⟨p,ev,hm⟩:=r;subst ev;refine⟨p,as,Dn _,rfl,rfl,ec,λ{H2 μ2 h2} x R2 ck=>?_⟩;obtain⟨q,eq,hm2⟩:=(x.r _ _ r0)
  cases eq;obtain⟨p',xs,hm',hx,rs⟩:=R2.lstAt ck;cases by rw[hm2]at hm';exact(IV hm').symm
  exact⟨xs,.of hx,rs⟩;cases e
 | _=>cases e
def Yk (ma:MA):MI:=λU h R=>ma U h λws h1=>match ws with
 | [x]=>(match enS h1 x with
  | some s=>R s h1
  | none=>False)
 | _=>False
theorem aiV {p pos tpos:Pos}(hg:Gl X "enumerate")(hm:X.mg "enumerate" = Go)(ha:KR X [e1] mr)
  (hs:Ca [e1] X.env=(false,eval e1 X.env)::Ca [] X.env:=by rfl) (hpl:(J1 pos (Ca [] X.env)).any (·.1)=false:=by rfl) :
  Rj X (.Tuple elts kt tpos) (.Call (.Name "enumerate" p) [e1] [] pos) (Yk mr):=PI.of (akJ hg hm ha hs hpl) λU H Q ⟨μ,h,Uw,Rw,R,S,m,k⟩=>by
 refine⟨μ,h,Uw,_,R,S,m,λvs H1 ⟨μ1,ws,h1,e1,R1,r1,m1⟩=>?_⟩;split at m1
 split at m1
 rename_i x _ s es;obtain⟨v,ev,rv⟩:=fV r1;obtain⟨a,as,o,ea,es',ck1,fa⟩:=aaM R1 rv es;subst es' ea;obtain⟨xs,hxs,_⟩:=fa .refl R1 ck1;refine⟨a,xs,ev,hxs,k _ _ ⟨μ1,⟨QT 0 as,o⟩,h1,e1,R1,?_,m1⟩⟩;intro H2 μ2 h2 i e2 R2 ck;obtain⟨xs2,hxs2,rxs⟩:=fa e2 R2 ck;refine⟨λw ew=>?_,λhl=>⟨xs2,hxs2,?_⟩⟩;obtain⟨p1,ep1,rfl⟩:=Bw ew;obtain⟨q1,eq1,rq1⟩:=rxs.get ep1;refine⟨⟨xs2,q1,hxs2,eq1⟩,λx' H3 ⟨pa,x1,hp,ex',eH3,f1⟩=>?_⟩;have g1:=f1 xs2 hxs2;rw[eq1]at g1;cases g1;subst ex' eH3;rw[Xc];exact⟨μ2,(Ex.laid hp).ext,R2.laid hp,.tupNew hp<|.cons (by rw[Bq])<|.one rq1⟩;have l1:=rxs.len;have:=M6 ▸ hl
 lia;cases m1;cases m1
end
section
variable {X:Cx}{pos p:Pos}{e:Expr}{es:List Expr}{k:Nat}{fs:List (Addr×AP)}
inductive VFs (X:Cx) (k:Nat):List (Addr×AP)->Prop
 | nil:VFs X k []
 | cons {f:Addr}{fd:Oh}{ps:List Str}{ms:AP}{fs:List (Addr×AP)}(F:sE X.prog X.w X.K X.mg X.base QF k f fd ps (lift X.K ms)) (hk:RX X.K (.ref f)=true) (hb:Binds X.K fd ps []) (r:VFs X k fs):VFs X k ((f,ms)::fs)
end
def Cmp (P:Ci)(w:CZ)(A:G4)(s:kI)(kd:WT)(rk:JI->Nat)(good:JI->Prop):Prop:=
 ∀(E:JI->kI->Prop) (Q:Bool->kI->Prop) (x y:JI),good x->good y->Q (decide (rk x<rk y)) s->Bs (CJ P w) A (keyLt' kd x y) Q E s
section
variable {P:Ci}{w:CZ}{A:G4}{E:JI->kI->Prop}{s:kI}{kd:WT}{rk:JI->Nat}{good:JI->Prop}
def Rk (rk:JI->Nat)(a:Array JK)(i:Nat):Nat:=match a[i]? with
 | some p=>rk p.1
 | none=>0
def cJ (rk:JI->Nat)(a:Array JK)(i j:Nat):Prop:=∀p q,i<=p->p<q->q<j->Rk rk a p<Rk rk a q
structure Keys (rk:JI->Nat) (good:JI->Prop) (a:Array JK):Prop where
 good:∀p∈a.toList,good p.1
 nd:(a.toList.map λp=>rk p.1).Nodup
theorem Jd {a b:Array JK}{i j:Nat}(h:a[i]?=b[j]?):Rk rk a i=Rk rk b j:=by unfold Rk;rw[h]
theorem Keys.perm {a b:Array JK}(h:Keys rk good a)(p:b.Perm a):Keys rk good b:=by
 have pl:=Array.perm_iff_toList_perm.mp p;exact⟨λx hx=>h.good x<|pl.mem_iff.mp hx,(pl.map _).nodup_iff.mpr h.nd⟩
theorem Keys.ne {a:Array JK}(h:Keys rk good a){i j:Nat}(hi:i<a.size)(hj:j<a.size)(e:Rk rk a i=Rk rk a j):i=j:=by
 have e1:∀k (hk:k<a.size),Rk rk a k=rk (a.toList[k]'(by simpa using hk)).1:=λk hk=>by
  unfold Rk;grind
 rw[e1 i hi,e1 j hj]at e;refine(List.getElem_inj h.nd).mp (?_:(a.toList.map λp=>rk _)[i]'(by simpa using hi)=(a.toList.map λp=>rk _)[j]'(by simpa using hj))
 simpa using e
structure Qx (kd:WT) (rk:JI->Nat) (good:JI->Prop) (st:Lx):Prop where
 kind:QB st=kd
 failed:failedOf st=Go
 keys:Keys rk good (G9 st)
theorem Qx.arr {st:Lx}(h:Qx kd rk good st){b:Array JK}(p:b.Perm (G9 st)):Qx kd rk good (LI st b):=⟨h.kind,h.failed,h.keys.perm p⟩
theorem Uy {a:Array JK}{i:Nat}{st:Lx}{Q:JK->Lx->Prop}(hi:i<a.size)(q:Q a[i] st):wpS (CJ P w) A E s (elem' a i) Q st:=by
 rw[elem'_eq,Xy hi];exact O9 q
theorem w_lt (C:Cmp P w A s kd rk good){x y:JK}{st:Lx}{Q:Option Bool->Lx->Prop}(hk:QB st=kd)(hx:good x.1)(hy:good y.1)(q:Q (Dn (decide (rk x.1<rk y.1))) st):wpS (CJ P w) A E s (lt' x y) Q st:=by
 rw[lt'_eq];exact Kr<|wpS_get<|hk ▸ Kr (wpS_lift<|Xf<|C _ _ _ _ hx hy ⟨rfl,O9 q⟩)
theorem Rb {a:Array JK}{i:Nat}(hi:i<a.size):Rk rk a i=rk a[i].1:=by
 unfold Rk;rw[Xy hi]
theorem uZ (C:Cmp P w A s kd rk good){i j:Nat}{st:Lx}{Q:Option Bool->Lx->Prop}(ok:Qx kd rk good st)(hi:i<(G9 st).size)(hj:j<(G9 st).size)(q:Q (Dn (decide (Rk rk (G9 st) i<Rk rk (G9 st) j))) st):wpS (CJ P w) A E s (ltAt' i j) Q st:=by
 refine Kr<|wpS_get<|Kr<|Uy hi<|Kr<|Uy hj<|w_lt C ok.kind (ok.keys.good _<|by simp) (ok.keys.good _<|by simp) ?_
 rwa[<-Rb (rk:=rk) hi,<-Rb (rk:=rk) hj]
structure Within (a b:Array JK) (lo hi:Nat):Prop where
 perm:b.Perm a
 out:∀k,k<lo\/hi<=k->b[k]?=a[k]?
theorem Within.size {a b:Array JK}{lo hi:Nat}(h:Within a b lo hi):b.size=a.size:=h.perm.size_eq
theorem Within.refl (a:Array JK)(lo hi:Nat):Within a a lo hi:=⟨Array.Perm.refl _,λ_ _=>rfl⟩
theorem Within.trans {a b c:Array JK}{lo hi:Nat}(h:Within a b lo hi)(g:Within b c lo hi):Within a c lo hi:=⟨g.perm.trans h.perm,λk hk=>(g.out k hk).trans (h.out k hk)⟩
theorem mD (st:Lx):LI st (G9 st)=st:=rfl
theorem rT {a:Array JK}{lo n:Nat}(h:cJ rk a lo (lo+n))(h1:1<=n)(g:Rk rk a (lo+n-1)<Rk rk a (lo+n)):cJ rk a lo (lo+n+1):=λp q h2 h3 h4=>by
 by_cases c:q<lo+n
 exact h p q h2 h3 c;have e:q=lo+n:=by lia
 subst e;by_cases c2:p=lo+n-1
 grind
 exact Xa (h p _ h2 (by lia)<|by lia) g
theorem w_count (C:Cmp P w A s kd rk good){lo nrem:Nat}{st:Lx}{Q:Option Nat->Lx->Prop}(ok:Qx kd rk good st)(h1:1<=nrem)(hz:lo+nrem<=(G9 st).size)
  (q:∀(n:Nat) (b:Array JK),1<=n->n<=nrem->Within (G9 st) b lo (lo+nrem)->cJ rk b lo (lo+n)->(cJ rk (G9 st) lo (lo+nrem)->n=nrem/\b=G9 st)->Q (Dn n) (LI st b)) :
  wpS (CJ P w) A E s (countRun' lo nrem) Q st:=by
 have ne:∀{i j:Nat},i<(G9 st).size->j<(G9 st).size->i≠j->Rk rk (G9 st) i≠Rk rk (G9 st) j:=λhi hj c e=>c (ok.keys.ne hi hj e)
 refine Kr (wpS_mono (Wv
  (I:=λx c st'=>st'=st/\c=(Go,x)/\cJ rk (G9 st) lo (lo+x)/\x<=nrem)
  (Q:=λc st'=>st'=st/\∃n,c=(Go,n)/\1<=n/\n<=nrem/\cJ rk (G9 st) lo (lo+n)/\(n=nrem\/Rk rk (G9 st) (lo+n)<Rk rk (G9 st) (lo+n-1))) ?_ ?_ ⟨rfl,rfl,λp q a b c=>by lia,h1⟩) ?_)
 rintro x c st' hx1 hx2 ⟨rfl,rfl,hr,_⟩;refine Kr<|uZ C ok (by lia) (by lia) ?_
 by_cases c:Rk rk (G9 st') (lo+x)<Rk rk (G9 st') (lo+x-1)
 rw[decide_eq_true c];exact O9 ⟨rfl,x,rfl,hx1,by lia,hr,.inr c⟩;rw[decide_eq_false c];have:=ne (i:=lo+x) (j:=lo+x-1) (by lia) (by lia) (by lia)
 exact O9 ⟨rfl,rfl,rT hr hx1<|by lia,by lia⟩;rintro c st' ⟨rfl,rfl,hr,hx⟩;have e:max 1 nrem=nrem:=by lia
 rw[e]at hr|-
 exact⟨rfl,nrem,rfl,h1,GZ _,hr,.inl rfl⟩;rintro c st' ⟨rfl,n,rfl,n1,n2,hr,hd⟩;dsimp only;by_cases en:n=nrem
 subst en;simp only[beq_self_eq_true,if_true];have:=q n (G9 st') n1 (GZ _) (.refl _ _ _) hr λ_=>⟨rfl,rfl⟩
 rw[mD]at this;exact O9 this;have hd:=hd.resolve_left en;have not:¬cJ rk (G9 st') lo (lo+nrem):=λr=>by
  have:=r (lo+n-1) (lo+n) (by lia) (by lia) (by lia)
  lia
 rw[if_neg (by simpa using en)];by_cases c1:n>1
 rw[if_pos c1];have hrise:=hr lo (lo+n-1) (GZ _) (by lia) (by lia);refine Kr<|uZ C ok (by lia) (by lia) ?_
 rw[decide_eq_true hrise];have:=q n (G9 st') n1 n2 (.refl _ _ _) hr λr=>absurd r not
 rw[mD]at this;exact O9 this;rw[if_neg c1];have e1:n=1:=by lia
 subst e1;refine Kr<|wpS_lift<|Pu ⟨rfl,?_⟩
 refine Kr (wpS_mono (Wv
  (I:=λx c st2=>st2=st'/\c=(Go,x,0)/\(∀u v,lo<=u->u<v->v<lo+x->Rk rk (G9 st') v<Rk rk (G9 st') u)/\x<=nrem)
  (Q:=λc st2=>st2=st'/\∃m,c=(Go,m,0)/\2<=m/\m<=nrem/\∀u v,lo<=u->u<v->v<lo+m->Rk rk (G9 st') v<Rk rk (G9 st') u) ?_ ?_ ⟨rfl,rfl,λu v h2 h3 h4=>?_,by lia⟩) ?_)
 rintro x c st2 hx1 hx2 ⟨rfl,rfl,hf,_⟩;dsimp only;refine Kr<|uZ C ok (by lia) (by lia) ?_
 by_cases c:Rk rk (G9 st2) (lo+x)<Rk rk (G9 st2) (lo+x-1)
 rw[decide_eq_true c];refine O9 ⟨rfl,rfl,λu v h2 h3 h4=>?_,by lia⟩;by_cases c2:v<lo+x
 exact hf u v h2 h3 c2;have ev:v=lo+x:=by lia
 subst ev;by_cases c3:u=lo+x-1
 rw[c3];exact c;exact Xa c<|hf u (lo+x-1) h2 (by lia)<|by lia
 rw[decide_eq_false c];have:=ne (i:=lo+x) (j:=lo+x-1) (by lia) (by lia) (by lia)
 refine Kr<|uZ C ok (by lia) (by lia) ?_
 rw[decide_eq_true (show Rk rk (G9 st2) (lo+x-1)<Rk rk (G9 st2) (lo+x) by lia)];exact O9 ⟨rfl,x,rfl,by lia,by lia,hf⟩;rintro c st2 ⟨rfl,rfl,hf,hx⟩;have e:max (1+1) nrem=nrem:=by lia
 rw[e]at hf|-
 exact⟨rfl,nrem,rfl,by lia,GZ _,hf⟩;have eu:u=lo+1-1:=by lia
 have ev:v=lo+1:=by lia
 rw[eu,ev];exact hd;rintro c st2 ⟨rfl,m,rfl,m1,m2,hf⟩;dsimp only;rw[if_neg (Qd 0)];refine Kr<|wpS_reverse ?_
 have hb:∀k,Rk rk (mirror (G9 st2) lo (lo+m) ((lo+m-lo) / 2)) k=if lo<=k/\k<lo+m then Rk rk (G9 st2) (lo+(lo+m)-1-k)else Rk rk (G9 st2) k:=λk=>by
  have e:=getElem?_mirror_all (xs:=G9 st2) (i:=lo) (j:=lo+m) (by lia) k;split
  rename_i c;rw[if_pos c]at e;exact Jd e;rename_i c;rw[if_neg c]at e;exact Jd e
 have hw:Within (G9 st2) (mirror (G9 st2) lo (lo+m) ((lo+m-lo) / 2)) lo (lo+nrem):=⟨mirror_perm _ _ _ _,λk hk=>by
  rw[getElem?_mirror_all (by lia),if_neg (by lia)]⟩
 have hrb:cJ rk (mirror (G9 st2) lo (lo+m) ((lo+m-lo) / 2)) lo (lo+m):=λu v h2 h3 h4=>by
  rw[hb,hb,if_pos (by lia),if_pos (by lia)];exact hf _ _ (by lia) (by lia)<|by lia
 generalize mirror (G9 st2) lo (lo+m) ((lo+m-lo) / 2)=b at hb hw hrb;have ok2:Qx kd rk good (LI st2 b):=ok.arr hw.perm;have hz2:(G9 (LI st2 b)).size=(G9 st2).size:=hw.size;refine Kr (wpS_mono (Wv
  (I:=λx c st3=>st3=LI st2 b/\c=(Go,x)/\cJ rk b lo (lo+x)/\x<=nrem)
  (Q:=λc st3=>st3=LI st2 b/\∃n,c=(Go,n)/\1<=n/\n<=nrem/\cJ rk b lo (lo+n)) ?_ ?_ ⟨rfl,rfl,hrb,m2⟩) ?_)
 rintro x c st3 hx1 hx2 ⟨rfl,rfl,hr3,_⟩;dsimp only;refine Kr<|uZ C ok2 (by lia) (by lia) ?_
 by_cases c:Rk rk (G9 (LI st2 b)) (lo+x)<Rk rk (G9 (LI st2 b)) (lo+x-1)
 rw[decide_eq_true c];exact O9 ⟨rfl,x,rfl,by lia,by lia,hr3⟩;rw[decide_eq_false c];have:Rk rk b (lo+x)≠Rk rk b (lo+x-1):=λe=>absurd (ok2.keys.ne (i:=lo+x) (j:=lo+x-1) (by lia) (by lia) e) (by lia)
 have c:¬Rk rk b (lo+x)<Rk rk b (lo+x-1):=c;exact O9 ⟨rfl,rfl,rT hr3 (by lia)<|by lia,by lia⟩;rintro c st3 ⟨rfl,rfl,hr3,hx⟩;have e:max m nrem=nrem:=by lia
 rw[e]at hr3|-
 exact⟨rfl,nrem,rfl,h1,GZ _,hr3⟩;rintro c st3 ⟨rfl,n,rfl,n1,n2,hr3⟩;exact O9<|q n b n1 n2 hw hr3 λr=>absurd r not
end
variable {good:JI->Prop}{kd:WT}
section
variable {P:Ci}{w:CZ}{A:G4}{E:JI->kI->Prop}{s:kI}{rk:JI->Nat}
theorem abf (C:Cmp P w A s kd rk good){lo n ok':Nat}{st:Lx}{Q:Bool->Lx->Prop}(ok:Qx kd rk good st)(h1:1<=ok')(hn:ok'<=n)(hz:lo+n<=(G9 st).size)(hr:cJ rk (G9 st) lo (lo+ok'))
  (q:∀b,Within (G9 st) b lo (lo+n)->cJ rk b lo (lo+n)->Q true (LI st b)):wpS (CJ P w) A E s (binarySort' lo n ok') Q st:=by
 rw[binarySort'_eq];refine Kr (wpS_mono (Wv
  (I:=λx c st'=>c=(Go,())/\∃b,st'=LI st b/\Within (G9 st) b lo (lo+n)/\cJ rk b lo (lo+x)/\x<=n)
  (Q:=λc st'=>c=(Go,())/\∃b,st'=LI st b/\Within (G9 st) b lo (lo+n)/\cJ rk b lo (lo+n)) ?_ ?_ ⟨rfl,G9 st,(mD st).symm,.refl _ _ _,by rw[Nat.max_eq_left h1];exact hr,by lia⟩) ?_)
 rintro x c st' hx1 hx2 ⟨rfl,b,rfl,hw,hb,_⟩;have okb:Qx kd rk good (LI st b):=ok.arr hw.perm;have zb:(G9 (LI st b)).size=(G9 st).size:=hw.size;have zb':b.size=(G9 st).size:=hw.size;have ne:∀{i j:Nat},i<b.size->j<b.size->i≠j->Rk rk b i≠Rk rk b j:=λhi hj c e=>c (okb.keys.ne hi hj e)
 refine Kr (wpS_mono (Wv
  (I:=λy c st2=>st2=LI st b/\∃l r,c=(Go,l,r)/\l<=r/\r<=x/\r-l<=x-y/\(∀p,lo<=p->p<lo+l->Rk rk b p<Rk rk b (lo+x))/\∀p,lo+r<=p->p<lo+x->Rk rk b (lo+x)<Rk rk b p)
  (Q:=λc st2=>st2=LI st b/\∃l,c=(Go,l,l)/\l<=x/\(∀p,lo<=p->p<lo+l->Rk rk b p<Rk rk b (lo+x))/\∀p,lo+l<=p->p<lo+x->Rk rk b (lo+x)<Rk rk b p) ?_ ?_ ⟨rfl,0,x,rfl,Oj _,GZ _,by lia,λp h2 h3=>by lia,λp h2 h3=>by lia⟩) ?_)
 rintro y c st2 hy1 hy2 ⟨rfl,l,r,rfl,a1,a2,a3,a4,a5⟩;dsimp only;by_cases c:l>=r
 rw[if_pos c];have e:l=r:=by lia
 subst e;exact O9 ⟨rfl,l,rfl,a2,a4,a5⟩;rw[if_neg c];refine Kr<|uZ C okb (by lia) (by lia) ?_
 by_cases c2:Rk rk (G9 (LI st b)) (lo+x)<Rk rk (G9 (LI st b)) (lo+(l+r) / 2)
 rw[decide_eq_true c2];refine O9 ⟨rfl,l,(l+r) / 2,rfl,by lia,by lia,by lia,a4,λp h2 h3=>?_⟩;have c2:Rk rk b (lo+x)<Rk rk b (lo+(l+r) / 2):=c2;by_cases c3:p=lo+(l+r) / 2
 rw[c3];exact c2;exact Xa c2<|hb _ p (by lia) (by lia)<|by lia
 rw[decide_eq_false c2];have c2:¬Rk rk b (lo+x)<Rk rk b (lo+(l+r) / 2):=c2;have:=ne (i:=lo+x) (j:=lo+(l+r) / 2) (by lia) (by lia) (by lia)
 refine O9 ⟨rfl,(l+r) / 2+1,r,rfl,by lia,by lia,by lia,λp h2 h3=>?_,a5⟩;by_cases c3:p=lo+(l+r) / 2
 rw[c3];lia;have:=hb p (lo+(l+r) / 2) (by lia) (by lia) (by lia)
 lia;rintro c st2 ⟨rfl,l,r,rfl,a1,a2,a3,a4,a5⟩;have e:l=r:=by lia
 subst e;exact⟨rfl,l,rfl,a2,a4,a5⟩;rintro c st2 ⟨rfl,l,rfl,a2,a4,a5⟩;dsimp only;rw[moveDown'_eq];refine Kr<|wpS_modify ?_
 have hbu:∀k,(bubble b (lo+x) (lo+x-(lo+l)))[k]?=if k=lo+l then b[lo+x]? else if lo+l<k/\k<=lo+x then b[k-1]? else b[k]?:=λk=>by
  have:=getElem?_bubble (xs:=b) (src:=lo+x) (by lia) (lo+x-(lo+l)) (by lia) k
  rw[show lo+x-(lo+x-(lo+l))=lo+l by lia]at this;exact this
 have hR:∀k,Rk rk (bubble b (lo+x) (lo+x-(lo+l))) k=if k=lo+l then Rk rk b (lo+x)else if lo+l<k/\k<=lo+x then Rk rk b (k-1)else Rk rk b k:=λk=>by
  have e:=hbu k;split
  rename_i c;rw[if_pos c]at e;exact Jd e;rename_i c;rw[if_neg c]at e;split
  rename_i c2;rw[if_pos c2]at e;exact Jd e;rename_i c2;rw[if_neg c2]at e;exact Jd e
 refine O9 ⟨rfl,bubble b (lo+x)<|lo+x-(lo+l),rfl,hw.trans ⟨bubble_perm _ _ _,λk hk=>?_⟩,λu v h2 h3 h4=>?_,by lia⟩;rw[hbu,if_neg (by lia),if_neg (by lia)];rw[hR,hR];by_cases c1:u=lo+l
 rw[if_pos c1];by_cases c2:v=lo+l
 lia;rw[if_neg c2,if_pos (by lia)];exact a5 _ (by lia)<|by lia
 rw[if_neg c1];by_cases c3:lo+l<u/\u<=lo+x
 rw[if_pos c3,if_neg (by lia),if_pos (by lia)];exact hb _ _ (by lia) (by lia)<|by lia
 rw[if_neg c3];by_cases c2:v=lo+l
 rw[if_pos c2];exact a4 _ (by lia)<|by lia
 rw[if_neg c2];by_cases c4:lo+l<v/\v<=lo+x
 rw[if_pos c4];by_cases c5:u=v-1
 lia;exact hb _ _ (by lia) (by lia)<|by lia
 rw[if_neg c4];exact hb _ _ (by lia) (by lia)<|by lia
 rintro c st' ⟨rfl,b,rfl,hw,hb,hx⟩;rw[show max (max ok' 1) n=n by lia]at hb;exact⟨rfl,b,rfl,hw,hb⟩;rintro c st' ⟨rfl,b,rfl,hw,hb⟩;exact O9<|q b hw hb
theorem ahV (C:Cmp P w A s kd rk good){st:Lx}{Q:Unit->Lx->Prop}(ok:Qx kd rk good st)(hp:Vr st=#[])(h2:2<=(G9 st).size)(hs:(G9 st).size<64\/cJ rk (G9 st) 0 (G9 st).size)
  (q:∀st',(G9 st').Perm (G9 st)->failedOf st'=Go->cJ rk (G9 st') 0 (G9 st).size->Q () st'):wpS (CJ P w) A E s sortRuns' Q st:=by
 have hm:(G9 st).size<64->minRun' (G9 st).size (G9 st).size 0=(G9 st).size:=λh=>by
  obtain⟨f,hf⟩:∃f,(G9 st).size=f+1:=⟨(G9 st).size-1,by lia⟩
  have e:minRun' (f+1) (G9 st).size 0=(G9 st).size:=by rw[minRun'_succ,if_pos h];rfl
  rw[<-hf]at e;exact e
 rw[sortRuns'_eq];refine Kr<|wpS_get ?_
 dsimp only;generalize hn:(G9 st).size=N at *;generalize hmr:minRun' N N 0=mr at *;refine Kr (wpS_mono (Wv
  (I:=λx c st'=>(x=0/\c=(Go,0)/\st'=st)\/(1<=x/\c=(Go,N)/\∃b pd,st'=setPending (LI st b) pd/\pd.size=1/\b.Perm (G9 st)/\cJ rk b 0 N))
  (Q:=λc st'=>c=(Go,N)/\∃b pd,st'=setPending (LI st b) pd/\pd.size=1/\b.Perm (G9 st)/\cJ rk b 0 N) ?_ ?_ (.inl ⟨rfl,rfl,rfl⟩)) ?_)
 rintro x c st' _ hx (⟨rfl,rfl,rfl⟩|⟨h1,rfl,b,pd,rfl,h3,h4,h5⟩);rw[if_neg (by lia)];have fin:∀(b:Array JK),b.Perm (G9 st')->cJ rk b 0 N->∃b' pd,setPending (LI st' b) ((Vr (LI st' b)).push (0,N,0))=setPending (LI st' b') pd/\pd.size=1/\b'.Perm (G9 st')/\cJ rk b' 0 N:=λb h3 h4=>⟨b,_,rfl,by show((Vr st').push _).size=1;rw[hp];rfl,h3,h4⟩
 have hb:∀b,(Vr (LI st' b)).back?=Go:=λb=>by show(Vr st').back?=Go;rw[hp];rfl
 refine Kr<|w_count C ok (by lia) (by lia) λn b n1 n2 hw hr hsame=>?_
 simp only[Xc,Nat.sub_zero]at *;have ok2:Qx kd rk good (LI st' b):=ok.arr hw.perm;by_cases c:n<mr
 rw[if_pos c];have hf:min N mr=N:=by
  rcases hs with h|h
  have:=hm h;lia
  have:=(hsame h).1;lia
 generalize min N mr=F at *;subst hf;refine Kr<|wpS_lift<|Pu ⟨rfl,?_⟩
 refine Kr<|abf C ok2 n1 n2 (by show 0+F<=b.size;rw[hw.size];lia) (by simpa using hr) λb2 hw2 hr2=>?_
 rw[if_neg (by simp)];refine Kr<|wpS_get ?_
 have e:(Vr (LI (LI st' b) b2)).back?=Go:=hb b2;rw[e];exact Kr<|wpS_modify<|O9<|.inr ⟨by lia,rfl,fin b2 (hw2.perm.trans hw.perm)<|by simpa using hr2⟩
 rw[if_neg c];have hN:n=N:=by
  rcases hs with h|h
  have:=hm h;lia
  exact(hsame h).1
 subst hN;refine Kr<|wpS_get ?_
 rw[hb b];exact Kr<|wpS_modify<|O9<|.inr ⟨by lia,rfl,fin b hw.perm hr⟩
 dsimp only;rw[if_pos (GZ _)];exact O9 ⟨rfl,b,pd,rfl,h3,h4,h5⟩;rintro c st' (⟨hx,_,_⟩|⟨_,hc,h⟩);lia;exact⟨hc,h⟩;rintro c st' ⟨rfl,b,pd,rfl,h3,h4,h5⟩;dsimp only;refine Kr (wpS_mono (Wv
  (I:=λ_ c st'=>c=(Go,())/\st'=setPending (LI st b) pd) (Q:=λc st'=>c=(Go,())/\st'=setPending (LI st b) pd) ?_ ?_ ⟨rfl,rfl⟩) ?_)
 rintro x c st' _ hx ⟨rfl,rfl⟩;refine Kr<|wpS_get ?_
 rw[if_pos (by show pd.size<=1;lia)];exact O9 ⟨rfl,rfl⟩;rintro c st' h;exact h;rintro c st' ⟨rfl,rfl⟩;exact O9<|q _ h4 ok.failed h5
end
def Di (h:Heap)(d:Addr)(es:Array Ql)(ep:Nat):Prop:=∃o,h.get? d=Dn o/\o.ExactDict/\o.data=.dict es ep
variable {d:Addr}{ep:Nat}
theorem Di.of {h h':Heap}{es:Array Ql}(x:Di h d es ep)(e:∀o,h.get? d=Dn o->h'.get? d=Dn o):Di h' d es ep:=by
 obtain⟨o,g,r⟩:=x;exact⟨o,e o g,r⟩
theorem Di.ty {s:kI}{es:Array Ql}(x:Di s.heap d es ep):s.TypeIs (.ref d) "dict":=by
 obtain⟨o,g,r,_⟩:=x;exact⟨o,g,r.1⟩
section
variable {P:Ci}{w:CZ}{A:G4}{E:JI->kI->Prop}{s:kI}{it:Addr}{es:Array Ql}{i:Nat}
theorem Fz {Q:JI->kI->Prop}(nd:(d==PX)=false)(x:Di s.heap d es ep)
  (q:Q (.ref s.heap.objs.size) {s with heap:=s.heap.push {cls:=.type "dict_keyiterator",data:=.fields #[.ref d,.int 0 0,.int es.size 0,.int ep 0]} }):Bs (CJ P w) A (pyIter (.ref d)) Q E s:=by
 have gT:=x.ty;obtain⟨o,g,gc,gd⟩:=x;refine wpAny_pyIter_slot gT F.slot_dict_iter<|RN F.slot_dict_iter gT F.entry_dict_iter (Ay<|Ay<|wpAny_notOrdered_dict gT<|Bv ?_)<|F.args_dict_iter_1 _
 show Bs _ _ (Builtin.Dict.showsAll d >>= _) _ _ s;unfold Builtin.Dict.showsAll;rw[nd];refine Ay<|Bv<|Ay<|wpAny_dictEntries g gd<|Ay<|wpAny_dictEpoch g gd<|Ay<|Qu<|Bv ⟨_,rfl, "dict_keyiterator",_,⟨_,JB _ rfl,rfl⟩,YW.lookup,?_⟩
 simpa[Pj]using q
theorem zbl {Q:Option JI->kI->Prop}(gi:s.heap.IsKeyIter it d i es.size ep)(x:Di s.heap d es ep)(hi:i<es.size)
  (q:∀h',h'.IsKeyIter it d (i+1) es.size ep->Wa it s.heap h'->Q (Dn es[i].key) {s with heap:=h'}):Bs (CJ P w) A (pyNext (.ref it)) Q E s:=by
 obtain⟨u,gu,gc,gd⟩:=id gi;obtain⟨o,g,_,ge⟩:=x;refine Ay<|Xf<|Vy (name:=Str.ofString "__next__") gi.typeIs YW<|RN YW gi.typeIs F.entry_dict_keyiterator_next ?_<|F.args_dict_keyiterator_next_1 _
 refine Ay<|Bv<|Ay<|Ay ?_
 first
  | refine Ay (ZG gi.typeIs (Bv ?_))
 refine Ay<|wpAny_fieldsOf gu gd ?_
 refine Ay<|Bv<|Ay<|wpAny_dictEntries g ge ?_
 rw[if_neg (by simp)];refine Ay<|Bv<|Ay<|wpAny_dictEpoch g ge ?_
 rw[if_neg (by simp)];refine Bv ?_;simp only[show ¬((i:Int)<0)from by lia,if_false,Int.toNat_natCast,Xy hi];refine Ay ?_;first
  | refine Ay (ZG gi.typeIs (Bv ?_))
  | refine Ay (wpAny_typeNameOf_keyiter gi.typeIs (Bv ?_))
 refine Ay<|wpAny_isOneOf_keyiter gi.typeIs ?_
 show Bs _ _ (setField (.ref it) 1 (Pj ((i:Int)+1)) >>= _) _ _ s;refine Ay<|Wj gu gd (by simp) ?_
 have g2:(s.heap.update it (Obj.mapFields (·.setIfInBounds 1 (Pj ((i:Int)+1))))).IsKeyIter it d (i+1) es.size ep:=by
  refine⟨_,UW _ gu<|Wc<|Vb gd _,(Obj.cls_mapFields ..).trans gc,?_⟩;rw[Vb gd];simp[Pj]
 refine Ay<|Ob<|Ay<|wpAny_isOneOf_keyiter (s:={s with heap:=s.heap.update it (Obj.mapFields (·.setIfInBounds 1 (Pj<|(i:Int)+1)))}) g2.typeIs ?_
 show Bs _ _ (pure es[i].key) _ _ _;exact Bv<|Bv ⟨_,rfl,Bv<|q _ g2<|Ym ..⟩
theorem aiA {Q:Option JI->kI->Prop}(hh:A.handled=Go)(gi:s.heap.IsKeyIter it d es.size es.size ep)(x:Di s.heap d es ep)(q:∀h',XM it s.heap h'->Q Go {s with heap:=h'}):Bs (CJ P w) A (pyNext (.ref it)) Q E s:=by
 obtain⟨u,gu,gc,gd⟩:=id gi;obtain⟨o,g,_,ge⟩:=x;refine Ay<|Xf<|Vy (name:=Str.ofString "__next__") gi.typeIs YW<|RN YW gi.typeIs F.entry_dict_keyiterator_next ?_<|F.args_dict_keyiterator_next_1 _
 refine Ay<|Bv<|Ay<|Ay ?_
 first
  | refine Ay (ZG gi.typeIs (Bv ?_))
 refine Ay<|wpAny_fieldsOf gu gd ?_
 refine Ay<|Bv<|Ay<|wpAny_dictEntries g ge ?_
 rw[if_neg (by simp)];refine Ay<|Bv<|Ay<|wpAny_dictEpoch g ge ?_
 rw[if_neg (by simp)];refine Bv ?_;simp only[show ¬((es.size:Int)<0)from by lia,if_false,Int.toNat_natCast,Array.getElem?_eq_none (GZ es.size)];refine Ay ?_;first
  | refine Ay (ZG gi.typeIs (Bv ?_))
  | refine Ay (wpAny_typeNameOf_keyiter gi.typeIs (Bv ?_))
 show Bs _ _ (setField (.ref it) 0 .none >>= _) _ _ s;refine Ay<|Wj gu gd (by simp) ?_
 show Bs _ _ (newExc (.type "StopIteration") [] >>= _) _ _ _;refine Ay ?_;simp only[newExc,newTuple];refine Ay<|Qu ?_<|by size_fits
 refine Ay (m:=Y0 _ _)<|wpAny_of_eq (a:=Value.none) (by first|rfl|(simp only[Y0];rfl)) ?_
 refine Qu ?_<|by size_fits
 simp only[raiseNew];refine Ay<|wpAny_handled ?_
 rw[show A.in1.handled=Go from hh];refine Ay<|Bv<|wpAny_throw ?_
 refine Ay<|wpAny_isInstance (b:=true) (T := "StopIteration") ⟨_,JB _ rfl,rfl⟩ isSubtype_stop ?_
 exact Bv<|q _<|((Ym ..).extBut.push _).push _
theorem yh (hh:A.handled=Go)(I d:Addr)(ne:d≠I)(es:Array Ql)(ep:Nat):
  Walks P w A I [I,d] [I] es.size (λi v=>∃h:i<es.size,v=es[i].key) (λi h=>h.IsKeyIter I d i es.size ep/\Di h d es ep) where
 sub:=λb hb=>by simp at hb;simp[hb]
 frame:=λi h h' st k=>⟨by obtain⟨⟨o,g,r⟩,_⟩:=st;exact⟨o,k I (by simp) o g,r⟩,st.2.of λo e=>k d (by simp) o e⟩
 item:=λi s Q E hi st q=>zbl st.1 st.2 hi λh' g sb=>q _ h' _ ⟨hi,rfl⟩ ⟨g,st.2.of λo e=>sb.extBut d o ne e⟩ λb o hb e=>sb.extBut b o (λz=>hb (by simp[z])) e
 done:=λs Q E st q=>aiA hh st.1 st.2 λh' eb=>q h' _ λb o hb e=>eb b o (λz=>hb (by simp[z])) e
 self:=λ_ _ _ _ st q=>wpAny_pyIter_keyiter st.1 q
theorem zca (nd:(d==PX)=false):PySem.W.KdlSrc P w "dict" d d es.size (λi v=>∃h:i<es.size,v=es[i].key) (λh=>Di h d es ep) where
 type:=λ_ x=>x.ty
 there:=λ_ x=>by obtain⟨o,g,_⟩:=x;exact⟨GK g,GK g⟩
 keep:=λ_ _ x k=>x.of λo e=>k d (.inl rfl) o e
 notList:=by decide
 notTuple:=by decide
 hint:=λ_ _ _ _ x q=>PySem.W.kdl_hint_dict x.ty q
 iter:=λ_ s hh x=>⟨_,_,λ_ _ q=>Fz nd x q,yh hh _ d (Jl (by obtain⟨o,g,_⟩:=x;exact GK g)) es ep,⟨_,JB _ rfl,rfl,rfl⟩,x.of λo e=>GP _ e⟩
theorem tU {Q:List JI->kI->Prop}(hh:A.handled=Go)(nd:(d==PX)=false)(x:Di s.heap d es ep)(hz:es.size<=G6)
  (q:∀h' tk,(∀b o,s.heap.get? b=Dn o->h'.get? b=Dn o)->s.heap.objs.size<h'.objs.size->Q (es.toList.map (·.key)) {s with heap:=h',toks:=tk}):Bs (CJ P w) A (collect (.ref d)) Q E s:=by
 have lt:d<s.heap.objs.size:=by obtain⟨o,g,_⟩:=x;exact GK g
 refine Ay<|wpAny_runValue<|Qc F.entry_proto_collect ?_
 refine Ay<|Qu<|Bv ⟨Qp F.plain_list_iadd _,Qc F.entry_list_iadd ?_⟩
 rw[UL F.plain_list_iadd _];have g0:(s.heap.push {cls:=.type "list",data:=.seq ([]:List JI).toArray}).get? s.heap.objs.size=Dn {cls:=.type "list",data:=.seq ([]:List JI).toArray}:=JB _ rfl;have fin:∀(f:Flow) (s':kI),(f=.ret (.ref s.heap.objs.size)/\∃h' tk acc c,s'={s with heap:=h',toks:=tk}/\(∀b o,b≠s.heap.objs.size->(s.heap.push {cls:=.type "list",data:=.seq ([]:List JI).toArray}).get? b=Dn o->h'.get? b=Dn o)/\h'.get? s.heap.objs.size=Dn {cls:=.type "list",dict:=Go,data:=.seq acc c,slots:=#[]}/\ItemsOf (λi v=>∃h:i<es.size,v=es[i].key) acc es.size) ->
   ∃v,f=.ret v/\Bs (CJ P w) A (match v with
    | Value.ref a=>do
     let u <-load a
     match u.data with
     | Data.seq xs _=>pure xs.toList
     | _=>unsupported "internal:collect"
    | _=>unsupported "internal:collect") Q E s':=by
  rintro f s' ⟨rfl,h',tk,acc,c,rfl,k,e,it⟩;refine⟨_,rfl,?_⟩;refine Ay<|wpAny_load e ?_
  have ea:acc.toList=es.toList.map (·.key):=by
   refine List.ext_getElem? λj=>?_;rw[HI,Yi,Yi];by_cases hj:j<es.size
   have hj':j<acc.size:=by rw[it.1];exact hj
   obtain⟨_,ev⟩:=it.2 j acc[j] (Xy hj');rw[Xy hj',Xy hj,ev];rfl;rw[Array.getElem?_eq_none (by rw[it.1];lia),Array.getElem?_eq_none (by lia)];rfl
  refine Bv ?_;rw[ea];exact q h' tk (λb o g=>k b o (Jl<|GK g)<|GP _ g)<|GK e
 refine Mq (PySem.W.kdl_extend (s:={s with heap:=s.heap.push {cls:=.type "list",data:=.seq ([]:List JI).toArray} }) (R:=λr s'=>match r with
  | .ok f=>f=.ret (.ref s.heap.objs.size)/\∃h' tk acc c,s'={s with heap:=h',toks:=tk}/\(∀b o,b≠s.heap.objs.size->(s.heap.push {cls:=.type "list",data:=.seq ([]:List JI).toArray}).get? b=Dn o->h'.get? b=Dn o)/\h'.get? s.heap.objs.size=Dn {cls:=.type "list",dict:=Go,data:=.seq acc c,slots:=#[]}/\ItemsOf (λi v=>∃h:i<es.size,v=es[i].key) acc es.size
  | .error _=>False) (zca (es:=es) (ep:=ep) nd) hh (x.of λo e=>GP _ e) s.heap.objs.size (OJ lt) (OJ lt) _ 0 g0 (λh' tk acc c k e it=>⟨rfl,h',tk,acc,c,rfl,k,e,it⟩) hz) (λr s' hr=>?_) λe s' hr=>hr.elim
 cases r with
 | done f=>
  obtain⟨v,rfl,q'⟩:=fin f s' hr;exact q'
 | again c=>
  refine⟨hr.1,codeAny_mono hr.2 λr s' hr=>?_⟩;cases r with
  | error e=>exact hr.elim
  | ok f=>
   obtain⟨v,rfl,q'⟩:=fin f s' hr;exact q'
end
section
variable {P:Ci}{w:CZ}{A:G4}{E:JI->kI->Prop}{s:kI}{rk:JI->Nat}
structure agK (B:Nat->Bool) (n:Nat) (st:Lx) (x:Nat) (c:Option (Option Nat)×Nat×Nat) (st':Lx):Prop where
 s:st'=st
 e:c.1=Go
 a:c.2.1<=c.2.2
 b:c.2.2<=n
 d:c.2.2-c.2.1<=n-x
 lo:∀i,i<c.2.1->B i=true
 hi:∀i,c.2.2<=i->i<n->B i=false
structure agJ (B:Nat->Bool) (v:Bool) (mx:Nat) (st:Lx) (x:Nat) (c:Option (Option Nat)×Nat×Nat) (st':Lx):Prop where
 s:st'=st
 e:c.1=Go
 a:c.2.1<c.2.2
 b:x<c.2.2
 d:c.2.1<mx
 h:B c.2.1=v
end
section
variable {rk:JI->Nat}
def SL (rk:JI->Nat)(l:List JK):Prop:=l.Pairwise λx y=>rk x.1<rk y.1
def Be (rk:JI->Nat)(xs ys:List JK):Prop:=∀x∈xs,∀y∈ys,rk x.1<rk y.1
def ahl (rk:JI->Nat)(A B out al bl:List JK):Prop:=∃a1 b1,A=a1++al/\B=b1++bl/\out.Perm (a1++b1)/\SL rk out/\Be rk out al/\Be rk out bl
def Mrg (rk:JI->Nat)(A B r:List JK):Prop:=r.Perm (A++B)/\SL rk r
end
section
variable {P:Ci}{w:CZ}{A:G4}{E:JI->kI->Prop}{s:kI}{rk:JI->Nat}
def Yx (st st':Lx):Prop:=G9 st'=G9 st/\QB st'=QB st/\failedOf st'=failedOf st/\Vr st'=Vr st
structure Two (rk:JI->Nat) (good:JI->Prop) (a b:Array JK):Prop where
 sa:SL rk a.toList
 sb:SL rk b.toList
 ga:∀p∈a.toList,good p.1
 gb:∀p∈b.toList,good p.1
 ne:∀x∈a.toList,∀y∈b.toList,rk x.1≠rk y.1
structure ajE (rk:JI->Nat) (a b out:Array JK) (ia ib:Nat):Prop where
 ml:ahl rk a.toList b.toList out.toList (a.toList.drop ia) (b.toList.drop ib)
 ia:ia+1<a.size
 ib:ib<b.size
theorem J3 {a:Array JK}{i:Nat}(h:i<a.size):a[i]∈a.toList:=by simp_all
structure zab (rk:JI->Nat) (a b:Array JK) (st:Lx) (n:Nat) {β:Type}(c:Option (Array JK)×Array JK×Nat×Nat×β) (st':Lx):Prop where
 sm:Yx st st'
 e:c.1=Go
 li:ajE rk a b c.2.1 c.2.2.1 c.2.2.2.1
 le:n<=c.2.2.1+c.2.2.2.1
structure zaa (rk:JI->Nat) (a b:Array JK) (st:Lx) {β:Type}(c:Option (Array JK)×β) (st':Lx):Prop where
 sm:Yx st st'
 r:∃l,c.1=Dn l/\Mrg rk a.toList b.toList l.toList
end
section
variable {rk:JI->Nat}
def ajr (rk:JI->Nat)(A B o ah bh:List JK):Prop:=∃a2 b2,A=ah++a2/\B=bh++b2/\o.Perm (a2++b2)/\SL rk o/\Be rk ah o/\Be rk bh o
end
section
variable {P:Ci}{w:CZ}{A:G4}{E:JI->kI->Prop}{s:kI}{rk:JI->Nat}
structure agT (rk:JI->Nat) (a b out:Array JK) (na nb:Nat):Prop where
 mh:ajr rk a.toList b.toList out.toList.reverse (a.toList.take na) (b.toList.take nb)
 pa:0<na
 pb:1<nb
 la:na<=a.size
 lb:nb<=b.size
structure GoH (rk:JI->Nat) (a b:Array JK) (st:Lx) (n:Nat) {β:Type}(c:Option (Array JK)×Nat×Nat×Array JK×β) (st':Lx):Prop where
 sm:Yx st st'
 e:c.1=Go
 li:agT rk a b c.2.2.2.1 c.2.1 c.2.2.1
 le:c.2.1+c.2.2.1+n<=a.size+b.size
structure Runs (rk:JI->Nat) (a:Array JK) (sa k sb n' e:Nat):Prop where
 h1:sa+k<=sb
 h2:sb+n'<=e
 h3:e<=a.size
 r1:cJ rk a sa sb
 r2:cJ rk a sb e
 lo:∀p,sa<=p->p<sa+k->Rk rk a p<Rk rk a sb
 hi:∀p,sb+n'<=p->p<e->Rk rk a (sb-1)<Rk rk a p
def Cont (rk:JI->Nat)(a:Array JK):List (Nat×Nat×Nat)->Nat->Nat->Prop
 | [],i,j=>i=j
 | (s,n,_)::r,i,j=>s=i/\0<n/\cJ rk a i (i+n)/\Cont rk a r (i+n) j
structure agN (kd:WT) (rk:JI->Nat) (good:JI->Prop) (a0:Array JK) (lo:Nat) (st:Lx):Prop where
 ok:Qx kd rk good st
 perm:(G9 st).Perm a0
 cont:Cont rk (G9 st) (Vr st).toList 0 lo
end
def Xn:List Int->List Int->Option Bool
 | a::k,b::l=>if a=b then Xn k l else Dn (decide (a<b))
 | _,_=>Go
theorem Oi:∀k l:List Int,(match Xn k l with|some r=>r|none=>decide (k.length<l.length))=decide (k<l)
 | [],[]|[],b::l|a::k,[]=>by simp[Xn]
 | a::k,b::l=>by
  unfold Xn;by_cases e:a=b
  subst e;rw[if_pos rfl];have:=Oi k l
  simp_all
  rw[if_neg e];exact decide_eq_decide.mpr (by rw[Xj];simp[e])
section
variable {P:Ci}{w:CZ}{A:G4}{E:JI->kI->Prop}{s:kI}
def zG (h:Heap)(v:JI)(k:List Int):Prop:=∃a o its n,v=.ref a/\h.get? a=Dn o/\o.cls=.type "tuple"/\o.data=.seq its n/\Ba (k.map V.int) its.toList
theorem zbz {a b:Int}{t u:Tok}{Q:Bool->kI->Prop}(h:Q (decide (a<b)) s):Bs (CJ P w) A (oneLt' false (.int a t) (.int b u)) Q E s:=Ay (wpAny_richCompare_same (typeIs_int s a t) (typeIs_int s b u) slot_int_lt (call_int_lt ⟨by simp,Xl h⟩))
theorem JC {f:(JI×JI)×Nat->Option Bool×Unit->Sem (ForInStep (Option Bool×Unit))}
  (hf:∀(a b:Int) (t u:Tok) (i:Nat) (R:ForInStep (Option Bool×Unit)->kI->Prop),R (if a=b then .yield (Go,())else .done (Dn (decide (a<b)),())) s->Bs (CJ P w) A (f ((.int a t,.int b u),i) (Go,())) R E s) :
  ∀{k l:List Int}{ps qs:List JI}{j:Nat},Ba (k.map V.int) ps->Ba (l.map V.int) qs->∀{R:Option Bool×Unit->kI->Prop},R (Xn k l,()) s->Bs (CJ P w) A (forIn ((ps.zip qs).zipIdx j) (Go,()) f) R E s
 | [],l,ps,qs,j,hp,hq,R,q=>by
  cases hp;exact Bv q
 | a::k,[],ps,qs,j,hp,hq,R,q=>by
  cases hq;exact List.zip_nil_right ▸ Bv q
 | a::k,b::l,ps,qs,j,hp,hq,R,q=>by
  cases hp with
  | cons r1 hp=>
   cases hq with
   | cons r2 hq=>
    obtain⟨t,rfl⟩:=r1;obtain⟨u,rfl⟩:=r2;rw[List.zip_cons_cons,List.zipIdx_cons,YL];refine Ay<|hf a b t u j _ ?_
    unfold Xn at q;by_cases e:a=b
    rw[if_pos e]at q|-
    exact JC hf hp hq q;rw[if_neg e]at q|-
    exact Bv q
theorem abY {fo:Bool}{x y:JI}{l:List Int}{Q:Bool->kI->Prop}(hx:zG s.heap x k)(hy:zG s.heap y l)(q:Q (decide (k<l)) s):Bs (CJ P w) A (keyLt' (tuples' fo) x y) Q E s:=by
 obtain⟨a,o,its,n,rfl,ga,_,da,va⟩:=hx;obtain⟨b,u,jts,m,rfl,gb,_,db,vb⟩:=hy;refine Ay<|XT ga da<|Ay<|XT gb db<|Ay<|JC (λc d t u i R hR=>?_) va vb ?_
 ·refine Ay<|wpAny_eqBool_int ?_
  by_cases e:c=d
  rw[if_pos e]at hR;rw[show(c==d)=true by simpa using e];exact Bv hR
  ·rw[if_neg e]at hR;rw[show(c==d)=false by simpa using e];refine Ay ?_;cases hb:(fo&&i==0)with
   | true=>exact oneLt_int (Bv hR)
   | false=>exact zbz (Bv hR)
 ·have e:=Oi k l;have la:its.size=k.length:=by have:=va.length;simpa using this.symm
  have lb:jts.size=l.length:=by have:=vb.length;simpa using this.symm
  rw[<-e]at q;cases c:Xn k l with
  | some r=>rw[c]at q;exact Bv q
  | none=>rw[c]at q;rw[la,lb];exact Bv q
theorem ahS {x:JI}{i:Int}{Q:Option JI->kI->Prop}(hx:zG s.heap x (i::k))(q:∀t,Q (Dn (.int i t)) s):Bs (CJ P w) A (firstOfTuple' x) Q E s:=by
 obtain⟨a,o,its,n,rfl,ga,ca,da,va⟩:=hx;refine Ay<|Qj ⟨o,ga,ca⟩<|Ay<|XT ga da ?_
 obtain⟨xs⟩:=its;cases va with
 | cons r _=>
  obtain⟨t,rfl⟩:=r;exact Bv<|q t
theorem uY:∀{vs:List JI}{ks:List (List Int)}{Q:List (Option JI)->kI->Prop},Mx (λk v=>zG s.heap v k) ks vs->(∀k∈ks,k≠[])->(∀us:List JI,us.length=vs.length->(∀u∈us,∃i t,u=.int i t)->Q (us.map Dn) s)->Bs (CJ P w) A (vs.mapM firstOfTuple') Q E s
 | [],_,Q,h,_,q=>Bv (q [] rfl nofun)
 | v::vs,ks,Q,h,hn,q=>by
  cases h with
  | @cons k _ ks' _ r h=>
   rw[List.mapM_cons];obtain⟨i,k',rfl⟩:∃i k',k=i::k':=YM (hn k Lp)
   refine Ay<|ahS r λt=>Ay<|uY h (λk hk=>hn k<|OD _ hk) λus hl hu=>Bv<|q (.int i t::us) (by simp[hl]) λu hm=>?_
   grind
theorem yU:∀{us:List JI}{Q:List JI->kI->Prop},(∀u∈us,∃i t,u=Value.int i t)->Q (us.map λ_=>.type "int") s->Bs (CJ P w) A (us.mapM typeOf) Q E s
 | [],Q,_,q=>Bv q
 | u::us,Q,h,q=>by
  rw[List.mapM_cons];obtain⟨i,t,rfl⟩:=h u Lp;exact Ay<|Qj (typeIs_int s i t)<|Ay<|yU (λv hv=>h v<|OD _ hv)<|Bv q
theorem aip {vs:List JI}{ks:List (List Int)}{Q:WT->kI->Prop}(h:Mx (λk v=>zG s.heap v k) ks vs)(hn:∀k∈ks,k≠[])(h1:1<=vs.length)(q:Q (tuples' true) s):Bs (CJ P w) A (keyKind' vs.toArray) Q E s:=by
 rw[keyKind'_eq,List.mapM_toArray];refine Ay<|wpAny_map<|uY h hn λus hl hu=>?_
 rw[if_pos (by simp)];refine Ay<|Pu<|Ay ?_
 have ef:(us.map Dn).toArray.filterMap id=us.toArray:=by
  simp
 rw[ef,oneTypeOnly'_eq,List.mapM_toArray];refine Ay<|wpAny_map<|yU hu ?_
 obtain⟨u,us',rfl⟩:∃u us',us=u::us':=YM λe=>by rw[e]at hl;simp at hl;lia
 show Bs _ _ (pure _) _ _ s;rw[if_pos (by simp)];exact Bv<|Bv q
end
variable {ks:List (List Int)}{l:List Int}
section
variable {P:Ci}{w:CZ}{A:G4}{E:JI->kI->Prop}{s:kI}
def Hx (ks:List (List Int))(k:List Int):Nat:=ks.countP λl=>decide (l<k)
theorem Dg {k l:List Int}(h:k<l):∀ks:List (List Int),Hx ks k<=Hx ks l/\(k∈ks->Hx ks k<Hx ks l)
 | []=>⟨GZ _,nofun⟩
 | a::as=>by
  obtain⟨i1,i2⟩:=Dg h as;unfold Hx at *;grind
theorem sO (hk:k∈ks):Hx ks k<Hx ks l↔k<l:=by
 refine⟨λh=>(YS λc=>?_),λh=>(Dg h ks).2 hk⟩;by_cases e:l=k
 grind
 exact absurd h<|Nat.not_lt.mpr (Dg (YS λc3=>e<|List.le_antisymm c<|List.not_lt.mp c3) ks).1
theorem zG.fn {h:Heap}{v:JI}(x:zG h v k)(y:zG h v l):k=l:=by
 obtain⟨a,o,its,n,rfl,ga,_,da,va⟩:=x;obtain⟨b,u,jts,m,e,gb,_,db,vb⟩:=y;cases e;rw[ga]at gb;cases gb;rw[da]at db;cases db;have go:∀{k l:List Int}{xs:List JI},Ba (k.map V.int) xs->Ba (l.map V.int) xs->k=l:=by
  intro k;induction k with
  | nil=>
   intro l xs h1 h2;cases h1;cases l with
   | nil=>rfl
   | cons b l=>cases h2
  | cons a k ih=>
   intro l xs h1 h2;cases h1 with
   | cons r1 h1=>
    cases l with
    | nil=>cases h2
    | cons b l=>
     cases h2 with
     | cons r2 h2=>
      obtain⟨t,e1⟩:=r1;obtain⟨u,e2⟩:=r2;grind
 grind
theorem zG.of {h h':Heap}{v:JI}(x:zG h v k)(e:∀b o,v=.ref b->o.cls=.type "tuple"->h.get? b=Dn o->h'.get? b=Dn o):zG h' v k:=by
 obtain⟨a,o,its,n,rfl,ga,ca,r⟩:=x;exact⟨a,o,its,n,rfl,e a o rfl ca ga,ca,r⟩
structure W4 (T:Heap->JI->List Int->Prop):Prop where
 fn:∀{h:Heap}{v:JI}{k l:List Int},T h v k->T h v l->k=l
 of:∀{h h':Heap}{v:JI}{k:List Int},T h v k->(∀b o,o.cls=.type "tuple"->h.get? b=Dn o->h'.get? b=Dn o)->T h' v k
abbrev Qi (T:Heap->JI->List Int->Prop)(h:Heap):List (List Int)->List JI->Prop:=Mx λk v=>T h v k
theorem jc {α β:Type}{F G:α->β->Prop}:∀{as:List α}{bs:List β},Mx F as bs->(∀a b,b∈bs->F a b->G a b)->Mx G as bs
 | [],_,h,_=>by cases h;exact .nil
 | a::as,_,h,g=>by
  cases h with
  | cons r h=>exact .cons (g _ _ Lp r) (jc h λa b hb=>g a b (OD _ hb))
section
variable {T:Heap->JI->List Int->Prop}(F:W4 T)
include F
open Classical in
noncomputable def keyV (_:W4 T)(h:Heap)(v:JI):List Int:=if e:∃k,T h v k then e.choose else[]
theorem oJ {h:Heap}{v:JI}(x:T h v k):keyV F h v=k:=by
 unfold keyV;have e:∃k,T h v k:=⟨k,x⟩
 rw[dif_pos e,F.fn e.choose_spec x]
theorem keys_map {h:Heap}:∀{ks:List (List Int)}{vs:List JI},Qi T h ks vs->ks=vs.map (keyV F h)/\∀v∈vs,∃k∈ks,T h v k
 | [],_,p=>by cases p;exact⟨rfl,nofun⟩
 | k::ks,_,p=>by
  cases p with
  | cons r p=>
   obtain⟨e,g⟩:=keys_map p;refine⟨by rw[HY,oJ F r,<-e],λv hv=>?_⟩;grind
theorem u5 {h:Heap}:∀{vs:List JI},(∀v∈vs,∃k,T h v k)->Qi T h (vs.map (keyV F h)) vs
 | [],_=>.nil
 | v::vs,g=>by
  obtain⟨k,x⟩:=g v Lp;exact .cons (oJ F x ▸ x)<|u5 λu hu=>g u<|OD _ hu
noncomputable def Vk (F:W4 T)(h:Heap)(ks:List (List Int))(v:JI):Nat:=Hx ks (keyV F h v)
theorem aa3 {h:Heap}{vs:List JI}{b:Array JK}(p:Qi T h ks vs)(hp:b.Perm (QW vs))(hr:cJ (Vk F h ks) b 0 vs.length):
  ∃ks',Qi T h ks' (b.map (·.2)).toList/\ks'.Perm ks/\ks'.Pairwise (· < ·)/\(b.map (·.2)).toList.Perm vs:=by
 obtain⟨ek,g⟩:=keys_map F p;have hl:=Array.perm_iff_toList_perm.mp hp;have ep:(QW vs).toList=vs.map λv=>(v,v):=by
  have z:∀l:List JI,l.zip l=l.map λv=>(v,v):=λl=>by
   induction l with
   | nil=>rfl
   | cons a l ih=>rw[List.zip_cons_cons,ih];rfl
  unfold QW;grind
 rw[ep]at hl;have same:∀x∈b.toList,x.1=x.2/\x.2∈vs:=λx hx=>by
  grind
 have po:=by
  have:=hl.map (·.2)
  simpa[Function.comp_def]using this
 rw[Array.toList_map];refine⟨(b.toList.map _).map _,u5 F λv hv=>?_,(ek ▸ po.map _),?_,po⟩;obtain⟨k,_,x⟩:=g v (po.mem_iff.mp hv);exact⟨k,x⟩;rw[Ks,RT,List.pairwise_iff_getElem];intro i j hi hj hij;have:=hr i j (Oj _) hij ((by have:=po.length_eq;simpa using this) ▸ hj)
 rw[Rb (by simpa using hi),Rb (by simpa using hj)]at this;have e1:=same b[i] (by simp);rw[e1.1,(same b[j] (by simp)).1]at this;exact(sO<|ek ▸ GX.mpr ⟨_,e1.2,rfl⟩).mp this
theorem zby {h:Heap}{KS:List (List Int)}{vs:List JI}(p:Qi T h ks vs):((QW vs).toList.map λx=>Vk F h KS x.1)=ks.map (Hx KS):=by
 have ep:(QW vs).toList.map (·.1)=vs:=by
  unfold QW;rw[Array.toList_zip,List.map_fst_zip (GZ _)]
 rw[(keys_map F p).1,Ks];conv=>rhs;rw[<-ep,Ks]
 rfl
end
theorem Zc (nd:ks.Nodup):(ks.map (Hx ks)).Nodup:=by
 unfold List.Nodup;rw[RT];refine YT (λ{k l} hk hl ne e=>ne ?_) nd;exact List.le_antisymm (List.not_lt.mp (λc=>by have:=(sO hl).mpr c;lia))<|List.not_lt.mp (λc=>by have:=(sO hk).mpr c;lia)
abbrev hp6 (h:Heap)(a:Addr)(vs:List JI):Heap:=((h.update a (Wq λ_=>#[])).push (seqObj "tuple" vs.toArray 0)).push (seqObj "list" #[] 0)
structure SkT (P:Ci) (w:CZ) (A:G4) {T:Heap->JI->List Int->Prop}(F:W4 T) (kd:WT) (ks:List (List Int)) (vs:List JI):Prop where
 kind:∀{E:JI->kI->Prop}{s:kI}{Q:WT->kI->Prop},2<=vs.length->Qi T s.heap ks vs->Q kd s->Bs (CJ P w) A (keyKind' vs.toArray) Q E s
 cmp:∀{s:kI},Qi T s.heap ks vs->Cmp P w A s kd (Vk F s.heap ks) (·∈vs)
theorem sS:W4 zG:=⟨zG.fn,λx k=>x.of λb o _ hc hb=>k b o hc hb⟩
theorem aaK {vs:List JI}(hn:2<=ks.length->∀k∈ks,k≠[]):SkT P w A sS (tuples' true) ks vs:=by
 refine⟨λh2 p q=>aip p (hn<|p.length ▸ h2) (Vu h2) q,λp E Q x y mx my q=>?_⟩;obtain⟨k,hk,hx⟩:=(keys_map sS p).2 x mx;obtain⟨l,_,hy⟩:=(keys_map sS p).2 y my;refine abY hx hy ?_;unfold Vk at q;rw[oJ sS hx,oJ sS hy]at q
 rwa[<-decide_eq_decide.mpr (sO hk)]
end
variable {T:Heap->JI->List Int->Prop}
theorem Em {α β:Type}{f:α->β}{l l':List β}(h:l'.Perm l):∀{xs:List α},l=xs.map f->∃ys:List α,ys.Perm xs/\l'=ys.map f:=by
 induction h with
 | nil=>
  simp_all
 | cons a h ih=>
  intro xs e;cases xs with
  | nil=>simp at e
  | cons x xs=>
   obtain⟨e1,e2⟩:=TK e;obtain⟨ys,p,e3⟩:=ih e2;exact⟨x::ys,p.cons x,by rw[HY,<-e1,<-e3]⟩
 | swap a b l=>
  intro xs e;match xs with
  | x::y::xs=>
   obtain⟨e1,e2⟩:=TK e;obtain⟨e2,e3⟩:=TK e2;exact⟨y::x::xs,.swap x y xs,by rw[HY,HY,<-e1,<-e2,<-e3]⟩
 | trans h1 h2 i1 i2=>
  intro xs e;obtain⟨ys,p,e1⟩:=i2 e;obtain⟨zs,p2,e2⟩:=i1 e1;exact⟨zs,p2.trans p,e2⟩
section
variable {X:Cx}{K:Bl}
theorem aib {amD:List (Addr×Obj)}{U:St}{H:Hp}{s:kI}{b:Addr}(I:BJ X amD U H s)(h:Hi X.K H b (k.map V.int)):zG s.heap (.ref b) k:=by
 obtain⟨its,r,⟨o,ho,hc,n,hd⟩,_⟩:=I.tuple h;exact⟨b,o,its.toArray,n,rfl,ho,hc,hd,by simpa using r⟩
def JW (ks:List (List Int)):Prop:=2<=ks.length->∀k∈ks,k≠[]
def afT:MC:=λws h Q=>match ws with
 | [.loc n]=>(match h.c n with
  | some (.dtt kvs)=>JW (kvs.map (·.1))/\∀ks:List (List Int),ks.Perm (kvs.map (·.1))->ks.Pairwise (· < ·)->Q (.lst (ks.map λk=>.tup (k.map .int))) h
  | _=>False)
 | _=>False
end
section
variable {X:Cx}{o:Expr}{mo:ME}{ma:MA}{apos amF:Pos}
def Lz:MM:=λx ws h Q=>match x,ws with
 | .loc n,[y,z]=>(match h.c n,Tz y with
  | some (.dtt kvs),Dn k=>Q ((EY kvs k).getD z) h
  | _,_=>False)
 | _,_=>False
def Kq (h:Gh)(x:W)(P:Prop):Prop:=match x with
 | .loc n=>(match h.c n with
  | some (.dtt _)=>P
  | _=>False)
 | _=>False
def adL (r:MM)(mo:ME)(ma:MA):ME:=λU h Q=>mo U h λx h1=>Kq h1 x (ma U h1 λxs h2=>r x xs h2 Q)
theorem acj (hu:X.A.units+30<Ko)(ho:DE X o mo)(ha:KR X [e1,e2] ma)
  (hbase:Qo o "get" X.env (eval o X.env)=eval o X.env:=by rfl)
  (hfew:((J1 amF (Ca [e1,e2] X.env)).all (λx=>!x.1)&&(RL amF (RM [] X.env)).all (λx=>x.1.isSome)
   && decide (([e1,e2]:List Expr).length+([]:List MH).length+(if([]:List MH).isEmpty then 0 else 1)<30))=true:=by rfl)
  (hline:(apos.endLine==amF.line)=true:=by rfl) (hst:Ca [e1,e2] X.env=(false,eval e1 X.env)::Ca [e2] X.env:=by rfl) (hplain:(J1 amF (Ca [e2] X.env)).any (·.1)=false:=by rfl) :
  DE X (.Call (.Attribute o "get" apos) [e1,e2] [] amF) (adL Lz mo ma):=by
 intro amD s U H Q I ⟨μ,h,Uw,Qw,R,S,m,k⟩;refine Yg hbase hfew hline rfl<|GJ (ho amD s U H _ I ⟨μ,h,Uw,_,R,S,m,λ_ _ z=>z⟩) λu s1 ⟨x,H1,I1,rx,μ1,wx,h1,e1',R1,r1,il⟩=>?_
 unfold Kq at il;split at il
 ·split at il
  ·rename_i kv0 ec0;have r0:=r1;obtain⟨a,rfl,ha'⟩:=r1;obtain rfl:u=Value.ref a:=rx;obtain⟨p,xs,vs,hp,hx,_⟩:=R1.dttAt ec0;have ep:p=a:=by rw[ha']at hp;exact(IV hp).symm
   subst ep;obtain⟨⟨z,y,nd,ob,es,epo,g1,g2,g3,g4⟩,_⟩:=I1.hok p _ hx;refine⟨"dict", "dict.get",PySem.F.plainAttrs_dict,Yr,PySem.F.type_dict_get,⟨ob,g1,g2.1⟩,λb e=>by cases e;exact⟨ob,g1,g2.2.1⟩,?_⟩;have hA:=ha amF amD s1 U H1 _ I1 ⟨μ1,h1,Uw,_,R1,S.ext e1',il,λ_ _ z=>z⟩;rw[hst]at hA|-
   refine Yb (by show(false||(J1 amF<|Ca [e2] X.env).any (·.1))=false;rw[hplain]<;>rfl)<|Ye ?_
   refine GJ hA λus s2 ⟨ys,H2,I2,r2,μ2,ws,h2,e2',R2,rs,m2⟩=>?_;unfold Lz at m2;split at m2
   ·rename_i n' y' z' e3;cases e3;split at m2
    ·rename_i kvs kk ec ek;obtain⟨v1,v2,rfl,ry,rz⟩:=Bc rs;obtain⟨b,rfl,hb⟩:=qW ry ek;obtain⟨u1,u2,rfl,ru1,ru2⟩:=vals2 r2;cases ru1;obtain⟨p2,xs2,vs2,hp2,hx2,q1,q2,q3,q4⟩:=R2.dttAt ec;have r0':=e2'.r _ _ r0;rw[Bq]at r0';obtain⟨a2,ea,ha2⟩:=r0';cases ea;have ep2:p2=p:=by rw[ha2]at hp2;exact(IV hp2).symm
     subst ep2;obtain⟨_,hd2,dd⟩:=Cy I2 hx2 (kO q1 q3);obtain⟨t1,t2⟩:=wY q1 q2 q4 kk;refine call_meetsIn Yr dd.typeIs PySem.F.entry_dict_get (PySem.F.args_dict_get_3 _ _ _) (meetsH_dict_get_default (tupleKind<|intKind X.prog X.w) p2 b hd2 u2) ⟨tupleKind_room_in1<|by lia,kk,xs2,z7 I2 hb,dd,?_⟩;cases ev:EY kvs kk with
     | some wv=>
      rw[ev]at m2;obtain⟨pp,v,a1,a2,a3⟩:=t1 wv ev;rw[a1];exact⟨v,H2,I2.tok _,a2,k _ _ ⟨μ2,wv,h2,e1'.trans e2',R2,a3,m2⟩⟩
     | none=>
      rw[ev]at m2 t2;have a1:atKey xs2 kk=Go:=by
       cases e:atKey xs2 kk with
       | none=>rfl
       | some _=>rw[e]at t2;cases t2
      rw[a1];exact⟨v2,H2,I2.tok _,ru2,k _ _ ⟨μ2,z',h2,e1'.trans e2',R2,rz,m2⟩⟩
    exact m2.elim
   exact m2.elim
  exact il.elim
 exact il.elim
end
section
variable {X:Cx}{K:Bl}
theorem zbe (hc:X.calm=true):gq X (.builtin "min") (λxs H Q=>∃(p:Addr) (ns:List Int),xs=[.ref p]/\JH X.K H p (ns.map V.int)/\0<ns.length/\∀M,M∈ns->(∀a,a∈ns->M<=a)->Q (.int M) H):=by
 intro amD s U H xs us Q I r ⟨p,ns,e,hS,hne,q⟩;subst e;obtain⟨u,rfl,ru⟩:=vals1 r;cases ru;obtain⟨its,rv,pl,hz⟩:=I.list hS;have amE:its.length=ns.length:=by rw[<-rv.length,CV]
 have all:AllInts its.toArray:=λv hv=>by
  obtain⟨i,hi,e⟩:=Array.mem_iff_getElem.mp hv;obtain⟨t,e2⟩:=Dd (i:=i) (v:=v) rv (by rw[<-e];simp at hi|-);exact⟨_,t,e2⟩
 obtain⟨ys,ey⟩:=all.items;have hl:=pl.isList;rw[ey]at hl;have hys:=by
  have:=congrArg Array.size ey
  simp[intItems]at this;lia
 have num:∀i,i<ns.length->numAt ys i=ns.getD i 0:=λi hi=>by
  obtain⟨t,e2⟩:=Dd rv (JD _);have e3:(intItems ys)[i]?=Dn (its[i]'(by lia)):=by rw[<-ey];simp
  obtain⟨t',e4⟩:=intItems_at e3;rw[e2]at e4;injection e4 with e5 _
  exact e5.symm
 refine min_intList (I.ok.hd hc) hl (by lia) λv h' tk hv hk=>?_;obtain⟨t,rfl⟩:=intItems_at hv;obtain⟨h1,h2⟩:=argBest_lt (numAt ys) (ys.size-1);refine⟨.int _,H,I.kept hk,⟨t,rfl⟩,q _ ?_ λa ha=>?_⟩;rw[num _ (by lia),M9,JD (by lia)];exact RQ _;obtain⟨j,hj,e⟩:=X3.mp ha;have:=h2 j (by lia)
 rw[num j hj,M9,JD hj]at this;rw[<-e];exact this
def RV:MC:=λws h Q=>match ws with
 | [w]=>(match eU h w with
  | some us=>∃ns:List Int,us=ns.map W.int/\0<ns.length/\∀M,M∈ns->(∀a,a∈ns->M<=a)->Q (.int M) h
  | none=>False)
 | _=>False
theorem aaZ (hc:X.calm=true):fQ X (.builtin "min") RV:=⟨_,zbe hc,by
 intro H μ h vs ws Qw Q R r m k;unfold RV at m;split at m
 split at m
 rename_i w us ev;obtain⟨v,e,rv⟩:=fV r;obtain⟨p,ys,ex,hs,rs⟩:=cY R rv ev;obtain⟨ns,eu,hne,m⟩:=m;subst e ex;rw[eu]at rs;have:=oV rs
 subst this;exact⟨p,ns,rfl,hs,hne,λM hM ha=>k _ _<|.int R<|m M hM ha⟩;exact m.elim;cases m⟩
def aal (K:Bl):V->List V->Hp->VK->Prop:=λx vs H Q=>∃l b xs zs,x=.ref l/\vs=[.ref b]/\H l=Dn (.lst xs)/\Hi K H b zs/\xs.length+zs.length<=G6/\Q .non (G7 H l (.lst (xs++zs)))
theorem ahM:MtM X "list.extend" (aal X.K):=by
 intro amD s U H x vs v us Q I rx rv h;obtain⟨l,b,xs,zs,rfl,rfl,hH,hB,hz,q⟩:=h;cases rx;obtain⟨u,rfl,ru⟩:=rv.one;cases ru;obtain⟨z,its,n,r,hl,e⟩:=I.lstM hH;obtain⟨its2,r2,⟨o2,e2,c2,n2,d2⟩,hz2⟩:=I.tuple hB;have hl2:=r2.length;have sz:its.toArray.size+its2.toArray.size<=G6:=by rw[Jr,Jr];lia
 refine RN F.slot_list_extend ⟨_,e,rfl⟩ F.entry_list_extend ?_<|F.args_list_extend_2 _ _
 show Bs _ _ (Builtin.List.listExtendWith (.ref l) _ .none) _ _ _;refine Ay<|Qj ⟨o2,e2,c2⟩ ?_
 have tt:(Value.type "tuple"==Value.type "tuple")=true:=by rfl
 rw[if_pos (by rw[tt,Bool.or_true])];refine Ay<|XT e2 d2<|Ay<|XT e rfl ?_
 rw[if_neg (by rw[FJ sz,Bool.and_false];exact U5)];refine Ay<|listUpdate_at e rfl (Bv ⟨_,rfl,?_⟩) (by lia) (by rw[Array.size_append];lia)
 refine⟨.non,_,I.lset hH e (by simp) (r.append r2) ?_,rfl,q⟩;rw[Pa];lia
def JT:MM:=λx ws h Q=>match x,ws with
 | .loc n,[.tup zs]=>(match h.c n with
  | some (.lst us)=>gn (us.length+zs.length) (Q .non (h.set n (.lst (us++zs))))
  | _=>False)
 | _,_=>False
theorem abS:Qz K (aal K) JT:=by
 intro H μ h x vs wx ws Qw Q R rx rs m k;unfold JT at m;split at m
 split at m
 rename_i n zs _ us ec;obtain⟨p,xs,ex,hm,hx,r1⟩:=Ht R rx ec;obtain⟨v,ev,rv⟩:=fV rs;obtain⟨q,ys,ey,hy,r2⟩:=rv;subst ey;exact⟨p,q,xs,ys,ex,ev,hx,hy,by rw[<-r1.len,<-r2.len];exact m.ok.1,k _ _<|.wrote R hm (r1.append r2) (by rw[Bq]) m.ok.2⟩;cases m;cases m
variable {o e:Expr}{mo:ME}{ma:MA}{apos amF:Pos}
theorem acB (ho:DE X o mo)(ha:KR X [e] ma)
  (hbase:Qo o "extend" X.env (eval o X.env)=eval o X.env:=by rfl)
  (hfew:((J1 amF (Ca [e] X.env)).all (λx=>!x.1)&&(RL amF (RM [] X.env)).all (λx=>x.1.isSome)
   && decide (([e]:List Expr).length+([]:List MH).length+(if([]:List MH).isEmpty then 0 else 1)<30))=true:=by rfl)
  (hline:(apos.endLine==amF.line)=true:=by rfl) (hst:Ca [e] X.env=(false,eval e X.env)::Ca [] X.env:=by rfl) (hplain:(J1 amF (Ca [] X.env)).any (·.1)=false:=by rfl) :
  DE X (.Call (.Attribute o "extend" apos) [e] [] amF) (zF JT mo ma):=ac9 PySem.F.slot_list_extend PySem.F.type_list_extend ahM abS ho ha hbase hfew hline hst hplain
end
section
variable {prog:Ci}{w:CZ}{A:G4}{R:Q9->kI->Prop}{E:JI->kI->Prop}{I:Addr}{ns:List Int}{its:List JI}
end
variable {I:Addr}
section
variable {X:Cx}
end
section
open AutoSeq1 (wpAny_loadPart')
end
section
variable {prog:Ci}{w:CZ}{A:G4}{E:JI->kI->Prop}{s:kI}
end
section
variable {X:Cx}{K:Bl}
end
section
variable {prog:Ci}{w:CZ}{A:G4}{R:Q9->kI->Prop}{its:List JI}
end
section
variable {X:Cx}{K:Bl}
def qN:List W->Option (List (List W))
 | []=>Dn []
 | .tup k::r=>(qN r).map (k::·)
 | _=>Go
def adP (h:Gh)(x y:W):Option Src:=match oO x,y with
 | some as,.loc n=>(match h.c n with
  | some (.lst bs)=>Dn ⟨qG as bs,Dn (n,bs)⟩
  | _=>Go)
 | _,_=>Go
end
section
variable {X:Cx}
end
section
variable {prog:Ci}{w:CZ}{A:G4}{E:JI->kI->Prop}{s:kI}
theorem rF:typeLookup (.type "tuple") "keys" = pure Go:=by rw[typeLookup_type,Z2];kernel_rfl
theorem uT:typeLookup (.type "list") "keys" = pure Go:=by rw[typeLookup_type,Z2];kernel_rfl
theorem zaw {a:Addr}{o:Obj}{xs:Array JI}{k:Nat}{Q:Option JI->kI->Prop}(hx:s.heap.get? a=Dn o)(hc:o.cls=.type "list")(hdat:o.data=.seq xs k)(hd:o.dict=Go)(hA:A.handled=Go)
  (h:∀h' tk,(∀b ob,s.heap.get? b=Dn ob->h'.get? b=Dn ob)->Q Go {s with heap:=h',toks:=tk}):Bs (CJ prog w) A (getAttr? (.ref a) "keys") Q E s:=by
 obtain⟨c,dct,dat,sl⟩:=o;simp only at hc hdat hd;subst hc hdat hd;obtain⟨hp,g,d,tk,os⟩:=s;have hT:∀tk',(⟨hp,g,d,tk',os⟩:kI).TypeIs (.ref a) "list":=λ_=>⟨_,hx,rfl⟩
 have f1:=sub_AttributeError;have f3:=F.slot_list_getattribute.lookup;have f4:=F.slot_list_getattribute.bind (.ref a);have f5:=am_list_getattr_none;unfold getAttr? getAttrBy? getAttrBy;repeat(any_goals(first|assumption|exact hT _|((with_reducible show Bs _ _ (call (Value.builtin "list.__getattribute__") _ _) _ _ _);refine V9 F.slot_list_getattribute (hT _) am_entry_list_getattribute (F.args_list_getattribute_2 _ _) (meets_getattribute_miss_list a xs k sl "keys" _ uT (by decide) (by size_fits)) ⟨hx,hA,λh' tk' e hx'=>?_⟩)|wp_step))
 obtain⟨t',u',he⟩:=hx'.there;show Bs _ _ (getattributeRaised _ _ _ _ _ _ _) _ _ _;unfold getattributeRaised;repeat(any_goals(first|assumption|wp_step))
 exact h _ _ hx'.keeps
theorem zaN {a:Addr}{o:Obj}{xs:Array JI}{k:Nat}{Q:Option JI->kI->Prop}(hx:s.heap.get? a=Dn o)(hc:o.cls=.type "tuple")(hdat:o.data=.seq xs k)(hd:o.dict=Go)(hA:A.handled=Go)
  (h:∀h' tk,(∀b ob,s.heap.get? b=Dn ob->h'.get? b=Dn ob)->Q Go {s with heap:=h',toks:=tk}):Bs (CJ prog w) A (getAttr? (.ref a) "keys") Q E s:=by
 obtain⟨c,dct,dat,sl⟩:=o;simp only at hc hdat hd;subst hc hdat hd;obtain⟨hp,g,d,tk,os⟩:=s;have hT:∀tk',(⟨hp,g,d,tk',os⟩:kI).TypeIs (.ref a) "tuple":=λ_=>⟨_,hx,rfl⟩
 have f1:=sub_AttributeError;have f3:=F.slot_tuple_getattribute.lookup;have f4:=F.slot_tuple_getattribute.bind (.ref a);have f5:=am_tuple_getattr_none;unfold getAttr? getAttrBy? getAttrBy;repeat(any_goals(first|assumption|exact hT _|((with_reducible show Bs _ _ (call (Value.builtin "tuple.__getattribute__") _ _) _ _ _);refine V9 F.slot_tuple_getattribute (hT _) am_entry_tuple_getattribute (F.args_tuple_getattribute_2 _ _) (meets_getattribute_miss_tuple a xs k sl "keys" _ rF (by decide) (by size_fits)) ⟨hx,hA,λh' tk' e hx'=>?_⟩)|wp_step))
 obtain⟨t',u',he⟩:=hx'.there;show Bs _ _ (getattributeRaised _ _ _ _ _ _ _) _ _ _;unfold getattributeRaised;repeat(any_goals(first|assumption|wp_step))
 exact h _ _ hx'.keeps
theorem nM:entryFor table "dict.update.loop" = Dn Wh.«dict.update.loop»:=entryFor_of_tree (by kernel_rfl)
theorem fB:plainId "dict.update.loop" = true:=by decide +kernel
abbrev QK (prog:Ci)(w:CZ):=tupleKind (intKind prog w)
theorem JV {h h':Heap}{a:Addr}(x:(QK prog w).is h k a)(m:∀b o,h.get? b=Dn o->h'.get? b=Dn o):(QK prog w).is h' k a:=by
 obtain⟨o,its,n,ho,r⟩:=x;exact⟨o,its,n,m _ _ ho,r⟩
theorem vd {h0 h h':Heap}{xs:List (List Int×Addr×JI)}(x:Wi (QK prog w) h d xs)(hd:∀o,h.get? d=Dn o->h'.get? d=Dn o)(hk:∀y∈xs,(QK prog w).is h' y.1 y.2.1):Wi (QK prog w) h' d xs:=by
 obtain⟨o,es,ep,e1,e2,e3,e4,_,e6⟩:=x;exact⟨o,es,ep,hd o e1,e2,e3,e4,hk,e6⟩
theorem aiy {R:Q9->kI->Prop}{items:Array JI}{fp:List Addr}{St:Nat->Heap->Prop}(W:Walks prog w A.in1 I fp [I] items.size (λi v=>items[i]?=Dn v) St)(hdf:d∉fp)(hu:A.in1.units<Ko)(h0:Heap)(hd0:h0.get? d=Go)(hI0:h0.get? I=Go)
  {ps:List (List Int×Addr×JI)}(hp:items.size=ps.length) (hk:∀(j:Nat) (p:List Int×Addr×JI),ps[j]?=Dn p->∃q,items[j]?=Dn (.ref q)/\IsTup h0 q #[.ref p.2.1,p.2.2]/\(QK prog w).is h0 p.1 p.2.1) (nd:(ps.map (·.1)).Nodup) (hz:ps.length<=G6) :
  ∀(k j:Nat) (s:kI) (t:Tok),ps.length-j=k->j<=ps.length->St j s.heap->Wi (QK prog w) s.heap d (ps.take j)->(∀b o,h0.get? b=Dn o->s.heap.get? b=Dn o) ->
  (∀h' tk,Wi (QK prog w) h' d ps->(∀b o,h0.get? b=Dn o->h'.get? b=Dn o)->R (.ok (.ret .none)) {s with heap:=h',toks:=tk}) ->
  PL (CJ prog w) A (.builtin "dict.update.loop" ⟨[.ref d,.ref I,.int (j:Int) t,.none],[]⟩) R s:=by
 have dI:d≠I:=λe=>hdf (W.sub d (by rw[e];simp))
 have keys:∀(j:Nat) (h':Heap),(∀b o,h0.get? b=Dn o->h'.get? b=Dn o)->∀y∈ps.take j,(QK prog w).is h' y.1 y.2.1:=λj h' m y hy=>by
  obtain⟨i,hi,e⟩:=X3.mp (YZ hy);obtain⟨q,_,_,hq⟩:=hk i y (by rw[<-e];exact JD hi);exact JV hq m
 intro k;induction k with
 | zero=>
  intro j s t hkj hj st hm h00 hR;have ej:j=ps.length:=by lia
  refine Qc nM ?_;rw[UL fB _];refine Ay<|W.done s _ _ (by rw[hp,<-ej];exact st) λh' tk hk'=>?_
  have m:∀b o,h0.get? b=Dn o->h'.get? b=Dn o:=λb o e=>hk' b o (by intro z;rw[Q0.mp z,hI0]at e;cases e) (h00 b o e)
  have hm':Wi (QK prog w) h' d ps:=by
   rw[ej,Lj]at hm;refine vd (h0:=h0) hm (λo e=>hk' d o (by simpa using dI) e) λy hy=>keys ps.length h' m y (by rw[Lj];exact hy)
  exact Ay<|Bv<|Bv<|hR h' tk hm' m
 | succ k ih=>
  intro j s t hkj hj st hm h00 hR;have hlt:j<ps.length:=by lia
  have ep:ps[j]?=Dn ps[j]:=JD hlt;generalize ps[j]=p at ep;obtain⟨q,eq,hq,hkey⟩:=hk j p ep;refine Qc nM ?_;rw[UL fB _];show Bs _ A.in1 (pyNext (.ref I) >>= _) _ _ s;refine Ay<|W.item j s _ _ (by rw[hp];exact hlt) st λv h' tk hP st' hk'=>?_
  have ev:v=.ref q:=by rw[eq]at hP;exact(IV hP).symm
  subst ev;have m:∀b o,h0.get? b=Dn o->h'.get? b=Dn o:=λb o e=>hk' b o (by intro z;rw[Q0.mp z,hI0]at e;cases e) (h00 b o e)
  have hm':Wi (QK prog w) h' d (ps.take j):=vd (h0:=h0) hm (λo e=>hk' d o (by simpa using dI) e) (keys j h' m);obtain⟨oq,goq,cq,nq,dq⟩:=hq;have goq':=m _ _ goq;refine Ay<|Ob<|Ay<|wpAny_tryCatch ?_
  unfold Builtin.Dict.pairItems;refine Ay<|Qj (T := "tuple") ⟨oq,goq',cq⟩ ?_
  rw[if_pos (by decide)];refine Ay<|VB goq' dq<|Bv ?_
  show Bs _ _ (Rx [_,_] (dictSet d _ _)) _ _ _;have hno:atKey (ps.take j) p.1=Go:=by
   unfold atKey;rw[Option.map_eq_none_iff,List.find?_eq_none];intro y hy;have hn:p.1∉(ps.take j).map (·.1):=by
    have e1:ps=ps.take j++p::ps.drop (j+1):=by
     conv=>lhs;rw[<-X8 j ps]
     congr 1
     rw[XD hlt];congr 1
     rw[JD hlt]at ep;exact IV ep
    rw[e1,Jb,List.nodup_append]at nd;intro z;exact nd.2.2 _ z p.1 (by simp) rfl
   intro z;exact hn<|GX.mpr ⟨y,hy,by simpa using z⟩
  refine Ob<|wpAny_dictSet_heap (hsz:=by rw[Qn];lia) hu (JV hkey m) hm' λh2 hd2 hs2=>?_
  rw[storedH_new hno]at hd2;have et:ps.take j++[(p.1,p.2.1,p.2.2)]=ps.take (j+1):=by rw[Jt,ep];rfl
  rw[et]at hd2;have keep2:∀b o,b≠d->h'.get? b=Dn o->h2.get? b=Dn o:=λb o hb e=>hs2.extBut b o hb e
  refine Bv ⟨Qp fB _,?_⟩;have ej:((j:Int)+1)=((j+1:Nat):Int):=by lia
  show PL _ _ (.builtin "dict.update.loop" ⟨[.ref d,.ref I,.int ((j:Int)+1) 0,.none],[]⟩) _ _;rw[ej];refine ih (j+1) _ 0 (by lia) hlt (W.frame _ _ _ st' λb hb o e=>keep2 b o (λz=>hdf<|z ▸ hb) e) hd2 (λb o e=>keep2 b o (λz=>by rw[z,hd0]at e;cases e)<|m b o e) λh3 tk3 d3 m3=>hR h3 tk3 d3 m3
theorem wN {T:Addr}{items:Array JI}{Q:JI->kI->Prop}(hh:A.handled=Go)(hu:A.units+30<Ko)
  (src:∃o n,s.heap.get? T=Dn o/\o.cls=.type "tuple"/\o.data=.seq items n/\o.dict=Go)
  {ps:List (List Int×Addr×JI)}(hp:items.size=ps.length) (hk:∀(j:Nat) (p:List Int×Addr×JI),ps[j]?=Dn p->∃q,items[j]?=Dn (.ref q)/\IsTup s.heap q #[.ref p.2.1,p.2.2]/\(QK prog w).is s.heap p.1 p.2.1) (nd:(ps.map (·.1)).Nodup) (hz:ps.length<=G6)
  (h:∀h' tk,Wi (QK prog w) h' s.heap.objs.size ps->(∀b o,s.heap.get? b=Dn o->h'.get? b=Dn o)->Q (.ref s.heap.objs.size) {s with heap:=h',toks:=tk}) :
  Bs (CJ prog w) A (call (.type "dict") [.ref T]) Q E s:=by
 have hhA:A.in1.in1.handled=Go:=hh;have hu2:A.in1.in1.units<Ko:=by
  have:A.in1.in1.units=A.units+1+1:=rfl
  lia
 have hT0:T<s.heap.objs.size:=by
  obtain⟨o,_,e,_⟩:=src;exact GK e
 refine callType_codes (Q₁:=λobj s₁=>obj=.ref s.heap.objs.size/\s₁={s with heap:=s.heap.push {cls:=.type "dict",data:=.dict #[]} }) F.kt_called_dict (F.kt_typeCall_dict_1 _) F.entry_dict_init (kt_code_dict_new _ ⟨rfl,rfl⟩) ?_;rintro obj s₁ ⟨rfl,rfl⟩;have hTd:({s with heap:=s.heap.push {cls:=.type "dict",data:=.dict #[]} }:kI).TypeIs (.ref s.heap.objs.size) "dict":=⟨_,JB _ rfl,rfl⟩
 refine⟨hTd,F.args_dict_init_2 _ _,?_⟩;refine Ay ?_;refine Ay<|wpAny_notOrdered_dict hTd ?_
 refine Bv ?_;show Bs _ _ (ZC "dict.__init__" s.heap.objs.size (.ref T) [] .none) _ _ _;unfold ZC;have loop:∀(h1:Heap) (tk1:Nat),(∀b ob,(s.heap.push {cls:=.type "dict",data:=.dict #[]}).get? b=Dn ob->h1.get? b=Dn ob)->∀(h2:Heap) (fp:List Addr) (St:Nat->Heap->Prop),h1.objs.size∉([s.heap.objs.size]:List Addr)->(∀b ob,h1.get? b=Dn ob->h2.get? b=Dn ob)->s.heap.objs.size∉fp->Walks prog w A.in1.in1 h1.objs.size fp [h1.objs.size] items.size (λi v=>items[i]?=Dn v) St->St 0 h2 ->
   PL (CJ prog w) A.in1 (.builtin "dict.update.loop" ⟨[.ref s.heap.objs.size,.ref h1.objs.size,Pj 0,.none],[]⟩) (wants (λr s₂=>r=.none/\Q (.ref s.heap.objs.size) s₂) E) {s with heap:=h2,toks:=tk1}:=by
  intro h1 tk1 m1 h2 fp St hne m2 hfp W st;have hd1:=m1 _ _ (JB s.heap (o:={cls:=.type "dict",data:=.dict #[]}) rfl);refine aiy (A:=A.in1) W hfp hu2 s.heap (Wb<|GZ _) (Wb<|Vu<|GK hd1) hp hk nd hz ps.length 0 _ _ rfl (Oj _) st ?_ (λb o e=>m2 b o<|m1 b o<|GP _ e) λh' tk d m=>⟨rfl,h h' tk d m⟩;exact⟨_,#[],0,m2 _ _ hd1,⟨rfl,rfl,rfl⟩,rfl,rfl,(λx hx=>absurd hx Va),YH⟩
 obtain⟨o,n,g1,g2,g3,g4⟩:=src;have g1':(s.heap.push {cls:=.type "dict",data:=.dict #[]}).get? T=Dn o:=GP _ g1;refine Ay<|Qj (T := "tuple") ⟨o,g1',g2⟩ ?_
 rw[if_pos (by decide)];refine Ay<|zaN g1' g2 g3 g4 hhA λh1 tk1 m1=>?_
 rw[if_pos (show(Go:Option JI).isNone=true from rfl)];refine Ay<|Pu ?_
 have hT:h1.IsTuple T items:=⟨o,m1 _ _ g1',g2,n,g3⟩
 refine Ay<|wpAny_pyIter_tuple hT ?_
 have hlt:T<h1.objs.size:=GK (m1 _ _ g1');have hd1:=GK (m1 _ _ (JB s.heap (o:={cls:=.type "dict",data:=.dict #[]}) rfl));refine Bv ⟨Qp fB _,?_⟩;exact loop h1 tk1 m1 _ _ _ (by simpa using OJ hd1) (λb ob e=>GP _ e) (by simp only[Jz,Va,or_false,not_or];exact⟨Jl hd1,OJ hT0⟩) (Walks.tuple hhA _ T (Jl hlt) items) ⟨⟨_,JB _ rfl,rfl,rfl⟩,hT.push _⟩
end
section
variable {X:Cx}{K:Bl}
abbrev Y9 (K:Bl)(H:Hp)(y:V)(p:List Int×Addr×V):Prop:=∃q,y=V.ref q/\Hi K H q [.ref p.2.1,p.2.2]/\Hi K H p.2.1 (p.1.map V.int)
theorem Ab {amD:List (Addr×Obj)}{U:St}{H:Hp}{s:kI}(I:BJ X amD U H s):∀{ys:List V}{ps:List (List Int×Addr×V)}{its:List JI},Ba ys its->Mx (Y9 X.K H) ys ps ->
  ∃xs:List (List Int×Addr×JI),xs.map (·.1)=ps.map (·.1)/\xs.map (·.2.1)=ps.map (·.2.1)/\Ba (ps.map (·.2.2)) (xs.map (·.2.2))/\∀(j:Nat) (p:List Int×Addr×JI),xs[j]?=Dn p->∃q,its[j]?=Dn (.ref q)/\IsTup s.heap q #[.ref p.2.1,p.2.2]/\(QK X.prog X.w).is s.heap p.1 p.2.1
 | _,_,_,.nil,.nil=>⟨[],rfl,rfl,.nil,λj p e=>by simp at e⟩
 | _,_,_,.cons r rv,.cons (b:=p) hp pp=>by
  obtain⟨xs,a1,a2,a3,a4⟩:=Ab I rv pp;obtain⟨q,rfl,h1,h2⟩:=hp;cases r;obtain⟨js,r2,ht,_⟩:=I.tuple h1;cases r2 with
  | cons r3 r4=>
   cases r4 with
   | cons r5 r6=>
    cases r6;cases r3;rename_i v;refine⟨(p.1,p.2.1,v)::xs,by simp[a1],by simp[a2],.cons r5 a3,λj z e=>?_⟩;cases j with
    | zero=>
     simp at e;subst e;exact⟨q,rfl,ht,z7 I h2⟩
    | succ j=>
     obtain⟨q',b1,b2⟩:=a4 j z (by simpa using e);exact⟨q',by simpa using b1,b2⟩
theorem zaq (hc:X.calm=true)(hu:X.A.units+30<Ko):gq X (.type "dict") (λvs H Q=>∃(T:Addr) (ys:List V) (ps:List (List Int×Addr×V)),vs=[.ref T]/\Hi X.K H T ys/\Mx (Y9 X.K H) ys ps/\(ps.map (·.1)).Nodup /\
  ∀d,H d=Go->∀xs:List (List Int×Addr×JI),xs.map (·.1)=ps.map (·.1)->xs.map (·.2.1)=ps.map (·.2.1)->Ba (ps.map (·.2.2)) (xs.map (·.2.2))->Q (.ref d) (G7 H d (.ext (Ov d xs)))):=by
 intro amD s U H vs us Q I r ⟨T,ys,ps,ev,hS,pp,nd,q⟩;subst ev;obtain⟨u,rfl,ru⟩:=vals1 r;cases ru;obtain⟨its,rv,⟨o,g1,g2,⟨n,g3⟩,g4⟩,hz⟩:=I.tupO hS;obtain⟨xs,a1,a2,a3,a4⟩:=Ab I rv pp;have e1:=rv.length;have e2:=Vx pp;have e3:=by have:=congrArg Wu a1;simpa using this
 refine wN (I.ok.hd hc) hu ⟨o,n,g1,g2,g3,g4⟩ (by rw[Jr];lia) (λj p e=>by
  obtain⟨q,b1,b2⟩:=a4 j p e;exact⟨q,List.getElem?_toArray ▸ b1,b2⟩) (a1 ▸ nd) (by lia) λh' tk d m=>?_
 exact⟨.ref s.heap.objs.size,_,I.laid m (GZ _)<|Jj (by lia) ((Ez (P:=X.prog) (w:=X.w) (H:=H) s.heap I.big).2.1) d,rfl,q _ (I.hok.fresh<|GZ _) xs a1 a2 a3⟩
def qz:List W->Option (List (List Int×W))
 | []=>Dn []
 | .tup [k,v]::r=>(match Tz k with
  | some ks=>(qz r).map ((ks,v)::·)
  | none=>Go)
 | _=>Go
theorem zR {H:Hp}{μ:Mu}:∀{us:List W}{ys:List V}{ps:List (List Int×W)},aW K H μ us ys->qz us=Dn ps->∃qs:List (List Int×Addr×V),Mx (Y9 K H) ys qs/\qs.map (·.1)=ps.map (·.1)/\aW K H μ (ps.map λx=>W.tup (x.1.map W.int)) (qs.map λx=>V.ref x.2.1)/\aW K H μ (ps.map (·.2)) (qs.map (·.2.2))
 | [],ys,ps,r,e=>by
  cases e;subst r;exact⟨[],.nil,rfl,by rw[Vv,Vv,aW],by rw[Vv,Vv,aW]⟩
 | w::us,ys,ps,r,e=>by
  obtain⟨y,yr,rfl,ra,r⟩:=r;unfold qz at e;split at e
  rename_i h;cases h
  ·rename_i k v us' h;cases h;split at e
   ·rename_i ks ek;cases q:qz us with
    | none=>rw[q]at e;cases e
    | some cs=>
     rw[q]at e;cases e;obtain⟨qs,p1,p2,p3,p4⟩:=zR r q;obtain⟨b,zs,rfl,hb,rz⟩:=ra;obtain⟨z1,z2,rfl,rk,rw'⟩:=Bc rz;obtain⟨kb,rfl,hkb⟩:=qW rk ek;exact⟨(ks,kb,z2)::qs,.cons ⟨b,rfl,hb,hkb⟩ p1,by simp[p2],⟨_,_,rfl,⟨kb,_,rfl,hkb,qU ks⟩,p3⟩,(⟨_,_,rfl,rw',p4⟩)⟩
   cases e
  cases e
def Fe:MC:=λws h Q=>match ws with
 | [.tup us]=>(match qz us with
  | some ps=>(ps.map (·.1)).Nodup/\Q (.loc h.nx) (h.new (.dtt ps))
  | none=>False)
 | _=>False
theorem zcg (hc:X.calm=true)(hu:X.A.units+30<Ko):fQ X (.type "dict") Fe:=⟨_,zaq hc hu,by
 intro H μ h vs ws Qw Q R r m k;unfold Fe at m;split at m
 split at m
 rename_i us _ ps ek;obtain⟨v,e,rv⟩:=fV r;obtain⟨p,ys,ex,hs,rs⟩:=rv;obtain⟨qs,p1,p2,p3,p4⟩:=zR rs ek;subst e ex;refine⟨p,ys,qs,rfl,hs,p1,p2 ▸ m.1,λd hd xs a1 a2 a3=>?_⟩;have xt:=(Ex.newCell (o:=.ext (Ov d xs)) R hd).ext;have e3:=by
  have:(xs.map (·.2.1)).map V.ref=(qs.map (·.2.1)).map V.ref:=by rw[a2]
  rwa[Ks,Ks]at this
 have R1:G5 _ _ (G7 H d (.ext _)) (h.new (.dtt ps)):=R.newCell hd trivial ⟨xs,qs.map _,bD,(by rw[a1,p2]),a3,e3 ▸ xt.s p3,xt.s p4⟩;exact k _ _ ⟨_,.loc _,_,xt,R1,⟨d,rfl,Mu.put_same⟩,m.2⟩;cases m;cases m⟩
end
section
variable {prog:Ci}{w:CZ}{A:G4}{E:JI->kI->Prop}{s:kI}{r l:Addr}{items:Array JI}
theorem ahy {Q:List JI->kI->Prop}(hh:A.handled=Go)(hit:s.heap.IsRevIter r l ((items.size:Int)-1))(hl:s.heap.IsList l items)(hne:l≠r)(hn:items.size<=G6)
  (hQ:∀(h':Heap) (tk:Nat) (acc':Array JI),s.heap.objs.size<h'.objs.size->(∀b o,b≠r->s.heap.get? b=Dn o->h'.get? b=Dn o)->ItemsOf (λi v=>items[items.size-1-i]?=Dn v) acc' items.size->Q acc'.toList {s with heap:=h',toks:=tk}):Bs (CJ prog w) A (collect (.ref r)) Q E s:=by
 have ll:l<s.heap.objs.size:=by obtain⟨_,e,_⟩:=hl;exact GK e
 refine Ay<|wpAny_runValue<|Qc F.entry_proto_collect ?_
 refine Ay<|Qu ?_
 refine Bv ⟨Qp F.plain_list_iadd _,Qc F.entry_list_iadd ?_⟩;rw[UL F.plain_list_iadd _];have hS₁:(s.heap.push {cls:=.type "list",data:=.seq ([]:List JI).toArray}).get? s.heap.objs.size=Dn {cls:=.type "list",data:=.seq #[] 0}:=JB _ rfl;refine zaE (A:=A) (R:=λ(r:Q9) s'=>match r with
  | .ok (.ret v)=>Bs (CJ prog w) A (match v with
   | .ref a=>do
    match(<-load a).data with
    | .seq xs _=>pure xs.toList
    | _=>unsupported "internal:collect"
   | _=>unsupported "internal:collect") Q E s'
  | .ok _=>False
  | .error e=>E e s') hh (hit.at λo e=>GP _ e) (hl.at λo e=>GP _ e) hne _ (OJ (by obtain⟨_,e,_⟩:=hit;exact GK e)) (OJ ll) _ _ hS₁ (λh' tk acc' c' hk hS' hacc=>?_) hn
 refine Ay<|wpAny_load hS' ?_
 exact Bv<|hQ h' tk acc' (GK hS') (λb o hb e=>hk b o (Jl<|GK e) hb<|GP _ e) hacc
theorem ahj {Q₁:JI->kI->Prop}(hh:A.handled=Go)(hit:s.heap.IsRevIter r l ((items.size:Int)-1))(hl:s.heap.IsList l items)(hne:l≠r)(hn:items.size<=G6)
  (h:∀(h':Heap) (tk:Nat) (acc':Array JI),s.heap.objs.size<h'.objs.size->(∀b o,b≠r->s.heap.get? b=Dn o->h'.get? b=Dn o)->ItemsOf (λi v=>items[items.size-1-i]?=Dn v) acc' items.size->Q₁ (.ref h'.objs.size) {s with heap:=h'.push {cls:=.type "tuple",data:=.seq acc'},toks:=tk}) :
  PL (CJ prog w) A (.call (.builtin "tuple.__new__") ⟨[.type "tuple",.ref r],[]⟩) (wants Q₁ E) s:=by
 refine codeAny_of_tree ?_;refine Ay<|wpAny_of_eq (F.newCall_tuple_1 _)<|Bv ⟨Qp F.plain_tuple_new _,Qc F.entry_tuple_new ?_⟩
 rw[UL F.plain_tuple_new _];have hsub:=sub_tuple_self;have hinit:=init_tuple_lookup;have hmh:=madeHere_tuple;have hTI:=hit.typeIs;have hhA:A.in1.handled=Go:=hh
 wp_walk using Qj hTI,ahy hhA hit hl hne hn
 intro h' tk acc hs hm hacc;show Bs _ _ (ZD acc.toList.toArray >>= λv=>ret v) _ _ _;unfold ZD;refine Ay<|Qu ?_ (by show acc.toList.toArray.size<=G6;simp only[Array.toArray_toList];rw[hacc.1];exact hn)
 refine Bv ?_;have e:acc.toList.toArray=acc:=by simp
 rw[e];exact h h' tk acc hs hm hacc
theorem agM {Q:JI->kI->Prop}(hh:A.handled=Go)(hit:s.heap.IsRevIter r l ((items.size:Int)-1))(hl:s.heap.IsList l items)(hne:l≠r)(hn:items.size<=G6)
  (h:∀(h':Heap) (tk:Nat) (acc':Array JI),s.heap.objs.size<h'.objs.size->(∀b o,b≠r->s.heap.get? b=Dn o->h'.get? b=Dn o)->ItemsOf (λi v=>items[items.size-1-i]?=Dn v) acc' items.size->Q (.ref h'.objs.size) {s with heap:=h'.push {cls:=.type "tuple",data:=.seq acc'},toks:=tk}) :
  Bs (CJ prog w) A (call (.type "tuple") [.ref r]) Q E s:=by
 refine callType_codes (Q₁:=λobj s₁=>s₁.TypeIs obj "tuple"/\Q obj s₁) F.called_tuple (F.typeCall_tuple_1 _) F.entry_object_init
  (ahj hh hit hl hne hn λh' tk acc hs hm hacc=>⟨⟨_,JB _ rfl,rfl⟩,h h' tk acc hs hm hacc⟩) λobj s₁ h₁=>?_
 exact⟨h₁.1,F.args_object_init_2 obj _,object_init_meets F.called_tuple.init.lookup F.called_tuple.made (by decide) prog w _ _ s₁ ⟨h₁.1,rfl,h₁.2⟩⟩
end
section
variable {X:Cx}
def wG (me:ME):ME:=λU h Q=>me U h λx h1=>match eU h1 x with
 | some us=>Q (.tup us.reverse) h1
 | none=>False
theorem Dm {me:ME}{p p' pos pos':Pos}(hc:X.calm=true)(hl:Gl X "tuple")(hlm:X.mg "tuple" = Go)(hr:Gl X "reversed")(hrm:X.mg "reversed" = Go)(he:DE X e1 me)
  (h1:Ca [.Call (.Name "reversed" p') [e1] [] pos'] X.env=(false,eval (.Call (.Name "reversed" p') [e1] [] pos') X.env)::Ca [] X.env:=by rfl) (hp1:(J1 pos (Ca [] X.env)).any (·.1)=false:=by rfl)
  (h2:Ca [e1] X.env=(false,eval e1 X.env)::Ca [] X.env:=by rfl) (hp2:(J1 pos' (Ca [] X.env)).any (·.1)=false:=by rfl) :
  DE X (.Call (.Name "tuple" p) [.Call (.Name "reversed" p') [e1] [] pos'] [] pos) (wG me):=by
 intro amD s U H Q I ⟨μ,g,Uw,Qw,R,S,m,q⟩;refine Wy<|nU I hl hlm Pk ?_ (by decide)<|by decide
 refine X7 ?_ h1 hp1;show Bs _ _ (spliced ((false,eval _ X.env)::J1 pos (Ca [] X.env))) _ _ s;refine Calls.spliced_cons ?_;refine Wy<|nU I hr hrm boot_reversed ?_ (by decide)<|by decide
 refine X7 ?_ h2 hp2;rw[h2];refine Calls.spliced_cons<|GJ (he amD s U H _ I ⟨μ,g,Uw,_,R,S,m,λv H1 z=>z⟩) λu s1 ⟨x,H1,I1,rx,μ1,wx,g1,x1,R1,r1,m1⟩=>?_
 refine Calls.spliced_nil ?_;split at m1
 rename_i us ev;obtain⟨a,xs,ex,hs,rs⟩:=cY R1 r1 ev;subst ex;obtain rfl:u=Value.ref a:=rx;obtain⟨its,r,pl,hz⟩:=I1.list hs;have amE:=r.length;refine call_reversed_list pl.isList ?_;refine Calls.spliced_nil ?_;have la:a<s1.heap.objs.size:=by obtain⟨_,e,_⟩:=pl.isList;exact GK e
 have gi:(s1.heap.push (revObj a ((its.toArray.size:Int)-1))).IsRevIter s1.heap.objs.size a ((its.toArray.size:Int)-1):=⟨_,JB _ rfl,rfl,rfl⟩
 refine agM (I1.ok.hd hc) gi (pl.isList.at λo e=>GP _ e) (Jl la) (by rw[Jr,<-amE];exact hz) λh' tk acc' hsz kp it=>?_;have ea:acc'.toList=its.reverse:=by
  refine List.ext_getElem? λj=>?_;by_cases hj:j<its.length
  have hj':j<acc'.toList.length:=by rw[YD,it.1,Jr];exact hj
  have h3:=it.2 j (acc'.toList[j]) (by rw[<-Yi];exact JD hj');rw[JD hj',List.getElem?_reverse hj,<-h3,Jr];simp;rw[List.getElem?_eq_none (by rw[YD,it.1,Jr];lia),List.getElem?_eq_none (by rw[List.length_reverse];lia)]
 have kp':∀b o,s1.heap.get? b=Dn o->h'.get? b=Dn o:=λb o eb=>kp b o (Jl (GK eb)) (GP _ eb)
 have hge:s1.heap.objs.size<=h'.objs.size:=by
  have:(s1.heap.push (revObj a ((its.toArray.size:Int)-1))).objs.size=s1.heap.objs.size+1:=RW _ _
  rw[this]at hsz;lia
 have hf:H1 h'.objs.size=Go:=I1.hok.fresh hge;refine⟨.ref h'.objs.size,_,I1.laid (a:=h'.objs.size) (o:=.tup xs.reverse) (t':=tk) (λb o eb=>GP _<|kp' b o eb) hge<|show fM X.prog X.w _ _ _ (.tup xs.reverse)from⟨by rw[List.length_reverse];exact hz,acc'.toList,by rw[ea];exact aiz r,by simpa using NT.new h' acc'⟩,rfl,?_⟩;exact q _ _ ⟨μ1,.tup us.reverse,g1,x1.trans (Ex.laid hf).ext,R1.laid hf,.tupNew hf<|Gq rs,m1⟩;exact m1.elim
end
section
variable {P:Ci}{w:CZ}{A:G4}{E:JI->kI->Prop}{s:kI}
def afF (_:Heap)(v:JI)(k:List Int):Prop:=∃i t,v=.int i t/\k=[i]
theorem xU:W4 afF:=⟨λ⟨_,_,e,k⟩ ⟨_,_,e',k'⟩=>by subst e k k';cases e';rfl,λx _=>x⟩
theorem wX {h:Heap}:∀{ks:List Int}{vs:List JI},Ba (ks.map V.int) vs↔Qi afF h (ks.map ([·])) vs
 | [],_=>⟨λh=>by cases h;exact .nil,λh=>by cases h;exact .nil⟩
 | k::ks,_=>⟨λh=>by
   cases h with
   | cons r h=>
    obtain⟨t,e⟩:=r;exact .cons ⟨k,t,e,rfl⟩<|wX.mp h,λh=>by
   cases h with
   | cons r h=>
    obtain⟨_,t,e,k'⟩:=r;cases k'
    exact .cons ⟨t,e⟩ (wX.mpr h)⟩
theorem Um {i j:Int}:[i] < [j]↔i<j:=by rw[Xj];simp
theorem acH {ks:List Int}{vs:List JI}(v:Ba (ks.map V.int) vs):SkT P w A xU oneType' (ks.map ([·])) vs:=by
 refine⟨λh2 _ q=>?_,λp E Q x y mx my q=>?_⟩
 ·have kd:keyKind' vs.toArray=pure oneType':=by
   match vs,v,h2 with
   | v1::v2::vs,v,_=>exact keyKind_ints (intsAre_of v)
  exact wpAny_of_eq kd q
 obtain⟨k,hk,hx⟩:=(keys_map xU p).2 x mx;obtain⟨l,_,hy⟩:=(keys_map xU p).2 y my;unfold Vk at q;rw[oJ xU hx,oJ xU hy]at q;obtain⟨i,t,rfl,rfl⟩:=hx;obtain⟨j,u,rfl,rfl⟩:=hy;refine oneLt_int ?_;have e:decide _=decide (i<j):=decide_eq_decide.mpr Um
 rwa[<-e,<-decide_eq_decide.mpr (sO hk)]
end
section
variable {X:Cx}{K:Bl}
def Ao {β:Type}(kvs:List (Key×β))(ks:List Int):Prop:=kvs.map (·.1)=ks.map Sum.inl
theorem wK {ks:List Int}:∀{kvs:List (Key×V)}{vs:List (Key×JI)}{ks:List Int},KV kvs vs->Ao kvs ks->vs.map (·.1)=ks.map Sum.inl
 | [],_,ks,.nil,e=>by
  assumption
 | x::kvs,_,ks,.cons r t,e=>by
  cases ks with
  | nil=>simp[Ao]at e
  | cons k ks=>
   unfold Ao at e;rw[HY]at e;obtain⟨e1,e2⟩:=TK e;rw[HY,HY,wK (ks:=ks) t e2,<-r.1,e1]
theorem ur:∀{es:List Ql}{vs:List (Key×JI)}{ks:List Int},PySem.Pairs (bL X.prog X.w) es vs->vs.map (·.1)=ks.map Sum.inl->Ba (ks.map V.int) (es.map (·.key))/\es.length=vs.length
 | _,_,ks,.nil,e=>by
  have:ks=[]:=by cases ks with
   | nil=>rfl
   | cons a l=>simp at e
  subst this;exact⟨.nil,rfl⟩
 | _,_,ks,.cons h1 h2 t,e=>by
  cases ks with
  | nil=>simp at e
  | cons k ks=>
   rw[HY]at e;obtain⟨e1,e2⟩:=TK e;obtain⟨i1,i2⟩:=ur t e2;refine⟨.cons ?_ i1,by rw[PB,PB,i2]⟩;rcases cG h1 with⟨i,u,q1,q2⟩|⟨x,u,q1,q2⟩
   rw[e1]at q1;injection q1 with q1
   exact⟨u,q1 ▸ q2⟩;grind
def afd:MC:=λws h Q=>match ws with
 | [.loc n]=>(match h.c n with
  | some (.dct kvs)=>∃ks:List Int,Ao kvs ks/\∀js:List Int,js.Perm ks->js.Pairwise (· < ·)->Q (.lst (js.map .int)) h
  | _=>False)
 | _=>False
theorem wC {H:Hp}{μ:Mu}:∀{kvs:List (Key×W)}{kvv:List (Key×V)}{ks:List Int},lK K H μ kvs kvv->Ao kvs ks->Ao kvv ks
 | [],_,ks,.nil,e=>e
 | x::kvs,_,ks,.cons r t,e=>by
  cases ks with
  | nil=>simp[Ao]at e
  | cons k ks=>
   unfold Ao at e|-
   rw[HY]at e;obtain⟨e1,e2⟩:=TK e;have:=wC t e2
   rw[HY,HY,this,<-r.1,e1]
def Wt:ME:=λ_ h Q=>Q (.loc h.nx) (h.new (.dct []))
theorem aa5 {pos:Pos}:DE X (.Dict [] [] pos) Wt:=ajN.of λU H Q ⟨μ,g,Uw,Qw,R,S,m,q⟩ p hp=>by
 have R1:G5 _ _ (G7 H p (.dK [])) (g.new (.dct [])):=R.newCell hp trivial ⟨[],bD,.nil⟩;exact q _ _ ⟨_,.loc _,_,(Ex.newCell R hp).ext,R1,⟨p,rfl,Mu.put_same⟩,m⟩
end
section
variable {X:Cx}{o:Expr}{mo:ME}{ma:MA}{apos amF:Pos}
def Jx:MM:=λx ws h Q=>match x,ws with
 | .loc n,[y,z]=>(match h.c n,S9 y with
  | some (.dct kvs),Dn k=>Q ((ql kvs k).getD z) h
  | _,_=>False)
 | _,_=>False
def HS (h:Gh)(x:W)(P:Prop):Prop:=match x with
 | .loc n=>(match h.c n with
  | some (.dct _)=>P
  | _=>False)
 | _=>False
def Zg (r:MM)(mo:ME)(ma:MA):ME:=λU h Q=>mo U h λx h1=>HS h1 x (ma U h1 λxs h2=>r x xs h2 Q)
theorem wZ {K:Bl}{H:Hp}{μ:Mu}{k:Key}:∀{kvs:List (Key×W)}{kvv:List (Key×V)},lK K H μ kvs kvv->(∀w,ql kvs k=Dn w->∃v,Hq kvv k=Dn v/\Bq K H μ w v)/\(ql kvs k=Go->Hq kvv k=Go)
 | [],_,.nil=>⟨λw e=>by simp[ql]at e,λ_=>rfl⟩
 | x::kvs,y::_,.cons r t=>by
  obtain⟨i1,i2⟩:=wZ t;unfold ql Hq at *;rw[List.find?_cons,List.find?_cons];by_cases c:x.1=k
  grind
  have c2:¬y.1=k:=λe=>c (r.1.trans e)
  rw[decide_eq_false c];simp only[c2];exact⟨i1,i2⟩
theorem Sg (hu:X.A.units+30<Ko)(ho:DE X o mo)(ha:KR X [e1,e2] ma)
  (hbase:Qo o "get" X.env (eval o X.env)=eval o X.env:=by rfl)
  (hfew:((J1 amF (Ca [e1,e2] X.env)).all (λx=>!x.1)&&(RL amF (RM [] X.env)).all (λx=>x.1.isSome)
   && decide (([e1,e2]:List Expr).length+([]:List MH).length+(if([]:List MH).isEmpty then 0 else 1)<30))=true:=by rfl)
  (hline:(apos.endLine==amF.line)=true:=by rfl) (hst:Ca [e1,e2] X.env=(false,eval e1 X.env)::Ca [e2] X.env:=by rfl) (hplain:(J1 amF (Ca [e2] X.env)).any (·.1)=false:=by rfl) :
  DE X (.Call (.Attribute o "get" apos) [e1,e2] [] amF) (Zg Jx mo ma):=by
 intro amD s U H Q I ⟨μ,h,Uw,Qw,R,S,m,k⟩;refine Yg hbase hfew hline rfl<|GJ (ho amD s U H _ I ⟨μ,h,Uw,_,R,S,m,λ_ _ z=>z⟩) λu s1 ⟨x,H1,I1,rx,μ1,wx,h1,e1',R1,r1,il⟩=>?_
 unfold HS at il;split at il
 ·split at il
  ·rename_i kv0 ec0;have r0:=r1;obtain⟨a,rfl,ha'⟩:=r1;obtain rfl:u=Value.ref a:=rx;obtain⟨p,kvv,hp,hx,_⟩:=R1.dctAt ec0;have ep:p=a:=by rw[ha']at hp;exact(IV hp).symm
   subst ep;obtain⟨z,y,vs0,aeh,dd0⟩:=Cr I1.hok hx;obtain⟨ob,es,epo,g1,g2,_⟩:=id dd0;refine⟨"dict", "dict.get",PySem.F.plainAttrs_dict,Yr,PySem.F.type_dict_get,⟨ob,g1,g2.1⟩,λb e=>by cases e;exact⟨ob,g1,g2.2.1⟩,?_⟩;have hA:=ha amF amD s1 U H1 _ I1 ⟨μ1,h1,Uw,_,R1,S.ext e1',il,λ_ _ z=>z⟩;rw[hst]at hA|-
   refine Yb (by show(false||(J1 amF<|Ca [e2] X.env).any (·.1))=false;rw[hplain]<;>rfl)<|Ye ?_
   refine GJ hA λus s2 ⟨ys,H2,I2,r2,μ2,ws,h2,e2',R2,rs,m2⟩=>?_;unfold Jx at m2;split at m2
   ·rename_i n' y' z' e3;cases e3;split at m2
    ·rename_i kvs kk ec ek;obtain⟨v1,v2,rfl,ry,rz⟩:=Bc rs;have ev1:=ju ry ek;subst ev1;obtain⟨u1,u2,rfl,ru1,ru2⟩:=vals2 r2;obtain⟨p2,kvv2,hp2,hx2,rf2⟩:=R2.dctAt ec;have r0':=e2'.r _ _ r0;rw[Bq]at r0';obtain⟨a2,ea,ha2⟩:=r0';cases ea;have ep2:p2=p:=by rw[ha2]at hp2;exact(IV hp2).symm
     subst ep2;obtain⟨z2,hd2,vs2,rel2,dd⟩:=Cr I2.hok hx2;obtain⟨t1,t2⟩:=wZ (k:=kk) rf2;refine call_meetsIn Yr dd.typeIs PySem.F.entry_dict_get (PySem.F.args_dict_get_3 _ _ _) (meets_dict_get_default (bL X.prog X.w) p2 (Aj ru1) hd2 u2) ⟨_,dd.mapOf,?_⟩;have hv:=(rel2.val kk).getD ru2;cases ev:ql kvs kk with
     | some wv=>
      rw[ev]at m2;obtain⟨v,a1,a3⟩:=t1 wv ev;rw[a1]at hv;exact⟨v,H2,I2.tok _,hv,k _ _ ⟨μ2,wv,h2,e1'.trans e2',R2,a3,m2⟩⟩
     | none=>
      rw[ev]at m2;rw[t2 ev]at hv;exact⟨v2,H2,I2.tok _,hv,k _ _ ⟨μ2,z',h2,e1'.trans e2',R2,rz,m2⟩⟩
    exact m2.elim
   exact m2.elim
  exact il.elim
 exact il.elim
end
section
variable {prog:Ci}{w:CZ}{A:G4}{R:Q9->kI->Prop}{E:JI->kI->Prop}{ns:List Int}{its:List JI}
end
section
variable {X:Cx}
end
section
variable {X:Cx}{a b o i:Expr}{mb:ME}{td ty:TE}{pos:Pos}
theorem fQ.or {f:JI}{m1 m2:MC}(h1:fQ X f m1)(h2:fQ X f m2):fQ X f (λws h Q=>m1 ws h Q\/m2 ws h Q):=by
 obtain⟨r1,c1,s1⟩:=h1;obtain⟨r2,c2,s2⟩:=h2;refine⟨_,gq.or c1 c2,?_⟩;intro H μ h vs ws Qw Q R r m k;rcases m with m|m
 exact .inl<|s1 R r m k
 exact .inr<|s2 R r m k
def Yn:M2:=λx y h Q=>aaJ x y h Q\/Xu x y h Q
theorem zbG (hu:X.A.units+30<Ko)(ho:PE X o td)(hi:PE X i ty)(hs:Zj i):PE X (.Subscript o i pos) (λU H Q=>td U H λx H1=>ty U H1 λy H2=>(∃a xs k b p v,x=.ref a/\H2 a=Dn (.ext (Ov a xs))/\J6 X.K H2 xs/\y=.ref b/\Hi X.K H2 b (k.map V.int)/\atKey xs k=Dn p/\RelV v p.2/\Q v H2)\/∃a kvs k v,x=.ref a/\Rd H2 a (.dK kvs)/\y=kV k/\Hq kvs k=Dn v/\Q v H2):=by
 intro amD s U H Q I h;refine CW PySem.F.slot_dict_getitem.lookup hs<|GJ (ho amD s U H _ I h) λu s1 ⟨x,H1,I1,rx,q1⟩=>GJ (hi amD s1 U H1 _ I1 q1) λiv s2 ⟨y,H2,I2,ry,q2⟩=>?_
 rcases q2 with⟨a,xs,k,b,p,v,ex,e,hk,ey,hb,l,rv,q2⟩|⟨a,kvs,k,v,ex,e,ey,l,q2⟩
 subst ex ey;obtain rfl:u=Value.ref a:=rx;obtain rfl:iv=Value.ref b:=ry;obtain⟨z,hd,dd⟩:=Cy I2 e hk;exact⟨dd.typeIs,wpAny_getItem_heap (tupleKind_room_in1<|by lia) (z7 I2 hb) dd l ⟨v,H2,I2.tok _,rv,q2⟩⟩;subst ex ey;obtain rfl:u=Value.ref a:=rx;obtain⟨z,hd,vs,rel,dd⟩:=Y5 I2.hok e;obtain⟨w',hw,rw'⟩:=Om.some_of (l ▸ rel.val k);exact⟨dd.typeIs,wpAny_getItem_of (Aj ry) dd.mapOf hw ⟨v,H2,I2.tok _,rw',q2⟩⟩
theorem acN (hu:X.A.units+30<Ko)(ha:DE X a ma)(hb:DE X b mb)(hs:Zj b):DE X (.Subscript a b pos) (Af Yn ma mb):=(zbG hu ha hb hs).of λU H Q h=>two h λ{H2 μ2 h2 x y wx wy Qw} R r1 r2 m k=>by
 rcases m with m|m
 unfold aaJ at m;split at m
 rename_i n kk e;split at m
 rename_i kvs ec;split at m
 rename_i w ev;obtain⟨p,xs,vs,hp,hx,e1,e2,r3,r4⟩:=R.dttAt ec;obtain⟨p',ex,hp'⟩:=r1;obtain rfl:=by rw[hp]at hp';exact(IV hp').symm
 obtain⟨b',eb,hb'⟩:=qW r2 e;obtain⟨q,v,h3,h4,h5⟩:=(wY e1 e2 r4 kk).1 w ev;exact .inl ⟨p',xs,kk,b',q,v,ex,hx,kO e1 r3,eb,hb',h3,h4,k _ _ ⟨μ2,w,h2,.refl,R,h5,m⟩⟩;cases m;cases m;cases m;unfold Xu at m;split at m
 rename_i n kk e;split at m
 rename_i kvs ec;split at m
 rename_i w ev;obtain⟨p,kvv,hp,hx,rf⟩:=R.dctAt ec;obtain⟨p',e1,hp'⟩:=r1;obtain rfl:=by rw[hp]at hp';exact(IV hp').symm
 obtain⟨v,e2,rv⟩:=rf.val ev;exact .inr ⟨p',kvv,kk,v,e1,.inl hx,ju r2 e,e2,k _ _ ⟨μ2,w,h2,.refl,R,rv,m⟩⟩;cases m;cases m;cases m
end
section
variable {P:Ci}{w:CZ}{A:G4}{E:JI->kI->Prop}{s:kI}
end
section
variable {X:Cx}
end
def Fk (P:Ci)(w:CZ)(K:Bl)(mg:Str->Option JI)(base:Heap)(k:Nat)(x:Str)(ms:AP):Prop:=∃f fd ps,sE P w K mg base QF k f fd ps (lift K ms)/\mg x=Dn (.ref f)/\RX K (.ref f)=true/\Binds K fd ps []
def At (K:Bl)(mg:Str->Option JI)(x:Str)(st:Stmt)(ps:List Str):Prop:=∃f fd,W5 K x x st f fd/\mg x=Dn (.ref f)/\Binds K fd ps []
section
variable {X:Cx}{e e3 e4:Expr}{es:List Expr}{mb mc md:ME}{pos:Pos}{k:Nat}{zl:List Str}{x:Str}{p:Pos}
theorem vV (i:Nat)(hN:X.N[i]?=Dn x:=by with_unfolding_all rfl)(hv:Vis X.env.scope x:=by with_unfolding_all first|exact Or.inl rfl|exact Or.inr (Or.inl rfl)|exact Or.inr (Or.inr rfl))(hd:(x==("__debug__" : Str))=false:=by decide)(hcd:(x==("__classdict__" : Str))=false:=by decide):DE X (.Name x pos) (aA i):=dv i (pv i hN hv hd hcd)
theorem aC (h1:DE X e ma)(h2:KR X es mr)(s:GR e=false:=by with_unfolding_all rfl):KR X (e::es) (aj ma mr):=o8 h1 h2 (bw s)
theorem a1 (h1:DE X e ma)(s:GR e=false:=by with_unfolding_all rfl):KR X [e] (aj ma aG):=aC h1 fD s
theorem a2 (h1:DE X e ma)(h2:DE X e2 mb)(s1:GR e=false:=by with_unfolding_all rfl)(s2:GR e2=false:=by with_unfolding_all rfl):KR X [e,e2] (aj ma (aj mb aG)):=aC h1 (a1 h2 s2) s1
theorem a3 (h1:DE X e ma)(h2:DE X e2 mb)(h3:DE X e3 mc)(s1:GR e=false:=by with_unfolding_all rfl)(s2:GR e2=false:=by with_unfolding_all rfl)(s3:GR e3=false:=by with_unfolding_all rfl):KR X [e,e2,e3] (aj ma (aj mb (aj mc aG))):=aC h1 (a2 h2 h3 s2 s3) s1
theorem Bt {j:Nat}(F:Fk X.prog X.w X.K X.mg X.base j x ms)(ha:KR X (e::es) mr)(hr:o7 k X.A:=by with_unfolding_all assumption)(hk:j<=k:=by decide)(hg:Gl X x:=by with_unfolding_all rfl)(hdb:(x==("__debug__" : Str))=false:=by decide)(h1:GR e=false:=by with_unfolding_all rfl)(h2:noStar es=true:=by with_unfolding_all rfl):
  DE X (.Call (.Name x p) (e::es) [] pos) (aL ms EF mr):=by
 obtain⟨f,fd,ps,a,b,c,d⟩:=F;exact Le (a.mono hk) hr hg b c d ha hdb (bw h1)<|bZ h2
theorem Hl {id:String}{mc:MC}(hc:fQ X (.builtin id) mc)(hv:VF x=Dn (.builtin id))(ha:KR X (e::es) mr)(z:∀n∈zl,X.mg n=Go:=by with_unfolding_all assumption)(hz:x∈zl:=by decide)(hg:Gl X x:=by with_unfolding_all rfl)(hn:x ≠ "__name__":=by decide)(hdb:(x==("__debug__" : Str))=false:=by decide)
  (h1:GR e=false:=by with_unfolding_all rfl) (h2:noStar es=true:=by with_unfolding_all rfl):DE X (.Call (.Name x p) (e::es) [] pos) (G8 mc mr):=ajn hc hg (z _ hz) hv ha hn hdb (bw h1) (bZ h2)
theorem dct {T:String}{mc:MC}(hc:fQ X (.type T) mc)(hv:VF x=Dn (.type T))(ha:KR X (e::es) mr)(z:∀n∈zl,X.mg n=Go:=by with_unfolding_all assumption)(hz:x∈zl:=by decide)(hg:Gl X x:=by with_unfolding_all rfl)(hn:x ≠ "__name__":=by decide)(hdb:(x==("__debug__" : Str))=false:=by decide)
  (h1:GR e=false:=by with_unfolding_all rfl) (h2:noStar es=true:=by with_unfolding_all rfl):DE X (.Call (.Name x p) (e::es) [] pos) (G8 mc mr):=ain hc hg (z _ hz) hv ha hn hdb (bw h1) (bZ h2)
theorem GC (i:Nat){pos':Pos}(he:DE X e ma)(hN:X.N.Nodup:=by with_unfolding_all assumption)(hi:X.N[i]?=Dn x:=by with_unfolding_all rfl)(hx:Loc X.env.scope x:=by with_unfolding_all first|exact Or.inl rfl|exact Or.inr rfl)(hs:swapsWith e (Dn (.Name x pos')) pos.line X.env=pure false:=by with_unfolding_all rfl)
  (hf:X.fn x=true\/X.env.scope.names.lookup x=Dn .local:=by with_unfolding_all first|exact .inl rfl|exact .inr rfl):DS X (.Assign [.Name x pos'] e pos) (bQ ma (Mk i)):=DX hN hi hx he hs hf
theorem Kh (i:Nat)(hN:X.N.Nodup:=by with_unfolding_all assumption)(hi:X.N[i]?=Dn x:=by with_unfolding_all rfl)(hx:Loc X.env.scope x:=by with_unfolding_all first|exact Or.inl rfl|exact Or.inr rfl)(hf:X.fn x=true\/X.env.scope.names.lookup x=Dn .local:=by with_unfolding_all first|exact .inl rfl|exact .inr rfl):DG X (.Name x pos) (Mk i):=ajK (xO hN hi hx hf)
theorem Bu {a b:Expr}(ha:DE X a ma)(hb:DE X b mb)(hs:Ck b:=by with_unfolding_all (intro _ _;rfl)):DE X (.Subscript a b pos) (Af Bm ma mb):=af7 ha hb hs
theorem Hh {a b:Expr}{op:CmpOp}{m2:M2}(ho:Oe X (O2 op) m2)(ha:DE X a ma)(hb:DE X b mb)(hm:W8 op b=false:=by with_unfolding_all first|exact Uq _|rfl):DT X (.Compare a [op] [b] pos) (bF (Af m2 ma mb)):=aan ho ha hb hm
theorem Vq {a b:Expr}{op:CmpOp}{m2:M2}(ho:Oe X (O2 op) m2)(ha:DE X a ma)(hb:DE X b mb)(hm:W8 op b=false:=by with_unfolding_all first|exact Uq _|rfl):DE X (.Compare a [op] [b] pos) (Af m2 ma mb):=adM ho ha hb hm
theorem dl1 {scope:Scope}{iter:Expr}(ix:List Nat)(hi:Rj X (.Name x p) iter mi)(ht:∀C s H fp,aag (blk X scope (jZ X [x] ix) C s H fp) ifs tt)(he:∀C s H fp,DE (blk X scope (jZ X [x] ix) C s H fp) elt te)(B:jM X scope [x] ix:=by with_unfolding_all exact cQ rfl)(hc:X.calm=true:=by with_unfolding_all assumption)
  (hs:∀v,WM iter X.env v=pure v:=by with_unfolding_all (intro _;rfl)):DE X (.ListComp elt [⟨.Name x p,iter,ifs,0⟩] scope pos) (HJ JR ix mi tt te):=R0 ix hc B Py (Pn B) hi ht he hs
theorem Pr {scope:Scope}{iter:Expr}(ix:List Nat)(hi:Rj X (.Name x p) iter mi)(he:∀C s H fp,DE (blk X scope (jZ X [x] ix) C s H fp) elt te)(B:jM X scope [x] ix:=by with_unfolding_all exact cQ rfl)(hc:X.calm=true:=by with_unfolding_all assumption)
  (hs:∀v,WM iter X.env v=pure v:=by with_unfolding_all (intro _;rfl)):DE X (.ListComp elt [⟨.Name x p,iter,[],0⟩] scope pos) (HJ JR ix mi jd te):=dl1 ix hi (λ_ _ _ _=>gJ) he B hc hs
theorem qq (hr:o7 k X.A:=by with_unfolding_all assumption):X.A.units+30<Ko:=af3 hr
theorem hh (hc:X.calm=true:=by with_unfolding_all assumption):X.calm=true:=hc
theorem Ru {a:Expr}{tg:Expr}(ha:KR X [a] mr)(z:∀n∈zl,X.mg n=Go:=by with_unfolding_all assumption)(hz:("range" : Str)∈zl:=by decide)(hg:Gl X "range":=by with_unfolding_all rfl)(hs:GR a=false:=by with_unfolding_all rfl):Rj X tg (.Call (.Name "range" p) [a] [] pos) (iZ mr):=agW hg (z _ hz) ha (Ur hs)
end
theorem fk {P:Ci}{w:CZ}{K:Bl}{mg:Str->Option JI}{base:Heap}{x:Str}{st:Stmt}{ps zl:List Str}(N:List Str){k:Nat}{pure:Bool}{body:CQ->MS}(T:At K mg x st ps)(z:∀n∈zl,mg n=Go)
  (hb:∀(f:Addr) (cdv:JI) (A:G4) (outer:List Env) (s:kI) (H:Hp) (E:XK),o7 k (A.deeper (envOfC x (cD st) s.heap.objs.size f cdv))->N.Nodup->(TF QF P w K mg base N x (cD st) f cdv A outer s H E).nox.calm=true->(∀n∈zl,mg n=Go)->Ri (TF QF P w K mg base N x (cD st) f cdv A outer s H E).nox (jw st) (body EF))
  (S:pI N ps (cD st):=by exact⟨rfl,rfl,rfl,by decide +kernel,rfl,by decide +kernel,by decide +kernel⟩) (hk:9<=k:=by decide):Fk P w K mg base (k+1) x (GF ps.length N.length pure body):=by
 obtain⟨f,fd,F,m,b⟩:=T;exact⟨f,fd,ps,afC F S λcdv A outer s H E hr=>hb f cdv A outer s H E hr S.nd (hr.calm hk) z,m,F.kp,b⟩
section
variable {X:Cx}{e:Expr}
def Yy (m:ME):MT:=λU h Q=>m U h λw h1=>match w with
 | .loc n=>(match h1.c n with
  | some (.dct kvs)=>Q (!kvs.isEmpty) h1
  | _=>False)
 | _=>False
theorem zbx {K:Bl}{H:Hp}{kvs:List (Key×W)}(r:lK K H μ kvs kvv):kvs.isEmpty=kvv.isEmpty:=by
 cases r<;>rfl
theorem ahR (he:DE X e ma)(h:∀whole,isTrue e X.env whole=(do let v <-whole;standAt e.pos;Rx [v] (truthy v)):=by intro _;rfl):DT X e (Yy ma):=(Ed he h).of λU H Q ⟨μ,g,Uw,Qw,R,S,m,q⟩=>by
 refine⟨μ,g,Uw,_,R,S,m,λv H1 ⟨μ1,w,h1,e1,R1,r1,m1⟩=>?_⟩;split at m1
 split at m1
 rename_i kvs ec;obtain⟨p,ev,hm⟩:=r1;subst ev;obtain⟨p',kvv,hm',hx,rf⟩:=R1.dctAt ec;cases by rw[hm]at hm';exact(IV hm').symm
 exact⟨_,.inr<|.inr ⟨kvv,hx,by rw[zbx rf]⟩,q _ _ ⟨μ1,h1,e1,R1,m1⟩⟩;cases m1;cases m1
end
def Zn (kvs:List (Key×W))(k:Key):List (Key×W):=kvs.filter λkv=>decide (kv.1≠k)
theorem Gi {K:Bl}{H:Hp}{μ:Mu}{k:Key}:∀{kvs:List (Key×W)}{kvv:List (Key×V)},lK K H μ kvs kvv->lK K H μ (Zn kvs k) (Az kvv k)
 | [],_,.nil=>.nil
 | x::kvs,y::_,.cons r t=>by
  have i:=Gi (k:=k) t;unfold Zn Az at *;rw[Qg,Qg,r.1];split
  exact .cons r i;exact i
section
variable {X:Cx}{o:Expr}{mo:ME}{ma:MA}{apos amF:Pos}
def O5:MM:=λx ws h Q=>match x,ws with
 | .loc n,[y]=>(match h.c n,S9 y with
  | some (.dct kvs),Dn k=>(match ql kvs k with
   | some v=>Q v (h.set n (.dct (Zn kvs k)))
   | none=>False)
  | _,_=>False)
 | _,_=>False
theorem ZX (ho:DE X o mo)(ha:KR X [e1] ma)
  (hbase:Qo o "pop" X.env (eval o X.env)=eval o X.env:=by rfl)
  (hfew:((J1 amF (Ca [e1] X.env)).all (λx=>!x.1)&&(RL amF (RM [] X.env)).all (λx=>x.1.isSome)
   && decide (([e1]:List Expr).length+([]:List MH).length+(if([]:List MH).isEmpty then 0 else 1)<30))=true:=by rfl)
  (hline:(apos.endLine==amF.line)=true:=by rfl) (hst:Ca [e1] X.env=(false,eval e1 X.env)::Ca [] X.env:=by rfl) (hplain:(J1 amF (Ca [] X.env)).any (·.1)=false:=by rfl) :
  DE X (.Call (.Attribute o "pop" apos) [e1] [] amF) (Zg O5 mo ma):=by
 intro amD s U H Q I ⟨μ,h,Uw,Qw,R,S,m,k⟩;refine Yg hbase hfew hline rfl<|GJ (ho amD s U H _ I ⟨μ,h,Uw,_,R,S,m,λ_ _ z=>z⟩) λu s1 ⟨x,H1,I1,rx,μ1,wx,h1,e1',R1,r1,il⟩=>?_
 unfold HS at il;split at il
 split at il
 rename_i kv0 ec0;have r0:=r1;obtain⟨a,rfl,ha'⟩:=r1;obtain rfl:u=Value.ref a:=rx;obtain⟨p,kvv,hp,hx,_⟩:=R1.dctAt ec0;have ep:p=a:=by rw[ha']at hp;exact(IV hp).symm
 subst ep;obtain⟨z,y,vs0,aeh,dd0⟩:=Cr I1.hok hx;obtain⟨ob,es,epo,g1,g2,_⟩:=id dd0;refine⟨"dict", "dict.pop",PySem.F.plainAttrs_dict,PySem.F.slot_dict_pop,PySem.F.type_dict_pop,⟨ob,g1,g2.1⟩,λb e=>by cases e;exact⟨ob,g1,g2.2.1⟩,?_⟩;have hA:=ha amF amD s1 U H1 _ I1 ⟨μ1,h1,Uw,_,R1,S.ext e1',il,λ_ _ z=>z⟩;rw[hst]at hA|-
 refine Yb (by show(false||(J1 amF<|Ca [] X.env).any (·.1))=false;rw[hplain]<;>rfl)<|Ye ?_
 refine GJ hA λus s2 ⟨ys,H2,I2,r2,μ2,ws,h2,e2',R2,rs,m2⟩=>?_;unfold O5 at m2;split at m2
 rename_i n' y' e3;cases e3;split at m2
 rename_i kvs kk ec ek;split at m2
 rename_i wv ev;obtain⟨v1,rfl,ry⟩:=fV rs;have ev1:=ju ry ek;subst ev1;obtain⟨u1,rfl,ru1⟩:=vals1 r2;obtain⟨p2,kvv2,hp2,hx2,rf2⟩:=R2.dctAt ec;have r0':=e2'.r _ _ r0;obtain⟨a2,ea,ha2⟩:=r0';cases ea;have ep2:p2=p:=by rw[ha2]at hp2;exact(IV hp2).symm
 subst ep2;obtain⟨v,a1,a3⟩:=(wZ (k:=kk) rf2).1 wv ev;have xt:=(Ex.write (o:=.dK (Az kvv2 kk)) R2 hp2).ext;refine aci (more:=[]) I2 hx2 ru1 a1 (.inl rfl) λw' s' I3 rw'=>⟨v,_,I3,rw',k _ _ ⟨μ2,wv,_,(e1'.trans e2').trans xt,R2.write (c:=.dct (Zn kvs kk)) hp2 trivial ⟨_,bD,?_⟩,xt.r _ _ a3,m2⟩⟩;exact Gi<|Paired.mapP rf2 λ_ _ z=>⟨z.1,xt.r _ _ z.2⟩
 exact m2.elim;exact m2.elim;exact m2.elim;exact il.elim;exact il.elim
end
section
variable {X:Cx}
theorem aks (hc:X.calm=true):gq X (.builtin "max") (λvs H Q=>∃a kvs ks,vs=[.ref a]/\H a=Dn (.dK kvs)/\Ao kvs ks/\0<ks.length/\∀M,M∈ks->(∀a,a∈ks->a<=M)->Q (.int M) H):=by
 intro amD s U H vs us Q I r ⟨a,kvs,ks,ev,hx,hi,hne,q⟩;subst ev;obtain⟨u,rfl,ru⟩:=vals1 r;cases ru;obtain⟨z,y,vs,rel,dd⟩:=Cr I.hok hx;have kk:=wK (ks:=ks) rel hi;obtain⟨o,es,ep,g1,g2,g3,_,g4,g5⟩:=dd;obtain⟨p1,p2⟩:=ur (X:=X) g4 kk;have x:Di s.heap a es ep:=⟨o,g1,g2,g3⟩
 have lt:=GK g1;have le:=by have:=p1.length;simpa using this
 have num:∀i v,(∃h:i<es.size,v=es[i].key)->∃t,v=.int (ks.getD i 0) t:=λi v ⟨h,e⟩=>by
  obtain⟨u,eu,t,et⟩:=p1.get (i:=i) (x:=.int (ks.getD i 0)) (by rw[HI,M9,JD (by lia)];rfl);rw[HI,JD (by simpa using h)]at eu;refine⟨t,?_⟩;rw[e,<-et]
  simpa using eu
 refine call_max_walk<|Fz y x ?_
 refine⟨_,_,_,_,_,_,_,rfl,yh (A:=X.A.in1) (I.ok.hd hc) _ a (Jl lt) es ep,⟨⟨_,JB _ rfl,rfl,rfl⟩,x.of λo e=>GP _ e⟩,λb hb=>?_,by lia,CmpOf.ints_gt _ num,λv h' tk hP hk=>?_⟩;rw[RW];rcases Jz.mp hb with rfl|hb
 exact Nat.lt_succ_self _;rw[Q0.mp hb];exact Nat.lt_succ_of_lt lt;obtain⟨h1,h2⟩:=argBest_gt (λi=>ks.getD i 0) (es.size-1);obtain⟨t,rfl⟩:=num _ _ hP;refine⟨.int _,H,I.kept (h':=h') (t':=tk)<|λb ob e=>hk b ob (by rw[Q0];exact Jl (GK e))<|GP _ e,⟨t,rfl⟩,q _ ?_ λb hb'=>?_⟩;rw[M9,JD (by lia)];exact RQ _;obtain⟨j,hj,e⟩:=X3.mp hb';have:=h2 j (by lia)
 rw[M9 (l:=ks) (i:=j),JD hj]at this;rw[<-e];exact this
def QJ:MC:=λws h Q=>match ws with
 | [.loc n]=>(match h.c n with
  | some (.dct kvs)=>∃ks:List Int,Ao kvs ks/\0<ks.length/\∀M,M∈ks->(∀a,a∈ks->a<=M)->Q (.int M) h
  | _=>False)
 | _=>False
theorem acJ (hc:X.calm=true):fQ X (.builtin "max") QJ:=⟨_,aks hc,by
 intro H μ h vs ws Qw Q R r m k;unfold QJ at m;split at m
 split at m
 rename_i kvs ec;obtain⟨p,kvv,hp,hx,rf⟩:=R.dctAt ec;obtain⟨v,rfl,r1⟩:=fV r;obtain⟨p',rfl,hp'⟩:=r1;obtain rfl:=by rw[hp]at hp';exact(IV hp').symm
 obtain⟨ks,m1,m2,m3⟩:=m;exact⟨p',kvv,ks,rfl,hx,wC rf m1,m2,λM h1 h2=>k _ _<|.int R<|m3 M h1 h2⟩;cases m;cases m⟩
end
section
variable {prog:Ci}{w:CZ}{A:G4}{E:JI->kI->Prop}{s:kI}
theorem vq {h h':Heap}{xs:List (Key×JI)}(x:h.DictOf (bL prog w) d xs)(hd:∀o,h.get? d=Dn o->h'.get? d=Dn o):h'.DictOf (bL prog w) d xs:=by
 obtain⟨o,es,ep,e1,r⟩:=x;exact⟨o,es,ep,hd o e1,r⟩
theorem agS (vs rs:List (Key×JI))(p:Key×JI):Qa vs (rs++[p])=stored (Qa vs rs) p.1 p.2:=by
 unfold Qa;grind
theorem zaT (vs:List (Key×JI))(k:Key)(v:JI):(stored vs k v).length<=vs.length+1:=by
 unfold stored;grind
theorem vo:∀(rs vs:List (Key×JI)),(Qa vs rs).length<=vs.length+rs.length
 | [],vs=>by simp[Qa]
 | r::rs,vs=>by
  have:=vo rs (stored vs r.1 r.2)
  have:=zaT vs r.1 r.2
  show(Qa _ rs).length<=_;grind
theorem zaG {R:Q9->kI->Prop}{items:Array JI}{fp:List Addr}{St:Nat->Heap->Prop}(W:Walks prog w A.in1 I fp [I] items.size (λi v=>items[i]?=Dn v) St)(hdf:d∉fp)(h0:Heap)(hd0:h0.get? d=Go)(hI0:h0.get? I=Go)
  {ps:List (Key×JI)}(hp:items.size=ps.length) (hk:∀(j:Nat) (p:Key×JI),ps[j]?=Dn p->∃q kv,items[j]?=Dn (.ref q)/\IsTup h0 q #[kv,p.2]/\(bL prog w).is p.1 kv=true) (hz:ps.length<=G6) :
  ∀(k j:Nat) (s:kI) (t:Tok),ps.length-j=k->j<=ps.length->St j s.heap->s.heap.DictOf (bL prog w) d (Qa [] (ps.take j))->(∀b o,h0.get? b=Dn o->s.heap.get? b=Dn o) ->
  (∀h' tk,h'.DictOf (bL prog w) d (Qa [] ps)->(∀b o,h0.get? b=Dn o->h'.get? b=Dn o)->R (.ok (.ret .none)) {s with heap:=h',toks:=tk}) ->
  PL (CJ prog w) A (.builtin "dict.update.loop" ⟨[.ref d,.ref I,.int (j:Int) t,.none],[]⟩) R s:=by
 have dI:d≠I:=λe=>hdf (W.sub d (by rw[e];simp))
 intro k;induction k with
 | zero=>
  intro j s t hkj hj st hm h00 hR;have ej:j=ps.length:=by lia
  refine Qc nM ?_;rw[UL fB _];refine Ay<|W.done s _ _ (by rw[hp,<-ej];exact st) λh' tk hk'=>?_
  have m:∀b o,h0.get? b=Dn o->h'.get? b=Dn o:=λb o e=>hk' b o (by intro z;rw[Q0.mp z,hI0]at e;cases e) (h00 b o e)
  have hm':h'.DictOf (bL prog w) d (Qa [] ps):=by
   rw[ej,Lj]at hm;exact vq hm λo e=>hk' d o (by simpa using dI) e
  exact Ay<|Bv<|Bv<|hR h' tk hm' m
 | succ k ih=>
  intro j s t hkj hj st hm h00 hR;have hlt:j<ps.length:=by lia
  have ep:ps[j]?=Dn ps[j]:=JD hlt;generalize ps[j]=p at ep;obtain⟨q,kv,eq,hq,hkey⟩:=hk j p ep;refine Qc nM ?_;rw[UL fB _];refine Ay<|W.item j s _ _ (by rw[hp];exact hlt) st λv h' tk hP st' hk'=>?_
  have ev:v=.ref q:=by rw[eq]at hP;exact(IV hP).symm
  subst ev;have m:∀b o,h0.get? b=Dn o->h'.get? b=Dn o:=λb o e=>hk' b o (by intro z;rw[Q0.mp z,hI0]at e;cases e) (h00 b o e)
  have hm':h'.DictOf (bL prog w) d (Qa [] (ps.take j)):=vq hm λo e=>hk' d o (by simpa using dI) e
  obtain⟨oq,goq,cq,nq,dq⟩:=hq;have goq':=m _ _ goq;refine Ay<|Ob<|Ay<|wpAny_tryCatch ?_
  unfold Builtin.Dict.pairItems;refine Ay<|Qj (T := "tuple") ⟨oq,goq',cq⟩ ?_
  rw[if_pos (by decide)];refine Ay<|VB goq' dq<|Bv ?_
  show Bs _ _ (Rx [_,_] (dictSet d _ _)) _ _ _;refine Ob<|wpAny_dictSet_pairs (hsz:=HN (vo _ _) (by rw[Qn,List.length_nil];lia)) hkey hm' λh2 hd2 hs2=>?_
  have et:stored (Qa [] (ps.take j)) p.1 p.2=Qa [] (ps.take (j+1)):=by
   have e1:ps.take (j+1)=ps.take j++[p]:=by rw[Jt,ep];rfl
   rw[e1];exact(agS _ _ _).symm
  rw[et]at hd2;have keep2:∀b o,b≠d->h'.get? b=Dn o->h2.get? b=Dn o:=λb o hb e=>hs2.extBut b o hb e
  refine Bv ⟨Qp fB _,?_⟩;have ej:((j:Int)+1)=((j+1:Nat):Int):=by lia
  show PL _ _ (.builtin "dict.update.loop" ⟨[.ref d,.ref I,.int ((j:Int)+1) 0,.none],[]⟩) _ _;rw[ej];refine ih (j+1) _ 0 (by lia) hlt (W.frame _ _ _ st' λb hb o e=>keep2 b o (λz=>hdf<|z ▸ hb) e) hd2 (λb o e=>keep2 b o (λz=>by rw[z,hd0]at e;cases e)<|m b o e) λh3 tk3 d3 m3=>hR h3 tk3 d3 m3
theorem uL {T:Addr}{items:Array JI}{Q:JI->kI->Prop}(hh:A.handled=Go)(hu:A.units+30<Ko)
  (src:∃o n,s.heap.get? T=Dn o/\o.cls=.type "list"/\o.data=.seq items n/\o.dict=Go)
  {ps:List (Key×JI)}(hp:items.size=ps.length) (hk:∀(j:Nat) (p:Key×JI),ps[j]?=Dn p->∃q kv,items[j]?=Dn (.ref q)/\IsTup s.heap q #[kv,p.2]/\(bL prog w).is p.1 kv=true) (hz:ps.length<=G6)
  (h:∀h' tk,h'.DictOf (bL prog w) s.heap.objs.size (Qa [] ps)->(∀b o,s.heap.get? b=Dn o->h'.get? b=Dn o)->Q (.ref s.heap.objs.size) {s with heap:=h',toks:=tk}) :
  Bs (CJ prog w) A (call (.type "dict") [.ref T]) Q E s:=by
 have hhA:A.in1.in1.handled=Go:=hh;have hu2:A.in1.in1.units<Ko:=by
  have:A.in1.in1.units=A.units+1+1:=rfl
  lia
 have hT0:T<s.heap.objs.size:=by
  obtain⟨o,_,e,_⟩:=src;exact GK e
 refine callType_codes (Q₁:=λobj s₁=>obj=.ref s.heap.objs.size/\s₁={s with heap:=s.heap.push {cls:=.type "dict",data:=.dict #[]} }) F.kt_called_dict (F.kt_typeCall_dict_1 _) F.entry_dict_init (kt_code_dict_new _ ⟨rfl,rfl⟩) ?_;rintro obj s₁ ⟨rfl,rfl⟩;have hTd:({s with heap:=s.heap.push {cls:=.type "dict",data:=.dict #[]} }:kI).TypeIs (.ref s.heap.objs.size) "dict":=⟨_,JB _ rfl,rfl⟩
 refine⟨hTd,F.args_dict_init_2 _ _,?_⟩;unfold Wh.«dict.__init__»;refine Ay ?_;unfold Builtin.Dict.selfAndRest;refine Ay<|wpAny_notOrdered_dict hTd ?_
 show Bs _ _ (pure (s.heap.objs.size,[Value.ref T])) _ _ _;refine Bv ?_;show Bs _ _ (ZC "dict.__init__" s.heap.objs.size (.ref T) [] .none) _ _ _;unfold ZC;have loop:∀(h1:Heap) (tk1:Nat),(∀b ob,(s.heap.push {cls:=.type "dict",data:=.dict #[]}).get? b=Dn ob->h1.get? b=Dn ob)->∀(h2:Heap) (fp:List Addr) (St:Nat->Heap->Prop),h1.objs.size∉([s.heap.objs.size]:List Addr)->(∀b ob,h1.get? b=Dn ob->h2.get? b=Dn ob)->s.heap.objs.size∉fp->Walks prog w A.in1.in1 h1.objs.size fp [h1.objs.size] items.size (λi v=>items[i]?=Dn v) St->St 0 h2 ->
   PL (CJ prog w) A.in1 (.builtin "dict.update.loop" ⟨[.ref s.heap.objs.size,.ref h1.objs.size,Pj 0,.none],[]⟩) (wants (λr s₂=>r=.none/\Q (.ref s.heap.objs.size) s₂) E) {s with heap:=h2,toks:=tk1}:=by
  intro h1 tk1 m1 h2 fp St hne m2 hfp W st;have hd1:=m1 _ _ (JB s.heap (o:={cls:=.type "dict",data:=.dict #[]}) rfl);refine zaG (A:=A.in1) W hfp s.heap (Wb<|GZ _) (Wb<|Vu<|GK hd1) hp hk hz ps.length 0 _ _ rfl (Oj _) st ?_ (λb o e=>m2 b o<|m1 b o<|GP _ e) λh' tk d m=>⟨rfl,h h' tk d m⟩;exact⟨_,#[],0,m2 _ _ hd1,⟨rfl,rfl,rfl⟩,rfl,λ_ he=>by simp at he,.nil,YH⟩
 obtain⟨o,n,g1,g2,g3,g4⟩:=src;have g1':(s.heap.push {cls:=.type "dict",data:=.dict #[]}).get? T=Dn o:=GP _ g1;refine Ay<|Qj (T := "list") ⟨o,g1',g2⟩ ?_
 rw[if_pos (by decide)];refine Ay<|zaw g1' g2 g3 g4 hhA λh1 tk1 m1=>?_
 rw[if_pos (show(Go:Option JI).isNone=true from rfl)];refine Ay<|Pu ?_
 have hT:h1.IsList T items:=⟨o,m1 _ _ g1',g2,n,g3⟩
 refine Ay<|XS hT ?_
 have hlt:T<h1.objs.size:=GK (m1 _ _ g1');have hd1:=GK (m1 _ _ (JB s.heap (o:={cls:=.type "dict",data:=.dict #[]}) rfl));refine Bv ⟨Qp fB _,?_⟩;exact loop h1 tk1 m1 _ _ _ (by simpa using OJ hd1) (λb ob e=>GP _ e) (by simp only[Jz,Va,or_false,not_or];exact⟨Jl hd1,OJ hT0⟩) (Walks.list hhA _ T (Jl hlt) items) ⟨⟨_,JB _ rfl,rfl,rfl⟩,hT.push _⟩
end
section
variable {X:Cx}{K:Bl}
def YC (K:Bl)(H:Hp)(y:V)(p:Key×V):Prop:=∃q,y=V.ref q/\Hi K H q [kV p.1,p.2]
theorem zP {amD:List (Addr×Obj)}{U:St}{H:Hp}{s:kI}(I:BJ X amD U H s):∀{ys:List V}{ps:List (Key×V)}{its:List JI},Ba ys its->Mx (YC X.K H) ys ps ->
  ∃xs:List (Key×JI),KV ps xs/\∀(j:Nat) (p:Key×JI),xs[j]?=Dn p->∃q kv,its[j]?=Dn (.ref q)/\IsTup s.heap q #[kv,p.2]/\(bL X.prog X.w).is p.1 kv=true
 | _,_,_,.nil,.nil=>⟨[],.nil,λj p e=>by simp at e⟩
 | _,_,_,.cons r rv,.cons (b:=p) hp pp=>by
  obtain⟨xs,a1,a4⟩:=zP I rv pp;obtain⟨q,rfl,h1⟩:=hp;cases r;obtain⟨js,r2,ht,_⟩:=I.tuple h1;cases r2 with
  | cons r3 r4=>
   cases r4 with
   | cons r5 r6=>
    cases r6;rename_i kv v;refine⟨(p.1,v)::xs,.cons ⟨rfl,r5⟩ a1,λj z e=>?_⟩;cases j with
    | zero=>
     simp at e;subst e;exact⟨q,kv,rfl,ht,Aj r3⟩
    | succ j=>
     grind
theorem zaB (hc:X.calm=true)(hu:X.A.units+30<Ko):gq X (.type "dict") (λvs H Q=>∃(T:Addr) (ys:List V) (ps:List (Key×V)),vs=[.ref T]/\JH X.K H T ys/\Mx (YC X.K H) ys ps /\
  ∀d,H d=Go->Q (.ref d) (G7 H d (.dK (uG [] ps)))):=by
 intro amD s U H vs us Q I r ⟨T,ys,ps,ev,hS,pp,q⟩;subst ev;obtain⟨u,rfl,ru⟩:=vals1 r;cases ru;obtain⟨its,rv,⟨o,n,g1,g2,g3,g4⟩,hz⟩:=I.list hS;obtain⟨xs,a1,a4⟩:=zP I rv pp;have e1:=rv.length;have e2:=Vx pp;have e3:=a1.length;refine uL (I.ok.hd hc) hu ⟨o,n,g1,g2,g4,g3⟩ (ps:=xs) (by rw[Jr];lia) (λj p e=>by
  obtain⟨q,kv,b1,b2⟩:=a4 j p e;exact⟨q,kv,List.getElem?_toArray ▸ b1,b2⟩) (by lia) λh' tk d m=>?_
 have ml:=nP ps [];rw[List.length_nil]at ml;exact⟨.ref _,_,I.laid m (GZ _)<|Jp (by lia) ((Ez (P:=X.prog) (w:=X.w) (H:=H) _ I.big).2.1) (KV.merge a1 .nil) d,rfl,q _<|I.hok.fresh<|GZ _⟩
def qm:List W->Option (List (Key×W))
 | []=>Dn []
 | .tup [k,v]::r=>(match S9 k with
  | some ks=>(qm r).map ((ks,v)::·)
  | none=>Go)
 | _=>Go
def tH (kvs more:List (Key×W)):List (Key×W):=more.foldl (λacc kv=>Vi acc kv.1 kv.2) kvs
theorem lK.merge {H:Hp}{μ:Mu}:∀{more:List (Key×W)}{mv:List (Key×V)}{kvs:List (Key×W)}{kvv:List (Key×V)},lK K H μ more mv->lK K H μ kvs kvv->lK K H μ (tH kvs more) (uG kvv mv)
 | [],_,_,_,.nil,r=>r
 | x::more,y::mv,kvs,kvv,.cons a t,r=>by
  have:=lK.merge t (r.put a.2 x.1)
  show lK K H μ _ (uG (Mg kvv _ _) mv)
  rwa[<-a.1]
theorem yq {H:Hp}{μ:Mu}:∀{us:List W}{ys:List V}{ps:List (Key×W)},aW K H μ us ys->qm us=Dn ps->∃qs:List (Key×V),Mx (YC K H) ys qs/\lK K H μ ps qs
 | [],ys,ps,r,e=>by
  cases e;subst r;exact⟨[],.nil,.nil⟩
 | w::us,ys,ps,r,e=>by
  obtain⟨y,yr,rfl,ra,r⟩:=r;unfold qm at e;split at e
  rename_i h;cases h
  ·rename_i k v us' h;cases h;split at e
   ·rename_i ks ek;cases q:qm us with
    | none=>rw[q]at e;cases e
    | some cs=>
     rw[q]at e;cases e;obtain⟨qs,p1,p2⟩:=yq r q;obtain⟨b,zs,rfl,hb,rz⟩:=ra;obtain⟨z1,z2,rfl,rk,rw'⟩:=Bc rz;cases ju rk ek
     exact⟨(ks,z2)::qs,.cons ⟨b,rfl,hb⟩ p1,.cons ⟨rfl,rw'⟩ p2⟩
   cases e
  cases e
def Dr:MC:=λws h Q=>match ws with
 | [w]=>(match eU h w with
  | some us=>(match qm us with
   | some ps=>Q (.loc h.nx) (h.new (.dct (tH [] ps)))
   | none=>False)
  | none=>False)
 | _=>False
theorem aiv (hc:X.calm=true)(hu:X.A.units+30<Ko):fQ X (.type "dict") Dr:=⟨_,zaB hc hu,by
 intro H μ h vs ws Qw Q R r m k;unfold Dr at m;split at m
 split at m
 split at m
 rename_i w _ us ev _ ps ek;obtain⟨v,e,rv⟩:=fV r;obtain⟨p,ys,ex,hs,rs⟩:=cY R rv ev;obtain⟨qs,p1,p2⟩:=yq rs ek;subst e ex;refine⟨p,ys,qs,rfl,hs,p1,λd hd=>?_⟩;have xt:=(Ex.newCell (o:=.dK (uG [] qs)) R hd).ext;have R1:G5 _ _ (G7 H d (.dK _)) (h.new (.dct _)):=R.newCell hd trivial ⟨_,bD,lK.merge (Paired.mapP p2 λ_ _ z=>⟨z.1,xt.r _ _ z.2⟩) .nil⟩;exact k _ _ ⟨_,.loc _,_,xt,R1,⟨d,rfl,Mu.put_same⟩,m⟩;cases m;cases m;cases m⟩
end
section
variable {X:Cx}{c:Expr}{t:MT}
end
section
variable {X:Cx}
variable {o e:Expr}{es:List Expr}{mo:ME}{ma:MA}{name:Str}{apos amF:Pos}{id:String}{r:V->List V->Hp->VK->Prop}{mr:MM}
end
section
variable {X:Cx}{e:Expr}{es:List Expr}{pos p:Pos}{k j:Nat}{x:Str}{f:Addr}{fs:List (Addr×AP)}
end
section
variable {X:Cx}
end
section
variable {X:Cx}{tg:Expr}
def signs (x:Str):List W:=x.cps.toList.map λc=>.str ⟨#[c]⟩
end
section
variable {prog:Ci}{w:CZ}{A:G4}{E:JI->kI->Prop}{s:kI}
end
section
variable {X:Cx}
end
section
variable {X:Cx}{K:Bl}
end
theorem zbg {prog:Ci}{w:CZ}{A:G4}{E:JI->kI->Prop}{s:kI}{K:Bl}{e C:Addr}{n d:Str}{t:Expr}{pos:Pos}{rest:List ExceptHandler}{Q:Flow->kI->Prop}
  (hx:Ot K C n=true) (hd:Ig K D d=true) (hi:Np n d=true)
  (h:Bs (CJ prog w) (A.mark (Dn (.ref e))) (eval t env) (λc s₁=>c=.ref D/\K.In s₁.heap/\(∃oe,s₁.heap.get? e=Dn oe/\oe.cls=.ref C) /\
   Bs (CJ prog w) (A.mark (Dn (.ref e))) (setFlight (.ref e) Go) (λ_ s₂=>
      Bs (CJ prog w) (A.mark (Dn (.ref e))) (execs (b₀::suite) env) Q (notedBy (CJ prog w) (A.mark (Dn (.ref e))) env (cameBackBy (CJ prog w) A env E)) s₂) (λ_ _=>False) s₁) (λ_ _=>False) s) :
  Bs (CJ prog w) A (handleBy (.ref e) env (.ExceptHandler (Dn t) Go (b₀::suite) pos::rest)) Q E s:=by
 refine wpAny_handleBy_cons (codeAny_handlers_test<|Mq h (λc s₁ h₁=>?_) λ_ _ z=>z.elim) (by intro q;cases q);obtain⟨rfl,X,⟨oe,he,hcls⟩,hk⟩:=h₁;refine zal X he hcls hx hd ?_;rw[hi];exact codeAny_handlers_suite<|Mq hk (λ_ s₂ h₂=>Mq h₂ (λ_ _ z=>z) λ_ _ z=>z) λ_ _ z=>z.elim
abbrev Cx.hndE (X:Cx)(a:Addr)(H0:Hp)(xe:JI->kI->Prop):Cx:={X with A:=X.A.mark (Dn (.ref a)),H₀:=H0,calm:=false,xe:=xe}
section
variable {X:Cx}{body:List Stmt}{d:Str}{pos:Pos}{mh:CQ->MS}
theorem BJ.hndE {amD:List (Addr×Obj)}{U:St}{H:Hp}{s:kI}{a:Addr}{H0:Hp}{xe:JI->kI->Prop}(I:BJ (X.hnd a H0) amD U H s):BJ (X.hndE a H0 xe) amD U H s:=
 ⟨⟨I.ok.mod,I.ok.kind,I.ok.glob,I.ok.blt,I.ok.above,I.ok.inj,I.ok.has,I.ok.cab,I.ok.hd,I.ok.qt,I.ok.frames,I.ok.stk,I.ok.exf,I.ok.bs,I.ok.bsz,I.ok.noex,I.ok.exfs,I.ok.funs,I.ok.frf⟩,I.os,I.bare,I.base,I.loc,I.cell,I.free,I.freeC,I.pin,I.hok,I.len⟩
theorem BJ.unhndE {amD:List (Addr×Obj)}{U:St}{H:Hp}{s:kI}{a:Addr}(I:BJ (X.hndE a H0 xe) amD U H s):BJ (X.hnd a H0) amD U H s:=
 ⟨⟨I.ok.mod,I.ok.kind,I.ok.glob,I.ok.blt,I.ok.above,I.ok.inj,I.ok.has,I.ok.cab,I.ok.hd,I.ok.qt,I.ok.frames,I.ok.stk,I.ok.exf,I.ok.bs,I.ok.bsz,I.ok.noex,I.ok.exfs,I.ok.funs,I.ok.frf⟩,I.os,I.bare,I.base,I.loc,I.cell,I.free,I.freeC,I.pin,I.hok,I.len⟩
theorem SP.unE {amD:List (Addr×Obj)}{a:Addr}{De:Ends}{f:Flow}{s':kI}(ok:X.Ok)(k:Y8 X H0)(h:SP (X.hndE a H0 xe) amD De f s'):SP X amD De f s':=by
 cases f with
 | next|brk|cont=>obtain⟨U',H',I,q⟩:=h;exact⟨U',H',BJ.unhnd ok k I.unhndE,q⟩
 | ret v=>obtain⟨v,U',H',I,r,q⟩:=h;exact⟨v,U',H',BJ.unhnd ok k I.unhndE,r,q⟩
def Qf (d:Str)(mb:CQ->MS)(mh:MS):MS:=λD U h=>mb (λx h'=>Ir (Np x.cls d) (mh D U h') False) D U h
theorem J5 {mh:MS}(hg:Gl X d)(hm:X.mg d=Dn (.ref D))(hxd:Ig X.K D d=true)(ht:Top X)(hx:X.ex=[])
  (hb:∀amD xe U0,afA (X.tr amD xe) (λU=>U=U0) body mb) (hh:∀a H0 xe,Ri (X.hndE a H0 xe) (b₀::suite) mh) (hdb:(d==("__debug__" : Str))=false:=by decide) :
  DS X (.Try body [.ExceptHandler (Dn (.Name d np)) Go (b₀::suite) hpos] [] [] pos) (Qf d mb mh):=by
 intro amD s U H De I ⟨μ,h,Uw,Dw,R,S,m,k⟩;refine wpAny_Try_except<|GJ (hb amD _ U [] s U H De I.tr ⟨rfl,μ,h,Uw,Dw,_,R,S,m,k,λev s' xt=>?_⟩) λf s' q=>?_
 ·obtain⟨a,C,n,od,fs,pins',U',H',μ',h',rfl,F,hxc,rfl,e1,R1,xd,q⟩:=xt;have F:=F.untr;cases hix:Np n d with
  | false=>
   have q:Ir (Np n d) _ False:=q;rw[hix]at q;exact q.elim
  | true=>
  have q:Ir (Np n d) (mh Dw Uw h') False:=q;rw[hix]at q;have q:mh Dw Uw h':=q;refine F.note ht F.inv.ok.frames λh1 F1=>F1.flight λh2 F2=>?_;obtain⟨_,oe0,vs0,he0,hc0,_⟩:=F2.xn;refine zbg hxc hxd hix ?_;refine Calls.Name_function_global F2.inv.ok.kind hg (Calls.loadGlobal_global (by rw[F2.inv.ok.glob];exact F2.inv.mod.glob.keeps F2.inv.bk) hm ⟨rfl,F2.inv.kIn,⟨oe0,he0,hc0⟩,?_⟩) hdb;refine F2.flight λh3 F3=>?_;obtain⟨nw,oe,vs,he,hc,hdd,hdt,_,⟨zz,hv2,hzz⟩,_⟩:=F3.xn;obtain⟨H0,hok,hnw,Ih⟩:=F3.inv.hnd nw hx he hdt hv2 hzz;have Hn:H' a=Go:=nw.h;have e2:Hw X.K H μ (G7 H' a (.frz oe (Dq a oe))) μ':=e1.trans (Ex.laid Hn).ext;exact Mq (hh a H0 (notedBy (CJ X.prog X.w) (X.A.mark<|some<|.ref a) X.env<|cameBackBy (CJ X.prog X.w) X.A X.env X.xe) amD _ _ _ De Ih.hndE ⟨μ',h',Uw,Dw,R1.laid Hn,S.ext e2,q,k.trans e2⟩) (λf s5 q5=>SP.unE F3.inv.ok hok q5) λ_ _ z=>z
 ·have q:=SP.untr q;cases f with
  | next=>exact YF q
  | brk=>exact q
  | cont=>exact q
  | ret v=>exact q
end
section
variable {X:Cx}{amD:List (Addr×Obj)}{U:St}{H:Hp}{s:kI}
end
section
variable {X:Cx}{body:List Stmt}{d:Str}{pos:Pos}{i:Nat}
end
section
variable {prog:Ci}{w:CZ}{A:G4}{E:JI->kI->Prop}{s:kI}
variable {nm q:Str}{C N:Addr}{bs bm bmB:List JI}{ab:Bool}{k0 k1 k2 k3 k5:Option JI}{B:String}
end
section
variable {X:Cx}{amD:List (Addr×Obj)}{U:St}{H:Hp}{s:kI}{C:Addr}{x:Str}{amF pos:Pos}{e:Expr}{es:List Expr}{t:TA}
end
section
variable {X:Cx}{pos:Pos}
end
section
variable {X:Cx}{d:Str}{pos:Pos}{i:Nat}{amD:List (Addr×Obj)}{U:St}{H H':Hp}{s:kI}{a C:Addr}{n:Str}{od:Option Addr}{fs:List (Str×W)}{h':Gh}{Uw:Sw}{Dw:bR}{De:Ends}{rest:List ExceptHandler}
end
section
variable {X:Cx}{body:List Stmt}{b₁:Stmt}{suite':List Stmt}{d y' d':Str}{np' hpos' pos:Pos}{i i':Nat}{D':Addr}{mh':MS}
end
section
variable {prog:Ci}{w:CZ}{A:G4}{E:JI->kI->Prop}{s:kI}{K:Bl}{x dx C:Addr}{mA:Str->Option JI}{name:Str}{v:JI}
end
section
variable {X:Cx}{o value:Expr}{f:Str}{C:Addr}{pos pos':Pos}{ta tv:TE}
end
section
variable {X:Cx}{amD:List (Addr×Obj)}{U:St}{H:Hp}{s:kI}{C fi:Addr}{x f g:Str}{amF pos:Pos}{e e':Expr}{t:TA}{k:Nat}{fd:Oh}{ps:List Str}
end
section
variable {X:Cx}{e e':Expr}{pos:Pos}{ma:MA}
end
section
variable {X:Cx}{K:Bl}{o e:Expr}{mo:ME}{ma:MA}{apos amF:Pos}
end
section
variable {prog:Ci}{w:CZ}{A:G4}{E:JI->kI->Prop}{s:kI}
abbrev fmS (ns:List Int)(n:Nat):List Int:=firstMet (λi=>ns.getD i 0) n
end
section
variable {X:Cx}{K:Bl}
def dn (ns:List Int):Nat:=(fmS ns ns.length).length
end
section
variable {X:Cx}{e:Expr}{es:List Expr}{pos:Pos}
end
section
variable {X:Cx}{zl:List Str}{x:Str}{p q pos:Pos}{a:Expr}{es:List Expr}
end
section
variable {X:Cx}{body:List Stmt}{d:Str}{pos:Pos}{i:Nat}
end
section
variable {K:Bl}{C D':Addr}{n d d':Str}
end
section
variable {X:Cx}
variable {e a:Expr}{es:List Expr}{mb:ME}
end
section
variable {X:Cx}{o e:Expr}{mo:ME}{ma:CQ->MA}{apos amF:Pos}
end
section
variable {X:Cx}
variable {c a b e:Expr}{es:List Expr}{mb:ME}{pos pos' p:Pos}
def afa (X:Cx)(k:Nat)(tbl:List (Str×Addr))(fs:List (Str×AP)):Prop:=∀y ms,fs.lookup y=Dn ms->∃f fd ps,tbl.lookup y=Dn f/\sE X.prog X.w X.K X.mg X.base (CXX X.prog X.w) k f fd ps (abt X.K ms)/\RX X.K (.ref f)=true/\Binds X.K fd ps []
theorem ft {k:Nat}{tbl:List (Str×Addr)}{fs:List (Str×AP)}{f:Addr}{fd:Oh}{ps:List Str}(F:sE X.prog X.w X.K X.mg X.base (CXX X.prog X.w) k f fd ps (abt X.K ms))(hk:RX X.K (.ref f)=true)(hb:Binds X.K fd ps [])(e:tbl.lookup y=Dn f)(r:afa X k tbl fs):afa X k tbl ((y,ms)::fs):=λz mz h=>by
 rw[X6]at h;cases q:z==y with
 | true=>
  grind
 | false=>
  rw[q]at h;exact r z mz h
end
section
variable {X:Cx}
end
section
variable {P:Ci}{w:CZ}{A:G4}{E:JI->kI->Prop}{s:kI}
end
section
variable {X:Cx}{K:Bl}
end
section
variable {prog:Ci}{w:CZ}{A:G4}{R:Q9->kI->Prop}{its:List JI}
theorem aiq (hh:A.handled=Go)(hne:L≠I)(h0:Heap)(tr:Nat->Bool)
  (ht:∀i v,its[i]?=Dn v->∀(s:kI) (Q:Bool->kI->Prop) (E:JI->kI->Prop),(∀b o,b≠I->h0.get? b=Dn o->s.heap.get? b=Dn o)->(∀tk,Q (tr i) {s with toks:=tk})->Bs (CJ prog w) A.in1 (truthy v) Q E s) :
  ∀(k i:Nat) (s:kI),its.length-i=k->i<=its.length->s.heap.IsTupleIter I L i->s.heap.IsTuple L its.toArray->(∀b o,b≠I->h0.get? b=Dn o->s.heap.get? b=Dn o) ->
  (∀h' tk,(∀b o,b≠I->s.heap.get? b=Dn o->h'.get? b=Dn o)->R (.ok (.ret (.bool (((Ji its.length).drop i).any tr)))) {s with heap:=h',toks:=tk}) ->
  PL (CJ prog w) A (.builtin "any.loop" ⟨[.ref I],[]⟩) R s:=by
 have W:=Walks.tuple (prog:=prog) (w:=w) (A:=A.in1) hh I L hne its.toArray;have hz:its.toArray.size=its.length:=Jr ..;intro k;induction k with
 | zero=>
  intro i s hk hi i1 i2 h00 hR;have hin:i=its.length:=by lia
  refine Qc F.entry_any_loop ?_;rw[UL WD _];refine Ay<|W.done s _ _ ⟨by rw[hz,<-hin];exact i1,i2⟩ λh' tk hk'=>?_
  refine Ay<|Pu<|Bv ?_
  have:=hR h' tk λb o h1 e=>hk' b o (by simpa using h1) e
  rw[List.drop_of_length_le (by simp;lia)]at this;exact this
 | succ k ih=>
  intro i s hk hi i1 i2 h00 hR;have hlt:i<its.length:=by lia
  have hd:(Ji its.length).drop i=i::(Ji its.length).drop (i+1):=by
   rw[XD (by simpa using hlt)];simp
  refine Qc F.entry_any_loop ?_;rw[UL WD _];refine Ay<|W.item i s _ _ (by rw[hz];exact hlt) ⟨i1,i2⟩ λv h' tk hP hst' hk'=>?_
  have hk':∀b o,b≠I->s.heap.get? b=Dn o->h'.get? b=Dn o:=λb o h1 e=>hk' b o (by simpa using h1) e
  refine Ay<|Ob<|ht i v (by simpa using hP) _ _ _ (λb o h1 e=>hk' b o h1<|h00 b o h1 e) λtk2=>?_
  refine Ay<|wpAny_letGo ?_
  cases hb:tr i with
  | false=>
   simp only[Xp,if_false];refine Bv ⟨Qp WD _,ih (i+1) _ (by lia) hlt hst'.1 hst'.2 (λb o h1 e=>hk' b o h1<|h00 b o h1 e) λh'' tk'' hk''=>?_⟩;have:=hR h'' tk'' λb o hbw e=>hk'' b o hbw (hk' b o hbw e)
   rw[hd,WR,hb,Xh]at this;exact this
  | true=>
   simp only[if_true];refine Ay<|Pu<|Bv ?_
   have:=hR h' tk2 hk'
   rw[hd,WR,hb,Bool.true_or]at this;exact this
end
section
variable {X:Cx}{K:Bl}
theorem uE (bs:List Bool):((Ji bs.length).any λi=>(bs[i]?).getD false)=bs.any id:=by
 rw[XQ,VR,VR];constructor;rintro⟨i,hi,e⟩;have hi':=UG.mp hi;exact⟨bs[i],RQ hi',by simpa[hi']using e⟩;rintro⟨b,hb,e⟩;obtain⟨i,hi,rfl⟩:=X3.mp hb;exact⟨i,UG.mpr hi,by simpa[hi]using e⟩
theorem aht (hc:X.calm=true):gq X (.builtin "any") (λxs H Q=>∃(p:Addr) (ys:List V) (kss:List (List V)),xs=[.ref p]/\Hi X.K H p ys/\Mx (λ(v:V) (k:List V)=>∃b,v=V.ref b/\Hi X.K H b k) ys kss/\Q (.bl (kss.any λk=>!k.isEmpty)) H):=by
 intro amD s U H xs us Q I r h;obtain⟨p,ys,kss,rfl,hS,ht,q⟩:=h;obtain⟨u,rfl,ru⟩:=vals1 r;cases ru;obtain⟨its,rv,pl,hz⟩:=I.tuple hS;have hl:=pl;have tru:∀(i:Nat) (v:JI),its[i]?=Dn v->∃(b:Addr) (k:List V) (js:List JI),v=Value.ref b/\kss[i]?=Dn k/\IsTup s.heap b js.toArray/\((js.toArray.size:Nat):Int)<2^63/\(!js.toArray.isEmpty)=!k.isEmpty:=λi v hv=>by
  obtain⟨x,ex,rx⟩:=zQ rv hv;obtain⟨k,ek,b,rfl,hb⟩:=su ht ex;cases rx;obtain⟨js,r2,pl2,hz2⟩:=I.tuple hb;have amE:=r2.length;have hs:G6=16777216:=sizeLine_eq;exact⟨b,k,js,rfl,ek,pl2,by simp only[Jr];lia,j9 r2⟩
 refine call_function_tree F.kind_any F.plain_any F.entry_any (F.args_any1 _) ?_;refine Ay (m:=oneArg "any" _)<|Bv ?_
 refine Ay<|wpAny_pyIter_tuple hl ?_
 refine Bv ⟨Qp WD _,?_⟩;have hI:∀b o,s.heap.get? b=Dn o->b≠s.heap.objs.size:=λb o e=>Jl (GK e)
 refine aiq (I.ok.hd hc) (Jl (by obtain⟨_,e,_⟩:=hl;exact GK e)) (h0:=s.heap) (λi=>(kss[i]?.map λk=>!k.isEmpty).getD false) (λi v hv s' Q' E' hk hQ=>?_) its.length 0 _ (by lia) (Oj _) ⟨_,JB _ rfl,rfl,rfl⟩ (hl.push _) (λb o _ e=>GP _ e) λh' tk hk=>?_;obtain⟨b,k,js,rfl,ek,ht,hf,em⟩:=tru i v hv;obtain⟨o,ho,hc1,n,hd⟩:=ht;refine truthy_tuple ⟨o,hk b o (hI b o ho) ho,hc1,n,hd⟩ hf ?_;rw[em];have:=hQ (s'.toks+1+1)
 simp only[ek,Option.map_some,Option.getD_some]at this;exact this;rw[List.drop_zero];have e:((Ji its.length).any λi=>(kss[i]?.map λk=>!k.isEmpty).getD false)=kss.any λk=>!k.isEmpty:=by
  have:=uE (kss.map λk=>!k.isEmpty)
  rw[CV]at this;rw[<-rv.length,(Vx ht)];simp only[HI]at this;rw[this,Xe];rfl
 rw[e];exact⟨.bl _,H,I.kept (h':=h') (t':=tk) λb x ex=>hk b x (hI b x ex)<|GP _ ex,rfl,q⟩
theorem tO {H:Hp}{μ:Mu}:∀{ws:List W}{xs:List V}{ks:List (List W)},aW K H μ ws xs->qN ws=Dn ks->∃kss:List (List V),Mx (λ(v:V) (k:List V)=>∃b,v=V.ref b/\Hi K H b k) xs kss/\kss.any (λk=>!k.isEmpty)=ks.any λk=>!k.isEmpty
 | [],xs,ks,r,e=>by
  cases e;subst r;exact⟨[],.nil,rfl⟩
 | w::ws,xs,ks,r,e=>by
  obtain⟨v,vr,ev,ra,r⟩:=r;cases w with
  | tup k=>
   obtain⟨b,ys,e1,hb,rk⟩:=ra;rw[qN]at e;cases q:qN ws with
   | none=>rw[q]at e;cases e
   | some cs=>
    rw[q]at e;cases e;obtain⟨kss,p,a⟩:=tO r q;subst ev;refine⟨ys::kss,.cons ⟨b,e1,hb⟩ p,?_⟩;have hl:=rk.len;grind
  | _=>cases e
def LC:MC:=λws h Q=>match ws with
 | [.tup us]=>(match qN us with
  | some ks=>Q (.bl (ks.any λk=>!k.isEmpty)) h
  | none=>False)
 | _=>False
theorem TQ (hc:X.calm=true):fQ X (.builtin "any") LC:=⟨_,aht hc,by
 intro H μ h vs ws Qw Q R r m k;unfold LC at m;split at m
 split at m
 rename_i us _ ks ek;obtain⟨v,e,rv⟩:=fV r;obtain⟨p,ys,ex,hs,rs⟩:=rv;obtain⟨kss,pk,ea⟩:=tO rs ek;subst e ex;exact⟨p,ys,kss,rfl,hs,pk,k _ _<|.bl R<|ea ▸ m⟩;cases m;cases m⟩
end
section
variable {P:Ci}{w:CZ}{A:G4}{E:JI->kI->Prop}{s:kI}
theorem aif {F:W4 T}{a:Addr}{vs:List JI}{n:Nat}{R:Fin->kI->Prop}(S:SkT P w A F kd ks vs)(ho:s.heap.get? a=Dn (seqObj "list" vs.toArray n))(p:Qi T s.heap ks vs)(nd:ks.Nodup)(hz:vs.length<=G6)(h64:vs.length<64)
  (q:∀(out:Array JI) (ks':List (List Int)),Qi T s.heap ks' out.toList->ks'.Perm ks->ks'.Pairwise (· < ·)->out.toList.Perm vs->R (.done (.ret .none)) {s with heap:=sortedHeap s.heap a vs out}) :
  Bs (CJ P w) A (Wh.«list.sort» ⟨[.ref a],[]⟩) R E s:=by
 rw[list_sort_plain];refine Ay<|XT ho rfl<|Ay<|listUpdate_at ho rfl ?_ (by simpa using hz)<|Oj _
 obtain⟨e1,h1⟩:∃e1,(s.heap.update a (Wq λ_=>#[])).get? a=Dn (seqObj "list" #[] e1):=⟨_,get?_update_seq ho (λ_=>#[])⟩
 refine Ay<|seqEpoch_at h1 rfl<|Ay<|wpAny_newTuple<|Ay<|wpAny_newList<|Ob ?_
 have h6:(hp6 s.heap a vs).get? a=Dn (seqObj "list" #[] e1):=GP _ (GP _ h1);have keep:∀b o,o.cls=.type "tuple"->s.heap.get? b=Dn o->(hp6 s.heap a vs).get? b=Dn o:=λb o hc hb=>by
  have ne:b≠a:=λe=>by rw[e,ho]at hb;cases hb;simp at hc
  exact GP _<|GP _<|(Pz _ _<|Lr ne).trans hb
 have p6:Qi T (hp6 s.heap a vs) ks vs:=jc p λk v _ x=>F.of x keep
 dsimp only;have size:vs.toArray.size=vs.length:=by simp
 have fin:∀b:Array JK,b.Perm (QW vs)->cJ (Vk F (hp6 s.heap a vs) ks) b 0 vs.length->R (.done (.ret .none)) {s with heap:=sortedHeap s.heap a vs (b.map (·.2))}:=λb hp hr=>by
  obtain⟨ks',g1,g2,g3,g4⟩:=aa3 F p6 hp hr;refine q _ ks' (jc g1 λk v hv x=>?_) g2 g3 g4;obtain⟨l,_,y⟩:=(keys_map F p).2 v (g4.mem_iff.mp hv);exact F.fn (F.of y keep) x ▸ y
 by_cases h2:vs.toArray.size<2
 rw[if_pos h2,if_pos h2];refine Ay<|Bv ?_
 rw[StateT.run_pure];refine Ay<|Bv ?_
 dsimp only;refine Ay<|seqEpoch_at h6 rfl<|Ay<|listUpdate_at h6 rfl ?_ (hsz2:=?_)
 simp only[bne_self_eq_false,Xp,if_false];refine Bv<|fin (vs.toArray.zip vs.toArray) (Array.Perm.refl _) λu v _ h3 h4=>?_
 lia;rw[Array.size_map];show(QW vs).size<=_;rw[pairsOf_size];lia;rw[if_neg h2,if_neg h2];refine Ay<|S.kind (by lia) p6<|Ay ?_
 have ep:(QW vs).toList.map (·.1)=vs:=by
  unfold QW;rw[Array.toList_zip,List.map_fst_zip (GZ _)]
 have ok:Qx kd (Vk F (hp6 s.heap a vs) ks) (·∈vs) (SortSt.mk' kd (QW vs) #[] 7 Go):=⟨rfl,rfl,⟨λx hx=>by show x.1∈vs;rw[<-ep];exact GX.mpr ⟨x,hx,rfl⟩,by
  rw[zby F p6];exact Zc nd⟩⟩
 have zp:(QW vs).size=vs.length:=pairsOf_size _;refine Mq (ahV (s:={s with heap:=hp6 s.heap a vs}) (Q:=λ_ st'=>(G9 st').Perm (QW vs)/\failedOf st'=Go/\cJ (Vk F (hp6 s.heap a vs) ks) (G9 st') 0 vs.length) (S.cmp p6) ok rfl (by show 2<=(QW vs).size;lia) (.inl (by show(QW vs).size<64;lia)) λst' g1 g2 g3=>⟨g1,g2,by rw[<-zp];exact g3⟩) (λr s' hr=>?_) λ_ _ e=>e;obtain⟨r1,st'⟩:=r;obtain⟨rfl,g1,g2,g3⟩:=hr;dsimp only;refine Ay<|seqEpoch_at h6 rfl<|Ay<|listUpdate_at h6 rfl ?_ (hsz2:=?_)
 rw[g2];simp only[bne_self_eq_false,Xp,if_false];exact Bv<|fin _ g1 g3
 rw[Array.size_map,g1.size_eq,zp];lia
theorem tQ {F:W4 T}{v:JI}{vs:List JI}{Q:JI->kI->Prop}(S:SkT P w A.in1.in1 F kd ks vs)
  (col:∀{E:JI->kI->Prop}{Q:List JI->kI->Prop},(∀h' tk,(∀b o,s.heap.get? b=Dn o->h'.get? b=Dn o)->s.heap.objs.size<h'.objs.size->Q vs {s with heap:=h',toks:=tk})->Bs (CJ P w) A.in1 (collect v) Q E s)
  (p:Qi T s.heap ks vs) (nd:ks.Nodup) (hz:vs.length<=G6) (h64:vs.length<64)
  (q:∀(h':Heap) (tk:Nat) (l:Addr) (out:Array JI) (ks':List (List Int)) (c:Nat),(∀b o,s.heap.get? b=Dn o->h'.get? b=Dn o)->s.heap.objs.size<=l->h'.get? l=Dn (seqObj "list" out c)->Qi T s.heap ks' out.toList->ks'.Perm ks->ks'.Pairwise (· < ·)->out.toList.Perm vs->Q (.ref l) {s with heap:=h',toks:=tk}) :
  Bs (CJ P w) A (call (.builtin "sorted") [v]) Q E s:=by
 refine Calls.call_function_entry kind_sorted plain_sorted entry_sorted (args_sorted1 _) ?_;refine Ay<|Bv ?_
 refine Ay<|col λh1 tk k1 lt1=>Ay<|wpAny_newList ?_
 have ho:(h1.push (seqObj "list" vs.toArray 0)).get? h1.objs.size=Dn _:=JB _ rfl;have k2:∀b o,s.heap.get? b=Dn o->(h1.push (seqObj "list" vs.toArray 0)).get? b=Dn o:=λb o hb=>GP _ (k1 b o hb)
 refine Ay<|Ob<|RN slot_list_sort ⟨_,ho,rfl⟩ entry_list_sort (aif S ho (jc p λk v _ y=>F.of y λb o _ hb=>k2 b o hb) nd hz h64 λout ks' g1 g2 g3 g4=>⟨_,rfl,Bv ⟨_,rfl,?_⟩⟩)<|args_list_sort _
 obtain⟨c,e⟩:=sortedHeap_at ho;refine q _ tk _ out ks' c (λb o hb=>?_) (Vu lt1) e ?_ g2 g3 g4;have lt:=GK (k1 b o hb);rw[sortedHeap_old (Jl lt) (K1 lt (by rw[size_push'];exact Ws _))];exact k2 b o hb;refine jc g1 λk v hv y=>?_;obtain⟨l,_,z⟩:=(keys_map F p).2 v (g4.mem_iff.mp hv);exact F.fn (F.of z λb o _ hb=>k2 b o hb) y ▸ z
theorem zah {es:Array Ql}{Q:JI->kI->Prop}(hh:A.handled=Go)(nd0:(d==PX)=false)(x:Di s.heap d es ep)(hz:es.size<=G6)
  (p:Mx (λk v=>zG s.heap v k) ks (es.toList.map (·.key))) (hne:2<=ks.length->∀k∈ks,k≠[]) (nd:ks.Nodup) (h64:es.size<64)
  (q:∀(h':Heap) (tk:Nat) (l:Addr) (out:Array JI) (ks':List (List Int)) (c:Nat),(∀b o,s.heap.get? b=Dn o->h'.get? b=Dn o)->s.heap.objs.size<=l->h'.get? l=Dn (seqObj "list" out c)->Mx (λk v=>zG s.heap v k) ks' out.toList->ks'.Perm ks->ks'.Pairwise (· < ·)->out.toList.Perm (es.toList.map (·.key))->Q (.ref l) {s with heap:=h',toks:=tk}) :
  Bs (CJ P w) A (call (.builtin "sorted") [.ref d]) Q E s:=tQ (aaK hne) (tU hh nd0 x hz) p nd (by simpa using hz) (by simpa using h64) q
theorem yK {es:Array Ql}{ks:List Int}{Q:JI->kI->Prop}(hh:A.handled=Go)(nd0:(d==PX)=false)(x:Di s.heap d es ep)(hz:es.size<=G6)
  (p:Ba (ks.map V.int) (es.toList.map (·.key))) (nd:ks.Nodup) (h64:es.size<64)
  (q:∀(h':Heap) (tk:Nat) (l:Addr) (out:Array JI) (ks':List Int) (c:Nat),(∀b o,s.heap.get? b=Dn o->h'.get? b=Dn o)->s.heap.objs.size<=l->h'.get? l=Dn (seqObj "list" out c)->Ba (ks'.map V.int) out.toList->ks'.Perm ks->ks'.Pairwise (· < ·)->Q (.ref l) {s with heap:=h',toks:=tk}) :
  Bs (CJ P w) A (call (.builtin "sorted") [.ref d]) Q E s:=by
 refine tQ (acH p) (tU hh nd0 x hz) (wX.mp p) (RT.mpr<|nd.imp λh e=>h (TK e).1) (by simpa using hz) (by simpa using h64) λh' tk l out ks' c k1 k2 k3 g1 g2 g3 _=>?_;obtain⟨js,pj,rfl⟩:=Em g2 rfl;exact q h' tk l out js c k1 k2 k3 (wX.mpr g1) pj<|(RT.mp g3).imp Um.mp
end
section
variable {X:Cx}{K:Bl}
def Xx (ks:List (List Int)):Prop:=ks.length<64/\JW ks
theorem zaj (hc:X.calm=true):gq X (.builtin "sorted") (λvs H Q=>∃a xs,vs=[.ref a]/\H a=Dn (.ext (Ov a xs))/\J6 X.K H xs/\Xx (xs.map (·.1)) /\
  ∀ys:List (List Int×Addr×JI),ys.Perm xs->(ys.map (·.1)).Pairwise (· < ·)->∀l,H l=Go->Q (.ref l) (G7 H l (.lst (ys.map λy=>V.ref y.2.1)))):=by
 intro amD s U H vs us Q I r ⟨a,xs,ev,hx,hk,c1,q⟩;subst ev;obtain⟨u,rfl,ru⟩:=vals1 r;cases ru;obtain⟨⟨z,y,nd,o,es,ep,g1,g2,g3,g4⟩,_⟩:=I.hok a _ hx;have ek:es.toList.map (·.key)=xs.map λx=>Value.ref x.2.1:=by
  rw[g4,Ks];rfl
 have p:∀zs:List _,(∀x∈zs,x∈xs)->Mx (λk v=>zG s.heap v k) (zs.map _) (zs.map λx=>Value.ref x.2.1):=λzs hz=>by
  induction zs with
  | nil=>exact .nil
  | cons x zs ih=>exact .cons (aib I (hk x (hz x Lp))) (ih λy hy=>hz y (OD _ hy))
 have le:es.size=xs.length:=by rw[<-YD,g4,CV]
 refine zah (I.ok.hd hc) y ⟨o,g1,g2,g3⟩ (le ▸ z) (ek ▸ p xs λ_ h=>h) (c1.2) nd (by rw[le];simpa using c1.1) λh' tk l out ks' c keep hl e pr pm pw po=>?_;rw[ek]at po;obtain⟨ys,py,eo⟩:=Em po rfl;have hy:=p ys λx hx=>py.mem_iff.mp hx
 have eks:=by
  rw[eo]at pr;exact(keys_map sS pr).1.trans (keys_map sS hy).1.symm
 rw[eks]at pw;refine⟨.ref l,_,I.laid keep hl<|show fM X.prog X.w _ h' _ (.lst _)from⟨by rw[CV,py.length_eq];exact z,out.toList,c,?_,by simpa using e⟩,rfl,q ys py pw l<|I.hok.fresh hl⟩;rw[eo];clear eo pr eks pw hy py po;induction ys with
 | nil=>exact .nil
 | cons y ys ih=>exact .cons rfl ih
def Bb:MC:=λws h Q=>match ws with
 | [.loc n]=>(match h.c n with
  | some (.dtt kvs)=>Xx (kvs.map (·.1))/\∀ks:List (List Int),ks.Perm (kvs.map (·.1))->ks.Pairwise (· < ·)->Q (.lst (ks.map λk=>.tup (k.map .int))) h
  | _=>False)
 | _=>False
theorem zbR (hc:X.calm=true):fQ X (.builtin "sorted") Bb:=⟨_,zaj hc,by
 intro H μ h vs ws Qw Q R r m k;unfold Bb at m;split at m
 ·split at m
  ·rename_i kvs ec;obtain⟨p,xs,vs',hp,hx,e1,e2,r3,r4⟩:=R.dttAt ec;obtain⟨v,rfl,r1⟩:=fV r;obtain⟨p',rfl,hp'⟩:=r1;obtain rfl:=by rw[hp]at hp';exact(IV hp').symm
   obtain⟨m1,m2⟩:=m;rw[e1]at m1 m2;refine⟨p',xs,rfl,hx,kO e1 r3,m1,λys py pw l hl=>(k _ _ ⟨μ,_,h,(Ex.laid hl).ext,R.laid hl,(.lstNew R hl ?_),m2 _ (py.map _) pw⟩)⟩;have go:∀zs:List _,(∀z∈zs,z∈xs)->aW X.K H μ ((zs.map (·.1)).map λk=>W.tup (k.map .int)) (zs.map λy=>V.ref y.2.1):=λzs hz=>by
    induction zs with
    | nil=>exact .nil
    | cons z zs ih=>
     exact aW.cons ⟨z.2.1,z.1.map _,rfl,(kO e1 r3) z (hz z Lp),uw _⟩<|ih λy hy=>hz y<|OD _ hy
   grind
  cases m
 cases m⟩
theorem ahE (hc:X.calm=true):gq X (.builtin "sorted") (λvs H Q=>∃a kvs ks,vs=[.ref a]/\H a=Dn (.dK kvs)/\Ao kvs ks/\ks.length<64 /\
  ∀js:List Int,js.Perm ks->js.Pairwise (· < ·)->∀l,H l=Go->Q (.ref l) (G7 H l (.lst (js.map V.int)))):=by
 intro amD s U H vs us Q I r ⟨a,kvs,ks,ev,hx,hi,h64,q⟩;subst ev;obtain⟨u,rfl,ru⟩:=vals1 r;cases ru;obtain⟨z,y,vs,rel,dd⟩:=Cr I.hok hx;have hl:=Vx rel;have kk:=wK (ks:=ks) rel hi;obtain⟨o,es,ep,g1,g2,g3,_,g4,g5⟩:=dd;obtain⟨p1,p2⟩:=ur g4 kk;have pk:Ba (ks.map V.int) (es.toList.map (·.key))/\ks.Nodup/\es.size=vs.length:=by
  refine⟨p1,?_,by rw[<-p2,YD]⟩;rw[kk]at g5;exact(RT.mp g5).imp λh e=>h<|by rw[e]
 have l0:=by have:=congrArg Wu kk;simpa using this.symm
 refine yK (I.ok.hd hc) y ⟨o,g1,g2,g3⟩ (by lia) pk.1 pk.2.1 (by lia) λh' tk l out ks' c keep hl' e pr pm pw=>?_;have l2:=pm.length_eq;exact⟨.ref l,_,I.laid keep hl'<|show fM _ _ _ h' _ (.lst _)from⟨by rw[CV];lia,out.toList,c,pr,by simpa using e⟩,rfl,q ks' pm pw l<|I.hok.fresh hl'⟩
def Bx:MC:=λws h Q=>match ws with
 | [.loc n]=>(match h.c n with
  | some (.dct kvs)=>∃ks:List Int,Ao kvs ks/\ks.length<64/\∀js:List Int,js.Perm ks->js.Pairwise (· < ·)->Q (.lst (js.map .int)) h
  | _=>False)
 | _=>False
theorem alj (hc:X.calm=true):fQ X (.builtin "sorted") Bx:=⟨_,ahE hc,by
 intro H μ h vs ws Qw Q R r m k;unfold Bx at m;split at m
 split at m
 rename_i kvs ec;obtain⟨p,kvv,hp,hx,rf⟩:=R.dctAt ec;obtain⟨v,rfl,r1⟩:=fV r;obtain⟨p',rfl,hp'⟩:=r1;obtain rfl:=by rw[hp]at hp';exact(IV hp').symm
 obtain⟨ks,m1,m3,m2⟩:=m;exact⟨p',kvv,ks,rfl,hx,wC rf m1,m3,λjs pj sj l hl=>(k _ _ ⟨μ,_,h,(Ex.laid hl).ext,R.laid hl,.lstNew R hl<|qU js,m2 js pj sj⟩)⟩;cases m;cases m⟩
def Gm:MC:=λws h Q=>Bb ws h Q\/Bx ws h Q
theorem aki (hc:X.calm=true):fQ X (.builtin "sorted") Gm:=(zbR hc).or (alj hc)
end
section
variable {X:Cx}{K:Bl}{o e:Expr}{mo:ME}{ma:MA}{apos amF:Pos}
def Z1:V->List V->Hp->VK->Prop:=λx vs H Q=>∃l as y bs k,x=.ref l/\vs=[.int k]/\k=(as.length:Int)/\H l=Dn (.lst (as++y::bs))/\Q y (G7 H l (.lst (as++bs)))
theorem ajU:MtM X "list.pop" Z1:=by
 intro amD s U H x vs v us Q I rx rv h;obtain⟨l,as,y,bs,k,rfl,rfl,hk,hH,q⟩:=h;cases rx;obtain⟨u1,rfl,r1⟩:=vals1 rv;obtain⟨t,rfl⟩:=r1;obtain⟨z,its,n,r,hl,e⟩:=I.lstM hH;have r2:=yQ as.length r;rw[List.take_left,List.drop_left]at r2;obtain⟨ra,rb⟩:=r2;have ei:=(X8 as.length its).symm;generalize its.take as.length=ia at ra ei;generalize its.drop as.length=ib at rb ei;cases rb with
 | @cons _ uy _ ib ry rb=>
  have la:as.length=ia.length:=ra.length;have lb:bs.length=ib.length:=rb.length;rw[Pa,PB]at z;have hi:its.toArray[as.length]?=Dn uy:=by rw[ei,la];simp
  have hz:its.toArray.size=ia.length+(ib.length+1):=by rw[ei];simp
  have hl2:its.length=ia.length+(ib.length+1):=by rw[ei];simp
  have hfit:Builtin.List.listFitsIndex k=true:=by
   have:(G6:Int)<=2^62:=by rw[sizeLine_eq];decide
   unfold Builtin.List.listFitsIndex;simp;lia
  refine V9 F.slot_list_pop ⟨_,e,rfl⟩ F.entry_list_pop (F.args_list_pop_2 _ _) (PySem.MeetsSeq.list_pop_at l its.toArray n k t as.length uy hfit (by
   unfold seqIndex?;have c1:¬k<0:=by lia
   have c2:0<=k/\k<(its.toArray.size:Int):=by lia
   have c3:k.toNat=as.length:=by lia
   simp only[if_neg c1,c2.1,c2.2,decide_true,Bool.and_self,if_true,c3]) hi (by rw[hz];lia)) ⟨e,?_⟩
  refine⟨y,_,I.lset (its':=ia++ib) hH e ?_ (ra.append rb) (by rw[Pa];lia),ry,q⟩;rw[Array.eraseIdxIfInBounds,dif_pos (by rw[hz];lia)];apply Array.toList_inj.mp;rw[Array.toList_eraseIdx,ei,la];simp[List.eraseIdx_append]
def Nf:MM:=λx ws h Q=>match x,ws with
 | .loc n,[.int k]=>(match h.c n with
  | some (.lst us)=>(0<=k/\k<(us.length:Int))/\Q (us.getD k.toNat .non) (h.set n (.lst (us.eraseIdx k.toNat)))
  | _=>False)
 | _,_=>False
theorem ab6:Qz K Z1 Nf:=by
 intro H μ h x vs wx ws Qw Q R rx rs m k;unfold Nf at m;split at m
 split at m
 rename_i n i _ us ec;obtain⟨p,xs,ex,hm,hx,r1⟩:=Ht R rx ec;obtain⟨v,ev,rv⟩:=fV rs;rw[Bq]at rv;obtain⟨⟨i0,i1⟩,m⟩:=m;have hi:i.toNat<us.length:=by lia
 have eu:us=us.take i.toNat++us.getD i.toNat .non::us.drop (i.toNat+1):=by
  rw[M9,JD hi];show us=us.take i.toNat++us[i.toNat]::us.drop (i.toNat+1);rw[List.getElem_cons_drop,X8]
 rw[List.eraseIdx_eq_take_drop_succ]at m;obtain⟨ra,rb⟩:=yd i.toNat r1;have ex2:=(X8 i.toNat xs).symm;have eb:us.drop i.toNat=us.getD i.toNat .non::us.drop (i.toNat+1):=by
  rw[M9,JD hi];exact XD hi
 rw[eb,aW]at rb;obtain⟨y,ys,e1,ry,r2⟩:=rb;have la:((xs.take i.toNat).length:Int)=i:=by rw[Qn,<-r1.len];lia
 refine⟨p,xs.take i.toNat,y,ys,i,ex,by rw[ev,rv],la.symm,by rw[<-e1,X8];exact hx,k _ _<|.wrote R hm (ra.append r2) ry m⟩;exact m.elim;exact m.elim
theorem abO (ho:DE X o mo)(ha:KR X [e] ma)
  (hbase:Qo o "pop" X.env (eval o X.env)=eval o X.env:=by rfl)
  (hfew:((J1 amF (Ca [e] X.env)).all (λx=>!x.1)&&(RL amF (RM [] X.env)).all (λx=>x.1.isSome)
   && decide (([e]:List Expr).length+([]:List MH).length+(if([]:List MH).isEmpty then 0 else 1)<30))=true:=by rfl)
  (hline:(apos.endLine==amF.line)=true:=by rfl) (hst:Ca [e] X.env=(false,eval e X.env)::Ca [] X.env:=by rfl) (hplain:(J1 amF (Ca [] X.env)).any (·.1)=false:=by rfl) :
  DE X (.Call (.Attribute o "pop" apos) [e] [] amF) (zF Nf mo ma):=ac9 PySem.F.slot_list_pop PySem.F.type_list_pop ajU ab6 ho ha hbase hfew hline hst hplain
end
section
variable {prog:Ci}{w:CZ}{A:G4}{R:Q9->kI->Prop}{its:List JI}
theorem aho (hh:A.handled=Go)(hne:L≠I)(h0:Heap)(tr:Nat->Bool)
  (ht:∀i v,its[i]?=Dn v->∀(s:kI) (Q:Bool->kI->Prop) (E:JI->kI->Prop),(∀b o,b≠I->h0.get? b=Dn o->s.heap.get? b=Dn o)->(∀tk,Q (tr i) {s with toks:=tk})->Bs (CJ prog w) A.in1 (truthy v) Q E s) :
  ∀(k i:Nat) (s:kI),its.length-i=k->i<=its.length->s.heap.IsListIter I L i->s.heap.IsList L its.toArray->(∀b o,b≠I->h0.get? b=Dn o->s.heap.get? b=Dn o) ->
  (∀h' tk,(∀b o,b≠I->s.heap.get? b=Dn o->h'.get? b=Dn o)->R (.ok (.ret (.bool (((Ji its.length).drop i).any tr)))) {s with heap:=h',toks:=tk}) ->
  PL (CJ prog w) A (.builtin "any.loop" ⟨[.ref I],[]⟩) R s:=by
 have W:=Walks.list (prog:=prog) (w:=w) (A:=A.in1) hh I L hne its.toArray;have hz:its.toArray.size=its.length:=Jr ..;intro k;induction k with
 | zero=>
  intro i s hk hi i1 i2 h00 hR;have hin:i=its.length:=by lia
  refine Qc F.entry_any_loop ?_;rw[UL WD _];show Bs _ A.in1 (pyNext (.ref I) >>= _) _ _ s;refine Ay<|W.done s _ _ ⟨by rw[hz,<-hin];exact i1,i2⟩ λh' tk hk'=>?_
  refine Ay<|Pu<|Bv ?_
  have:=hR h' tk λb o h1 e=>hk' b o (by simpa using h1) e
  rw[List.drop_of_length_le (by simp;lia)]at this;exact this
 | succ k ih=>
  intro i s hk hi i1 i2 h00 hR;have hlt:i<its.length:=by lia
  have hd:(Ji its.length).drop i=i::(Ji its.length).drop (i+1):=by
   rw[XD (by simpa using hlt)];simp
  refine Qc F.entry_any_loop ?_;rw[UL WD _];show Bs _ A.in1 (pyNext (.ref I) >>= _) _ _ s;refine Ay<|W.item i s _ _ (by rw[hz];exact hlt) ⟨i1,i2⟩ λv h' tk hP hst' hk'=>?_
  have hk':∀b o,b≠I->s.heap.get? b=Dn o->h'.get? b=Dn o:=λb o h1 e=>hk' b o (by simpa using h1) e
  refine Ay<|Ob<|ht i v (by simpa using hP) _ _ _ (λb o h1 e=>hk' b o h1<|h00 b o h1 e) λtk2=>?_
  refine Ay<|wpAny_letGo ?_
  cases hb:tr i with
  | false=>
   simp only[Xp,if_false];refine Bv ⟨Qp WD _,ih (i+1) _ (by lia) hlt hst'.1 hst'.2 (λb o h1 e=>hk' b o h1<|h00 b o h1 e) λh'' tk'' hk''=>?_⟩;have:=hR h'' tk'' λb o hbw e=>hk'' b o hbw (hk' b o hbw e)
   rw[hd,WR,hb,Xh]at this;exact this
  | true=>
   simp only[if_true];refine Ay<|Pu<|Bv ?_
   have:=hR h' tk2 hk'
   rw[hd,WR,hb,Bool.true_or]at this;exact this
end
section
variable {X:Cx}{K:Bl}
theorem zaQ (hc:X.calm=true):gq X (.builtin "any") (λxs H Q=>∃(p:Addr) (ys:List V) (kss:List (List V)),xs=[.ref p]/\JH X.K H p ys/\Mx (λ(v:V) (k:List V)=>∃b,v=V.ref b/\Hi X.K H b k) ys kss/\Q (.bl (kss.any λk=>!k.isEmpty)) H):=by
 intro amD s U H xs us Q I r h;obtain⟨p,ys,kss,rfl,hS,ht,q⟩:=h;obtain⟨u,rfl,ru⟩:=vals1 r;cases ru;obtain⟨its,rv,pl,hz⟩:=I.list hS;have e1:ys.length=its.length:=rv.length;have e2:ys.length=kss.length:=Vx ht;have hl:=pl.isList;have hlt:p<s.heap.objs.size:=by obtain⟨_,e,_⟩:=hl;exact GK e
 have tru:∀(i:Nat) (v:JI),its[i]?=Dn v->∃(b:Addr) (k:List V) (js:List JI),v=Value.ref b/\kss[i]?=Dn k/\IsTup s.heap b js.toArray/\((js.toArray.size:Nat):Int)<2^63/\(!js.toArray.isEmpty)=!k.isEmpty:=λi v hv=>by
  obtain⟨x,ex,rx⟩:=zQ rv hv;obtain⟨k,ek,b,rfl,hb⟩:=su ht ex;cases rx;obtain⟨js,r2,pl2,hz2⟩:=I.tuple hb;have amE:=r2.length;have hs:G6=16777216:=sizeLine_eq;exact⟨b,k,js,rfl,ek,pl2,by simp only[Jr];lia,j9 r2⟩
 refine call_function_tree F.kind_any F.plain_any F.entry_any (F.args_any1 _) ?_;unfold Wh.«any»;refine Ay (m:=oneArg "any" _)<|Bv ?_
 refine Ay<|XS hl ?_
 refine Bv ⟨Qp WD _,?_⟩;have hI:∀b o,s.heap.get? b=Dn o->b≠s.heap.objs.size:=λb o e=>Jl (GK e)
 refine aho (I.ok.hd hc) (Jl hlt) (h0:=s.heap) (λi=>(kss[i]?.map λk=>!k.isEmpty).getD false) (λi v hv s' Q' E' hk hQ=>?_) its.length 0 _ (by lia) (Oj _) ⟨_,JB _ rfl,rfl,rfl⟩ (hl.push _) (λb o _ e=>GP _ e) λh' tk hk=>?_;obtain⟨b,k,js,rfl,ek,ht,hf,em⟩:=tru i v hv;obtain⟨o,ho,hc1,n,hd⟩:=ht;refine truthy_tuple ⟨o,hk b o (hI b o ho) ho,hc1,n,hd⟩ hf ?_;rw[em];have:=hQ (s'.toks+1+1)
 simp only[ek,Option.map_some,Option.getD_some]at this;exact this;rw[List.drop_zero];have e:((Ji its.length).any λi=>(kss[i]?.map λk=>!k.isEmpty).getD false)=kss.any λk=>!k.isEmpty:=by
  have:=uE (kss.map λk=>!k.isEmpty)
  rw[CV]at this;rw[<-e1,e2];simp only[HI]at this;rw[this,Xe];rfl
 rw[e];exact⟨.bl _,H,I.kept (h':=h') (t':=tk) λb x ex=>hk b x (hI b x ex)<|GP _ ex,rfl,q⟩
def Qt:MC:=λws h Q=>match ws with
 | [w]=>(match eU h w with
  | some us=>(match qN us with
   | some ks=>Q (.bl (ks.any λk=>!k.isEmpty)) h
   | none=>False)
  | none=>False)
 | _=>False
theorem abk (hc:X.calm=true):fQ X (.builtin "any") Qt:=⟨_,zaQ hc,by
 intro H μ h vs ws Qw Q R r m k;unfold Qt at m;split at m
 split at m
 split at m
 rename_i w _ us ev _ ks ek;obtain⟨v,e,rv⟩:=fV r;obtain⟨p,ys,ex,hs,rs⟩:=cY R rv ev;obtain⟨kss,pk,ea⟩:=tO rs ek;subst e ex;exact⟨p,ys,kss,rfl,hs,pk,k _ _<|.bl R (by rw[ea];exact m)⟩;exact m.elim;exact m.elim;exact m.elim⟩
end
end L2
namespace My
open PySem L2 PyProof.Rows
def rM:List (Key×W):=[(.inr "free",(.str "spot")),(.inr "join",(.str "line")),(.inr "meet",(.str "spot")),(.inr "curve",(.str "curve")),(.inr "about",(.str "line")),(.inr "pole",(.str "spot")),(.inr "other",(.str "spot"))]
def jT:W:=(.tup [(.tup [(.int 0),(.int 0),(.int 1)]),(.tup [(.int 1),(.int 0),(.int 1)]),(.tup [(.int 0),(.int 1),(.int 1)]),(.tup [(.int 1),(.int 1),(.int 1)])])
def top (i:Nat):Stmt:=PySem.Challenge.pw_easelroom_k81_truths_have_papers.main.body.getD i (.Pass ⟨0,0,0,0⟩)
abbrev UJ:Stmt:=top 92
def nG (E:CQ):MS:=
  (bM (aA 0))
def jz:AP:=GF 2 3 false λE=>
  (bA (bQ (G8 Tp (aj (aA 0) aG)) (Mk 0))
  (bA (bQ (G8 Tp (aj (aA 1) aG)) (Mk 1))
  (bA (FQ (bF (Af Kv (aA 1) (mC (.int 0)))) (bA (bQ (Af Lb (aA 0) (aA 1)) (Mk 2))
  (bA (bQ (aA 1) (Mk 0))
  (bQ (aA 2) (Mk 1)))))
  (nG E))))
def jB:AP:=jz
def tR (amq:AP)(E:CQ):MS:=
  (bM (aA 1))
def xY (amq:AP):AP:=GF 1 3 false λE=>
  (bA (bQ (mC (.int 0)) (Mk 1))
  (bA (qP (Hs (aA 0)) (Mk 2) (bQ (aL amq E (aj (aA 2) (aj (aA 1) aG))) (Mk 1)))
  (tR amq E)))
def yc:AP:=xY jB
def qF:AP:=GF 2 2 false λE=>
  (bM (Vn (bF (Af Kv (aA 0) (mC (.int 0)))) (bH (aj (bH (aj (Af abb (bH (aj (mC (.int 0)) aG)) (aA 1)) (aj (aA 0) aG))) aG)) (bH aG)))
def fJ:AP:=qF
def qj:AP:=GF 2 2 false λE=>
  (bM (bH (aj (bH (aj (G8 iB (aj (HJ JR [0] (iZ (aj (aA 1) aG)) jd (Vn (bF (Af Ib (aA 0) (aA 1))) (mC (.int 1)) (mC (.int 0)))) aG)) (aj (mC (.int 1)) aG))) aG)))
def pY:AP:=qj
def oN (E:CQ):MS:=
  (bM (aA 1))
def gP:AP:=GF 1 2 false λE=>
  (bA (bQ (G8 iB (aj (HJ JR [0] (Hs (G8 Gm (aj (aA 0) aG))) (bF (Af Kv (Af Yn (aA 1) (aA 0)) (mC (.int 0)))) (bH (aj (aA 0) (aj (Af Yn (aA 1) (aA 0)) aG)))) aG)) (Mk 1))
  (bA (fK (bF (Af Rt (G8 HB (aj (aA 1) aG)) (mC (.int 600)))) (p8 "TooMuch" E) bV)
  (oN E)))
def gM:AP:=gP
def uQ (alN:AP)(E:CQ):MS:=
  (bM (aL alN E (aj (aA 3) aG)))
def pQ (alN:AP):AP:=GF 3 6 true λE=>
  (bA (bQ (G8 Fe (aj (aA 0) aG)) (Mk 3))
  (bA (qP (Hs (aA 1)) (lC 2 (fY (Mk 4) (fY (Mk 5) Ik))) (bQ (Af cO (adL Lz (aA 3) (aj (aA 4) (aj (mC (.int 0)) aG))) (Af Ij (aA 2) (aA 5))) (W3 (aA 3) (aA 4) Mp)))
  (uQ alN E)))
def iD:AP:=pQ gM
def Ui (amt:AP):AP:=GF 2 2 false λE=>
  (bM (aL amt E (aj (aA 0) (aj (aA 1) (aj (mC (.int 1)) aG)))))
def z6:AP:=Ui iD
def Nz (amt:AP):AP:=GF 2 2 false λE=>
  (bM (aL amt E (aj (aA 0) (aj (aA 1) (aj (mUn Yc (mC (.int 1))) aG)))))
def wg:AP:=Nz iD
def zav (E:CQ):MS:=
  (bM (aA 1))
def Gw:AP:=GF 1 3 false λE=>
  (bA (bQ (mC (.int 0)) (Mk 1))
  (bA (qP (Hs (aA 0)) (Mk 2) (bQ (Af cO (Af Ij (aA 1) (mC (.int 65536))) (aA 2)) (Mk 1)))
  (zav E)))
def vO:AP:=Gw
def xR (E:CQ):MS:=
  (bM (wG (aA 2)))
def vI:AP:=GF 2 4 true λE=>
  (bA (bQ (pN aG) (Mk 2))
  (bA (qP (iZ (aj (aA 1) aG)) (Mk 3) (bA (kZ (zF fL (aA 2) (aj (Af Lb (aA 0) (mC (.int 65536))) aG)))
  (bQ (Af Qk (aA 0) (mC (.int 65536))) (Mk 0))))
  (xR E)))
def pA:AP:=vI
def lO (aln:AP):AP:=GF 1 1 false λE=>
  (bM (HJ (Q6 2) [] (Hs (aA 0)) jd (bH (aj (aL aln E (aj (aA 0) aG)) (aj (aA 1) aG)))))
def iU:AP:=lO vO
def lG:AP:=GF 1 3 false λE=>
  (qP (Hs (aA 0)) (lC 2 (fY (Mk 1) (fY (Mk 2) Ik))) (fK (pR (G8 Zo (aj (HJ JR [] (Hs (aA 1)) jd (Af Rt (aA 0) (mC (.int 60)))) aG))) (p8 "TooMuch" E) bV))
def lJ:AP:=lG
def yC (alN aly alv amc:AP)(E:CQ):MS:=
  (bA (bQ (Vn (pR (aA 0)) (G8 HB (aj (Af Bm (Af Bm (aA 0) (mC (.int 0))) (mC (.int 0))) aG)) (mC (.int 0))) (Mk 9))
  (bA (bQ (aL alN E (aj (aA 2) aG)) (Mk 10))
  (bA (bQ (G8 iB (aj (HJ (Q6 2) [9] (Hs (aA 10)) jd (bH (aj (aL aly E (aj (aA 0) (aj (aA 2) aG))) (aj (aA 1) aG)))) aG)) (Mk 11))
  (bA (kZ (aL amc E (aj (aA 11) aG)))
  (bM (aA 11))))))
def yF (alN aly alv amc:AP)(E:CQ):MS:=
  (bA (bQ Wt (Mk 2))
  (bA (bQ (aL alv E (aj (aA 1) aG)) (Mk 3))
  (bA (qP (Hs (aL alv E (aj (aA 0) aG))) (lC 2 (fY (Mk 4) (fY (Mk 5) Ik))) (qP (Hs (aA 3)) (lC 2 (fY (Mk 6) (fY (Mk 7) Ik))) (bA (bQ (Af cO (aA 4) (aA 6)) (Mk 8))
  (bQ (Af cO (Zg Jx (aA 2) (aj (aA 8) (aj (mC (.int 0)) aG))) (Af Ij (aA 5) (aA 7))) (W3 (aA 2) (aA 8) Jf)))))
  (yC alN aly alv amc E))))
def K4 (alN aly alv amc:AP):AP:=GF 2 12 true λE=>
  (bA (fK (bF (Af Rt (Af Ij (G8 HB (aj (aA 0) aG)) (G8 HB (aj (aA 1) aG))) (mC (.int 20000)))) (p8 "TooMuch" E) bV)
  (yF alN aly alv amc E))
def mJ:AP:=K4 gM pA iU lJ
def qJ (E:CQ):MS:=
  (bM (bH (aj (aA 3) (aj (Af Qk (aA 1) (Af Bm (aA 2) (mC (.int 1)))) aG))))
def lW:AP:=GF 3 4 false λE=>
  (bA (bQ (G8 iB (aj (HJ (Q6 2) [] (XF (aj (aA 0) (aj (Af Bm (aA 2) (mC (.int 0))) aG))) jd (Af Rh (aA 0) (aA 1))) aG)) (Mk 3))
  (bA (fK (QL (bF (Af Kv (Af Lb (aA 1) (Af Bm (aA 2) (mC (.int 1)))) (mC (.int 0)))) (pR (G8 Zo (aj (HJ JR [] (Hs (aA 3)) jd (Af kLt (aA 0) (mC (.int 0)))) aG)))) (bM (mC .non)) bV)
  (qJ E)))
def lU:AP:=lW
def tY:AP:=GF 4 8 false λE=>
  (qP (Hs (aA 1)) (lC 2 (fY (Mk 4) (fY (Mk 5) Ik))) (bA (bQ (Af cO (aA 4) (aA 2)) (Mk 6))
  (bA (bQ (Af Rh (Zg Jx (aA 0) (aj (aA 6) (aj (mC (.int 0)) aG))) (Af Ij (aA 3) (aA 5))) (Mk 7))
  (fK (bF (Af Ib (aA 7) (mC (.int 0)))) (kZ (Zg O5 (aA 0) (aj (aA 6) aG))) (bQ (aA 7) (W3 (aA 0) (aA 6) Jf))))))
def ug:AP:=tY
def vh (aln aly alv amk amh:AP)(E:CQ):MS:=
  (bM (wG (aA 5)))
def zas (aln aly alv amk amh:AP)(E:CQ):MS:=
  (bA (bQ (Af Bm (aA 1) (mUn Yc (mC (.int 1)))) (Mk 2))
  (bA (bQ (aL alv E (aj (aA 1) aG)) (Mk 3))
  (bA (bQ (G8 Dr (aj (aL alv E (aj (aA 0) aG)) aG)) (Mk 4))
  (bA (bQ (pN aG) (Mk 5))
  (bA (FQ (Yy (aA 4)) (bA (bQ (G8 QJ (aj (aA 4) aG)) (Mk 6))
  (bA (bQ (aL amk E (aj (aL aly E (aj (aA 6) (aj (G8 HB (aj (Af Bm (aA 2) (mC (.int 0))) aG)) aG))) (aj (Af Xu (aA 4) (aA 6)) (aj (aA 2) aG)))) (Mk 7))
  (bA (fK (bF (Af kIs (aA 7) (mC .non))) (bM (mC .non)) bV)
  (bA (fK (bF (Af Ib (G8 HB (aj (aA 5) aG)) (mC (.int 600)))) (p8 "TooMuch" E) bV)
  (bA (kZ (zF fL (aA 5) (aj (aA 7) aG)))
  (kZ (aL amh E (aj (aA 4) (aj (aA 3) (aj (aL aln E (aj (Af Bm (aA 7) (mC (.int 0))) aG)) (aj (Af Bm (aA 7) (mC (.int 1))) aG))))))))))))
  (vh aln aly alv amk amh E))))))
def Gg (aln aly alv amk amh:AP):AP:=GF 2 8 true λE=>
  (bA (fK (Aw (pR (aA 1))) (p8 "NoPart" E) bV)
  (zas aln aly alv amk amh E))
def Fl:AP:=Gg vO pA iU lU ug
def Fi (ama:AP):AP:=GF 1 1 false λE=>
  (bM (aL ama E (aj (HJ (Q6 2) [] (Hs (aA 0)) jd (aA 1)) aG)))
def Fg:AP:=Fi yc
def zZ:AP:=GF 3 3 false λE=>
  (bM (G8 iB (aj (HJ (Q6 2) [1,2] (Hs (aA 0)) jd (bH (aj (G8 iB (aj (HJ (Q6 2) [] (XF (aj (aA 0) (aj (aA 3) aG))) jd (Af Rh (aA 0) (aA 1))) aG)) (aj (Af Qk (aA 1) (aA 2)) aG)))) aG)))
def yN:AP:=zZ
def gQ:AP:=GF 1 2 false λE=>
  (bA (bQ (Af Bm (HJ JR [] (Hs (aA 0)) (pR (aA 0)) (aA 0)) (mUn Yc (mC (.int 1)))) (Mk 1))
  (bM (Af kLt (Af Bm (Af Bm (aA 1) (mUn Yc (mC (.int 1)))) (mC (.int 1))) (mC (.int 0)))))
def gR:AP:=gQ
def sZ (amg amj amb:AP)(E:CQ):MS:=
  (bA (bQ (HJ JR [1] (iZ (aj (G8 HB (aj (Af Bm (Af Bm (aA 1) (mC (.int 0))) (mC (.int 0))) aG)) aG)) jd (G8 RV (aj (HJ (Q6 2) [0] (Hs (aA 1)) jd (Af Bm (aA 0) (aA 2))) aG))) (Mk 4))
  (bM (G8 iB (aj (HJ JR [3,4] (Hs (aA 0)) jd (aL amj E (aj (aA 0) (aj (aA 1) (aj (aA 2) aG))))) aG))))
def uq (amg amj amb:AP)(E:CQ):MS:=
  (bA (bQ (aL amg E (aj (aA 1) aG)) (Mk 3))
  (bA (fK (pR (aL amb E (aj (aA 0) aG))) (bQ (mUn Yc (aA 3)) (Mk 3)) bV)
  (sZ amg amj amb E)))
def yS (amg amj amb:AP):AP:=GF 1 5 true λE=>
  (bA (bQ (pN aG) (Mk 1))
  (bA (qP (Hs (aA 0)) (Mk 2) (kZ (zF JT (aA 1) (aj (aA 2) aG))))
  (uq amg amj amb E)))
def z8:AP:=yS Fg yN gR
def abX:AP:=λ_ _ _ _=>False
def Uo:AP:=abX
def uW (E:CQ):MS:=
  (bM (aA 2))
def Du:AP:=GF 2 7 true λE=>
  (bA (bQ (pC (aj (bH aG) aG)) (Mk 2))
  (bA (qP (iZ (aj (aA 1) aG)) (Mk 3) (bA (bQ (pN aG) (Mk 4))
  (bA (qP (Hs (aA 2)) (Mk 5) (bA (bQ (Vn (bF (Af Rt (aA 3) (mC (.int 0)))) (Af cO (Af Bm (aA 5) (Af Rh (aA 3) (mC (.int 1)))) (mC (.int 1))) (mC (.int 0))) (Mk 6))
  (kZ (zF jR (aA 4) (aj (HJ JR [5] (Mv (aj (aA 6) (aj (aA 0) aG))) jd (Af cO (aA 1) (bH (aj (aA 0) aG)))) aG)))))
  (bQ (aA 4) (Mk 2)))))
  (uW E)))
def Dp:AP:=Du
def tE:AP:=GF 2 2 false λE=>
  (bM (adi rM (Af Bm (Af Bm (aA 0) (aA 1)) (mC (.int 0)))))
def uo:AP:=tE
def uh:AP:=GF 1 1 false λE=>
  (bM (HJ JR [0] (iZ (aj (G8 HB (aj (aA 0) aG)) aG)) (bF (Af Ib (Af Bm (Af Bm (aA 1) (aA 0)) (mC (.int 0))) (mC (.str "free")))) (aA 0)))
def lZ:AP:=uh
def lV (aml:AP):AP:=GF 1 1 false λE=>
  (bM (Af Ij (mC (.int 2)) (G8 adV (aj (Af Rh (G8 HB (aj (aL aml E (aj (aA 0) aG)) aG)) (mC (.int 4))) (aj (mC (.int 0)) aG)))))
def cH:AP:=lV lZ
def uO (alr amm aml alp:AP)(E:CQ):MS:=
  (bA (bQ (Af Ij (mC (.int 2)) (Af Rh (aA 3) (mC (.int 4)))) (Mk 4))
  (bM (bH (aj (aL amm E (aj (aA 4) (aj (aA 2) aG))) (aj (aL amm E (aj (Af cO (aA 4) (mC (.int 1))) (aj (aA 2) aG))) (aj (aL alr E (aj (mC (.int 1)) (aj (aA 2) aG))) aG))))))
def qy (alr amm aml alp:AP):AP:=GF 2 5 false λE=>
  (bA (bQ (aL alp E (aj (aA 0) aG)) (Mk 2))
  (bA (bQ (afL wk (aL aml E (aj (aA 0) aG)) (aj (aA 1) aG)) (Mk 3))
  (bA (fK (bF (Af kLt (aA 3) (mC (.int 4)))) (bM (G8 iB (aj (HJ JR [2] (Hs (Af Bm (mC jT) (aA 3))) jd (aL alr E (aj (aA 0) (aj (aA 1) aG)))) aG))) bV)
  (uO alr amm aml alp E))))
def iI:AP:=qy fJ pY lZ cH
def iT (amw alo:AP):AP:=GF 4 4 false λE=>
  (bM (aL amw E (aj (aL alo E (aj (Af Bm (aA 0) (aA 2)) (aj (Af Bm (aA 1) (aA 3)) aG))) (aj (aL alo E (aj (Af Bm (aA 0) (aA 3)) (aj (Af Bm (aA 1) (aA 2)) aG))) aG))))
def fu:AP:=iT wg mJ
def mj (alR:AP):AP:=GF 2 2 false λE=>
  (bM (bH (aj (aL alR E (aj (aA 0) (aj (aA 1) (aj (mC (.int 1)) (aj (mC (.int 2)) aG))))) (aj (aL alR E (aj (aA 0) (aj (aA 1) (aj (mC (.int 2)) (aj (mC (.int 0)) aG))))) (aj (aL alR E (aj (aA 0) (aj (aA 1) (aj (mC (.int 0)) (aj (mC (.int 1)) aG))))) aG)))))
def dM:AP:=mj fu
def rB (alJ alo:AP)(E:CQ):MS:=
  (bM (aA 2))
def rH (alJ alo:AP):AP:=GF 2 5 false λE=>
  (bA (bQ (bH aG) (Mk 2))
  (bA (qP (XF (aj (aA 0) (aj (aA 1) aG))) (lC 2 (fY (Mk 3) (fY (Mk 4) Ik))) (bQ (aL alJ E (aj (aA 2) (aj (aL alo E (aj (aA 3) (aj (aA 4) aG))) aG))) (Mk 2)))
  (rB alJ alo E)))
def gU:AP:=rH z6 mJ
def oF (alm alu:AP):AP:=GF 3 3 false λE=>
  (bM (aL alu E (aj (aL alm E (aj (aA 0) (aj (aA 1) aG))) (aj (aA 2) aG))))
def kh:AP:=oF dM gU
def jJ (alo:AP):AP:=GF 2 2 false λE=>
  (bM (G8 iB (aj (HJ JR [1] (Hs (aA 0)) jd (aL alo E (aj (aA 0) (aj (aA 1) aG)))) aG)))
def dO:AP:=jJ mJ
def jW (amw:AP):AP:=GF 2 2 false λE=>
  (bM (G8 iB (aj (HJ (Q6 2) [] (XF (aj (aA 0) (aj (aA 1) aG))) jd (aL amw E (aj (aA 0) (aj (aA 1) aG)))) aG)))
def iy:AP:=jW wg
def iV (alJ alo:AP):AP:=GF 2 2 false λE=>
  (bM (bH (aj (aL alo E (aj (Af Bm (aA 0) (mC (.int 0))) (aj (Af Bm (aA 1) (mC (.int 0))) aG))) (aj (aL alJ E (aj (aL alo E (aj (Af Bm (aA 0) (mC (.int 0))) (aj (Af Bm (aA 1) (mC (.int 1))) aG))) (aj (aL alo E (aj (Af Bm (aA 0) (mC (.int 1))) (aj (Af Bm (aA 1) (mC (.int 0))) aG))) aG))) (aj (aL alo E (aj (Af Bm (aA 0) (mC (.int 1))) (aj (Af Bm (aA 1) (mC (.int 1))) aG))) (aj (aL alJ E (aj (aL alo E (aj (Af Bm (aA 0) (mC (.int 0))) (aj (Af Bm (aA 1) (mC (.int 2))) aG))) (aj (aL alo E (aj (Af Bm (aA 0) (mC (.int 2))) (aj (Af Bm (aA 1) (mC (.int 0))) aG))) aG))) (aj (aL alJ E (aj (aL alo E (aj (Af Bm (aA 0) (mC (.int 1))) (aj (Af Bm (aA 1) (mC (.int 2))) aG))) (aj (aL alo E (aj (Af Bm (aA 0) (mC (.int 2))) (aj (Af Bm (aA 1) (mC (.int 1))) aG))) aG))) (aj (aL alo E (aj (Af Bm (aA 0) (mC (.int 2))) (aj (Af Bm (aA 1) (mC (.int 2))) aG))) aG))))))))
def lQ:AP:=iV z6 mJ
def rG (alJ:AP):AP:=GF 1 1 false λE=>
  (bM (aL alJ E (aj (aA 0) (aj (aA 0) aG))))
def m6:AP:=rG z6
def mV (ami:AP):AP:=GF 1 1 false λE=>
  (bM (bH (aj (bH (aj (aL ami E (aj (Af Bm (aA 0) (mC (.int 0))) aG)) (aj (Af Bm (aA 0) (mC (.int 1))) (aj (Af Bm (aA 0) (mC (.int 3))) aG)))) (aj (bH (aj (Af Bm (aA 0) (mC (.int 1))) (aj (aL ami E (aj (Af Bm (aA 0) (mC (.int 2))) aG)) (aj (Af Bm (aA 0) (mC (.int 4))) aG)))) (aj (bH (aj (Af Bm (aA 0) (mC (.int 3))) (aj (Af Bm (aA 0) (mC (.int 4))) (aj (aL ami E (aj (Af Bm (aA 0) (mC (.int 5))) aG)) aG)))) aG)))))
def cW:AP:=mV m6
def jq (alm:AP):AP:=GF 1 1 false λE=>
  (bM (bH (aj (aL alm E (aj (Af Bm (aA 0) (mC (.int 1))) (aj (Af Bm (aA 0) (mC (.int 2))) aG))) (aj (aL alm E (aj (Af Bm (aA 0) (mC (.int 2))) (aj (Af Bm (aA 0) (mC (.int 0))) aG))) (aj (aL alm E (aj (Af Bm (aA 0) (mC (.int 0))) (aj (Af Bm (aA 0) (mC (.int 1))) aG))) aG)))))
def gB:AP:=jq dM
def jY (alu:AP):AP:=GF 2 2 false λE=>
  (bM (G8 iB (aj (HJ JR [1] (Hs (aA 0)) jd (aL alu E (aj (aA 0) (aj (aA 1) aG)))) aG)))
def fG:AP:=jY gU
def dh (alu alw:AP):AP:=GF 3 3 false λE=>
  (bM (aL alu E (aj (aA 1) (aj (aL alw E (aj (aA 0) (aj (aA 2) aG))) aG))))
def bI:AP:=dh gU fG
def mO (alD:AP):AP:=GF 1 1 false λE=>
  (bM (aL alD E (aj (Af Bm (aA 0) (mC (.int 0))) (aj (Af Bm (aA 0) (mC (.int 1))) (aj (Af Bm (aA 0) (mC (.int 2))) aG)))))
def ji:AP:=mO kh
def mL (alo alm alu als amn amA:AP):AP:=GF 1 7 false λE=>
  (bA (bQ (aL alm E (aj (Af Bm (aA 0) (mC (.int 0))) (aj (Af Bm (aA 0) (mC (.int 1))) aG))) (Mk 1))
  (bA (bQ (aL alm E (aj (Af Bm (aA 0) (mC (.int 2))) (aj (Af Bm (aA 0) (mC (.int 3))) aG))) (Mk 2))
  (bA (bQ (aL alm E (aj (Af Bm (aA 0) (mC (.int 0))) (aj (Af Bm (aA 0) (mC (.int 2))) aG))) (Mk 3))
  (bA (bQ (aL alm E (aj (Af Bm (aA 0) (mC (.int 1))) (aj (Af Bm (aA 0) (mC (.int 3))) aG))) (Mk 4))
  (bA (bQ (aL alo E (aj (aL alu E (aj (aA 1) (aj (Af Bm (aA 0) (mC (.int 4))) aG))) (aj (aL alu E (aj (aA 2) (aj (Af Bm (aA 0) (mC (.int 4))) aG))) aG))) (Mk 5))
  (bA (bQ (aL alo E (aj (aL alu E (aj (aA 3) (aj (Af Bm (aA 0) (mC (.int 4))) aG))) (aj (aL alu E (aj (aA 4) (aj (Af Bm (aA 0) (mC (.int 4))) aG))) aG))) (Mk 6))
  (bM (aL amn E (aj (aL als E (aj (aL amA E (aj (aA 3) (aj (aA 4) aG))) (aj (aA 5) aG))) (aj (aL als E (aj (aL amA E (aj (aA 1) (aj (aA 2) aG))) (aj (aA 6) aG))) aG))))))))))
def sI:AP:=mL mJ dM gU dO iy lQ
def pD (als alk alx alw alz:AP):AP:=GF 2 3 false λE=>
  (bA (bQ (aL alk E (aj (aA 0) aG)) (Mk 2))
  (bM (aL als E (aj (aL alw E (aj (aL alx E (aj (aA 2) aG)) (aj (aA 1) aG))) (aj (aL alz E (aj (aA 2) aG)) aG)))))
def vD:AP:=pD dO cW gB fG ji
def mF (als amn ami alk alq:AP):AP:=GF 3 6 false λE=>
  (bA (bQ (aL alk E (aj (aA 0) aG)) (Mk 3))
  (bA (bQ (aL alq E (aj (aA 3) (aj (aA 2) (aj (aA 2) aG)))) (Mk 4))
  (bA (bQ (aL ami E (aj (aL alq E (aj (aA 3) (aj (aA 1) (aj (aA 2) aG)))) aG)) (Mk 5))
  (bM (aL amn E (aj (aL als E (aj (aA 1) (aj (aA 4) aG))) (aj (aL als E (aj (aA 2) (aj (aA 5) aG))) aG)))))))
def tB:AP:=mF dO iy m6 cW bI
def Ni (alm alk alw alH alF alL:AP)(E:CQ):MS:=
  (bM (aL alm E (aj (Af Bm (aA 4) (mC (.int 0))) (aj (Af Bm (aA 4) (mC (.int 1))) aG))))
def Cv (alm alk alw alH alF alL:AP)(E:CQ):MS:=
  (bA (fK (bF (Af Ib (aA 3) (mC (.str "other")))) (bM (aL alL E (aj (Af Bm (aA 4) (mC (.int 0))) (aj (Af Bm (aA 4) (mC (.int 1))) (aj (Af Bm (aA 4) (mC (.int 2))) aG))))) bV)
  (Ni alm alk alw alH alF alL E))
def wI (alm alk alw alH alF alL:AP)(E:CQ):MS:=
  (bA (fK (bF (Af Ib (aA 3) (mC (.str "pole")))) (bM (aL alF E (aj (Af Bm (aA 4) (mC (.int 0))) (aj (Af Bm (aA 4) (mC (.int 1))) aG)))) bV)
  (Cv alm alk alw alH alF alL E))
def sU (alm alk alw alH alF alL:AP)(E:CQ):MS:=
  (bA (fK (bF (Af Ib (aA 3) (mC (.str "about")))) (bM (aL alw E (aj (aL alk E (aj (Af Bm (aA 4) (mC (.int 0))) aG)) (aj (Af Bm (aA 4) (mC (.int 1))) aG)))) bV)
  (wI alm alk alw alH alF alL E))
def W7 (alm alk alw alH alF alL:AP):AP:=GF 3 5 false λE=>
  (bA (bQ (Af Bm (Af Bm (aA 0) (aA 2)) (mC (.int 0))) (Mk 3))
  (bA (bQ (HJ JR [1] (Hs (mSl acP (Af Bm (aA 0) (aA 2)) (Lg (mC (.int 1))) rC)) jd (Af Bm (aA 1) (aA 0))) (Mk 4))
  (bA (fK (bF (Af Ib (aA 3) (mC (.str "curve")))) (bM (aL alH E (aj (aA 4) aG))) bV)
  (sU alm alk alw alH alF alL E))))
def O8:AP:=W7 dM cW fG sI vD tB
def Yq (alk alq:AP):AP:=GF 3 4 false λE=>
  (bA (bQ (Af Bm (aA 1) (Af Bm (Af Bm (aA 0) (aA 2)) (mC (.int 2)))) (Mk 3))
  (bM (aL alq E (aj (aL alk E (aj (Af Bm (aA 1) (Af Bm (Af Bm (aA 0) (aA 2)) (mC (.int 1)))) aG)) (aj (aA 3) (aj (aA 3) aG))))))
def Ph:AP:=Yq cW bI
def nH (amo alR alm:AP)(E:CQ):MS:=
  (bM (HJ JR [0,1] (Hs (aL amo E (aj (G8 HB (aj (aA 0) aG)) (aj (mC (.int 2)) aG)))) jd (aL alR E (aj (aA 1) (aj (aA 2) (aj (Af Bm (aA 0) (mC (.int 0))) (aj (Af Bm (aA 0) (mC (.int 1))) aG)))))))
def mH (amo alR alm:AP):AP:=GF 2 2 false λE=>
  (bA (fK (bF (Af Ib (G8 HB (aj (aA 0) aG)) (mC (.int 3)))) (bM (G8 qI (aj (aL alm E (aj (aA 0) (aj (aA 1) aG))) aG))) bV)
  (nH amo alR alm E))
def uc:AP:=mH Dp fu dM
def zar (alY alu alk alq:AP)(E:CQ):MS:=
  (bM (aL alq E (aj (aL alk E (aj (Af Bm (aA 2) (mC (.int 1))) aG)) (aj (Af Bm (aA 2) (mC (.int 0))) (aj (Af Bm (aA 2) (mC (.int 0))) aG)))))
def vW (alY alu alk alq:AP):AP:=GF 3 3 false λE=>
  (bA (fK (bF (Af Ib (aL alY E (aj (aA 0) (aj (Af Bm (aA 1) (mC (.int 2))) aG))) (mC (.str "line")))) (bM (aL alu E (aj (Af Bm (aA 2) (mC (.int 0))) (aj (Af Bm (aA 2) (mC (.int 1))) aG)))) bV)
  (zar alY alu alk alq E))
def Fp:AP:=vW uo gU cW bI
def lM (alD alk alx alq alz alQ alI:AP)(E:CQ):MS:=
  (bM (pC (aj (aL alD E (aj (Af Bm (aA 3) (mC (.int 0))) (aj (Af Bm (aA 3) (mC (.int 1))) (aj (Af Bm (aA 3) (mC (.int 2))) aG)))) aG)))
def iQ (alD alk alx alq alz alQ alI:AP)(E:CQ):MS:=
  (bA (fK (bF (Af Ib (Af Bm (aA 2) (mC (.int 0))) (mC (.str "parted")))) (bM (pC (aj (aL alz E (aj (aL alk E (aj (Af Bm (aA 3) (mC (.int 0))) aG)) aG)) aG))) bV)
  (lM alD alk alx alq alz alQ alI E))
def eZ (alD alk alx alq alz alQ alI:AP)(E:CQ):MS:=
  (bA (fK (bF (Af Ib (Af Bm (aA 2) (mC (.int 0))) (mC (.str "touch")))) (bM (pC (aj (aL alq E (aj (aL alx E (aj (aL alk E (aj (Af Bm (aA 3) (mC (.int 1))) aG)) aG)) (aj (Af Bm (aA 3) (mC (.int 0))) (aj (Af Bm (aA 3) (mC (.int 0))) aG)))) aG))) bV)
  (iQ alD alk alx alq alz alQ alI E))
def dB (alD alk alx alq alz alQ alI:AP)(E:CQ):MS:=
  (bA (fK (bF (Af Ib (Af Bm (aA 2) (mC (.int 0))) (mC (.str "on")))) (bM (pC (aj (aL alI E (aj (aA 0) (aj (aA 2) (aj (aA 3) aG)))) aG))) bV)
  (eZ alD alk alx alq alz alQ alI E))
def jK (alD alk alx alq alz alQ alI:AP):AP:=GF 3 4 false λE=>
  (bA (bQ (HJ JR [1] (Hs (mSl acP (aA 2) (Lg (mC (.int 1))) rC)) jd (Af Bm (aA 1) (aA 0))) (Mk 3))
  (bA (fK (bF (Af Ib (Af Bm (aA 2) (mC (.int 0))) (mC (.str "same")))) (bM (aL alQ E (aj (Af Bm (aA 3) (mC (.int 0))) (aj (Af Bm (aA 3) (mC (.int 1))) aG)))) bV)
  (dB alD alk alx alq alz alQ alI E)))
def iw:AP:=jK kh cW gB bI ji uc Fp
def rD:AP:=GF 1 1 false λE=>
  (bM (Af Bm (HJ JR [] (Hs (aA 0)) (pR (aA 0)) (aA 0)) (mC (.int 0))))
def lY:AP:=rD
def oM (amB amC alT:AP):AP:=GF 1 2 false λE=>
  (bA (bQ (aL amC E (aj (aA 0) aG)) (Mk 1))
  (bM (bH (aj (aA 1) (aj (aL amB E (aj (aL alT E (aj (aA 0) aG)) (aj (aL alT E (aj (aA 1) aG)) aG))) aG)))))
def oG:AP:=oM Fl z8 lY
def mX (alC alB:AP)(E:CQ):MS:=
  (bM (aL alC E (aj (aA 0) (aj (aA 1) (aj (aA 2) aG)))))
def uD (alC alB:AP):AP:=GF 3 3 false λE=>
  (bA (fK (adn (bF (Af Ib (Af Bm (Af Bm (aA 0) (aA 2)) (mC (.int 0))) (mC (.str "other")))) (bF (Af Kv (aL alB E (aj (aA 0) (aj (aA 1) (aj (aA 2) aG)))) (bH aG)))) (p8 "Tied" E) bV)
  (mX alC alB E))
def zH:AP:=uD O8 Ph
def agZ (amy alp alO:AP)(E:CQ):MS:=
  (bM (bH (aj (mC (.str "placing")) (aj (aL amy E (aj (Af cO (aA 3) (mSl acP (aA 4) rC (Lg (mC (.int 1))))) (aj (aL alp E (aj (aA 0) aG)) aG))) aG))))
def xJ (amy alp alO:AP):AP:=GF 4 5 false λE=>
  (bA (bQ (HJ JR [] (Hs (aL alO E (aj (aA 0) (aj (HJ JR [] (Hs (aA 2)) jd (Af Bm (aA 0) (mC (.int 0)))) (aj (aA 1) aG))))) (pR (aA 0)) (aA 0)) (Mk 4))
  (bA (fK (Aw (pR (aA 4))) (bM (bH (aj (mC (.str "paper")) (aj (aA 2) aG)))) bV)
  (agZ amy alp alO E)))
def Ef:AP:=xJ Uo cH iw
def uF (alr alp alA alT amr ams amv:AP)(E:CQ):MS:=
  (bM (aL amv E (aj (aA 0) (aj (aA 1) (aj (aA 2) (aj (aA 3) aG))))))
def uz (alr alp alA alT amr ams amv:AP):AP:=GF 2 6 false λE=>
  (bA (bQ (pN aG) (Mk 2))
  (bA (bQ (pN aG) (Mk 3))
  (bA (qP (iZ (aj (G8 HB (aj (aA 0) aG)) aG)) (Mk 4) (fK (bF (Af Ib (Af Bm (Af Bm (aA 0) (aA 4)) (mC (.int 0))) (mC (.str "free")))) (kZ (zF fL (aA 2) (aj (bH (aj (aL alA E (aj (aA 0) (aj (aA 4) aG))) (aj (aL alr E (aj (mC (.int 1)) (aj (aL alp E (aj (aA 0) aG)) aG))) aG))) aG))) (bA (bQ (aL ams E (aj (aA 0) (aj (HJ JR [] (Hs (aA 2)) jd (Af Bm (aA 0) (mC (.int 0)))) (aj (aA 4) aG)))) (Mk 5))
  (bA (fK (Aw (pR (G8 LC (aj (aA 5) aG)))) (bM (bH (aj (mC (.str "never")) (aj (aA 4) aG)))) bV)
  (bA (kZ (zF fL (aA 2) (aj (aL amr E (aj (aA 5) aG)) aG)))
  (kZ (zF fL (aA 3) (aj (aL alT E (aj (aA 5) aG)) aG))))))))
  (uF alr alp alA alT amr ams amv E))))
def jX:AP:=uz fJ cH iI lY oG zH Ef
def pH (alY:AP):AP:=GF 2 2 false λE=>
  (bM (Vn (bF (Af Ib (aL alY E (aj (aA 0) (aj (aA 1) aG))) (mC (.str "curve")))) (mC (.int 6)) (mC (.int 3))))
def vA:AP:=pH uo
def dZ (alr alp alA als alC alB alS:AP)(E:CQ):MS:=
  (bA (bQ (aL alC E (aj (aA 0) (aj (aA 1) (aj (aA 2) aG)))) (Mk 4))
  (bM (Q7 (G8 LC (aj (aA 4) aG)) (Af Ib (aA 4) (aL als E (aj (Af Bm (aA 3) (mC (.int 0))) (aj (Af Bm (aA 3) (mC (.int 1))) aG)))))))
def iG (alr alp alA als alC alB alS:AP)(E:CQ):MS:=
  (bA (fK (adn (bF (Af Ib (Af Bm (Af Bm (aA 0) (aA 2)) (mC (.int 0))) (mC (.str "other")))) (bF (Af Kv (aL alB E (aj (aA 0) (aj (aA 1) (aj (aA 2) aG)))) (bH aG)))) (bM (mC (.bl false))) bV)
  (dZ alr alp alA als alC alB alS E))
def d8 (alr alp alA als alC alB alS:AP)(E:CQ):MS:=
  (bA (fK (bF (Af Ib (Af Bm (Af Bm (aA 0) (aA 2)) (mC (.int 0))) (mC (.str "free")))) (bM (Af Ib (aA 3) (bH (aj (aL alA E (aj (aA 0) (aj (aA 2) aG))) (aj (aL alr E (aj (mC (.int 1)) (aj (aL alp E (aj (aA 0) aG)) aG))) aG))))) bV)
  (iG alr alp alA als alC alB alS E))
def fX (alr alp alA als alC alB alS:AP):AP:=GF 4 5 false λE=>
  (bA (fK (bF (Af Kv (G8 HB (aj (Af Bm (aA 3) (mC (.int 0))) aG)) (aL alS E (aj (aA 0) (aj (aA 2) aG))))) (bM (mC (.bl false))) bV)
  (d8 alr alp alA als alC alB alS E))
def jE:AP:=fX fJ cH iI dO O8 Ph vA
def iJ (alO alX:AP)(E:CQ):MS:=
  (bM (Vl (G8 Qt (aj (aL alO E (aj (aA 0) (aj (aA 3) (aj (aA 1) aG)))) aG))))
def iz (alO alX:AP)(E:CQ):MS:=
  (bA (bQ (pN aG) (Mk 3))
  (bA (qP (Yk (aj (aA 2) aG)) (lC 2 (fY (Mk 4) (fY (Mk 5) Ik))) (bA (fK (Aw (pR (aL alX E (aj (aA 0) (aj (aA 3) (aj (aA 4) (aj (aA 5) aG))))))) (bM (mC (.bl false))) bV)
  (kZ (zF fL (aA 3) (aj (Af Bm (aA 5) (mC (.int 0))) aG)))))
  (iJ alO alX E)))
def fW (alO alX:AP):AP:=GF 3 6 true λE=>
  (bA (fK (bF (Af Kv (G8 HB (aj (aA 2) aG)) (G8 HB (aj (aA 0) aG)))) (bM (mC (.bl false))) bV)
  (iz alO alX E))
def dG:AP:=fW iw jE
def tM (amx:AP)(E:CQ):MS:=
  (bM (aA 3))
def rW (amx:AP):AP:=GF 3 4 false λE=>
  (bA (Qf "TooMuch" (λE=>(bQ (aL amx EF (aj (aA 0) (aj (aA 1) (aj (aA 2) aG)))) (Mk 3))) (bM (mC (.bl false))))
  (tM amx E))
def tG:AP:=rW dG
def zaM (E:CQ):MS:=
  (bM (mC (.int 0)))
def FZ:AP:=GF 2 2 false λE=>
  (bA (fK (bF (Af kLt (aA 1) (G8 HB (aj (aA 0) aG)))) (bM (Af Bm (aA 0) (aA 1))) bV)
  (zaM E))
def Eh:AP:=FZ
def MF:AP:=GF 1 1 false λE=>
  (bM (pN (aj (Af W0 (G8 Tp (aj (aA 0) aG)) (G8 ac4 (aj (Af kGe (G8 Tp (aj (aA 0) aG)) (Af aeN (mC (.int 10)) (mC (.int 18)))) aG))) (aj (Af Lb (G8 Tp (aj (aA 0) aG)) (mC (.int 2147483647))) aG))))
def Mf:AP:=MF
def ahk (E:CQ):MS:=
  (bA (bQ (Af Lb (Af cO (Af Ij (Af Bm (aA 0) (mC (.int 1))) (mC (.int 48271))) (mC (.int 11))) (mC (.int 2147483647))) (W3 (aA 0) (mC (.int 1)) PN))
  (bM (Af Lb (Af Qk (Af Lb (Af Ij (Af Bm (aA 0) (mC (.int 1))) (Af cO (Af Qk (Af Bm (aA 0) (mC (.int 1))) (mC (.int 65536))) (mC (.int 7)))) (mC (.int 2147483629))) (mC (.int 32))) (aA 1))))
def Eb:AP:=GF 2 3 false λE=>
  (bA (fK (bF (Af Rt (Af Bm (aA 0) (mC (.int 0))) (mC (.int 0)))) (bA (bQ (Af Lb (Af Bm (aA 0) (mC (.int 0))) (aA 1)) (Mk 2))
  (bA (bQ (Af Qk (Af Bm (aA 0) (mC (.int 0))) (aA 1)) (W3 (aA 0) (mC (.int 0)) PN))
  (bM (aA 2)))) bV)
  (ahk E))
def Gj:AP:=Eb
def jL:AP:=GF 5 6 false λE=>
  (bA (bQ (Af cO (HJ JR [] (iZ (aj (mC (.int 5)) aG)) jd (bH (aj (mC (.str "free")) aG))) (pC (aj (bH (aj (mC (.str "join")) (aj (aA 0) (aj (aA 1) aG)))) (aj (bH (aj (mC (.str "join")) (aj (aA 0) (aj (aA 2) aG)))) (aj (bH (aj (mC (.str "join")) (aj (aA 0) (aj (aA 3) aG)))) aG))))) (Mk 5))
  (bA (bQ (Af cO (aA 5) (pC (aj (bH (aj (mC (.str "join")) (aj (aA 4) (aj (aA 2) aG)))) (aj (bH (aj (mC (.str "meet")) (aj (mC (.int 5)) (aj (mC (.int 8)) aG)))) (aj (bH (aj (mC (.str "join")) (aj (aA 4) (aj (aA 3) aG)))) (aj (bH (aj (mC (.str "meet")) (aj (mC (.int 6)) (aj (mC (.int 10)) aG)))) (aj (bH (aj (mC (.str "join")) (aj (aA 4) (aj (aA 1) aG)))) (aj (bH (aj (mC (.str "meet")) (aj (mC (.int 7)) (aj (mC (.int 12)) aG)))) aG)))))))) (Mk 5))
  (bA (bQ (Af cO (aA 5) (pC (aj (bH (aj (mC (.str "join")) (aj (aA 1) (aj (aA 2) aG)))) (aj (bH (aj (mC (.str "join")) (aj (mC (.int 9)) (aj (mC (.int 11)) aG)))) (aj (bH (aj (mC (.str "meet")) (aj (mC (.int 14)) (aj (mC (.int 15)) aG)))) (aj (bH (aj (mC (.str "join")) (aj (aA 2) (aj (aA 3) aG)))) (aj (bH (aj (mC (.str "join")) (aj (mC (.int 11)) (aj (mC (.int 13)) aG)))) aG))))))) (Mk 5))
  (bA (bQ (Af cO (aA 5) (pC (aj (bH (aj (mC (.str "meet")) (aj (mC (.int 17)) (aj (mC (.int 18)) aG)))) (aj (bH (aj (mC (.str "join")) (aj (aA 3) (aj (aA 1) aG)))) (aj (bH (aj (mC (.str "join")) (aj (mC (.int 13)) (aj (mC (.int 9)) aG)))) (aj (bH (aj (mC (.str "meet")) (aj (mC (.int 20)) (aj (mC (.int 21)) aG)))) aG)))))) (Mk 5))
  (bM (bH (aj (aA 5) (aj (bH (aj (mC (.str "row")) (aj (mC (.int 16)) (aj (mC (.int 19)) (aj (mC (.int 22)) aG))))) aG))))))))
def j8:AP:=jL
def nC:AP:=GF 5 6 false λE=>
  (bA (bQ (Af cO (HJ JR [] (iZ (aj (mC (.int 5)) aG)) jd (bH (aj (mC (.str "free")) aG))) (pC (aj (bH (aj (mC (.str "join")) (aj (aA 0) (aj (aA 1) aG)))) (aj (bH (aj (mC (.str "join")) (aj (aA 2) (aj (aA 3) aG)))) (aj (bH (aj (mC (.str "join")) (aj (aA 4) (aj (aA 2) aG)))) (aj (bH (aj (mC (.str "meet")) (aj (mC (.int 5)) (aj (mC (.int 7)) aG)))) aG)))))) (Mk 5))
  (bA (bQ (Af cO (aA 5) (pC (aj (bH (aj (mC (.str "join")) (aj (aA 4) (aj (aA 0) aG)))) (aj (bH (aj (mC (.str "meet")) (aj (mC (.int 6)) (aj (mC (.int 9)) aG)))) (aj (bH (aj (mC (.str "join")) (aj (aA 0) (aj (aA 3) aG)))) (aj (bH (aj (mC (.str "join")) (aj (aA 2) (aj (aA 1) aG)))) (aj (bH (aj (mC (.str "meet")) (aj (mC (.int 11)) (aj (mC (.int 12)) aG)))) aG))))))) (Mk 5))
  (bA (bQ (Af cO (aA 5) (pC (aj (bH (aj (mC (.str "join")) (aj (aA 0) (aj (mC (.int 10)) aG)))) (aj (bH (aj (mC (.str "join")) (aj (aA 2) (aj (mC (.int 8)) aG)))) (aj (bH (aj (mC (.str "meet")) (aj (mC (.int 14)) (aj (mC (.int 15)) aG)))) (aj (bH (aj (mC (.str "join")) (aj (aA 1) (aj (mC (.int 10)) aG)))) (aj (bH (aj (mC (.str "join")) (aj (aA 3) (aj (mC (.int 8)) aG)))) aG))))))) (Mk 5))
  (bM (bH (aj (Af cO (aA 5) (pC (aj (bH (aj (mC (.str "meet")) (aj (mC (.int 17)) (aj (mC (.int 18)) aG)))) aG))) (aj (bH (aj (mC (.str "row")) (aj (mC (.int 13)) (aj (mC (.int 16)) (aj (mC (.int 19)) aG))))) aG)))))))
def nJ:AP:=nC
def Ds:AP:=GF 5 6 false λE=>
  (bA (bQ (Af cO (HJ JR [] (iZ (aj (mC (.int 5)) aG)) jd (bH (aj (mC (.str "free")) aG))) (pC (aj (bH (aj (mC (.str "curve")) (aj (mC (.int 0)) (aj (mC (.int 1)) (aj (mC (.int 2)) (aj (mC (.int 3)) (aj (mC (.int 4)) aG))))))) (aj (bH (aj (mC (.str "join")) (aj (aA 1) (aj (aA 2) aG)))) (aj (bH (aj (mC (.str "join")) (aj (aA 3) (aj (aA 4) aG)))) (aj (bH (aj (mC (.str "meet")) (aj (mC (.int 6)) (aj (mC (.int 7)) aG)))) aG)))))) (Mk 5))
  (bA (bQ (Af cO (aA 5) (pC (aj (bH (aj (mC (.str "other")) (aj (mC (.int 5)) (aj (aA 0) (aj (mC (.int 8)) aG))))) (aj (bH (aj (mC (.str "join")) (aj (aA 0) (aj (aA 1) aG)))) (aj (bH (aj (mC (.str "join")) (aj (aA 3) (aj (aA 4) aG)))) (aj (bH (aj (mC (.str "meet")) (aj (mC (.int 10)) (aj (mC (.int 11)) aG)))) (aj (bH (aj (mC (.str "join")) (aj (aA 1) (aj (aA 2) aG)))) aG))))))) (Mk 5))
  (bA (bQ (Af cO (aA 5) (pC (aj (bH (aj (mC (.str "join")) (aj (aA 4) (aj (mC (.int 9)) aG)))) (aj (bH (aj (mC (.str "meet")) (aj (mC (.int 13)) (aj (mC (.int 14)) aG)))) (aj (bH (aj (mC (.str "join")) (aj (aA 2) (aj (aA 3) aG)))) (aj (bH (aj (mC (.str "join")) (aj (mC (.int 9)) (aj (aA 0) aG)))) (aj (bH (aj (mC (.str "meet")) (aj (mC (.int 16)) (aj (mC (.int 17)) aG)))) aG))))))) (Mk 5))
  (bM (bH (aj (aA 5) (aj (bH (aj (mC (.str "row")) (aj (mC (.int 12)) (aj (mC (.int 15)) (aj (mC (.int 18)) aG))))) aG)))))))
def Dv:AP:=Ds
def rO (E:CQ):MS:=
  (bM (bH (aj (Af cO (aA 6) (pC (aj (bH (aj (mC (.str "other")) (aj (mC (.int 5)) (aj (aA 1) (aj (mC (.int 8)) aG))))) (aj (bH (aj (mC (.str "other")) (aj (mC (.int 5)) (aj (aA 3) (aj (mC (.int 8)) aG))))) (aj (bH (aj (mC (.str "curve")) (aj (aA 2) (aj (aA 3) (aj (aA 4) (aj (aA 5) (aj (aA 1) aG))))))) aG))))) (aj (bH (aj (mC (.str "same")) (aj (mC (.int 11)) (aj (mC (.int 5)) aG)))) aG))))
def mZ (E:CQ):MS:=
  (bA (fK (bF (Af Ib (aA 0) (mC (.int 6)))) (bM (bH (aj (Af cO (aA 6) (pC (aj (bH (aj (mC (.str "curve")) (aj (aA 1) (aj (aA 2) (aj (mC (.int 8)) (aj (aA 3) (aj (aA 5) aG))))))) aG))) (aj (bH (aj (mC (.str "parted")) (aj (mC (.int 9)) aG))) aG)))) bV)
  (rO E))
def jr (E:CQ):MS:=
  (bA (fK (bF (Af Ib (aA 0) (mC (.int 5)))) (bM (bH (aj (Af cO (aA 6) (pC (aj (bH (aj (mC (.str "about")) (aj (mC (.int 5)) (aj (aA 1) aG)))) aG))) (aj (bH (aj (mC (.str "touch")) (aj (mC (.int 9)) (aj (mC (.int 5)) aG)))) aG)))) bV)
  (mZ E))
def eX (E:CQ):MS:=
  (bA (fK (bF (Af Ib (aA 0) (mC (.int 4)))) (bM (bH (aj (Af cO (aA 6) (pC (aj (bH (aj (mC (.str "about")) (aj (mC (.int 5)) (aj (aA 5) aG)))) (aj (bH (aj (mC (.str "meet")) (aj (mC (.int 9)) (aj (mC (.int 7)) aG)))) (aj (bH (aj (mC (.str "about")) (aj (mC (.int 5)) (aj (mC (.int 10)) aG)))) aG))))) (aj (bH (aj (mC (.str "on")) (aj (aA 5) (aj (mC (.int 11)) aG)))) aG)))) bV)
  (jr E))
def yH:AP:=GF 6 7 false λE=>
  (bA (bQ (Af cO (HJ JR [] (iZ (aj (mC (.int 5)) aG)) jd (bH (aj (mC (.str "free")) aG))) (pC (aj (bH (aj (mC (.str "curve")) (aj (mC (.int 0)) (aj (mC (.int 1)) (aj (mC (.int 2)) (aj (mC (.int 3)) (aj (mC (.int 4)) aG))))))) (aj (bH (aj (mC (.str "join")) (aj (aA 1) (aj (aA 2) aG)))) (aj (bH (aj (mC (.str "join")) (aj (aA 3) (aj (aA 4) aG)))) (aj (bH (aj (mC (.str "meet")) (aj (mC (.int 6)) (aj (mC (.int 7)) aG)))) aG)))))) (Mk 6))
  (bA (fK (bF (Af Ib (aA 0) (mC (.int 3)))) (bM (bH (aj (Af cO (aA 6) (pC (aj (bH (aj (mC (.str "about")) (aj (mC (.int 5)) (aj (mC (.int 8)) aG)))) (aj (bH (aj (mC (.str "pole")) (aj (mC (.int 5)) (aj (mC (.int 9)) aG)))) aG)))) (aj (bH (aj (mC (.str "same")) (aj (mC (.int 10)) (aj (mC (.int 8)) aG)))) aG)))) bV)
  (eX E)))
def xT:AP:=yH
def rE (alE alK alM alP alG:AP)(E:CQ):MS:=
  (bM (aL alG E (aj (aA 8) (aj (aA 3) (aj (aA 4) (aj (aA 5) (aj (aA 6) (aj (aA 7) aG))))))))
def rP (alE alK alM alP alG:AP)(E:CQ):MS:=
  (bA (fK (bF (Af Ib (aA 8) (mC (.int 2)))) (bM (aL alP E (aj (aA 3) (aj (aA 4) (aj (aA 5) (aj (aA 6) (aj (aA 7) aG))))))) bV)
  (rE alE alK alM alP alG E))
def rQ (alE alK alM alP alG:AP)(E:CQ):MS:=
  (bA (fK (bF (Af Ib (aA 8) (mC (.int 1)))) (bM (aL alM E (aj (aA 3) (aj (aA 4) (aj (aA 5) (aj (aA 6) (aj (aA 7) aG))))))) bV)
  (rP alE alK alM alP alG E))
def sG (alE alK alM alP alG:AP)(E:CQ):MS:=
  (bA (bQ (aA 2) (lC 5 (fY (Mk 3) (fY (Mk 4) (fY (Mk 5) (fY (Mk 6) (fY (Mk 7) Ik)))))))
  (bA (bQ (aL alE E (aj (aA 0) (aj (mC (.int 8)) aG))) (Mk 8))
  (bA (fK (bF (Af Ib (aA 8) (mC (.int 0)))) (bM (aL alK E (aj (aA 3) (aj (aA 4) (aj (aA 5) (aj (aA 6) (aj (aA 7) aG))))))) bV)
  (rQ alE alK alM alP alG E))))
def rJ (alE alK alM alP alG:AP):AP:=GF 1 9 false λE=>
  (bA (bQ (pN (aj (mC (.int 0)) (aj (mC (.int 1)) (aj (mC (.int 2)) (aj (mC (.int 3)) (aj (mC (.int 4)) aG)))))) (Mk 1))
  (bA (bQ (pN aG) (Mk 2))
  (bA (FQ (bF (Af Kv (aA 1) (pC aG))) (kZ (zF fL (aA 2) (aj (zF Nf (aA 1) (aj (aL alE E (aj (aA 0) (aj (G8 HB (aj (aA 1) aG)) aG))) aG)) aG))))
  (sG alE alK alM alP alG E))))
def yV:AP:=rJ Gj j8 nJ Dv xT
def qD (E:CQ):MS:=
  (bM (mC (.bl true)))
def pO (E:CQ):MS:=
  (bA (qP (Hs (aA 0)) (Mk 1) (bA (fK (QL (Aw (pR (G8 GQ (aj (aA 1) (aj (mC (.ty "tuple")) aG))))) (QL (bF (Af Kv (G8 HB (aj (aA 1) aG)) (mC (.int 2)))) (QL (Aw (pR (G8 GQ (aj (Af Bm (aA 1) (mC (.int 0))) (aj (mC (.ty "tuple")) aG))))) (bF (Af Kv (G8 HB (aj (Af Bm (aA 1) (mC (.int 0))) aG)) (mC (.int 2))))))) (bM (mC (.bl false))) bV)
  (fK (QL (Aw (pR (G8 GQ (aj (Af Bm (aA 1) (mC (.int 1))) (aj (mC (.ty "int")) aG))))) (pR (G8 GQ (aj (Af Bm (aA 1) (mC (.int 1))) (aj (mC (.ty "bool")) aG))))) (bM (mC (.bl false))) bV)))
  (qD E))
def oU:AP:=GF 1 2 false λE=>
  (bA (fK (Aw (pR (G8 GQ (aj (aA 0) (aj (mC (.ty "tuple")) aG))))) (bM (mC (.bl false))) bV)
  (pO E))
def vm:AP:=oU
def jC (ame:AP)(E:CQ):MS:=
  (bM (Af Ib (G8 HB (aj (Af Bm (aA 0) (mC (.int 1))) aG)) (G8 HB (aj (aA 1) aG))))
def jA (ame:AP)(E:CQ):MS:=
  (bA (qP (Hs (Af Bm (aA 0) (mC (.int 1)))) (Mk 2) (bA (fK (QL (Aw (pR (G8 GQ (aj (aA 2) (aj (mC (.ty "tuple")) aG))))) (QL (bF (Af Kv (G8 HB (aj (aA 2) aG)) (mC (.int 2)))) (Aw (pR (G8 GQ (aj (Af Bm (aA 2) (mC (.int 0))) (aj (mC (.ty "tuple")) aG))))))) (bM (mC (.bl false))) bV)
  (fK (bF (Af Rt (G8 HB (aj (HJ JR [] (Hs (Af cO (G8 qI (aj (Af Bm (aA 2) (mC (.int 0))) aG)) (pC (aj (Af Bm (aA 2) (mC (.int 1))) aG)))) (Aw (pR (aL ame E (aj (aA 0) aG)))) (aA 0)) aG)) (mC (.int 0)))) (bM (mC (.bl false))) bV)))
  (jC ame E))
def iR (ame:AP):AP:=GF 2 3 false λE=>
  (bA (fK (QL (Aw (pR (G8 GQ (aj (aA 0) (aj (mC (.ty "tuple")) aG))))) (QL (bF (Af Kv (G8 HB (aj (aA 0) aG)) (mC (.int 2)))) (QL (bF (Af Kv (Af Bm (aA 0) (mC (.int 0))) (mC (.str "paper")))) (Aw (pR (G8 GQ (aj (Af Bm (aA 0) (mC (.int 1))) (aj (mC (.ty "list")) aG)))))))) (bM (mC (.bl false))) bV)
  (jA ame E))
def lR:AP:=iR vm
def nY (amu:AP)(E:CQ):MS:=
  (bM (aA 2))
def mW (amu:AP):AP:=GF 2 3 false λE=>
  (bA (Qf "EaselError" (λE=>(bQ (aL amu EF (aj (aA 0) (aj (aA 1) aG))) (Mk 2))) (bQ (mC .non) (Mk 2)))
  (nY amu E))
def sX:AP:=mW jX
def N8 (alU amf amd alZ alV alW:AP)(E:CQ):MS:=
  (bA (kZ (Rz aaU (Af Bm (aA 4) (mC (.int 1)))))
  (bA (bQ (aL alW E (aj (G8 qI (aj (aA 1) aG)) (aj (aA 2) aG))) (Mk 5))
  (bM (Q7 (aL alV E (aj (aA 5) (aj (aA 1) aG))) (Af kIs (aL alU E (aj (G8 qI (aj (aA 1) aG)) (aj (aA 2) (aj (Af Bm (aA 5) (mC (.int 1))) aG)))) (mC (.bl true)))))))
def K5 (alU amf amd alZ alV alW:AP)(E:CQ):MS:=
  (bA (fK (bF (Af Rt (G8 HB (aj (aA 1) aG)) (mC (.int 16)))) (bM (mC (.bl true))) bV)
  (N8 alU amf amd alZ alV alW E))
def X4 (alU amf amd alZ alV alW:AP):AP:=GF 1 6 false λE=>
  (bA (bQ (aL alZ E (aj (aL amd E (aj (aL amf E (aj (aA 0) (aj (mC (.int 0)) aG))) aG)) aG)) (lC 2 (fY (Mk 1) (fY (Mk 2) Ik))))
  (bA (bQ (G8 qI (aj (aA 1) aG)) (Mk 3))
  (bA (bQ (aL alW E (aj (aA 3) (aj (aA 2) aG))) (Mk 4))
  (bA (fK (QL (Aw (pR (aL alV E (aj (aA 4) (aj (aA 1) aG))))) (QL (bF (Af Kv (aA 3) (aA 1))) (bF (Af PK (aL alU E (aj (G8 qI (aj (aA 1) aG)) (aj (aA 2) (aj (G8 qI (aj (Af Bm (aA 4) (mC (.int 1))) aG)) aG)))) (mC (.bl true)))))) (bM (mC (.bl false))) bV)
  (K5 alU amf amd alZ alV alW E)))))
def Yo:AP:=X4 tG Eh Mf yV lR sX
def zl:List Str:=["abs", "any", "bool", "dict", "enumerate", "int", "isinstance", "len", "list", "max", "min", "range", "reversed", "sorted", "tuple", "zip"]
structure Ad where
 x_EaselError:Addr
 x_TooMuch:Addr
structure Txt (P:Ci) (w:CZ) (K:Bl) (mg:Str->Option JI) (base:Heap) (t:Ad):Prop where
 f0:At K mg "divisor_of_two" (top 6) ["one", "other"]
 f1:At K mg "divisor" (top 7) ["numbers"]
 f2:At K mg "number_sum" (top 13) ["number", "letters"]
 f3:At K mg "letter_sum" (top 14) ["letter", "letters"]
 f4:At K mg "sum_of_totals" (top 15) ["totals"]
 f5:At K mg "with_times" (top 16) ["one", "other", "factor"]
 f6:At K mg "plus" (top 17) ["one", "other"]
 f7:At K mg "minus" (top 18) ["one", "other"]
 f8:At K mg "packed" (top 19) ["powers"]
 f9:At K mg "unpacked" (top 20) ["key", "letters"]
 f10:At K mg "packed_terms" (top 21) ["one"]
 f11:At K mg "check_powers" (top 22) ["one"]
 f12:At K mg "times" (top 23) ["one", "other"]
 f13:At K mg "part_of_term" (top 24) ["powers", "number", "lead"]
 f14:At K mg "take_away" (top 25) ["left", "terms", "shift", "factor"]
 f15:At K mg "parted" (top 26) ["one", "other"]
 f16:At K mg "common" (top 32) ["one"]
 f17:At K mg "without" (top 33) ["one", "factor", "least"]
 f18:At K mg "ends_below_nought" (top 34) ["some"]
 f19:At K mg "lighter" (top 35) ["some"]
 f20:At K mg "kept" (top 37) ["sums", "many"]
 f21:At K mg "rising" (top 40) ["many", "size"]
 f22:At K mg "sort_of" (top 43) ["rows", "k"]
 f23:At K mg "free_rows" (top 44) ["rows"]
 f24:At K mg "letter_count" (top 46) ["rows"]
 f25:At K mg "free_thing" (top 47) ["rows", "k"]
 f26:At K mg "less_swapped" (top 48) ["one", "other", "i", "j"]
 f27:At K mg "sum_cross" (top 49) ["one", "other"]
 f28:At K mg "sum_dot" (top 50) ["one", "other"]
 f29:At K mg "sum_turn" (top 51) ["one", "other", "third"]
 f30:At K mg "sums_times" (top 52) ["some", "factor"]
 f31:At K mg "sums_minus" (top 53) ["some", "others"]
 f32:At K mg "sum_together" (top 54) ["line", "other"]
 f33:At K mg "doubled" (top 55) ["one"]
 f34:At K mg "sum_table" (top 56) ["curve"]
 f35:At K mg "turned_rows" (top 57) ["rows"]
 f36:At K mg "rows_times" (top 58) ["rows", "thing"]
 f37:At K mg "rows_on_both_sides" (top 59) ["rows", "one", "other"]
 f38:At K mg "rows_size" (top 60) ["rows"]
 f39:At K mg "curve_raw" (top 61) ["five"]
 f40:At K mg "pole_raw" (top 62) ["curve", "line"]
 f41:At K mg "other_raw" (top 63) ["curve", "one", "other"]
 f42:At K mg "raw" (top 64) ["rows", "things", "k"]
 f43:At K mg "tie" (top 65) ["rows", "things", "k"]
 f44:At K mg "same_sums" (top 66) ["one", "other"]
 f45:At K mg "on_sum" (top 67) ["rows", "claim", "told"]
 f46:At K mg "claim_sums" (top 68) ["rows", "things", "claim"]
 f47:At K mg "first_sum" (top 70) ["some"]
 f48:At K mg "entry_of" (top 71) ["made"]
 f49:At K mg "row_raw" (top 72) ["rows", "things", "k"]
 f50:At K mg "answer" (top 73) ["rows", "claim", "paper", "made"]
 f51:At K mg "decided" (top 74) ["rows", "claim"]
 f52:At K mg "due_sums" (top 76) ["rows", "k"]
 f53:At K mg "is_right_entry" (top 77) ["rows", "things", "k", "entry"]
 f54:At K mg "is_right_paper" (top 78) ["rows", "claim", "paper"]
 f55:At K mg "lets_by" (top 79) ["rows", "claim", "paper"]
 f56:At K mg "_law_cell" (top 81) ["_law_script", "_law_k"]
 f57:At K mg "_law_bag" (top 82) ["_law_cell_here"]
 f58:At K mg "_law_draw" (top 83) ["_law_bag_here", "_law_many"]
 f59:At K mg "_law_perspective" (top 84) ["_law_o", "_law_a", "_law_b", "_law_c", "_law_x"]
 f60:At K mg "_law_two_lines" (top 85) ["_law_a", "_law_b", "_law_c", "_law_d", "_law_x"]
 f61:At K mg "_law_road" (top 86) ["_law_p", "_law_q", "_law_r", "_law_s", "_law_t"]
 f62:At K mg "_law_short" (top 87) ["_law_way", "_law_p", "_law_q", "_law_r", "_law_s", "_law_t"]
 f63:At K mg "_law_truth" (top 88) ["_law_bag_here"]
 f64:At K mg "_law_is_sum" (top 89) ["_law_thing"]
 f65:At K mg "_law_paper_told" (top 90) ["_law_found", "_law_rows"]
 f66:At K mg "_law_decided" (top 91) ["_law_rows", "_law_claim"]
 z:∀n∈zl,mg n=Go
 g_MOST_TERMS:∃n,mg "MOST_TERMS" = Dn (.int 600 n)
 g_MOST_POWER:∃n,mg "MOST_POWER" = Dn (.int 60 n)
 g_MOST_PAIRS:∃n,mg "MOST_PAIRS" = Dn (.int 20000 n)
 g_FIELD:∃n,mg "FIELD" = Dn (.int 65536 n)
 c_CORNERS:∃a,mg "CORNERS" = Dn (.ref a)/\∀H μ,Bq K H μ jT (.ref a)
 K_MADE:∃a,mg "MADE" = Dn (.ref a)/\ac5 w K a rM
 xm_EaselError:mg "EaselError" = Dn (.ref t.x_EaselError)
 xd_EaselError:Ig K t.x_EaselError "EaselError" = true
 xm_TooMuch:mg "TooMuch" = Dn (.ref t.x_TooMuch)
 xd_TooMuch:Ig K t.x_TooMuch "TooMuch" = true
section
variable {P:Ci}{w:CZ}{K:Bl}{mg:Str->Option JI}{base:Heap}{t:Ad}(T:Txt P w K mg base t)
include T
theorem aiQ:Fk P w K mg base 10 "kept" Uo:=by
 obtain⟨f,fd,F,m,b⟩:=T.f20;exact⟨f,fd,_,⟨λ_ _ _ _ ⟨_,_,_,_,_,_,m,_⟩=>(show False from m).elim,λ_ _ _ _ _ _ _ _ _ _ _ _ _ ⟨_,_,_,_,_,_,m,_⟩=>(show False from m).elim⟩,m,F.kp,b⟩
theorem pB:Fk P w K mg base 10 "divisor_of_two" jB:=by
 refine fk ["one", "other", "rest"] T.f0 T.z ?_;intro _ _ _ _ _ _ _ hr nd hc z;refine au (GC 0<|Hl Oc boot_abs<|a1<|vV 0) ?_;refine au (GC 1<|Hl Oc boot_abs<|a1<|vV 1) ?_;refine au (wB Pb (Hh (Bk qq) (vV 1) aB)<|au (GC 2<|dW yM (vV 0)<|vV 1)<|au (GC 0<|vV 1)<|aD<|GC 1<|vV 2) ?_;exact aD<|aM<|vV 0
theorem zaO:Fk P w K mg base 11 "divisor" yc:=by
 refine fk ["numbers", "found", "number"] T.f1 T.z ?_;intro _ _ _ _ _ _ _ hr nd hc z;exact au (GC 1 aB)<|au (gk Pb hh (bU<|vV 0) (Kh 2)<|aD<|GC 1<|Bt (pB T)<|a2 (vV 2)<|vV 1)<|aD<|aM<|vV 1
theorem gw:Fk P w K mg base 10 "number_sum" fJ:=by
 refine fk ["number", "letters"] T.f2 T.z ?_;intro _ _ _ _ _ _ _ hr nd hc z;refine aD ?_;with_reducible exact aM (ac3 (Hh (Bk qq) (vV 0) aB) (aO (a1 (aO (a2 (dW ab5 (aO (a1 aB)) (vV 1)) (vV 0))))) (aO fD))
theorem m9:Fk P w K mg base 10 "letter_sum" pY:=by
 refine fk ["letter", "letters"] T.f3 T.z ?_;intro _ _ _ _ _ _ _ hr nd hc z;refine aD ?_;with_reducible exact aM (aO (a1 (aO (a2 (dct gY Pk (a1 (Pr [0] (Ru (a1 (vV 1))) (λ_ _ _ _=>(ac3 (Hh (ni qq) (vV 0) (vV 1)) aB aB))))) aB))))
theorem jD:Fk P w K mg base 10 "sum_of_totals" gM:=by
 refine fk (k:=9) ["totals", "terms"] T.f4 T.z ?_;intro _ _ _ _ _ _ _ hr nd hc z;obtain⟨_,g_MOST_TERMS⟩:=T.g_MOST_TERMS;refine au (GC 1<|dct gY Pk<|a1<|dl1 [0] (bU<|Hl (aki hh) PyProof.Rows.boot_sorted<|a1<|vV 0) (λ_ _ _ _=>(oX<|Hh (Bk qq) (acN qq (vV 1) (vV 0) (by intro _ _;rfl)) aB))<|λ_ _ _ _=>(aO<|a2 (vV 0)<|acN qq (vV 1) (vV 0) (by intro _ _;rfl))) ?_;refine au (cg (Hh YB (Hl fU MP<|a1<|vV 1)<|dc (v:=.int 600) (jo (by rfl) g_MOST_TERMS ⟨_,rfl⟩)<|λ_ _=>vM) (aD kJ) aY) ?_;exact aD<|aM<|vV 1
theorem nO:Fk P w K mg base 11 "with_times" iD:=by
 refine fk (k:=10) ["one", "other", "factor", "totals", "powers", "number"] T.f5 T.z ?_;intro _ _ _ _ _ _ _ hr nd hc z;refine au (GC 3<|dct (zcg hh qq) boot_dict<|a1<|vV 0) ?_;refine au (gk Pb hh (bU<|vV 1) (jy hh<|bJ (Kh 4)<|bJ (Kh 5) jl)<|aD<|sy (dW cF (acj qq (vV 3) (a2 (vV 4) aB) (by rfl) (WL (by rfl)<|by rfl) (by rfl) (bw<|by rfl)<|bZ<|by rfl)<|dW wA (vV 2)<|vV 5)<|zB (vV 3) (vV 4) (ahG qq) aiL) ?_;exact aD<|aM<|Bt (jD T)<|a1<|vV 3
theorem rA:Fk P w K mg base 12 "plus" z6:=by
 refine fk ["one", "other"] T.f6 T.z ?_;intro _ _ _ _ _ _ _ hr nd hc z;exact aD<|aM<|Bt (nO T)<|a3 (vV 0) (vV 1) aB
theorem DY:Fk P w K mg base 12 "minus" wg:=by
 refine fk ["one", "other"] T.f7 T.z ?_;intro _ _ _ _ _ _ _ hr nd hc z;exact aD<|aM<|Bt (nO T)<|a3 (vV 0) (vV 1)<|Nt aB
theorem zJ:Fk P w K mg base 10 "packed" vO:=by
 refine fk ["powers", "key", "power"] T.f8 T.z ?_;intro _ _ _ _ _ _ _ hr nd hc z;obtain⟨_,g_FIELD⟩:=T.g_FIELD;refine au (GC 1 aB) ?_;refine au (gk Pb hh (bU<|vV 0) (Kh 2)<|aD<|GC 1<|dW cF (dW wA (vV 1)<|dc (v:=.int 65536) (jo rfl g_FIELD ⟨_,rfl⟩)<|λ_ _=>vM)<|vV 2) ?_;exact aD<|aM<|vV 1
theorem tL:Fk P w K mg base 10 "unpacked" pA:=by
 refine fk (k:=9) ["key", "letters", "powers", "taken"] T.f9 T.z ?_;intro _ _ _ _ _ _ _ hr nd hc z;obtain⟨_,g_FIELD⟩:=T.g_FIELD;refine au (GC 2<|lN fD) ?_;refine au (gk Pb hh (Ru<|a1<|vV 1) (Kh 3)<|au (eV<|jm (vV 2) (a1<|dW yM (vV 0)<|dc (v:=.int 65536) (jo (by rfl) g_FIELD ⟨_,rfl⟩)<|λ_ _=>vM) (by rfl) (qL<|by rfl) (by rfl) (bw<|by rfl)<|by rfl)<|aD<|GC 0<|dW Gz (vV 0)<|dc (v:=.int 65536) (jo (by rfl) g_FIELD ⟨_,rfl⟩)<|λ_ _=>vM) ?_;exact aD<|aM<|Dm hh (by rfl) (by exact T.z _ (by decide)) (by rfl) (by exact T.z _ (by decide)) (vV 2) (bw<|by rfl) (bZ<|by rfl) (bw<|by rfl)<|bZ<|by rfl
theorem dY:Fk P w K mg base 11 "packed_terms" iU:=by
 refine fk ["one"] T.f10 T.z ?_;intro _ _ _ _ _ _ _ hr nd hc z;exact aD<|aM<|R0 [] hh (cQ rfl) Ag (zx hh<|cQ rfl) (bU<|vV 0) (λ_ _ _ _=>gJ)<|λ_ _ _ _=>(aO<|a2 (Bt (zJ T)<|a1<|vV 0)<|vV 1)
theorem rY:Fk P w K mg base 10 "check_powers" lJ:=by
 refine fk ["one", "powers", "number"] T.f11 T.z ?_;intro _ _ _ _ _ _ _ hr nd hc z;obtain⟨_,g_MOST_POWER⟩:=T.g_MOST_POWER;exact aD<|gk Pb hh (bU<|vV 0) (jy hh<|bJ (Kh 1)<|bJ (Kh 2) jl)<|aD<|cg (c7<|Hl (abL hh) boot_any<|a1<|Pr [] (bU<|vV 1)<|λ_ _ _ _=>(Vq YB (vV 0)<|dc (v:=.int 60) (jo (by rfl) g_MOST_POWER ⟨_,rfl⟩)<|λ_ _=>vM)) (aD kJ) aY
theorem cL:Fk P w K mg base 12 "times" mJ:=by
 refine fk (k:=11) ["one", "other", "totals", "others", "key", "number", "other_key", "other_number", "place", "letters", "product", "unpacked_terms"] T.f12 T.z ?_;intro _ _ _ _ _ _ _ hr nd hc z;obtain⟨_,g_MOST_PAIRS⟩:=T.g_MOST_PAIRS;refine au (cg (Hh YB (dW wA (Hl fU MP<|a1<|vV 0)<|Hl fU MP<|a1<|vV 1)<|dc (v:=.int 20000) (jo (by rfl) g_MOST_PAIRS ⟨_,rfl⟩)<|λ_ _=>vM) (aD kJ) aY) ?_;refine au ?_ ?_;with_reducible exact GC 2 aa5
 refine au (GC 3<|Bt (dY T)<|a1<|vV 1) ?_;refine au (gk Pb hh (bU<|Bt (dY T)<|a1<|vV 0) (jy hh<|bJ (Kh 4)<|bJ (Kh 5) jl)<|aD<|gk Pb hh (bU<|vV 3) (jy hh<|bJ (Kh 6)<|bJ (Kh 7) jl)<|au (GC 8<|dW cF (vV 4)<|vV 6)<|aD<|sy (dW cF (Sg qq (vV 2) (a2 (vV 8) aB) (by rfl) (WL (by rfl)<|by rfl) (by rfl) (bw<|by rfl)<|bZ<|by rfl)<|dW wA (vV 5)<|vV 7)<|zB (vV 2) (vV 8) set_dict Gb) ?_;refine au (GC 9<|ac3 (c7<|vV 0) (Hl fU MP<|a1<|Bu (Bu (vV 0) aB) aB) aB) ?_;refine au (GC 10<|Bt (jD T)<|a1<|vV 2) ?_;refine au (GC 11<|dct gY Pk<|a1<|R0 [9] hh (cQ<|by rfl) Ag (zx hh<|cQ<|by rfl) (bU<|vV 10) (λ_ _ _ _=>gJ)<|λ_ _ _ _=>(aO<|a2 (Bt (tL T)<|a2 (vV 0)<|vV 2)<|vV 1)) ?_;refine au (eV<|Bt (rY T)<|a1<|vV 11) ?_;exact aD<|aM<|vV 11
theorem sW:Fk P w K mg base 10 "part_of_term" lU:=by
 refine fk (k:=9) ["powers", "number", "lead", "rest"] T.f13 T.z ?_;intro _ _ _ _ _ _ _ hr nd hc z;refine au (GC 3<|dct gY Pk<|a1<|R0 [] hh (cQ<|by rfl) Ag (zx hh<|cQ<|by rfl) (Ga (by rfl) (by exact T.z _ (by decide)) (a2 (vV 0)<|Bu (vV 2) aB) (bw<|by rfl)<|bZ<|by rfl) (λ_ _ _ _=>gJ)<|λ_ _ _ _=>(dW Hr (vV 0)<|vV 1)) ?_;refine au (cg (qK (Hh (Bk qq) (dW yM (vV 1)<|Bu (vV 2) aB) aB)<|uX<|c7<|Hl (abL hh) boot_any<|a1<|Pr [] (bU<|vV 3)<|λ_ _ _ _=>(Vq adh (vV 0) aB)).pt (aD<|aM QM) aY) ?_;exact aD<|aM<|aO<|a2 (vV 3)<|dW Gz (vV 1)<|Bu (vV 2) aB
theorem yj:Fk P w K mg base 10 "take_away" ug:=by
 refine fk (k:=9) ["left", "terms", "shift", "factor", "key", "number", "place", "rest"] T.f14 T.z ?_;intro _ _ _ _ _ _ _ hr nd hc z;exact aD<|gk Pb hh (bU<|vV 1) (jy hh<|bJ (Kh 4)<|bJ (Kh 5) jl)<|au (GC 6<|dW cF (vV 4)<|vV 2)<|au (GC 7<|dW Hr (Sg qq (vV 0) (a2 (vV 6) aB) (by rfl) (WL (by rfl)<|by rfl) (by rfl) (bw<|by rfl)<|bZ<|by rfl)<|dW wA (vV 3)<|vV 5)<|aD<|cg (Hh (ni qq) (vV 7) aB) (aD<|eV<|ZX (vV 0) (a1<|vV 6) (by rfl) (qL<|by rfl) (by rfl) (bw<|by rfl)<|by rfl)<|aD<|sy (vV 7)<|zB (vV 0) (vV 6) set_dict Gb
theorem aiD:Fk P w K mg base 12 "parted" Fl:=by
 refine fk (k:=11) ["one", "other", "lead", "terms", "left", "found", "greatest", "term"] T.f15 T.z ?_;intro _ _ _ _ _ _ _ hr nd hc z;obtain⟨_,g_MOST_TERMS⟩:=T.g_MOST_TERMS;refine au (cg (iC<|c7<|vV 1) (aD kJ) aY) ?_;refine au (GC 2<|Bu (vV 1)<|Nt aB) ?_;refine au (GC 3<|Bt (dY T)<|a1<|vV 1) ?_;refine au (GC 4<|dct (aiv hh qq) boot_dict<|a1<|Bt (dY T)<|a1<|vV 0) ?_;refine au (GC 5<|lN fD) ?_;refine au (wB Pb (ahR<|vV 4)<|au (GC 6<|Hl (acJ hh) boot_max<|a1<|vV 4)<|au (GC 7<|Bt (sW T)<|a3 (Bt (tL T)<|a2 (vV 6)<|Hl fU MP<|a1<|Bu (vV 2) aB) (aeU (vV 4) (vV 6) (by intro _ _;rfl))<|vV 2)<|au (cg (Hh afe (vV 7) QM) (aD<|aM QM) aY)<|au (cg (Hh (ni qq) (Hl fU MP<|a1<|vV 5)<|dc (v:=.int 600) (jo (by rfl) g_MOST_TERMS ⟨_,rfl⟩)<|λ_ _=>vM) (aD kJ) aY)<|au (eV<|jm (vV 5) (a1<|vV 7) (by rfl) (qL<|by rfl) (by rfl) (bw<|by rfl)<|by rfl)<|aD<|eV<|Bt (yj T)<|aC (vV 4)<|a3 (vV 3) (Bt (zJ T)<|a1<|Bu (vV 7) aB)<|Bu (vV 7) aB) ?_;exact aD<|aM<|Dm hh (by rfl) (by exact T.z _ (by decide)) (by rfl) (by exact T.z _ (by decide)) (vV 5) (bw<|by rfl) (bZ<|by rfl) (bw<|by rfl)<|bZ<|by rfl
theorem ahg:Fk P w K mg base 12 "common" Fg:=by
 refine fk ["one"] T.f16 T.z ?_;intro _ _ _ _ _ _ _ hr nd hc z;exact aD<|aM<|Bt (zaO T)<|a1<|R0 [] hh (cQ rfl) Ag (zx hh<|cQ rfl) (bU<|vV 0) (λ_ _ _ _=>gJ)<|λ_ _ _ _=>(vV 1)
theorem agX:Fk P w K mg base 10 "without" yN:=by
 refine fk (k:=9) ["one", "factor", "least"] T.f17 T.z ?_;intro _ _ _ _ _ _ _ hr nd hc z;exact aD<|aM<|dct gY Pk<|a1<|R0 [1,2] hh (cQ<|by rfl) Ag (zx hh<|cQ<|by rfl) (bU<|vV 0) (λ_ _ _ _=>gJ)<|λ_ _ _ _=>(aO<|a2 (dct gY Pk<|a1<|R0 [] hh (cQ<|by rfl) Ag (zx hh<|cQ<|by rfl) (Ga (by rfl) (by exact T.z _ (by decide)) (a2 (vV 0)<|vV 3) (bw<|by rfl)<|bZ<|by rfl) (λ_ _ _ _=>gJ)<|λ_ _ _ _=>(dW Hr (vV 0)<|vV 1))<|dW Gz (vV 1)<|vV 2)
theorem lA:Fk P w K mg base 10 "ends_below_nought" gR:=by
 refine fk ["some", "last"] T.f18 T.z ?_;intro _ _ _ _ _ _ _ hr nd hc z;refine au (GC 1<|Bu (dl1 [] (bU<|vV 0) (λ_ _ _ _=>(oX<|c7<|vV 0))<|λ_ _ _ _=>(vV 0))<|Nt aB) ?_;exact aD<|aM<|Vq adh (Bu (Bu (vV 1)<|Nt aB) aB) aB
theorem ahc:Fk P w K mg base 13 "lighter" z8:=by
 refine fk (k:=12) ["some", "terms", "one", "factor", "least"] T.f19 T.z ?_;intro _ _ _ _ _ _ _ hr nd hc z;refine au (GC 1<|lN fD) ?_;refine au (gk Pb hh (bU<|vV 0) (Kh 2)<|aD<|eV<|acB (vV 1) (a1<|vV 2) (by rfl) (qL<|by rfl) (by rfl) (bw<|by rfl)<|by rfl) ?_;refine au (GC 3<|Bt (ahg T)<|a1<|vV 1) ?_;refine au (cg (c7<|Bt (lA T)<|a1<|vV 0) (aD<|GC 3<|Nt<|vV 3) aY) ?_;refine au (GC 4<|Pr [1] (Ru<|a1<|Hl fU MP<|a1<|Bu (Bu (vV 1) aB) aB)<|λ_ _ _ _=>(Hl (aaZ hh) boot_min<|a1<|R0 [0] hh (cQ<|by rfl) Ag (zx hh<|cQ<|by rfl) (bU<|vV 1) (λ_ _ _ _=>gJ)<|λ_ _ _ _=>(Bu (vV 0)<|vV 2))) ?_;exact aD<|aM<|dct gY Pk<|a1<|Pr [3,4] (bU<|vV 0)<|λ_ _ _ _=>(Bt (agX T)<|a3 (vV 0) (vV 1)<|vV 2)
theorem zaR:Fk P w K mg base 10 "rising" Dp:=by
 refine fk (k:=9) ["many", "size", "found", "taken", "longer", "places", "first"] T.f21 T.z ?_;intro _ _ _ _ _ _ _ hr nd hc z;refine au ?_ ?_;with_reducible exact GC 2 (gC (a1 (aO fD)))
 refine au (gk Pb hh (Ru<|a1<|vV 1) (Kh 3)<|au (GC 4<|lN fD)<|au (gk Pb hh (bU<|vV 2) (Kh 5)<|au (GC 6<|ac3 (Hh YB (vV 3) aB) (dW cF (Bu (vV 5)<|dW Hr (vV 3) aB) aB) aB)<|aD<|eV<|zbS (vV 4) (a1<|Pr [5] (zaS (by rfl) (by exact T.z _ (by decide))<|a2 (vV 6)<|vV 0)<|λ_ _ _ _=>(dW cF (vV 1)<|aO<|a1<|vV 0)) (by rfl) (qL<|by rfl) (by rfl) (bw<|by rfl)<|by rfl)<|aD<|GC 2<|vV 4) ?_;exact aD<|aM<|vV 2
theorem vf:Fk P w K mg base 10 "sort_of" uo:=by
 refine fk (k:=9) ["rows", "k"] T.f22 T.z ?_;intro _ _ _ _ _ _ _ hr nd hc z;obtain⟨_,g_MADE,K_MADE⟩:=T.K_MADE;exact aD<|aM<|aeH K_MADE (by rfl) g_MADE (Bu (Bu (vV 0)<|vV 1) aB) (by intro _ _;rfl)
theorem pP:Fk P w K mg base 10 "free_rows" lZ:=by
 refine fk (k:=9) ["rows"] T.f23 T.z ?_;intro _ _ _ _ _ _ _ hr nd hc z;exact aD<|aM<|dl1 [0] (Ru<|a1<|Hl fU MP<|a1<|vV 0) (λ_ _ _ _=>(oX<|Hh (ni qq) (Bu (Bu (vV 1)<|vV 0) aB) aX))<|λ_ _ _ _=>(vV 0)
theorem eO:Fk P w K mg base 11 "letter_count" cH:=by
 refine fk (k:=10) ["rows"] T.f24 T.z ?_;intro _ _ _ _ _ _ _ hr nd hc z;exact aD<|aM<|dW wA aB<|Hl (aeC hh) boot_max<|a2 (dW Hr (Hl fU MP<|a1<|Bt (pP T)<|a1<|vV 0) aB) aB
theorem n6:Fk P w K mg base 12 "free_thing" iI:=by
 refine fk (k:=11) ["rows", "k", "letters", "place", "first"] T.f25 T.z ?_;intro _ _ _ _ _ _ _ hr nd hc z;obtain⟨a_CORNERS,g_CORNERS,r_CORNERS⟩:=T.c_CORNERS;refine au (GC 2<|Bt (eO T)<|a1<|vV 0) ?_;refine au (GC 3<|zbD (Bt (pP T)<|a1<|vV 0) (a1<|vV 1) (by rfl) (qL<|by rfl) (by rfl) (bw<|by rfl)<|by rfl) ?_;refine au (cg (Hh adh (vV 3) aB) (aD<|aM<|dct gY Pk<|a1<|Pr [2] (bU<|Bu (dc (v:=.ref a_CORNERS) (jo (by rfl) g_CORNERS<|by rfl) r_CORNERS)<|vV 3)<|λ_ _ _ _=>(Bt (gw T)<|a2 (vV 0)<|vV 1)) aY) ?_;refine au (GC 4<|dW wA aB<|dW Hr (vV 3) aB) ?_;exact aD<|aM<|aO<|a3 (Bt (m9 T)<|a2 (vV 4)<|vV 2) (Bt (m9 T)<|a2 (dW cF (vV 4) aB)<|vV 2)<|Bt (gw T)<|a2 aB<|vV 2
theorem d7:Fk P w K mg base 13 "less_swapped" fu:=by
 refine fk ["one", "other", "i", "j"] T.f26 T.z ?_;intro _ _ _ _ _ _ _ hr nd hc z;exact aD<|aM<|Bt (DY T)<|a2 (Bt (cL T)<|a2 (Bu (vV 0)<|vV 2)<|Bu (vV 1)<|vV 3)<|Bt (cL T)<|a2 (Bu (vV 0)<|vV 3)<|Bu (vV 1)<|vV 2
theorem bT:Fk P w K mg base 14 "sum_cross" dM:=by
 refine fk ["one", "other"] T.f27 T.z ?_;intro _ _ _ _ _ _ _ hr nd hc z;exact aD<|aM<|aO<|a3 (Bt (d7 T)<|aC (vV 0)<|a3 (vV 1) aB aB) (Bt (d7 T)<|aC (vV 0)<|a3 (vV 1) aB aB)<|Bt (d7 T)<|aC (vV 0)<|a3 (vV 1) aB aB
theorem dR:Fk P w K mg base 13 "sum_dot" gU:=by
 refine fk ["one", "other", "total", "mine", "its"] T.f28 T.z ?_;intro _ _ _ _ _ _ _ hr nd hc z;refine au (GC 2<|aO fD) ?_;refine au (gk Pb hh (Ga (by rfl) (by exact T.z _ (by decide)) (a2 (vV 0)<|vV 1) (bw<|by rfl)<|bZ<|by rfl) (jy hh<|bJ (Kh 3)<|bJ (Kh 4) jl)<|aD<|GC 2<|Bt (rA T)<|a2 (vV 2)<|Bt (cL T)<|a2 (vV 3)<|vV 4) ?_;exact aD<|aM<|vV 2
theorem tV:Fk P w K mg base 15 "sum_turn" kh:=by
 refine fk ["one", "other", "third"] T.f29 T.z ?_;intro _ _ _ _ _ _ _ hr nd hc z;exact aD<|aM<|Bt (dR T)<|a2 (Bt (bT T)<|a2 (vV 0)<|vV 1)<|vV 2
theorem cZ:Fk P w K mg base 13 "sums_times" dO:=by
 refine fk ["some", "factor"] T.f30 T.z ?_;intro _ _ _ _ _ _ _ hr nd hc z;exact aD<|aM<|dct gY Pk<|a1<|Pr [1] (bU<|vV 0)<|λ_ _ _ _=>(Bt (cL T)<|a2 (vV 0)<|vV 1)
theorem nZ:Fk P w K mg base 13 "sums_minus" iy:=by
 refine fk ["some", "others"] T.f31 T.z ?_;intro _ _ _ _ _ _ _ hr nd hc z;exact aD<|aM<|dct gY Pk<|a1<|R0 [] hh (cQ<|by rfl) Ag (zx hh<|cQ<|by rfl) (Ga (by rfl) (T.z _<|by decide) (a2 (vV 0)<|vV 1) (bw<|by rfl)<|bZ<|by rfl) (λ_ _ _ _=>gJ)<|λ_ _ _ _=>(Bt (DY T)<|a2 (vV 0)<|vV 1)
theorem jO:Fk P w K mg base 13 "sum_together" lQ:=by
 refine fk (k:=12) ["line", "other"] T.f32 T.z ?_;intro _ _ _ _ _ _ _ hr nd hc z;exact aD<|aM<|aO<|aC (Bt (cL T)<|a2 (Bu (vV 0) aB)<|Bu (vV 1) aB)<|aC (Bt (rA T)<|a2 (Bt (cL T)<|a2 (Bu (vV 0) aB)<|Bu (vV 1) aB)<|Bt (cL T)<|a2 (Bu (vV 0) aB)<|Bu (vV 1) aB)<|aC (Bt (cL T)<|a2 (Bu (vV 0) aB)<|Bu (vV 1) aB)<|a3 (Bt (rA T)<|a2 (Bt (cL T)<|a2 (Bu (vV 0) aB)<|Bu (vV 1) aB)<|Bt (cL T)<|a2 (Bu (vV 0) aB)<|Bu (vV 1) aB) (Bt (rA T)<|a2 (Bt (cL T)<|a2 (Bu (vV 0) aB)<|Bu (vV 1) aB)<|Bt (cL T)<|a2 (Bu (vV 0) aB)<|Bu (vV 1) aB)<|Bt (cL T)<|a2 (Bu (vV 0) aB)<|Bu (vV 1) aB
theorem kW:Fk P w K mg base 13 "doubled" m6:=by
 refine fk ["one"] T.f33 T.z ?_;intro _ _ _ _ _ _ _ hr nd hc z;exact aD<|aM<|Bt (rA T)<|a2 (vV 0)<|vV 0
theorem cV:Fk P w K mg base 14 "sum_table" cW:=by
 refine fk ["curve"] T.f34 T.z ?_;intro _ _ _ _ _ _ _ hr nd hc z;refine aD ?_;with_reducible exact aM (aO (a3 (aO (a3 (Bt (by with_unfolding_all exact kW T) (a1 (Bu (vV 0) aB))) (Bu (vV 0) aB) (Bu (vV 0) aB))) (aO (a3 (Bu (vV 0) aB) (Bt (by with_unfolding_all exact kW T) (a1 (Bu (vV 0) aB))) (Bu (vV 0) aB))) (aO (a3 (Bu (vV 0) aB) (Bu (vV 0) aB) (Bt (by with_unfolding_all exact kW T) (a1 (Bu (vV 0) aB)))))))
theorem lE:Fk P w K mg base 15 "turned_rows" gB:=by
 refine fk ["rows"] T.f35 T.z ?_;intro _ _ _ _ _ _ _ hr nd hc z;exact aD<|aM<|aO<|a3 (Bt (bT T)<|a2 (Bu (vV 0) aB)<|Bu (vV 0) aB) (Bt (bT T)<|a2 (Bu (vV 0) aB)<|Bu (vV 0) aB)<|Bt (bT T)<|a2 (Bu (vV 0) aB)<|Bu (vV 0) aB
theorem jh:Fk P w K mg base 14 "rows_times" fG:=by
 refine fk ["rows", "thing"] T.f36 T.z ?_;intro _ _ _ _ _ _ _ hr nd hc z;exact aD<|aM<|dct gY Pk<|a1<|Pr [1] (bU<|vV 0)<|λ_ _ _ _=>(Bt (dR T)<|a2 (vV 0)<|vV 1)
theorem bK:Fk P w K mg base 15 "rows_on_both_sides" bI:=by
 refine fk ["rows", "one", "other"] T.f37 T.z ?_;intro _ _ _ _ _ _ _ hr nd hc z;exact aD<|aM<|Bt (dR T)<|a2 (vV 1)<|Bt (jh T)<|a2 (vV 0)<|vV 2
theorem qH:Fk P w K mg base 16 "rows_size" ji:=by
 refine fk ["rows"] T.f38 T.z ?_;intro _ _ _ _ _ _ _ hr nd hc z;exact aD<|aM<|Bt (tV T)<|a3 (Bu (vV 0) aB) (Bu (vV 0) aB)<|Bu (vV 0) aB
theorem zY:Fk P w K mg base 15 "curve_raw" sI:=by
 refine fk (k:=14) ["five", "first", "second", "third", "last", "more", "less"] T.f39 T.z ?_;intro _ _ _ _ _ _ _ hr nd hc z;refine au (GC 1<|Bt (bT T)<|a2 (Bu (vV 0) aB)<|Bu (vV 0) aB) ?_;refine au (GC 2<|Bt (bT T)<|a2 (Bu (vV 0) aB)<|Bu (vV 0) aB) ?_;refine au (GC 3<|Bt (bT T)<|a2 (Bu (vV 0) aB)<|Bu (vV 0) aB) ?_;refine au (GC 4<|Bt (bT T)<|a2 (Bu (vV 0) aB)<|Bu (vV 0) aB) ?_;refine au (GC 5<|Bt (cL T)<|a2 (Bt (dR T)<|a2 (vV 1)<|Bu (vV 0) aB)<|Bt (dR T)<|a2 (vV 2)<|Bu (vV 0) aB) ?_;refine au (GC 6<|Bt (cL T)<|a2 (Bt (dR T)<|a2 (vV 3)<|Bu (vV 0) aB)<|Bt (dR T)<|a2 (vV 4)<|Bu (vV 0) aB) ?_;exact aD<|aM<|Bt (nZ T)<|a2 (Bt (cZ T)<|a2 (Bt (jO T)<|a2 (vV 3)<|vV 4)<|vV 5)<|Bt (cZ T)<|a2 (Bt (jO T)<|a2 (vV 1)<|vV 2)<|vV 6
theorem ahv:Fk P w K mg base 17 "pole_raw" vD:=by
 refine fk ["curve", "line", "rows"] T.f40 T.z ?_;intro _ _ _ _ _ _ _ hr nd hc z;exact au (GC 2<|Bt (cV T)<|a1<|vV 0)<|aD<|aM<|Bt (cZ T)<|a2 (Bt (jh T)<|a2 (Bt (lE T)<|a1<|vV 2)<|vV 1)<|Bt (qH T)<|a1<|vV 2
theorem yZ:Fk P w K mg base 16 "other_raw" tB:=by
 refine fk ["curve", "one", "other", "rows", "own", "shared"] T.f41 T.z ?_;intro _ _ _ _ _ _ _ hr nd hc z;refine au (GC 3<|Bt (cV T)<|a1<|vV 0) ?_;refine au (GC 4<|Bt (bK T)<|a3 (vV 3) (vV 2)<|vV 2) ?_;refine au (GC 5<|Bt (kW T)<|a1<|Bt (bK T)<|a3 (vV 3) (vV 1)<|vV 2) ?_;exact aD<|aM<|Bt (nZ T)<|a2 (Bt (cZ T)<|a2 (vV 1)<|vV 4)<|Bt (cZ T)<|a2 (vV 2)<|vV 5
theorem Te:Fk P w K mg base 18 "raw" O8:=by
 refine fk (k:=17) ["rows", "things", "k", "word", "told"] T.f42 T.z ?_;intro _ _ _ _ _ _ _ hr nd hc z;refine au (GC 3<|Bu (Bu (vV 0)<|vV 2) aB) ?_;refine au (XJ [1] (i:=4) (by assumption) (by rfl) (by exact Or.inl rfl) hh (cQ<|by rfl) Py (Pn<|cQ<|by rfl) (bU<|Xr (Bu (vV 0)<|vV 2) (Bf aB) Cd) (λ_ _ _ _=>gJ)<|λ_ _ _ _=>(Bu (vV 1)<|vV 0)) ?_;refine au (cg (Hh (ni qq) (vV 3) aX) (aD<|aM<|Bt (zY T)<|a1<|vV 4) aY) ?_;refine au (cg (Hh (ni qq) (vV 3) aX) (aD<|aM<|Bt (jh T)<|a2 (Bt (cV T)<|a1<|Bu (vV 4) aB)<|Bu (vV 4) aB) aY) ?_;refine au (cg (Hh (ni qq) (vV 3) aX) (aD<|aM<|Bt (ahv T)<|a2 (Bu (vV 4) aB)<|Bu (vV 4) aB) aY) ?_;refine au (cg (Hh (ni qq) (vV 3) aX) (aD<|aM<|Bt (yZ T)<|a3 (Bu (vV 4) aB) (Bu (vV 4) aB)<|Bu (vV 4) aB) aY) ?_;exact aD<|aM<|Bt (bT T)<|a2 (Bu (vV 4) aB)<|Bu (vV 4) aB
theorem SX:Fk P w K mg base 16 "tie" Ph:=by
 refine fk ["rows", "things", "k", "spot"] T.f43 T.z ?_;intro _ _ _ _ _ _ _ hr nd hc z;exact au (GC 3<|Bu (vV 1)<|Bu (Bu (vV 0)<|vV 2) aB)<|aD<|aM<|Bt (bK T)<|a3 (Bt (cV T)<|a1<|Bu (vV 1)<|Bu (Bu (vV 0)<|vV 2) aB) (vV 3)<|vV 3
theorem za:Fk P w K mg base 15 "same_sums" uc:=by
 refine fk (k:=14) ["one", "other"] T.f44 T.z ?_;intro _ _ _ _ _ _ _ hr nd hc z;refine au (cg (Hh (ni qq) (Hl fU MP<|a1<|vV 0) aB) (aD<|aM<|dct rZ W6<|a1<|Bt (bT T)<|a2 (vV 0)<|vV 1) aY) ?_;exact aD<|aM<|Pr [0,1] (bU<|Bt (zaR T)<|a2 (Hl fU MP<|a1<|vV 0) aB)<|λ_ _ _ _=>(Bt (d7 T)<|aC (vV 1)<|a3 (vV 2) (Bu (vV 0) aB)<|Bu (vV 0) aB)
theorem zaZ:Fk P w K mg base 16 "on_sum" Fp:=by
 refine fk (k:=15) ["rows", "claim", "told"] T.f45 T.z ?_;intro _ _ _ _ _ _ _ hr nd hc z;refine au (cg (Hh (ni qq) (Bt (vf T)<|a2 (vV 0)<|Bu (vV 1) aB) aX) (aD<|aM<|Bt (dR T)<|a2 (Bu (vV 2) aB)<|Bu (vV 2) aB) aY) ?_;exact aD<|aM<|Bt (bK T)<|a3 (Bt (cV T)<|a1<|Bu (vV 2) aB) (Bu (vV 2) aB)<|Bu (vV 2) aB
theorem nj:Fk P w K mg base 17 "claim_sums" iw:=by
 refine fk (k:=16) ["rows", "things", "claim", "told"] T.f46 T.z ?_;intro _ _ _ _ _ _ _ hr nd hc z;refine au (XJ [1] (i:=3) (by assumption) (by rfl) (by exact Or.inl rfl) hh (cQ<|by rfl) Py (Pn<|cQ<|by rfl) (bU<|Xr (vV 2) (Bf aB) Cd) (λ_ _ _ _=>gJ)<|λ_ _ _ _=>(Bu (vV 1)<|vV 0)) ?_;refine au (cg (Hh (ni qq) (Bu (vV 2) aB) aX) (aD<|aM<|Bt (za T)<|a2 (Bu (vV 3) aB)<|Bu (vV 3) aB) aY) ?_;refine au (cg (Hh (ni qq) (Bu (vV 2) aB) aX) (aD<|aM<|gC<|a1<|Bt (zaZ T)<|a3 (vV 0) (vV 2)<|vV 3) aY) ?_;refine au (cg (Hh (ni qq) (Bu (vV 2) aB) aX) (aD<|aM<|gC<|a1<|Bt (bK T)<|a3 (Bt (lE T)<|a1<|Bt (cV T)<|a1<|Bu (vV 3) aB) (Bu (vV 3) aB)<|Bu (vV 3) aB) aY) ?_;refine au (cg (Hh (ni qq) (Bu (vV 2) aB) aX) (aD<|aM<|gC<|a1<|Bt (qH T)<|a1<|Bt (cV T)<|a1<|Bu (vV 3) aB) aY) ?_;exact aD<|aM<|gC<|a1<|Bt (tV T)<|a3 (Bu (vV 3) aB) (Bu (vV 3) aB)<|Bu (vV 3) aB
theorem j7:Fk P w K mg base 10 "first_sum" lY:=by
 refine fk (k:=9) ["some"] T.f47 T.z ?_;intro _ _ _ _ _ _ _ hr nd hc z;exact aD<|aM<|Bu (dl1 [] (bU<|vV 0) (λ_ _ _ _=>(oX<|c7<|vV 0))<|λ_ _ _ _=>(vV 0)) aB
theorem zai:Fk P w K mg base 14 "entry_of" oG:=by
 refine fk (k:=13) ["made", "thing"] T.f48 T.z ?_;intro _ _ _ _ _ _ _ hr nd hc z;refine au (GC 1<|Bt (ahc T)<|a1<|vV 0) ?_;exact aD<|aM<|aO<|a2 (vV 1)<|Bt (aiD T)<|a2 (Bt (j7 T)<|a1<|vV 0)<|Bt (j7 T)<|a1<|vV 1
theorem zat:Fk P w K mg base 19 "row_raw" zH:=by
 refine fk (k:=18) ["rows", "things", "k"] T.f49 T.z ?_;intro _ _ _ _ _ _ _ hr nd hc z;refine au (cg (Tt (Hh (ni qq) (Bu (Bu (vV 0)<|vV 2) aB) aX)<|Je<|Hh (Bk qq) (Bt (SX T)<|a3 (vV 0) (vV 1)<|vV 2)<|aO fD).pt (aD kJ) aY) ?_;exact aD<|aM<|Bt (Te T)<|a3 (vV 0) (vV 1)<|vV 2
theorem zaX:Fk P w K mg base 18 "answer" Ef:=by
 refine fk (k:=17) ["rows", "claim", "paper", "made", "failing"] T.f50 T.z ?_;intro _ _ _ _ _ _ _ hr nd hc z;refine au (XJ [] (i:=4) (by assumption) (by rfl) (by exact Or.inl rfl) hh (cQ<|by rfl) Py (Pn<|cQ<|by rfl) (bU<|Bt (nj T)<|a3 (vV 0) (Pr [] (bU<|vV 2)<|λ_ _ _ _=>(Bu (vV 0) aB))<|vV 1) (λ_ _ _ _=>(oX<|c7<|vV 0))<|λ_ _ _ _=>(vV 0)) ?_;refine au (cg (iC<|c7<|vV 4) (aD<|aM<|aO<|a2 aX<|vV 2) aY) ?_;exact aD<|aM<|aO<|a2 aX<|Bt (aiQ T)<|a2 (dW cF (vV 3)<|Xr (vV 4) Cd<|Bf aB)<|Bt (eO T)<|a1<|vV 0
theorem zau:Fk P w K mg base 20 "decided" jX:=by
 refine fk (k:=19) ["rows", "claim", "paper", "made", "k", "sums"] T.f51 T.z ?_;intro _ _ _ _ _ _ _ hr nd hc z;refine au (GC 2<|lN fD) ?_;refine au (GC 3<|lN fD) ?_;refine au (gk Pb hh (Ru<|a1<|Hl fU MP<|a1<|vV 0) (Kh 4)<|aD<|cg (Hh (ni qq) (Bu (Bu (vV 0)<|vV 4) aB) aX) (aD<|eV<|jm (vV 2) (a1<|aO<|a2 (Bt (n6 T)<|a2 (vV 0)<|vV 4)<|Bt (gw T)<|a2 aB<|Bt (eO T)<|a1<|vV 0) (by rfl) (qL<|by rfl) (by rfl) (bw<|by rfl)<|by rfl)<|au (GC 5<|Bt (zat T)<|a3 (vV 0) (Pr [] (bU<|vV 2)<|λ_ _ _ _=>(Bu (vV 0) aB))<|vV 4)<|au (cg (iC<|c7<|Hl (TQ hh) boot_any<|a1<|vV 5) (aD<|aM<|aO<|a2 aX<|vV 4) aY)<|au (eV<|jm (vV 2) (a1<|Bt (zai T)<|a1<|vV 5) (by rfl) (qL<|by rfl) (by rfl) (bw<|by rfl)<|by rfl)<|aD<|eV<|jm (vV 3) (a1<|Bt (j7 T)<|a1<|vV 5) (by rfl) (qL<|by rfl) (by rfl) (bw<|by rfl)<|by rfl) ?_;exact aD<|aM<|Bt (zaX T)<|aC (vV 0)<|a3 (vV 1) (vV 2)<|vV 3
theorem zan:Fk P w K mg base 11 "due_sums" vA:=by
 refine fk (k:=10) ["rows", "k"] T.f52 T.z ?_;intro _ _ _ _ _ _ _ hr nd hc z;exact aD<|aM<|ac3 (Hh (ni qq) (Bt (vf T)<|a2 (vV 0)<|vV 1) aX) aB aB
theorem o9:Fk P w K mg base 19 "is_right_entry" jE:=by
 refine fk (k:=18) ["rows", "things", "k", "entry", "made"] T.f53 T.z ?_;intro _ _ _ _ _ _ _ hr nd hc z;refine au (cg (Hh (Bk qq) (Hl fU MP<|a1<|Bu (vV 3) aB)<|Bt (zan T)<|a2 (vV 0)<|vV 2) (aD<|aM Aq) aY) ?_;refine au (cg (Hh (ni qq) (Bu (Bu (vV 0)<|vV 2) aB) aX) (aD<|aM<|Vq (ni qq) (vV 3)<|aO<|a2 (Bt (n6 T)<|a2 (vV 0)<|vV 2)<|Bt (gw T)<|a2 aB<|Bt (eO T)<|a1<|vV 0) aY) ?_;refine au (cg (Tt (Hh (ni qq) (Bu (Bu (vV 0)<|vV 2) aB) aX)<|Je<|Hh (Bk qq) (Bt (SX T)<|a3 (vV 0) (vV 1)<|vV 2)<|aO fD).pt (aD<|aM Aq) aY) ?_;refine au (GC 4<|Bt (Te T)<|a3 (vV 0) (vV 1)<|vV 2) ?_;exact aD<|aM<|Z8 (Hl (TQ hh) boot_any<|a1<|vV 4)<|aa0<|Vq (ni qq) (vV 4)<|Bt (cZ T)<|a2 (Bu (vV 3) aB)<|Bu (vV 3) aB
theorem pF:Fk P w K mg base 20 "is_right_paper" dG:=by
 refine fk (k:=19) ["rows", "claim", "paper", "things", "k", "entry"] T.f54 T.z ?_;intro _ _ _ _ _ _ _ hr nd hc z;refine au (cg (Hh (Bk qq) (Hl fU MP<|a1<|vV 2)<|Hl fU MP<|a1<|vV 0) (aD<|aM Aq) aY) ?_;refine au (GC 3<|lN fD) ?_;refine au (gk Pb hh (aiV (by rfl) (by exact T.z _ (by decide)) (a1<|vV 2) (bw<|by rfl)<|bZ<|by rfl) (jy hh<|bJ (Kh 4)<|bJ (Kh 5) jl)<|au (cg (iC<|c7<|Bt (o9 T)<|aC (vV 0)<|a3 (vV 3) (vV 4)<|vV 5) (aD<|aM Aq) aY)<|aD<|eV<|jm (vV 3) (a1<|Bu (vV 5) aB) (by rfl) (qL<|by rfl) (by rfl) (bw<|by rfl)<|by rfl) ?_;exact aD<|aM<|aeS<|Hl (abk hh) boot_any<|a1<|Bt (nj T)<|a3 (vV 0) (vV 3)<|vV 1
theorem uV:Fk P w K mg base 21 "lets_by" tG:=by
 refine fk (k:=20) ["rows", "claim", "paper", "right"] T.f55 T.z ?_;intro _ _ _ _ _ _ _ hr nd hc z;obtain⟨_,_,_,o_is_right_paper,dG,k_is_right_paper,b_is_right_paper⟩:=pF T;refine au ((J5 (by rfl) T.xm_TooMuch T.xd_TooMuch ⟨rfl,rfl⟩ rfl (λamD xe U0=>(Gn (Ux (DX (i:=3) nd (by rfl) (by exact Or.inl rfl) (Le (o_is_right_paper.mono (by decide)) hr (by rfl) (by exact dG) (by exact k_is_right_paper) (by exact b_is_right_paper) (o8 (dv 0 (pv 0)) (o8 (dv 1 (pv 1)) (o8 (dv 2 (pv 2)) fD (bw (by rfl))) (bw (by rfl))) (bw (by rfl))) (by decide) (bw (by rfl)) (bZ (by rfl))))))) (λa H0 xe=>by
  have hr:=DR (a:=a) hr (by decide);exact(aD (aM Aq))))) ?_
 exact aD<|aM<|vV 3
theorem ahu:Fk P w K mg base 10 "_law_cell" Eh:=by
 refine fk (k:=9) ["_law_script", "_law_k"] T.f56 T.z ?_;intro _ _ _ _ _ _ _ hr nd hc z;refine au (cg (Hh adh (vV 1)<|Hl fU MP<|a1<|vV 0) (aD<|aM<|Bu (vV 0)<|vV 1) aY) ?_;exact aD<|aM aB
theorem zbE:Fk P w K mg base 10 "_law_bag" Mf:=by
 refine fk (k:=9) ["_law_cell_here"] T.f57 T.z ?_;intro _ _ _ _ _ _ _ hr nd hc z;exact aD<|aM<|lN<|a2 (dW akE (Hl Oc boot_abs<|a1<|vV 0)<|dct ad3 boot_int<|a1<|Vq agv (Hl Oc boot_abs<|a1<|vV 0)<|dW ael aB aB)<|dW yM (Hl Oc boot_abs<|a1<|vV 0) aB
theorem yw:Fk P w K mg base 10 "_law_draw" Gj:=by
 refine fk (k:=9) ["_law_bag_here", "_law_many", "_law_found"] T.f58 T.z ?_;intro _ _ _ _ _ _ _ hr nd hc z;refine au (cg (Hh YB (Bu (vV 0) aB) aB) (au (GC 2<|dW yM (Bu (vV 0) aB)<|vV 1)<|au (sy (dW Gz (Bu (vV 0) aB)<|vV 1)<|zB (vV 0) aB set_list Gu)<|aD<|aM<|vV 2) aY) ?_;refine au (sy (dW yM (dW cF (dW wA (Bu (vV 0) aB) aB) aB) aB)<|zB (vV 0) aB set_list Gu) ?_;exact aD<|aM<|dW yM (dW Gz (dW yM (dW wA (Bu (vV 0) aB)<|dW cF (dW Gz (Bu (vV 0) aB) aB) aB) aB) aB)<|vV 1
theorem qQ:Fk P w K mg base 10 "_law_perspective" j8:=by
 refine fk (k:=9) ["_law_o", "_law_a", "_law_b", "_law_c", "_law_x", "_law_rows"] T.f59 T.z ?_;intro _ _ _ _ _ _ _ hr nd hc z;refine au ?_ ?_;with_reducible exact GC 5 (dW cF (Pr [] (Ru (a1 aB)) (λ_ _ _ _=>(aO (a1 aX)))) (gC (a3 (aO (a3 aX (vV 0) (vV 1))) (aO (a3 aX (vV 0) (vV 2))) (aO (a3 aX (vV 0) (vV 3))))))
 refine au ?_ ?_;with_reducible exact GC 5 (dW cF (vV 5) (gC (aC (aO (a3 aX (vV 4) (vV 2))) (aC (aO (a3 aX aB aB)) (aC (aO (a3 aX (vV 4) (vV 3))) (a3 (aO (a3 aX aB aB)) (aO (a3 aX (vV 4) (vV 1))) (aO (a3 aX aB aB))))))))
 refine au ?_ ?_;with_reducible exact GC 5 (dW cF (vV 5) (gC (aC (aO (a3 aX (vV 1) (vV 2))) (aC (aO (a3 aX aB aB)) (a3 (aO (a3 aX aB aB)) (aO (a3 aX (vV 2) (vV 3))) (aO (a3 aX aB aB)))))))
 refine au ?_ ?_;with_reducible exact GC 5 (dW cF (vV 5) (gC (aC (aO (a3 aX aB aB)) (a3 (aO (a3 aX (vV 3) (vV 1))) (aO (a3 aX aB aB)) (aO (a3 aX aB aB))))))
 refine aD ?_;with_reducible exact aM (aO (a2 (vV 5) (aO (aC aX (a3 aB aB aB)))))
theorem uP:Fk P w K mg base 10 "_law_two_lines" nJ:=by
 refine fk (k:=9) ["_law_a", "_law_b", "_law_c", "_law_d", "_law_x", "_law_rows"] T.f60 T.z ?_;intro _ _ _ _ _ _ _ hr nd hc z;refine au ?_ ?_;with_reducible exact GC 5 (dW cF (Pr [] (Ru (a1 aB)) (λ_ _ _ _=>(aO (a1 aX)))) (gC (aC (aO (a3 aX (vV 0) (vV 1))) (a3 (aO (a3 aX (vV 2) (vV 3))) (aO (a3 aX (vV 4) (vV 2))) (aO (a3 aX aB aB))))))
 refine au ?_ ?_;with_reducible exact GC 5 (dW cF (vV 5) (gC (aC (aO (a3 aX (vV 4) (vV 0))) (aC (aO (a3 aX aB aB)) (a3 (aO (a3 aX (vV 0) (vV 3))) (aO (a3 aX (vV 2) (vV 1))) (aO (a3 aX aB aB)))))))
 refine au ?_ ?_;with_reducible exact GC 5 (dW cF (vV 5) (gC (aC (aO (a3 aX (vV 0) aB)) (aC (aO (a3 aX (vV 2) aB)) (a3 (aO (a3 aX aB aB)) (aO (a3 aX (vV 1) aB)) (aO (a3 aX (vV 3) aB)))))))
 refine aD ?_;with_reducible exact aM (aO (a2 (dW cF (vV 5) (gC (a1 (aO (a3 aX aB aB))))) (aO (aC aX (a3 aB aB aB)))))
theorem ahi:Fk P w K mg base 10 "_law_road" Dv:=by
 refine fk (k:=9) ["_law_p", "_law_q", "_law_r", "_law_s", "_law_t", "_law_rows"] T.f61 T.z ?_;intro _ _ _ _ _ _ _ hr nd hc z;refine au ?_ ?_;with_reducible exact GC 5 (dW cF (Pr [] (Ru (a1 aB)) (λ_ _ _ _=>(aO (a1 aX)))) (gC (aC (aO (aC aX (aC aB (aC aB (a3 aB aB aB))))) (a3 (aO (a3 aX (vV 1) (vV 2))) (aO (a3 aX (vV 3) (vV 4))) (aO (a3 aX aB aB))))))
 refine au ?_ ?_;with_reducible exact GC 5 (dW cF (vV 5) (gC (aC (aO (aC aX (a3 aB (vV 0) aB))) (aC (aO (a3 aX (vV 0) (vV 1))) (a3 (aO (a3 aX (vV 3) (vV 4))) (aO (a3 aX aB aB)) (aO (a3 aX (vV 1) (vV 2))))))))
 refine au ?_ ?_;with_reducible exact GC 5 (dW cF (vV 5) (gC (aC (aO (a3 aX (vV 4) aB)) (aC (aO (a3 aX aB aB)) (a3 (aO (a3 aX (vV 2) (vV 3))) (aO (a3 aX aB (vV 0))) (aO (a3 aX aB aB)))))))
 refine aD ?_;with_reducible exact aM (aO (a2 (vV 5) (aO (aC aX (a3 aB aB aB)))))
theorem agV:Fk P w K mg base 10 "_law_short" xT:=by
 refine fk (k:=9) ["_law_way", "_law_p", "_law_q", "_law_r", "_law_s", "_law_t", "_law_rows"] T.f62 T.z ?_;intro _ _ _ _ _ _ _ hr nd hc z;refine au ?_ ?_;with_reducible exact GC 6 (dW cF (Pr [] (Ru (a1 aB)) (λ_ _ _ _=>(aO (a1 aX)))) (gC (aC (aO (aC aX (aC aB (aC aB (a3 aB aB aB))))) (a3 (aO (a3 aX (vV 1) (vV 2))) (aO (a3 aX (vV 3) (vV 4))) (aO (a3 aX aB aB))))))
 refine au ?_ ?_;with_reducible exact cg (Hh (ni qq) (vV 0) aB) (aD (aM (aO (a2 (dW cF (vV 6) (gC (a2 (aO (a3 aX aB aB)) (aO (a3 aX aB aB))))) (aO (a3 aX aB aB)))))) aY
 refine au ?_ ?_;with_reducible exact cg (Hh (ni qq) (vV 0) aB) (aD (aM (aO (a2 (dW cF (vV 6) (gC (a3 (aO (a3 aX aB (vV 5))) (aO (a3 aX aB aB)) (aO (a3 aX aB aB))))) (aO (a3 aX (vV 5) aB)))))) aY
 refine au ?_ ?_;with_reducible exact cg (Hh (ni qq) (vV 0) aB) (aD (aM (aO (a2 (dW cF (vV 6) (gC (a1 (aO (a3 aX aB (vV 1)))))) (aO (a3 aX aB aB)))))) aY
 refine au ?_ ?_;with_reducible exact cg (Hh (ni qq) (vV 0) aB) (aD (aM (aO (a2 (dW cF (vV 6) (gC (a1 (aO (aC aX (aC (vV 1) (aC (vV 2) (a3 aB (vV 3) (vV 5))))))))) (aO (a2 aX aB)))))) aY
 refine aD ?_;try unfold rO
 with_reducible exact aM (aO (a2 (dW cF (vV 6) (gC (a3 (aO (aC aX (a3 aB (vV 1) aB))) (aO (aC aX (a3 aB (vV 3) aB))) (aO (aC aX (aC (vV 2) (aC (vV 3) (a3 (vV 4) (vV 5) (vV 1))))))))) (aO (a3 aX aB aB))))
theorem zaz:Fk P w K mg base 11 "_law_truth" yV:=by
 refine fk (k:=10) ["_law_bag_here", "_law_left", "_law_roles", "_law_p", "_law_q", "_law_r", "_law_s", "_law_t", "_law_way"] T.f63 T.z ?_;intro _ _ _ _ _ _ _ hr nd hc z;refine au (GC 1<|lN<|aC aB<|aC aB<|a3 aB aB aB) ?_;refine au (GC 2<|lN fD) ?_;refine au (wB Pb (Hh (Bk qq) (vV 1)<|gC fD)<|aD<|eV<|jm (vV 2) (a1<|abO (vV 1) (a1<|Bt (yw T)<|a2 (vV 0)<|Hl fU MP<|a1<|vV 1) (by rfl) (qL<|by rfl) (by rfl) (bw<|by rfl)<|by rfl) (by rfl) (qL<|by rfl) (by rfl) (bw<|by rfl)<|by rfl) ?_;refine au (sy (vV 2)<|jy hh<|bJ (Kh 3)<|bJ (Kh 4)<|bJ (Kh 5)<|bJ (Kh 6)<|bJ (Kh 7) jl) ?_;refine au (GC 8<|Bt (yw T)<|a2 (vV 0) aB) ?_;refine au (cg (Hh (ni qq) (vV 8) aB) (aD<|aM<|Bt (qQ T)<|aC (vV 3)<|aC (vV 4)<|a3 (vV 5) (vV 6)<|vV 7) aY) ?_;refine au (cg (Hh (ni qq) (vV 8) aB) (aD<|aM<|Bt (uP T)<|aC (vV 3)<|aC (vV 4)<|a3 (vV 5) (vV 6)<|vV 7) aY) ?_;refine au (cg (Hh (ni qq) (vV 8) aB) (aD<|aM<|Bt (ahi T)<|aC (vV 3)<|aC (vV 4)<|a3 (vV 5) (vV 6)<|vV 7) aY) ?_;exact aD<|aM<|Bt (agV T)<|aC (vV 8)<|aC (vV 3)<|aC (vV 4)<|a3 (vV 5) (vV 6)<|vV 7
theorem ahe:Fk P w K mg base 10 "_law_is_sum" vm:=by
 refine fk (k:=9) ["_law_thing", "_law_term"] T.f64 T.z ?_;intro _ _ _ _ _ _ _ hr nd hc z;refine au (cg (iC<|c7<|Hl wz Vs<|a2 (vV 0)<|dc (jj (v:=.ty "tuple") (by rfl) (by exact T.z _ (by decide)) Pk<|by rfl)<|λ_ _=>by rw[Bq]) (aD<|aM Aq) aY) ?_;refine au (gk Pb hh (bU<|vV 0) (Kh 1)<|au (cg (qK (iC<|c7<|Hl wz Vs<|a2 (vV 1)<|dc (jj (v:=.ty "tuple") (by rfl) (by exact T.z _ (by decide)) Pk<|by rfl)<|λ_ _=>by rw[Bq])<|qK (Hh (Bk qq) (Hl fU MP<|a1<|vV 1) aB)<|qK (iC<|c7<|Hl wz Vs<|a2 (Bu (vV 1) aB)<|dc (jj (v:=.ty "tuple") (by rfl) (by exact T.z _ (by decide)) Pk<|by rfl)<|λ_ _=>by rw[Bq])<|uX<|Hh (Bk qq) (Hl fU MP<|a1<|Bu (vV 1) aB) aB).pt (aD<|aM Aq) aY)<|aD<|cg (qK (iC<|c7<|Hl wz Vs<|a2 (Bu (vV 1) aB)<|dc (jj (v:=.ty "int") (by rfl) (by exact T.z _ (by decide)) boot_int<|by rfl)<|λ_ _=>by rw[Bq])<|uX<|c7<|Hl wz Vs<|a2 (Bu (vV 1) aB)<|dc (jj (v:=.ty "bool") (by rfl) (by exact T.z _ (by decide)) boot_bool<|by rfl)<|λ_ _=>by rw[Bq]).pt (aD<|aM Aq) aY) ?_;exact aD<|aM Aq
theorem jV:Fk P w K mg base 11 "_law_paper_told" lR:=by
 refine fk (k:=10) ["_law_found", "_law_rows", "_law_entry"] T.f65 T.z ?_;intro _ _ _ _ _ _ _ hr nd hc z;refine au (cg (qK (iC<|c7<|Hl wz Vs<|a2 (vV 0)<|dc (jj (v:=.ty "tuple") (by rfl) (by exact T.z _ (by decide)) Pk<|by rfl)<|λ_ _=>by rw[Bq])<|qK (Hh (Bk qq) (Hl fU MP<|a1<|vV 0) aB)<|qK (Hh (Bk qq) (Bu (vV 0) aB) aX)<|uX<|iC<|c7<|Hl wz Vs<|a2 (Bu (vV 0) aB)<|dc (jj (v:=.ty "list") (by rfl) (by exact T.z _ (by decide)) W6<|by rfl)<|λ_ _=>by rw[Bq]).pt (aD<|aM Aq) aY) ?_;refine au (gk Pb hh (bU<|Bu (vV 0) aB) (Kh 2)<|au (cg (qK (iC<|c7<|Hl wz Vs<|a2 (vV 2)<|dc (jj (v:=.ty "tuple") (by rfl) (by exact T.z _ (by decide)) Pk<|by rfl)<|λ_ _=>by rw[Bq])<|qK (Hh (Bk qq) (Hl fU MP<|a1<|vV 2) aB)<|uX<|iC<|c7<|Hl wz Vs<|a2 (Bu (vV 2) aB)<|dc (jj (v:=.ty "tuple") (by rfl) (by exact T.z _ (by decide)) Pk<|by rfl)<|λ_ _=>by rw[Bq]).pt (aD<|aM Aq) aY)<|aD<|cg (Hh YB (Hl fU MP<|a1<|dl1 [] (bU<|dW cF (dct rZ W6<|a1<|Bu (vV 2) aB)<|gC<|a1<|Bu (vV 2) aB) (λ_ _ _ _=>(oX<|iC<|c7<|Bt (ahe T)<|a1<|vV 0))<|λ_ _ _ _=>(vV 0)) aB) (aD<|aM Aq) aY) ?_;exact aD<|aM<|Vq (ni qq) (Hl fU MP<|a1<|Bu (vV 0) aB)<|Hl fU MP<|a1<|vV 1
theorem pW:Fk P w K mg base 21 "_law_decided" sX:=by
 refine fk (k:=20) ["_law_rows", "_law_claim", "_law_found"] T.f66 T.z ?_;intro _ _ _ _ _ _ _ hr nd hc z;obtain⟨_,_,_,o_decided,jX,k_decided,b_decided⟩:=zau T;refine au ((J5 (by rfl) T.xm_EaselError T.xd_EaselError ⟨rfl,rfl⟩ rfl (λamD xe U0=>(Gn (Ux (DX (i:=2) nd (by rfl) (by exact Or.inl rfl) (Le (o_decided.mono (by decide)) hr (by rfl) (by exact jX) (by exact k_decided) (by exact b_decided) (o8 (dv 0 (pv 0)) (o8 (dv 1 (pv 1)) fD (bw (by rfl))) (bw (by rfl))) (by decide) (bw (by rfl)) (bZ (by rfl))))))) (λa H0 xe=>by
  have hr:=DR (a:=a) hr (by decide);exact(aD (DX (i:=2) nd (by rfl) (by exact Or.inl rfl) QM))))) ?_
 exact aD<|aM<|vV 2
theorem aaC {f:Addr}{fd:Oh}(F:W5 K "law" "law" UJ f fd):sE P w K mg base QF 22 f fd ["_law_script"] (lift K Yo):=by
 have S:pI ["_law_script", "_law_rows", "_law_claim", "_law_handed", "_law_found", "_law_again"] ["_law_script"] (cD UJ):=⟨rfl,rfl,rfl,by decide +kernel,rfl,by decide +kernel,by decide +kernel⟩
 refine afC (k:=21) F S λ_ _ _ _ _ _ hr=>?_;have hc:=hr.calm (by decide);have nd:=S.nd;have z:=T.z;refine au (sy (Bt (zaz T)<|a1<|Bt (zbE T)<|a1<|Bt (ahu T)<|a2 (vV 0) aB)<|jy hh<|bJ (Kh 1)<|bJ (Kh 2) jl) ?_;refine au (GC 3<|dct rZ W6<|a1<|vV 1) ?_;refine au (GC 4<|Bt (pW T)<|a2 (vV 3)<|vV 2) ?_;refine au (cg (qK (iC<|c7<|Bt (jV T)<|a2 (vV 4)<|vV 1)<|qK (Hh (Bk qq) (vV 3)<|vV 1)<|uX<|Hh acy (Bt (uV T)<|a3 (dct rZ W6<|a1<|vV 1) (vV 2)<|dct rZ W6<|a1<|Bu (vV 4) aB) Aq).pt (aD<|aM Aq) aY) ?_;refine au (cg (Hh YB (Hl fU MP<|a1<|vV 1) aB) (aD<|aM Aq) aY) ?_;refine au (eV<|adA<|Bu (vV 4) aB) ?_;refine au (GC 5<|Bt (pW T)<|a2 (dct rZ W6<|a1<|vV 1)<|vV 2) ?_;exact aD<|aM<|Z8 (Bt (jV T)<|a2 (vV 5)<|vV 1)<|aa0<|Vq afe (Bt (uV T)<|a3 (dct rZ W6<|a1<|vV 1) (vV 2)<|Bu (vV 5) aB) Aq
end
variable {mg:Str->Option JI}{K:Bl}
def fO (x:Str)(s:Stmt)(oc:JI)(od:Option Addr)(kV dc pm:JI)(an:Option Addr)(cd ct:JI)(sl:Array (Option JI)):Option Obj:=Dn ⟨oc,od,.func (WQ x x (oZ s) (jw s) (cD s) .none kV dc pm an cd ct),sl⟩
def sR (f:Addr):Option (Option JI):=Dn (Dn (.ref f))
def cX (K:Bl)(x:Str)(s:Stmt):Prop:=∃f oc od kV dc pm an cd ct sl,Ku K J4 x=sR f/\K.lookup f=fO x s oc od kV dc pm an cd ct sl/\YK K cd x=true/\RX K (.ref f)=true
theorem Il {x:Str}{s:Stmt}{f:Addr}{oc:JI}{od:Option Addr}{kV dc pm:JI}{an:Option Addr}{cd ct:JI}{sl:Array (Option JI)}(a:Ku K J4 x=sR f)(l:K.lookup f=fO x s oc od kV dc pm an cd ct sl)(c:YK K cd x=true)(k:RX K (.ref f)=true):cX K x s:=⟨f,oc,od,kV,dc,pm,an,cd,ct,sl,a,l,c,k⟩
theorem nl1 {us:List JI}(h:us.length=1):∃a,us=[a]:=match us,h with
 | [a],_=>⟨a,rfl⟩
theorem nl2 {us:List JI}(h:us.length=2):∃a b,us=[a,b]:=match us,h with
 | [a,b],_=>⟨a,b,rfl⟩
theorem nl3 {us:List JI}(h:us.length=3):∃a b c,us=[a,b,c]:=match us,h with
 | [a,b,c],_=>⟨a,b,c,rfl⟩
theorem nl4 {us:List JI}(h:us.length=4):∃a b c d,us=[a,b,c,d]:=match us,h with
 | [a,b,c,d],_=>⟨a,b,c,d,rfl⟩
theorem nl5 {us:List JI}(h:us.length=5):∃a b c d e,us=[a,b,c,d,e]:=match us,h with
 | [a,b,c,d,e],_=>⟨a,b,c,d,e,rfl⟩
theorem nl6 {us:List JI}(h:us.length=6):∃a b c d e f,us=[a,b,c,d,e,f]:=match us,h with
 | [a,b,c,d,e,f],_=>⟨a,b,c,d,e,f,rfl⟩
theorem bB {h:Heap}{x:Str}{st:Stmt}{ps:List Str}(X:K.In h)(G:h.Ns J4 mg)(H:cX K x st)(hb:∀(kV doc pm:JI) (an:Option Addr) (cdv ct:JI) (us:List JI),us.length=ps.length->bindArgs (WQ x x (oZ st) (jw st) (cD st) .none kV doc pm an cdv ct) ⟨us,[]⟩=pure (ps.zip us):=by intro _ _ _ _ _ _ us hl;first|(obtain⟨_,rfl⟩:=nl1 hl;rfl)|(obtain⟨_,_,rfl⟩:=nl2 hl;rfl)|(obtain⟨_,_,_,rfl⟩:=nl3 hl;rfl)|(obtain⟨_,_,_,_,rfl⟩:=nl4 hl;rfl)|(obtain⟨_,_,_,_,_,rfl⟩:=nl5 hl;rfl)|(obtain⟨_,_,_,_,_,_,rfl⟩:=nl6 hl;rfl)):At K mg x st ps:=by
 obtain⟨f,oc,od,kV,dc,pm,an,cd,ct,sl,a,l,c,k⟩:=H;exact⟨f,_,M8 (st:=st) l c k,Ry X G a,(M8 (st:=st) l c k).binds hb⟩
theorem zc {n:Str}{l:List Str}(a:mg n=Go)(b:∀m∈l,mg m=Go):∀m∈n::l,mg m=Go:=by grind
theorem all_mk {l:PySem.W.OpenLaw}{w:CZ}{h:Heap}{fa:Addr}(hlaw:∀ns:List Int,ns.length<=63->Yo [.kls (ns.map W.int)] g0 (λw _=>w=.bl true) EF)(X:K.In h)(G:h.Ns J4 mg)(hfa:mg "law" = Dn (.ref fa))
  (h0:cX K "divisor_of_two" (top 6))
  (h1:cX K "divisor" (top 7))
  (h2:cX K "number_sum" (top 13))
  (h3:cX K "letter_sum" (top 14))
  (h4:cX K "sum_of_totals" (top 15))
  (h5:cX K "with_times" (top 16))
  (h6:cX K "plus" (top 17))
  (h7:cX K "minus" (top 18))
  (h8:cX K "packed" (top 19))
  (h9:cX K "unpacked" (top 20))
  (h10:cX K "packed_terms" (top 21))
  (h11:cX K "check_powers" (top 22))
  (h12:cX K "times" (top 23))
  (h13:cX K "part_of_term" (top 24))
  (h14:cX K "take_away" (top 25))
  (h15:cX K "parted" (top 26))
  (h16:cX K "common" (top 32))
  (h17:cX K "without" (top 33))
  (h18:cX K "ends_below_nought" (top 34))
  (h19:cX K "lighter" (top 35))
  (h20:cX K "kept" (top 37))
  (h21:cX K "rising" (top 40))
  (h22:cX K "sort_of" (top 43))
  (h23:cX K "free_rows" (top 44))
  (h24:cX K "letter_count" (top 46))
  (h25:cX K "free_thing" (top 47))
  (h26:cX K "less_swapped" (top 48))
  (h27:cX K "sum_cross" (top 49))
  (h28:cX K "sum_dot" (top 50))
  (h29:cX K "sum_turn" (top 51))
  (h30:cX K "sums_times" (top 52))
  (h31:cX K "sums_minus" (top 53))
  (h32:cX K "sum_together" (top 54))
  (h33:cX K "doubled" (top 55))
  (h34:cX K "sum_table" (top 56))
  (h35:cX K "turned_rows" (top 57))
  (h36:cX K "rows_times" (top 58))
  (h37:cX K "rows_on_both_sides" (top 59))
  (h38:cX K "rows_size" (top 60))
  (h39:cX K "curve_raw" (top 61))
  (h40:cX K "pole_raw" (top 62))
  (h41:cX K "other_raw" (top 63))
  (h42:cX K "raw" (top 64))
  (h43:cX K "tie" (top 65))
  (h44:cX K "same_sums" (top 66))
  (h45:cX K "on_sum" (top 67))
  (h46:cX K "claim_sums" (top 68))
  (h47:cX K "first_sum" (top 70))
  (h48:cX K "entry_of" (top 71))
  (h49:cX K "row_raw" (top 72))
  (h50:cX K "answer" (top 73))
  (h51:cX K "decided" (top 74))
  (h52:cX K "due_sums" (top 76))
  (h53:cX K "is_right_entry" (top 77))
  (h54:cX K "is_right_paper" (top 78))
  (h55:cX K "lets_by" (top 79))
  (h56:cX K "_law_cell" (top 81))
  (h57:cX K "_law_bag" (top 82))
  (h58:cX K "_law_draw" (top 83))
  (h59:cX K "_law_perspective" (top 84))
  (h60:cX K "_law_two_lines" (top 85))
  (h61:cX K "_law_road" (top 86))
  (h62:cX K "_law_short" (top 87))
  (h63:cX K "_law_truth" (top 88))
  (h64:cX K "_law_is_sum" (top 89))
  (h65:cX K "_law_paper_told" (top 90))
  (h66:cX K "_law_decided" (top 91))
  (h67:cX K "law" (top 92))
  (z_abs:Ku K J4 "abs" = Dn Go)
  (z_any:Ku K J4 "any" = Dn Go)
  (z_bool:Ku K J4 "bool" = Dn Go)
  (z_dict:Ku K J4 "dict" = Dn Go)
  (z_enumerate:Ku K J4 "enumerate" = Dn Go)
  (z_int:Ku K J4 "int" = Dn Go)
  (z_isinstance:Ku K J4 "isinstance" = Dn Go)
  (z_len:Ku K J4 "len" = Dn Go)
  (z_list:Ku K J4 "list" = Dn Go)
  (z_max:Ku K J4 "max" = Dn Go)
  (z_min:Ku K J4 "min" = Dn Go)
  (z_range:Ku K J4 "range" = Dn Go)
  (z_reversed:Ku K J4 "reversed" = Dn Go)
  (z_sorted:Ku K J4 "sorted" = Dn Go)
  (z_tuple:Ku K J4 "tuple" = Dn Go)
  (z_zip:Ku K J4 "zip" = Dn Go)
  {rM:Addr}{nk_MADE:Nat}{t_MADE_0:_}{qk_MADE_0:_}{t_MADE_1:_}{qk_MADE_1:_}{t_MADE_2:_}{qk_MADE_2:_}{t_MADE_3:_}{qk_MADE_3:_}{t_MADE_4:_}{qk_MADE_4:_}{t_MADE_5:_}{qk_MADE_5:_}{t_MADE_6:_}{qk_MADE_6:_}
  (gk_MADE:Ku K J4 "MADE" = Dn (Dn (.ref rM))) (sk_MADE:(rM==PX)=false)
  (lk_MADE:K.lookup rM=Dn ⟨.type "dict",Go,.dict #[⟨WW w.params "free",.str "free" qk_MADE_0,(.str "spot" t_MADE_0)⟩,⟨WW w.params "join",.str "join" qk_MADE_1,(.str "line" t_MADE_1)⟩,⟨WW w.params "meet",.str "meet" qk_MADE_2,(.str "spot" t_MADE_2)⟩,⟨WW w.params "curve",.str "curve" qk_MADE_3,(.str "curve" t_MADE_3)⟩,⟨WW w.params "about",.str "about" qk_MADE_4,(.str "line" t_MADE_4)⟩,⟨WW w.params "pole",.str "pole" qk_MADE_5,(.str "spot" t_MADE_5)⟩,⟨WW w.params "other",.str "other" qk_MADE_6,(.str "spot" t_MADE_6)⟩] nk_MADE,#[]⟩)
  {jT:Addr}{slk_CORNERS:Array (Option JI)}{nk_CORNERS:Nat}{k_CORNERS_0:Addr}{slk_CORNERS_0:Array (Option JI)}{nk_CORNERS_0:Nat}{t_CORNERS_0_0:_}{t_CORNERS_0_1:_}{t_CORNERS_0_2:_}{k_CORNERS_1:Addr}{slk_CORNERS_1:Array (Option JI)}{nk_CORNERS_1:Nat}{t_CORNERS_1_0:_}{t_CORNERS_1_1:_}{t_CORNERS_1_2:_}{k_CORNERS_2:Addr}{slk_CORNERS_2:Array (Option JI)}{nk_CORNERS_2:Nat}{t_CORNERS_2_0:_}{t_CORNERS_2_1:_}{t_CORNERS_2_2:_}{k_CORNERS_3:Addr}{slk_CORNERS_3:Array (Option JI)}{nk_CORNERS_3:Nat}{t_CORNERS_3_0:_}{t_CORNERS_3_1:_}{t_CORNERS_3_2:_}
  (gk_CORNERS:Ku K J4 "CORNERS" = Dn (Dn (.ref jT)))
  (lk_CORNERS:K.lookup jT=Dn ⟨.type "tuple",Go,.seq #[(.ref k_CORNERS_0),(.ref k_CORNERS_1),(.ref k_CORNERS_2),(.ref k_CORNERS_3)] nk_CORNERS,slk_CORNERS⟩)
  (lk_CORNERS_0:K.lookup k_CORNERS_0=Dn ⟨.type "tuple",Go,.seq #[(.int 0 t_CORNERS_0_0),(.int 0 t_CORNERS_0_1),(.int 1 t_CORNERS_0_2)] nk_CORNERS_0,slk_CORNERS_0⟩)
  (lk_CORNERS_1:K.lookup k_CORNERS_1=Dn ⟨.type "tuple",Go,.seq #[(.int 1 t_CORNERS_1_0),(.int 0 t_CORNERS_1_1),(.int 1 t_CORNERS_1_2)] nk_CORNERS_1,slk_CORNERS_1⟩)
  (lk_CORNERS_2:K.lookup k_CORNERS_2=Dn ⟨.type "tuple",Go,.seq #[(.int 0 t_CORNERS_2_0),(.int 1 t_CORNERS_2_1),(.int 1 t_CORNERS_2_2)] nk_CORNERS_2,slk_CORNERS_2⟩)
  (lk_CORNERS_3:K.lookup k_CORNERS_3=Dn ⟨.type "tuple",Go,.seq #[(.int 1 t_CORNERS_3_0),(.int 1 t_CORNERS_3_1),(.int 1 t_CORNERS_3_2)] nk_CORNERS_3,slk_CORNERS_3⟩)
  (g_MOST_TERMS:∃n,Ku K J4 "MOST_TERMS" = Dn (Dn (.int 600 n)))
  (g_MOST_POWER:∃n,Ku K J4 "MOST_POWER" = Dn (Dn (.int 60 n)))
  (g_MOST_PAIRS:∃n,Ku K J4 "MOST_PAIRS" = Dn (Dn (.int 20000 n)))
  (g_FIELD:∃n,Ku K J4 "FIELD" = Dn (Dn (.int 65536 n)))
  {x_EaselError:Addr}
  {x_TooMuch:Addr}
  (gx_EaselError:Ku K J4 "EaselError" = sR x_EaselError) (xd_EaselError:Ig K x_EaselError "EaselError" = true)
  (gx_TooMuch:Ku K J4 "TooMuch" = sR x_TooMuch) (xd_TooMuch:Ig K x_TooMuch "TooMuch" = true)
  : ∃fd:Oh,(∀(s:kI) (v:JI),BindsTo s fd ⟨[v],[]⟩ [("_law_script",v)])/\∀base:Heap,K.In base->base.Ns J4 mg->sE l.prog w K mg base QF 22 fa fd ["_law_script"] (Xg K):=by
 have T:∀base,Txt l.prog w K mg base ⟨x_EaselError,x_TooMuch⟩:=λ_=>⟨bB X G h0,bB X G h1,bB X G h2,bB X G h3,bB X G h4,bB X G h5,bB X G h6,bB X G h7,bB X G h8,bB X G h9,bB X G h10,bB X G h11,bB X G h12,bB X G h13,bB X G h14,bB X G h15,bB X G h16,bB X G h17,bB X G h18,bB X G h19,bB X G h20,bB X G h21,bB X G h22,bB X G h23,bB X G h24,bB X G h25,bB X G h26,bB X G h27,bB X G h28,bB X G h29,bB X G h30,bB X G h31,bB X G h32,bB X G h33,bB X G h34,bB X G h35,bB X G h36,bB X G h37,bB X G h38,bB X G h39,bB X G h40,bB X G h41,bB X G h42,bB X G h43,bB X G h44,bB X G h45,bB X G h46,bB X G h47,bB X G h48,bB X G h49,bB X G h50,bB X G h51,bB X G h52,bB X G h53,bB X G h54,bB X G h55,bB X G h56,bB X G h57,bB X G h58,bB X G h59,bB X G h60,bB X G h61,bB X G h62,bB X G h63,bB X G h64,bB X G h65,bB X G h66,zc (QC X G z_abs) (zc (QC X G z_any) (zc (QC X G z_bool) (zc (QC X G z_dict) (zc (QC X G z_enumerate) (zc (QC X G z_int) (zc (QC X G z_isinstance) (zc (QC X G z_len) (zc (QC X G z_list) (zc (QC X G z_max) (zc (QC X G z_min) (zc (QC X G z_range) (zc (QC X G z_reversed) (zc (QC X G z_sorted) (zc (QC X G z_tuple) (zc (QC X G z_zip) (λ_ h=>nomatch h)))))))))))))))),g_MOST_TERMS.imp λ_ e=>Ry X G e,g_MOST_POWER.imp λ_ e=>Ry X G e,g_MOST_PAIRS.imp λ_ e=>Ry X G e,g_FIELD.imp λ_ e=>Ry X G e,⟨_,Ry X G gk_CORNERS,λ_ _=>((nQ lk_CORNERS (by simp<;>decide) (.cons adg (.cons adg (.cons adg (.cons adg .nil)))) λ_ _=>(lB ((nQ lk_CORNERS_0 (by simp<;>decide) (.cons Ii (.cons Ii (.cons Ii .nil))) λ_ _=>(lB vM (lB vM (lB vM GD)))) _ _) (lB ((nQ lk_CORNERS_1 (by simp<;>decide) (.cons Ii (.cons Ii (.cons Ii .nil))) λ_ _=>(lB vM (lB vM (lB vM GD)))) _ _) (lB ((nQ lk_CORNERS_2 (by simp<;>decide) (.cons Ii (.cons Ii (.cons Ii .nil))) λ_ _=>(lB vM (lB vM (lB vM GD)))) _ _) (lB ((nQ lk_CORNERS_3 (by simp<;>decide) (.cons Ii (.cons Ii (.cons Ii .nil))) λ_ _=>(lB vM (lB vM (lB vM GD)))) _ _) GD))))) _ _)⟩,⟨_,Ry X G gk_MADE,⟨sk_MADE,by decide +kernel,by decide,_,_,lk_MADE,(Dl.cons Vp (λ_ _=>Yl) (Dl.cons Vp (λ_ _=>Yl) (Dl.cons Vp (λ_ _=>Yl) (Dl.cons Vp (λ_ _=>Yl) (Dl.cons Vp (λ_ _=>Yl) (Dl.cons Vp (λ_ _=>Yl) (Dl.cons Vp (λ_ _=>Yl) Dl.nil)))))))⟩⟩,Ry X G gx_EaselError,xd_EaselError,Ry X G gx_TooMuch,xd_TooMuch⟩
 obtain⟨f,oc,od,kV,dc,pm,an,cd,ct,sl,a,l,c,k⟩:=h67;have e:=hfa.symm.trans (Ry X G a);cases e;exact⟨_,λs v=>.of_eq rfl,λbase _ _=>akg hlaw<|aaC (T base)<|M8 (st:=UJ) l c k⟩
variable {XP:(Str->Option JI)->Heap->Prop}
theorem walk {l:PySem.W.OpenLaw}{q:Ci}{loose:List Str}{YP:CZ->Heap->Prop}{d:DefRec}{K:Params->Bl}(hn:l.most=Dn 63)(hdf:d.params.defaults=[])
  (hY:∀(w:CZ) (h:Heap),YP w h->(K w.params).In h)
  (F:∀(w:CZ) (mg:Str->Option JI) (fa:Addr) (h:Heap),(K w.params).In h->h.Ns J4 mg->mg d.name=Dn (.ref fa) ->
   ∃fd:Oh,(∀(s:kI) (u:JI),BindsTo s fd ⟨[u],[]⟩ [("_law_script",u)])/\∀base:Heap,(K w.params).In base->base.Ns J4 mg->sE l.prog w (K w.params) mg base QF 22 fa fd ["_law_script"] (Xg (K w.params))) :
  PySem.W.WalkO q loose XP YP l.row.toRowW d [] (λf vs=>PySem.call f vs):=
 L2.NQ hn (by decide) hdf ⟨λ_=>rfl,by decide,by decide⟩ hY F (λ_ _ a ns hl hO hS=>⟨a,ns,rfl,hS,hO,hl,λ_=>rfl⟩) λ_ _ _ _ _ z=>z
local macro_rules | `(tactic| trivial) => `(tactic| with_reducible exact Sm.lit (by decide))
local macro_rules | `(tactic| trivial) => `(tactic| with_reducible exact Sm.zero)
local macro_rules | `(tactic| trivial) => `(tactic| with_reducible exact Sm.neg (by trivial))
local macro_rules | `(tactic| trivial) => `(tactic| with_reducible exact Sm.sub (by trivial) (by trivial))
local macro_rules | `(tactic| trivial) => `(tactic| with_reducible exact Sm.add (by trivial) (by trivial))
local macro_rules | `(tactic| trivial) => `(tactic| with_reducible exact Sm.mul (by trivial) (by trivial))
local macro_rules | `(tactic| trivial) => `(tactic| with_reducible assumption)
theorem xM (h:Gh)(n:Nat)(c:Cell):(h.set n c).c n=Dn c:=by show(if n=n then Dn c else h.c n)=Dn c;rw[if_pos rfl]
variable {h:Gh}{m n:Nat}
theorem nu {c:Cell}(e:m≠n):(h.set n c).c m=h.c m:=by show(if m=n then Dn c else h.c m)=_;rw[if_neg e]
theorem Iu (h:Gh)(c:Cell):(h.new c).c h.nx=Dn c:=by show(if _=h.nx then Dn c else h.c _)=Dn c;rw[if_pos rfl]
theorem zA {c:Cell}(e:m≠h.nx):(h.new c).c m=h.c m:=by show(if m=h.nx then Dn c else h.c m)=_;rw[if_neg e]
variable {ws:List W}
theorem fj (e:h.c n=Dn (.lst ws)):view h (.loc n)=Dn ws:=by simp[view,eU,e]
def Oth (n:Nat)(h h':Gh):Prop:=h'.nx=h.nx/\∀m,m≠n->h'.c m=h.c m
theorem Oth.set {n:Nat}{h:Gh}{c:Cell}:Oth n h (h.set n c):=⟨rfl,λ_ e=>nu e⟩
theorem kE {a b:Int}(h:0<b):a.fmod b=a % b:=by grind
theorem wH {a b:Int}(h:0<b):a.fdiv b=a / b:=by grind
variable {c:Bool}
theorem Wk {A B:Prop}(e:c=true)(h:A):Ir c A B:=by subst e;exact h
theorem adX {A B:Prop}(e:c=false)(h:B):Ir c A B:=by subst e;exact h
theorem aaE {c:Prop}[Decidable c]{A B:Prop}(h1:c->A)(h2:¬c->B):Ir (decide c) A B:=by
 by_cases h:c
 rw[decide_eq_true h];exact h1 h;rw[decide_eq_false h];exact h2 h
variable {g:MG}{b:MS}
theorem fZ {ws0:List W}{D:bR}(I:Nat->Sw->Gh->Prop)
  (step:∀(i:Nat) (w:W) (U:Sw) (h:Gh) (N:Sw->Gh->Prop),(∀U' h',I (i+1) U' h'->N U' h')->ws[i]?=Dn w->I i U h->g w U h λU1 h1=>b {D with nx:=N,ct:=N,bk:=D.nx} U1 h1)
  (fin:∀U h,I ws.length U h->D.nx U h):∀{U:Sw}{h:Gh},I 0 U h->g8 ⟨ws0,Go⟩ g b D ws U h:=by
 induction ws generalizing I with
 | nil=>intro U h h0;exact fin U h h0
 | cons w ws ih=>
  intro U h h0;exact step 0 w U h _ (λU' h' q=>(ih _ (λi w U h N hN e hi=>step (i+1) w U h N hN (by simpa using e) hi) (λU h q=>fin U h q) q)) rfl h0
variable {te:ME}{tt:MT}{U:Sw}{own:W->Option (List W)}{Q:WK}
theorem dU {ws0:List W}{ix:List Nat}(I:Nat->List W->Gh->Prop)
  (step:∀(i:Nat) (w:W) (acc:List W) (h:Gh) (N:List W->Gh->Prop),(∀acc' h',I (i+1) acc' h'->N acc' h')->ws[i]?=Dn w->I i acc h ->
   ∃vs,own w=Dn vs/\tt (vs.map Dn++mU ix U) h λc h1=>Ir c (te (vs.map Dn++mU ix U) h1 λv h2=>N (acc++[v]) h2) (N acc h1))
  (fin:∀acc h,I ws.length acc h->Q (.lst acc) h):∀{acc:List W}{h:Gh},I 0 acc h->Ar ⟨ws0,Go⟩ own ix tt te U Q ws acc h:=by
 induction ws generalizing I with
 | nil=>intro acc h h0;exact fin acc h h0
 | cons w ws ih=>
  intro acc h h0;obtain⟨vs,ev,q⟩:=step 0 w acc h _ (λacc' h' q=>ih _ (λi w acc h N hN e hi=>step (i+1) w acc h N hN (by simpa using e) hi) (λacc h q=>fin acc h q) q) rfl h0;show(match own w with
   | some vs=>_
   | none=>False)
  rwa[ev]
variable {i:Nat}{w:W}
theorem Ey {lo:Int}(e:(Ax lo n)[i]?=Dn w):i<n/\w=.int (lo+(i:Int)):=by
 have hi:=by
  have:=(O4.mp e).1
  simpa[Ax]using this
 unfold Ax at e
 simp_all
theorem xH {lo:Int}:(Ax lo n).length=n:=by simp[Ax]
variable {j:Int}{ma:MA}
theorem ajF {D:bR}(hm:∀R,ma U h R=R [.int j] h)(h1:-(2^62)<=j)(h2:j<2^62)(I:Nat->Sw->Gh->Prop)
  (step:∀(i:Nat) (U:Sw) (h:Gh) (N:Sw->Gh->Prop),(∀U' h',I (i+1) U' h'->N U' h')->i<j.toNat->I i U h->g (.int (i:Int)) U h λU1 h1=>b {D with nx:=N,ct:=N,bk:=D.nx} U1 h1)
  (fin:∀U h,I j.toNat U h->D.nx U h) (h0:I 0 U h):qP (iZ ma) g b D U h:=by
 unfold qP iZ;rw[hm];refine yI.mk h1 h2 ?_;refine fZ I (λi w U h N hN e hi=>?_) (λU h q=>fin U h (by rw[xH]at q;exact q)) h0;obtain⟨hlt,rfl⟩:=Ey e;rw[Int.zero_add];exact step i U h N hN hlt hi
variable {ns:List Int}
theorem akL {k:Int}(h0:0<=k)(h1:k<((ns.map W.int).length:Int)):Mi (ns.map W.int) k=Dn (.int (ns.getD k.toNat 0)):=by
 have e:(ns.map W.int)[k.toNat]?=Dn (.int (ns.getD k.toNat 0)):=by
  grind
 have:=bN e
 rwa[show((k.toNat:Nat):Int)=k by lia]at this
def gF (f n:Int):Int:=((V8 n f:Nat):Int)
def gL (ns:List Int):Int:=ns.foldl gF 0
theorem Mj (ns:List Int)(n:Int):gL (ns++[n])=gF (gL ns) n:=by unfold gL;rw[Ww];rfl
theorem adG (f n:Int):0<=gF f n:=Int.natCast_nonneg _
theorem aeQ (ns:List Int):0<=gL ns:=by
 rcases List.eq_nil_or_concat ns with rfl|⟨l,a,rfl⟩
 exact Int.le_refl _;rw[List.concat_eq_append,Mj];exact adG _ _
theorem zbt {x y:Int}(hx:0<=x)(hy:0<y):V8 y (x.fmod y)=V8 x y/\0<=x.fmod y/\x.fmod y<y:=by
 rw[Int.fmod_eq_emod_of_nonneg x (Int.le_of_lt hy)];refine⟨?_,YJ _<|by lia,Int.emod_lt_of_pos _ hy⟩;obtain⟨m,rfl⟩:=Int.eq_ofNat_of_zero_le hx;obtain⟨n,rfl⟩:=Int.eq_ofNat_of_zero_le (Int.le_of_lt hy);rw[<-Int.natCast_emod,Int.gcd_natCast_natCast,Int.gcd_natCast_natCast,Nat.gcd_comm m n,Nat.gcd_rec n m,Nat.gcd_comm]
theorem Sd (a:Int):0<=(if a<0 then -a else a):=by lia
theorem abs_eq (a:Int):(if a<0 then -a else a)=(a.natAbs:Int):=by lia
theorem ajO (a b:Int):V8 (if a<0 then -a else a) (if b<0 then -b else b)=V8 a b:=by
 rw[abs_eq,abs_eq];simp[V8]
theorem agL {x:Int}(h:0<=x):((V8 x 0:Nat):Int)=x:=by
 rw[Int.gcd_zero_right];lia
def abe (c:AP):Prop:=∀{h:Gh}{a b:Int}{Q:WK}{E:CQ},Q (.int (gF b a)) h->c [.int a,.int b] h Q E
theorem aeV:abe jz:=by
 intro h a b Q E q;refine⟨λm U h'=>h'=h/\∃x y r,U=[Dn<|.int x,Dn<|.int y,r]/\0<=x/\0<=y/\V8 x y=V8 a b/\m=y.toNat,⟨_,rfl,_,_,Go,rfl,Sd a,Sd b,ajO a b,rfl⟩,?_⟩;rintro m U h' ⟨rfl,x,y,r,rfl,x0,y0,hg,rfl⟩;refine⟨λe=>?_,λe=>?_⟩;have hy:=by simpa[Hg]using e
 obtain⟨g1,g2,g3⟩:=zbt x0 (by lia:0<y);refine⟨hy,(x.fmod y).toNat,by lia,rfl,y,x.fmod y,_,rfl,y0,g2,g1.trans hg,rfl⟩;cases by simpa[Hg]using e
 have:gF b a=x:=by unfold gF;rw[<-hg];exact agL x0
 rwa[this]at q
def Ints (w:W)(ns:List Int):Prop:=w=.lst (ns.map .int)\/w=.tup (ns.map .int)
def zj (c:AP):Prop:=∀{h:Gh}{w:W}{ns:List Int}{Q:WK}{E:CQ},Ints w ns->Q (.int (gL ns)) h->c [w] h Q E
theorem ints_get (e:(ns.map W.int)[i]?=Dn w):∃n,ns[i]?=Dn n/\w=.int n:=by
 rw[HI]at e;grind
theorem zcn {n:Int}(e:ns[i]?=Dn n):gL (ns.take (i+1))=gF (gL (ns.take i)) n:=by
 rw[Jt,e,<-Mj];rfl
theorem ahs {tw:AP}(ht:abe tw):zj (xY tw):=by
 intro h w ns Q E hw q;have key:g8 ⟨ns.map .int,Go⟩ (Mk 2) (bQ (aL tw E (aj (aA 2) (aj (aA 1) aG))) (Mk 1)) {nx:=tR tw E {nx:=λ_ h'=>Q .non h',rt:=λw h'=>Q w h'},rt:=λw h'=>Q w h'} (ns.map .int) [Dn w,Dn (.int 0),Go] h:=by
  refine fZ (λi U h'=>h'=h/\∃o,U=[Dn w,Dn<|.int<|gL<|ns.take i,o]) ?_ ?_ ⟨rfl,Go,rfl⟩;rintro i x U h' N hN e ⟨rfl,o,rfl⟩;obtain⟨n,en,rfl⟩:=ints_get e;refine ht<|hN _ _ ⟨rfl,Dn<|.int n,?_⟩
  rw[zcn en];rfl;rintro U h' ⟨rfl,o,rfl⟩
  rwa[CV,Lj]
 rcases hw with rfl|rfl<;>exact key
variable {f:Int}
theorem aeZ {n:Int}(hf:Sm m f)(hn:Sm m n):Sm m (gF f n):=by
 unfold gF Sm at *;unfold V8;by_cases e:n.natAbs=0
 simp_all
 exact Wz (Nat.gcd_le_left _<|Nat.pos_of_ne_zero e) hn
theorem adQ (h:∀n∈ns,Sm m n):Sm m (gL ns):=by
 have:∀(ns:List Int) (f:Int),Sm m f->(∀n∈ns,Sm m n)->Sm m (ns.foldl gF f):=by
  intro ns;induction ns with
  | nil=>intro f hf _;exact hf
  | cons n ns ih=>intro f hf h;exact ih _ (aeZ hf (h n (by simp))) λx hx=>h x (by simp[hx])
 exact this ns 0 Sm.zero h
def zbf (ns:List Int):Prop:=∃n∈ns,n≠0
theorem T8 (f n:Int):gF f n ∣ f/\gF f n ∣ n:=⟨Int.gcd_dvd_right ..,Int.gcd_dvd_left ..⟩
theorem Ua:∀n∈ns,gL ns ∣ n:=by
 have:∀(ns:List Int) (f:Int),ns.foldl gF f ∣ f/\∀n∈ns,ns.foldl gF f ∣ n:=by
  intro ns;induction ns with
  | nil=>intro f;exact⟨Int.dvd_refl _,nofun⟩
  | cons a ns ih=>
   intro f;obtain⟨h1,h2⟩:=ih _;refine⟨Int.dvd_trans h1 (T8 f a).1,λn hn=>?_⟩;rcases Jz.mp hn with rfl|hn
   exact Int.dvd_trans h1 (T8 f n).2;exact h2 n hn
 exact(this ns 0).2
theorem adT (h:zbf ns):0<gL ns:=by
 have h0:=aeQ ns;obtain⟨n,hn,n0⟩:=h;have hd:=Ua n hn;by_cases e:gL ns=0
 simp_all
 lia
theorem ou (a b:Int):Hg (.int a) (.int b)=(a==b):=rfl
abbrev Tr:=Int×Int×Int
def tl (t:Tr):List Int:=[t.1,t.2.1,t.2.2]
def tw (t:Tr):W:=.tup [.int t.1,.int t.2.1,.int t.2.2]
def sc (k:Int)(t:Tr):Tr:=(t.1*k,t.2.1*k,t.2.2*k)
def crs (p q:Tr):Tr:=(p.2.1*q.2.2-p.2.2*q.2.1,p.2.2*q.1-p.1*q.2.2,p.1*q.2.1-p.2.1*q.1)
def dt3 (p q:Tr):Int:=p.1*q.1+p.2.1*q.2.1+p.2.2*q.2.2
theorem aji (e:h.c n=Dn (.lst ws)):eU h (.loc n)=Dn ws:=by simp[eU,e]
theorem Cw:∀bs:List Bool,Ox (bs.map W.bl)=Dn bs
 | []=>rfl
 | b::bs=>by rw[HY,Ox,Cw bs];rfl
theorem Zb {s:Src}{ix:List Nat}(I:Nat->List W->Gh->Prop)
  (go:∀i acc h,I i acc h->∀P:Prop,P->s.go h P)
  (step:∀(i:Nat) (w:W) (acc:List W) (h:Gh) (N:List W->Gh->Prop),(∀acc' h',I (i+1) acc' h'->N acc' h')->ws[i]?=Dn w->I i acc h ->
   ∃vs,own w=Dn vs/\tt (vs.map Dn++mU ix U) h λc h1=>Ir c (te (vs.map Dn++mU ix U) h1 λv h2=>N (acc++[v]) h2) (N acc h1))
  (fin:∀acc h,I ws.length acc h->Q (.lst acc) h):∀{acc:List W}{h:Gh},I 0 acc h->Ar s own ix tt te U Q ws acc h:=by
 induction ws generalizing I with
 | nil=>intro acc h h0;exact go 0 acc h h0 _ (fin acc h h0)
 | cons w ws ih=>
  intro acc h h0;obtain⟨vs,ev,q⟩:=step 0 w acc h _ (λacc' h' q=>ih _ (λi=>go _) (λi w acc h N hN e hi=>step (i+1) w acc h N hN (by simpa using e) hi) (λacc h q=>fin acc h q) q) rfl h0;refine go 0 acc h h0 _ ?_
  rwa[ev]
theorem xP {s:Src}{D:bR}(I:Nat->Sw->Gh->Prop)(go:∀i U h,I i U h->∀P:Prop,P->s.go h P)
  (step:∀(i:Nat) (w:W) (U:Sw) (h:Gh) (N:Sw->Gh->Prop),(∀U' h',I (i+1) U' h'->N U' h')->ws[i]?=Dn w->I i U h->g w U h λU1 h1=>b {D with nx:=N,ct:=N,bk:=D.nx} U1 h1)
  (fin:∀U h,I ws.length U h->D.nx U h):∀{U:Sw}{h:Gh},I 0 U h->g8 s g b D ws U h:=by
 induction ws generalizing I with
 | nil=>intro U h h0;exact go 0 U h h0 _ (fin U h h0)
 | cons w ws ih=>
  intro U h h0;exact go 0 U h h0 _<|step 0 w U h _ (λU' h' q=>(ih _ (λi=>go<|i+1) (λi w U h N hN e hi=>step _ w U h N hN (by simpa using e) hi) (λU h q=>fin U h q) q)) rfl h0
variable {us:List W}
theorem acf (e:h.c n=Dn (.lst us))(hz:us.length<G6)(k:Q .non (h.set n (.lst (us++[w])))):fL (.loc n) [w] h Q:=by
 show(match h.c n with
  | some (Cell.lst us)=>_
  | _=>False)
 grind
theorem aae {zs:List W}(e:h.c n=Dn (.lst us))(hz:us.length+zs.length<=G6)(k:Q .non (h.set n (.lst (us++zs)))):jR (.loc n) [.lst zs] h Q:=by
 dsimp [jR]
 exact e ▸ gn.mk hz k
theorem T5 {ix:List Nat}(hm:∀R,ma U h R=R [.int j] h)(h1:-(2^62)<=j)(h2:j<2^62)(hz:j.toNat<=G6)(I:Nat->List W->Gh->Prop)
  (step:∀(i:Nat) (acc:List W) (h:Gh) (N:List W->Gh->Prop),(∀acc' h',I (i+1) acc' h'->N acc' h')->i<j.toNat->I i acc h ->
   ∃vs,own (.int (i:Int))=Dn vs/\tt (vs.map Dn++mU ix U) h λc h1=>Ir c (te (vs.map Dn++mU ix U) h1 λv h2=>N (acc++[v]) h2) (N acc h1))
  (fin:∀acc h,I j.toNat acc h->Q (.lst acc) h) (h0:I 0 [] h):HJ own ix (iZ ma) tt te U h Q:=by
 unfold HJ iZ;rw[hm];refine yI.mk h1 h2<|gn.mk (xH ▸ hz) ?_
 refine dU I (λi w acc h N hN e hi=>?_) (λacc h q=>fin acc h (by rw[xH]at q;exact q)) h0;obtain⟨hlt,rfl⟩:=Ey e;rw[Int.zero_add];exact step i acc h N hN hlt hi
theorem Js (a b:Str):Hg (.str a) (.str b)=(a==b):=rfl
def Bag (h:Gh)(n:Nat):Prop:=∃a b,h.c n=Dn (.lst [.int a,.int b])/\0<=b/\b<2147483647
def Sy (c:AP):Prop:=∀{h:Gh}{n:Nat}{many:Int}{Q:WK}{E:CQ},Bag h n->0<many->Sm 60 many->(∀d h',0<=d->d<many->Bag h' n->Oth n h h'->Q (.int d) h')->c [.loc n,.int many] h Q E
theorem abj:Sy Eb:=by
 intro h n many Q E hb hm hs k;obtain⟨a,b,e,b0,b1⟩:=hb;have hm0:many≠0:=by lia
 have ev:=fj e;have bag:∀{h':Gh}{a b:Int},h'.c n=Dn (.lst [.int a,.int b])->0<=b->b<2147483647->Bag h' n:=λe h0 h1=>⟨_,_,e,h0,h1⟩
 show(match view h (.loc n)with
  | some ws=>_
  | none=>False)
 rw[ev];refine Bp (λ_=>?_)<|λ_=>?_
 ·show(match view h (.loc n)with
   | some ws=>_
   | none=>False)
  rw[ev];refine And.intro hm0 ?_;show(match view h (.loc n)with
   | some ws=>_
   | none=>False)
  rw[ev];refine And.intro ⟨hm0,60,by decide,hs⟩ ?_;show(match h.c n with
   | some (Cell.lst ws)=>_
   | _=>False)
  rw[e];rw[kE hm];exact k _ _ (YJ _ hm0) (Int.emod_lt_of_pos _ hm) (bag (xM _ _ _) b0 b1) Oth.set
 ·show(match view h (.loc n)with
   | some ws=>_
   | none=>False)
  rw[ev];refine And.intro (.of (m:=31) (n:=64) (Hy (by lia)<|by lia) (.lit rfl) (by decide)<|by decide) ?_;refine And.intro (show(2147483647:Int)≠0 by decide) ?_;show(match h.c n with
   | some (Cell.lst ws)=>_
   | _=>False)
  rw[e];have c0:0<=(b*48271+11).fmod 2147483647:=by rw[kE (by decide)];exact YJ _ (by decide)
  have c1:(b*48271+11).fmod 2147483647<2147483647:=by rw[kE (by decide)];exact Int.emod_lt_of_pos _ (by decide)
  have e2:(h.set n (.lst [.int a,.int ((b*48271+11).fmod 2147483647)])).c n=Dn (.lst [.int a,.int ((b*48271+11).fmod 2147483647)]):=xM _ _ _;have ev2:=fj e2;have o2:Oth n h (h.set n (.lst [.int a,.int ((b*48271+11).fmod 2147483647)])):=Oth.set;show(match view (h.set n (.lst [.int a,.int ((b*48271+11).fmod 2147483647)])) (.loc n)with
   | some ws=>_
   | none=>False)
  rw[ev2];show(match view (h.set n (.lst [.int a,.int ((b*48271+11).fmod 2147483647)])) (.loc n)with
   | some ws=>_
   | none=>False)
  rw[ev2];generalize(b*48271+11).fmod 2147483647=c at *;refine And.intro ⟨by decide,64,by decide,.lit rfl⟩ ?_;have q0:0<=c.fdiv 65536:=by rw[wH (by decide)];lia
  have q1:c.fdiv 65536<2147483647:=by rw[wH (by decide)];lia
  refine And.intro (.of (m:=31) (n:=40) (Hy (by lia)<|by lia) (Hy (by lia)<|by lia) (by decide)<|by decide) ?_;refine And.intro (show(2147483629:Int)≠0 by decide) ?_;refine And.intro ⟨by decide,64,by decide,.lit rfl⟩ ?_;refine And.intro hm0 ?_;rw[kE hm];exact k _ _ (YJ _ hm0) (Int.emod_lt_of_pos _ hm) (bag e2 c0 c1) o2
def K7 (c:AP):Prop:=∀{h:Gh}{ns:List Int}{k:Int}{Q:WK}{E:CQ},0<=k->Q (.int (ns.getD k.toNat 0)) h->c [.kls (ns.map .int),.int k] h Q E
theorem aaP:K7 FZ:=by
 intro h ns k Q E h0 q;refine Bp (λhk=>?_)<|λhk=>?_
 conv=>whnf
 rwa[akL h0 hk]
 have e:ns.getD k.toNat 0=0:=by
  grind
 rwa[e]at q
def tK (Q:Bool->Gh->Prop):WK:=λw h=>match w with
 | .bl c=>Q c h
 | _=>False
def uK (Q:Bool->Gh->Prop):WK:=λw h=>match abF h w with
 | some b=>Q b h
 | none=>False
def aK (b:ME)(U:Sw)(Q:WK):WK:=λx h=>match x with
 | .bl true=>b U h Q
 | .bl false=>Q (.bl false) h
 | _=>False
def oK (b:ME)(U:Sw)(Q:WK):WK:=λx h=>match x with
 | .bl false=>b U h Q
 | .bl true=>Q (.bl true) h
 | _=>False
def nK (Q:WK):WK:=λx h=>match x with
 | .bl c=>Q (.bl (!c)) h
 | _=>False
def iK (R:Src->Gh->Prop):WK:=λw h=>match J7 h w with
 | some s=>R s h
 | none=>False
def xK (f:Str->Bool)(Q:WK):WK:=λw h=>match w with
 | .exc n=>Q (.bl (f n)) h
 | .exa n _=>Q (.bl (f n)) h
 | _=>False
def pK (Q:Option Int->Gh->Prop):WK:=λw h=>match w with
 | .int i=>Q (Dn i) h
 | _=>False
def adp (g:MG)(b:MS)(D:bR)(U:Sw):Src->Gh->Prop:=λs h=>g8 s g b D s.ws U h
def lcK (own:W->Option (List W))(ix:List Nat)(tt:MT)(te:ME)(U:Sw)(Q:WK):Src->Gh->Prop:=λs h=>gn s.ws.length (Ar s own ix tt te U Q s.ws [] h)
def rgK (R:Src->Gh->Prop):List W->Gh->Prop:=λws h=>match ws with
 | [.int j]=>yI j (R ⟨Ax 0 j.toNat,Go⟩ h)
 | _=>False
def zpK (R:Src->Gh->Prop):List W->Gh->Prop:=λws h=>match ws with
 | [x,y]=>(match J9 h x y with
  | some s=>R s h
  | none=>False)
 | _=>False
theorem aJ {m u:MS}{D:bR}(x:m {D with nx:=u D} U h):bA m u D U h:=x
variable {N:Sw->Gh->Prop}
theorem bx {b c:Sw->Gh->Prop}{r:WK}(x:N U h):bR.nx ⟨N,r,b,c⟩ U h:=x
theorem eN {b c:Sw->Gh->Prop}{r:WK}(x:r w h):bR.rt ⟨N,r,b,c⟩ w h:=x
theorem aQ {D:bR}(x:D.nx U h):bV D U h:=x
theorem aU {m:ME}{D:bR}(x:m U h λw h1=>g w U h1 D.nx):bQ m g D U h:=x
theorem d9 {m:ME}{D:bR}(x:m U h λ_ h1=>D.nx U h1):kZ m D U h:=x
theorem aR {m:ME}{D:bR}(x:m U h D.rt):bM m D U h:=x
variable {E:CQ}
theorem kj {c:Str}{D:bR}(x:E ⟨c,[]⟩ h):p8 c E D U h:=x
theorem bf {t:MT}{a:MS}{D:bR}(x:t U h λc h1=>br c (a D U h1) (b D U h1)):fK t a b D U h:=x
theorem RP {t:MT}{a b:ME}(x:t U h λc h1=>br c (a U h1 Q) (b U h1 Q)):Vn t a b U h Q:=x
variable {d:Str}
theorem jx {g:QX}(e:w=.tup ws)(b:JM ws.length n=true)(x:g ws U h N):lC n g w U h N:=by
 subst e;unfold lC;dsimp only
 rwa[b]
theorem cC {r:QX}(x:g w U h λU1 h1=>r ws U1 h1 N):fY g r (w::ws) U h N:=x
theorem qb (x:N U h):Ik [] U h N:=x
theorem ao (e:U[i]?=Dn (Dn w))(x:Q w h):aA i U h Q:=by
 unfold aA
 rwa[e]
theorem aV (x:Q w h):mC w U h Q:=x
theorem aH {r:M2}{ma mb:ME}(x:ma U h λa h1=>mb U h1 λb h2=>r a b h2 Q):Af r ma mb U h Q:=x
theorem Oa {r:W->Gh->WK->Prop}{ma:ME}(x:ma U h λa h1=>r a h1 Q):mUn r ma U h Q:=x
theorem zf {i:Int}(x:Q (.int (-i)) h):Yc (.int i) h Q:=x
theorem ak {a:ME}{r:MA}{Q:List W->Gh->Prop}(x:a U h λw h1=>r U h1 λws h2=>Q (w::ws) h2):aj a r U h Q:=x
theorem aq {Q:List W->Gh->Prop}(x:Q [] h):aG U h Q:=x
variable {P:Prop}
theorem bW (e:RJ n 1000=true)(x:P):gn n P:=by
 unfold gn
 rwa[e]
theorem dD {t:MA}(x:t U h λws h1=>gn ws.length (Q (.tup ws) h1)):bH t U h Q:=x
theorem rK {t:MA}(x:t U h λws h1=>gn ws.length (Q (.lst ws) h1)):pC t U h Q:=x
theorem aF {c:AP}(x:ma U h λws h1=>c ws h1 Q E):aL c E ma U h Q:=x
theorem bG {r:MC}(x:ma U h λws h1=>r ws h1 Q):G8 r ma U h Q:=x
theorem aN {m:ME}{Q:Bool->Gh->Prop}(x:m U h (tK Q)):bF m U h Q:=x
theorem eE {Q:Bool->Gh->Prop}(x:Q c h):tK Q (.bl c) h:=x
theorem cR {m:ME}{Q:Bool->Gh->Prop}(x:m U h (uK Q)):pR m U h Q:=x
theorem qT {b:Bool}{Q:Bool->Gh->Prop}(e:abF h w=Dn b)(x:Q b h):uK Q w h:=by
 unfold uK
 rwa[e]
theorem gW {t:MT}{Q:Bool->Gh->Prop}(x:t U h λc h1=>Q (!c) h1):Aw t U h Q:=x
theorem FT {t u:MT}{Q:Bool->Gh->Prop}(x:t U h λc h1=>br c (u U h1 Q) (Q false h1)):adn t u U h Q:=x
theorem oH {t u:MT}{Q:Bool->Gh->Prop}(x:t U h λc h1=>br c (Q true h1) (u U h1 Q)):QL t u U h Q:=x
theorem dN {Q:Bool->Gh->Prop}(x:Q true h):jd U h Q:=x
theorem CG {a b:ME}(x:a U h (aK b U Q)):Q7 a b U h Q:=x
theorem LQ {a:ME}(x:a U h (nK Q)):Vl a U h Q:=x
theorem aeB {b:ME}(x:br c (b U h Q) (Q (.bl false) h)):aK b U Q (.bl c) h:=by
 cases c with
 | true=>exact x.1 rfl
 | false=>exact x.2 rfl
theorem afK (x:Q (.bl (!c)) h):nK Q (.bl c) h:=x
variable {a:Prop}
theorem yL {b:Prop}(x:a):br true a b:=qR rfl x
theorem yR {b:Prop}(x:b):br false a b:=gH rfl x
theorem jG {b:Prop}(x:b):br (!true) a b:=yR x
theorem Tq {b:Prop}(x:a):br (!false) a b:=yL x
theorem dF {b:Prop}(x:a):Ir true a b:=x
theorem DP {b:Prop}(x:b):Ir false a b:=x
theorem zM {i:Int}(x:Q (.int (i-j)) h):Rh (.int i) (.int j) h Q:=x
theorem mQ {i:Int}(x:Q (.int (i+j)) h):cO (.int i) (.int j) h Q:=x
theorem vg {i:Int}(c:uU i j)(x:Q (.int (i*j)) h):Ij (.int i) (.int j) h Q:=⟨c,x⟩
theorem Lw {i:Int}(c:Mr i j)(x:Q (.int (i.fdiv j)) h):Qk (.int i) (.int j) h Q:=⟨c,x⟩
theorem T9 {i:Int}(c:j≠0)(x:Q (.int (i.fmod j)) h):Lb (.int i) (.int j) h Q:=⟨c,x⟩
theorem Xm {i:Int}(x:Q (.bl (decide (i<j))) h):kLt (.int i) (.int j) h Q:=x
theorem Bh {i:Int}(x:Q (.bl (decide (i>j))) h):Rt (.int i) (.int j) h Q:=x
theorem yx {i:Int}(x:Q (.bl (decide (i=j))) h):Ib (.int i) (.int j) h Q:=x
theorem sJ {i:Int}(x:Q (.bl (decide (i≠j))) h):Kv (.int i) (.int j) h Q:=by
 have e:(!Hg (.int i) (.int j))=decide (i≠j):=by rw[ou];by_cases z:i=j<;>simp[z]
 show Q _ h
 rwa[e]
theorem bC {x:W}{i:Int}(e:view h x=Dn ws)(a:Mi ws i=Dn w)(k:Q w h):Bm x (.int i) h Q:=by
 unfold Bm;grind
theorem lF {T:String}{b:Bool}(e:acS h w T=Dn b)(x:Q (.bl b) h):GQ [w,.ty T] h Q:=by
 unfold GQ;grind
theorem cN {xs:List W}(e:view h w=Dn xs)(x:Q (.int (xs.length:Int)) h):HB [w] h Q:=by
 unfold HB;grind
theorem gD (x:Q (.tup us) h):iB [.lst us] h Q:=x
variable {bs:List Bool}
theorem Jy (e:eU h w=Dn us)(b:Ox us=Dn bs)(x:Q (.bl (bs.any id)) h):Zo [w] h Q:=by
 unfold Zo;grind
theorem m7 {mi:MI}{D:bR}(x:mi U h (adp g b D U)):qP mi g b D U h:=x
variable {o:Option (Nat×List W)}
theorem pX {D:bR}(x:g8 ⟨ws,o⟩ g b D ws U h):adp g b D U ⟨ws,o⟩ h:=x
theorem Ml {D:bR}(x:D.nx U h):g8 ⟨ws,Go⟩ g b D [] U h:=x
theorem w6 {r:List W}{D:bR}(x:g w U h λU1 h1=>b {D with nx:=g8 ⟨ws,Go⟩ g b D r,ct:=g8 ⟨ws,Go⟩ g b D r,bk:=D.nx} U1 h1):g8 ⟨ws,Go⟩ g b D (w::r) U h:=x
variable {R:Src->Gh->Prop}
theorem gZ {m:ME}(x:m U h (iK R)):Hs m U h R:=x
theorem uH (e:J7 h w=Dn ⟨ws,o⟩)(x:R ⟨ws,o⟩ h):iK R w h:=by
 unfold iK
 rwa[e]
theorem vU (x:ma U h (rgK R)):iZ ma U h R:=x
theorem Ln (x:ma U h (zpK R)):XF ma U h R:=x
variable {as:List W}
theorem Wx {a b:W}{bs:List W}{zs:List W}(e:oO a=Dn as)(e':oO b=Dn bs)(z:qG as bs=zs)(x:R ⟨zs,Go⟩ h):zpK R [a,b] h:=by
 subst z;have es:J9 h a b=Dn ⟨qG as bs,Go⟩:=by unfold J9;rw[e,e']
 unfold zpK;grind
theorem adP {a b:W}{bs l:List W}(e:qG as bs=l):qG (a::as) (b::bs)=.tup [a,b]::l:=by rw[qG,e]
theorem iu {ix:List Nat}{mi:MI}(x:mi U h (lcK own ix tt te U Q)):HJ own ix mi tt te U h Q:=x
theorem abz {ix:List Nat}(e:RJ ws.length 1000=true)(x:Ar ⟨ws,o⟩ own ix tt te U Q ws [] h):lcK own ix tt te U Q ⟨ws,o⟩ h:=bW e x
variable {acc:List W}
theorem Ue {ix:List Nat}(x:Q (.lst acc) h):Ar ⟨ws,Go⟩ own ix tt te U Q [] acc h:=x
theorem Ej {r vs:List W}{ix:List Nat}(e:own w=Dn vs)(x:tt (vs.map Dn++mU ix U) h λc h1=>Ir c (te (vs.map Dn++mU ix U) h1 λv h2=>Ar ⟨ws,Go⟩ own ix tt te U Q r (acc++[v]) h2) (Ar ⟨ws,Go⟩ own ix tt te U Q r acc h1)):Ar ⟨ws,Go⟩ own ix tt te U Q (w::r) acc h:=by
 show match own w with
  | some vs=>tt _ h λc h1=>Ir c _ _
  | none=>False
 rwa[e]
variable {body:CQ->MS}
theorem ae7 {N:Nat}(hl:JM ws.length n=true)(x:body E {nx:=λ_ h'=>Q .non h',rt:=Q} (ws.map Dn++Iw (N-ws.length) Go) h):GF n N false body ws h Q E:=by
 unfold GF
 rwa[hl]
variable {r:W->Option Int->Option Int->Gh->WK->Prop}
theorem Yu {m:ME}{l u:MO}(x:m U h λa h1=>l U h1 λlo h2=>u U h2 λhi h3=>r a lo hi h3 Q):mSl r m l u U h Q:=x
theorem Cj {m:ME}{Q:Option Int->Gh->Prop}(x:m U h (pK Q)):Lg m U h Q:=x
theorem ady {i:Int}{Q:Option Int->Gh->Prop}(x:Q (Dn i) h):pK Q (.int i) h:=x
def p3K (i j k:Nat)(D:bR)(U:Sw):List W->Gh->Prop:=λws h=>match ws with
 | [x,y,z]=>D.nx (((U.set i (Dn x)).set j (Dn y)).set k (Dn z)) h
 | _=>False
theorem Zf {α:Type}{a x:α}{l:List α}:(a::l).set 0 x=x::l:=rfl
theorem Zh {α:Type}{a x:α}{l l':List α}(e:l.set n x=l'):(a::l).set (n+1) x=a::l':=by simp_all
theorem jt {U':Sw}(e:U.set i (Dn w)=U')(x:N U' h):Mk i w U h N:=by
 subst e;exact x
theorem nV {U':Sw}(x:N U' h)(e:U.set i (Dn w)=U':=by repeat(first|with_reducible exact Zf|with_reducible apply Zh)):Mk i w U h N:=jt e x
def ini (ws:List W)(n:Nat):Sw:=ws.map Dn++Iw (n-ws.length) Go
theorem bY {N:Nat}(hl:JM ws.length n=true)(e:ini ws N=U)(x:body E {nx:=λ_ h'=>Q .non h',rt:=Q} U h):GF n N false body ws h Q E:=by
 subst e;exact ae7 hl x
theorem Ju {mo mi:ME}{ms:YQ}(x:mo U h λo h1=>mi U h1 λi h2=>ms o i w h2 λh3=>N U h3):W3 mo mi ms w U h N:=x
theorem pU {N:Nat}(hl:JM ws.length n=true)(e:ini ws N=U)(x:body E {nx:=λ_ h'=>mG true h .non h' Q,rt:=λw h'=>mG true h w h' Q} U h):GF n N true body ws h Q E:=by
 subst e;unfold GF
 rwa[hl]
theorem ZF {a b:Bool}(x:Q (.bl (a==b)) h):kIs (.bl a) (.bl b) h Q:=x
theorem M5 {a b:Bool}(x:Q (.bl (!(a==b))) h):PK (.bl a) (.bl b) h Q:=x
theorem dX {a b:Str}(x:Q (.bl (decide (a=b))) h):Ib (.str a) (.str b) h Q:=x
theorem ac1 {a b:Str}(x:Q (.bl (decide (a≠b))) h):Kv (.str a) (.str b) h Q:=by
 have e:(!Hg (.str a) (.str b))=decide (a≠b):=by rw[Hg];by_cases z:a=b<;>simp[z]
 show Q _ h
 rwa[e]
theorem lH {r:MM}{mo:ME}(x:mo U h λx h1=>Ak h1 x (ma U h1 λxs h2=>r x xs h2 Q)):zF r mo ma U h Q:=x
theorem gK (e:h.c n=Dn (.lst us))(p:P):Ak h (.loc n) P:=by
 simp[Ak,e];exact p
theorem je (hm:∀R,ma U h R=R ws h)(hz:RJ ws.length 1000=true)(x:∀g:Gh,g.c h.nx=Dn (.lst ws)->(∀n,n≠h.nx->g.c n=h.c n)->g.nx=h.nx+1->Q (.loc h.nx) g):pN ma U h Q:=by
 unfold pN;rw[hm];exact bW hz<|x _ (Iu _ _) (λ_ e=>zA e) rfl
theorem aeI {zs:List W}(e:h.c n=Dn (.lst us))(hz:us.length+zs.length<=1000)(k:∀g:Gh,g.c n=Dn (.lst (us++zs))->(∀m,m≠n->g.c m=h.c m)->g.nx=h.nx->Q .non g):jR (.loc n) [.lst zs] h Q:=
 aae e (HN hz (by decide)) (k _ (xM _ _ _) (λ_ e=>nu e) rfl)
theorem Bj (e:h.c n=Dn (.lst us))(hz:us.length<=1000)(k:∀g:Gh,g.c n=Dn (.lst (us++[w]))->(∀m,m≠n->g.c m=h.c m)->g.nx=h.nx->Q .non g):fL (.loc n) [w] h Q:=
 acf e (Wz hz (by decide)) (k _ (xM _ _ _) (λ_ e=>nu e) rfl)
def rng (a m:Nat):List Nat:=List.range' a (m-a)
variable {x:Nat}
theorem ajf {a:Nat}:x∈rng a m↔a<=x/\x<m:=by
 unfold rng;grind
theorem Dh (a m:Nat):Ax (a:Int) ((m:Int)-(a:Int)).toNat=(rng a m).map λx:Nat=>W.int (x:Int):=by
 unfold Ax rng;rw[List.range'_eq_map_range];simp
theorem ahQ (m:Nat):Ax 0 ((m:Nat):Int).toNat=(rng 0 m).map λx:Nat=>W.int (x:Int):=by
 have:=Dh 0 m
 exact this
def afR (R:Src->Gh->Prop):List W->Gh->Prop:=λws h=>match ws with
 | [.int i,.int j]=>yI i (yI j (R ⟨Ax i (j-i).toNat,Go⟩ h))
 | _=>False
theorem zbW (x:ma U h (afR R)):Mv ma U h R:=x
theorem abD {a:Int}(ha:a=(n:Int))(h1:n<=1000)(h2:m<=1000)(x:R ⟨(rng n m).map λx:Nat=>W.int (x:Int),Go⟩ h):afR R [.int a,.int (m:Int)] h:=by
 subst ha;rw[<-Dh]at x;exact yI.mk (by lia) (by lia)<|yI.mk (by lia) (by lia) x
theorem Xi (h2:m<=1000)(x:R ⟨(rng 0 m).map λx:Nat=>W.int (x:Int),Go⟩ h):rgK R [.int (m:Int)] h:=by
 rw[<-ahQ]at x;exact yI.mk (by lia) (by lia) x
def nxt (l:List Nat):Nat:=match l.getLast? with
 | none=>0
 | some x=>x+1
def grow (m:Nat)(l:List Nat):List (List Nat):=(rng (nxt l) m).map λp=>l++[p]
def Ho (m:Nat):Nat->List (List Nat)
 | 0=>[[]]
 | k+1=>(Ho m k).flatMap (grow m)
def xr (l:List Nat):W:=.tup (l.map λx:Nat=>.int (x:Int))
theorem Fv {m:Nat}:∀{k:Nat}{l:List Nat},l∈Ho m k->l.length=k
 | 0,l,h=>by
  rw[Ho,Q0]at h;rw[h];rfl
 | k+1,l,h=>by
  rw[Ho,List.mem_flatMap]at h;obtain⟨u,hu,hl⟩:=h;obtain⟨p,_,rfl⟩:=GX.mp hl;rw[Pa,Fv hu];rfl
theorem Zr:∀{k:Nat}{l:List Nat},l∈Ho m k->nxt l<=m
 | 0,l,h=>by
  rw[Ho,Q0]at h;exact h ▸ Oj _
 | k+1,l,h=>by
  rw[Ho,List.mem_flatMap]at h;obtain⟨u,hu,hl⟩:=h;obtain⟨p,hp,rfl⟩:=GX.mp hl;have:=(ajf.mp hp).2
  unfold nxt;simp;lia
theorem zaI:∀m,m<=12->∀k,k<=4->(Ho m k).length<=1000:=by
 have:(Ji 13).all (λm=>(Ji 5).all λk=>decide ((Ho m k).length<=1000))=true:=by decide +kernel
 intro m hm k hk;rw[Qe]at this;have h1:=this m (UG.mpr (by lia));grind
def N5 (h:Gh)(w:W)(ws:List W):Prop:=w=.lst ws\/∃n,w=.loc n/\h.c n=Dn (.lst ws)
theorem zbL {D:bR}{α:Type}{v:α->W}{xs:List α}(hv:U[i]?=Dn (Dn w))(e:N5 h w (xs.map v))(I:Nat->Sw->Gh->Prop)
  (go:∀i U h',I i U h'->N5 h' w (xs.map v))
  (step:∀(i:Nat) (x:α) (U:Sw) (h:Gh) (N:Sw->Gh->Prop),(∀U' h',I (i+1) U' h'->N U' h')->xs[i]?=Dn x->I i U h->g (v x) U h λU1 h1=>b {D with nx:=N,ct:=N,bk:=D.nx} U1 h1)
  (fin:∀U h,I xs.length U h->D.nx U h) (h0:I 0 U h):qP (Hs (aA i)) g b D U h:=by
 unfold qP Hs aA;rw[hv];dsimp only;have gen:∀s:Src,J7 h w=Dn s->s.ws=xs.map v->(∀h',N5 h' w (xs.map v)->∀P:Prop,P->s.go h' P)->(match J7 h w with
   | some s=>g8 s g b D s.ws U h
   | none=>False):=by
  intro s es ew hg;rw[es];show g8 s g b D _ U h;rw[ew];refine xP I (λi U h' hi=>hg h'<|go i U h' hi) (λi w U h N hN e hi=>?_) (λU h q=>fin U h<|by rwa[CV]at q) h0;rw[HI]at e;cases q:xs[i]? with
  | none=>rw[q]at e;cases e
  | some x=>
   rw[q]at e;cases e;exact step i x U h N hN q hi
 rcases e with rfl|⟨n,rfl,e⟩
 exact gen ⟨xs.map v,Go⟩ rfl rfl λ_ _ _ p=>p;refine gen ⟨xs.map v,Dn (n,xs.map v)⟩ (by simp[J7,e]) rfl λh' e' P p=>⟨?_,p⟩;rcases e' with e'|⟨n',e',q⟩
 cases e'
 grind
theorem aiU {a b:List W}(hz:a.length+b.length<=1000)(x:Q (.tup (a++b)) h):cO (.tup a) (.tup b) h Q:=by
 cases a with
 | nil=>exact x
 | cons a0 a=>exact gn.mk (HN (by simpa using hz) (by decide:1000<=G6)) x
variable {l:List Nat}
theorem akI (hm:m<=12)(hl:l.length<=4)(hn:nxt l<=m)(h5:U[5]?=Dn (Dn (xr l)))(h6:U[6]?=Dn (Dn (.int (nxt l:Int))))(h0:U[0]?=Dn (Dn (.int (m:Int))))(x:Q (.lst ((grow m l).map xr)) h):
  HJ JR [5] (Mv (aj (aA 6) (aj (aA 0) aG))) jd (Af cO (aA 1) (bH (aj (aA 0) aG))) U h Q:=by
 refine iu<|zbW<|ak<|ao h6<|ak<|ao h0<|aq ?_
 refine abD rfl (by lia) (by lia) ?_;have hb:mU [5] U=[Dn (xr l)]:=by
  show[(U[5]?).getD Go]=_;rw[h5];rfl
 have hz:((rng (nxt l) m).map λx:Nat=>W.int (x:Int)).length<=G6:=by
  rw[CV];unfold rng;rw[List.length_range'];exact HN (by lia) (by decide:12<=G6)
 refine gn.mk hz ?_;refine dU (λi acc h'=>h'=h/\acc=(((rng (nxt l) m).take i).map λp=>l++[p]).map xr) ?_ ?_ ⟨rfl,rfl⟩
 ·rintro i w acc h' N hN e ⟨rfl,rfl⟩;rw[HI]at e;cases q:(rng (nxt l) m)[i]? with
  | none=>rw[q]at e;cases e
  | some p=>
   rw[q]at e;cases e;refine⟨[W.int (p:Int)],rfl,?_⟩;rw[hb];refine dN<|dF<|aH<|ao rfl<|dD<|ak<|ao rfl<|aq<|bW rfl ?_
   refine aiU (a:=l.map λx:Nat=>.int (x:Int)) (by rw[CV];simp;lia) ?_;refine hN _ _ ⟨rfl,?_⟩;rw[Jt,q];simp[xr]
 rintro acc h' ⟨rfl,rfl⟩;rw[CV,Lj];exact x
def Im (c0:AP):Prop:=∀{h:Gh}{m k:Nat}{Q:WK}{E:CQ},m<=12->k<=4->Q (.lst ((Ho m k).map xr)) h->c0 [.int (m:Int),.int (k:Int)] h Q E
theorem zcc (h:l.length=i+1):∃x,l.getLast?=Dn x/\Mi (l.map λx:Nat=>W.int (x:Int)) (i:Int)=Dn (.int (x:Int)):=by
 have hi:i<l.length:=by lia
 refine⟨l[i],(by rw[List.getLast?_eq_getElem?,h,Nat.add_sub_cancel,JD hi]),?_⟩;exact bN (by rw[HI,JD hi];rfl)
theorem afg (n:Nat):∀l:List Nat,O6 n (l.map λx:Nat=>W.int (x:Int))
 | []=>by simp[O6]
 | x::l=>by
  have:=afg n l
  exact⟨by simp[Lo],this⟩
theorem ahN (n:Nat)(l:List Nat):Lo n (xr l):=afg n l
theorem wR (n:Nat):∀ls:List (List Nat),O6 n (ls.map xr)
 | []=>by simp[O6]
 | l::ls=>by
  have:=wR n ls
  exact⟨ahN n l,this⟩
theorem BK {a:Nat}(e:(rng a m)[i]?=Dn x):x=a+i/\x<m:=by
 unfold rng at e;grind
theorem ajk:Im Du:=by
 intro h m k Q E hm hk q;refine pU rfl (U:=[Dn<|.int (m:Int),Dn<|.int (k:Int),Go,Go,Go,Go,Go]) rfl ?_;refine nV<|bx ?_
 refine aJ<|m7<|vU<|ak<|ao rfl<|aq<|Xi (by lia)<|pX ?_
 refine fZ (λi U h'=>∃w s3 s4 s5 s6,U=[Dn<|.int (m:Int),Dn<|.int (k:Int),Dn w,s3,s4,s5,s6]/\(w=.lst ((Ho m i).map xr)\/∃n,w=.loc n/\h.nx<=n/\n<h'.nx/\h'.c n=Dn (.lst<|(Ho m i).map xr))/\h.nx<=h'.nx/\∀n,n<h.nx->h'.c n=h.c n) ?_ ?_ ⟨_,_,_,_,_,rfl,.inl rfl,GZ _,λ_ _=>rfl⟩
 ·rintro i w0 U h' N hN e ⟨w,s3,s4,s5,s6,rfl,hw,hx,ho⟩;rw[HI]at e;cases qe:(rng 0 k)[i]? with
  | none=>rw[qe]at e;cases e
  | some i'=>
   rw[qe]at e;cases e;obtain⟨ei,hik⟩:=BK qe;rw[Xc]at ei;subst ei;refine aJ<|aU<|je (ws:=[]) (λR=>rfl) rfl λg eg og xg=>?_
   have sw:∀g':Gh,(∀n,n≠h'.nx->g'.c n=h'.c n)->N5 g' w ((Ho m i').map xr):=by
    intro g' hg;rcases hw with rfl|⟨n,rfl,h1,h2,h3⟩
    exact .inl rfl;exact .inr ⟨n,rfl,by rw[hg n<|by lia];exact h3⟩
   refine zbL (i:=2) (w:=w) (v:=xr) (xs:=Ho m i') rfl (sw g og) (λj U g'=>∃s5 s6,U=[Dn<|.int (m:Int),Dn<|.int (k:Int),Dn w,Dn<|.int (i':Int),Dn<|.loc h'.nx,s5,s6]/\g'.c h'.nx=Dn (.lst<|(((Ho m i').take j).flatMap (grow m)).map xr)/\g'.nx=h'.nx+1/\∀n,n≠h'.nx->g'.c n=h'.c n) ?_ ?_ ?_ ⟨_,_,rfl,eg,xg,og⟩;rintro j U g' ⟨s5,s6,rfl,h1,h2,h3⟩;exact sw g' h3;rintro j l U g' N2 hN2 el ⟨s5,s6,rfl,h1,h2,h3⟩;have ml:=Mz el;have ll:=Fv ml;have ln:=Zr ml;have fin:∀U,U=[Dn (.int (m:Int)),Dn (.int (k:Int)),Dn w,Dn (.int (i':Int)),Dn (.loc h'.nx),Dn (xr l),Dn (.int (nxt l:Int))]->kZ (zF jR (aA 4) (aj (HJ JR [5] (Mv (aj (aA 6) (aj (aA 0) aG))) jd (Af cO (aA 1) (bH (aj (aA 0) aG)))) aG)) {nx:=N2,rt:=λw h'=>mG true h w h' Q,bk:=λ_ _=>False,ct:=N2} U g':=by
    rintro U rfl;refine d9<|lH<|ao rfl<|gK h1<|ak<|akI hm (by lia) ln rfl rfl rfl<|aq<|aeI h1 ?_ λg2 e2 o2 x2=>?_
    rw[CV,CV,<-Pa,show grow m l=[l].flatMap (grow m) by simp,<-List.flatMap_append];have hp:(Ho m i').take (j+1)=(Ho m i').take j++[l]:=by rw[Jt,el];rfl
    rw[<-hp];have hr:=zaI m hm (i'+1) (by lia);rw[Ho,<-X8 (j+1) (Ho m i'),List.flatMap_append,Pa]at hr;lia;refine hN2 _ _ ⟨_,_,rfl,?_,by rw[x2];exact h2,λn hn=>by rw[o2 n hn];exact h3 n hn⟩;rw[e2,Jt,el,List.flatMap_append,Jb];simp
   refine Bp (λhp=>?_) λhp=>?_;obtain⟨x,ex,ax⟩:=zcc (l:=l) (i:=i'-1) (by lia);have en:nxt l=x+1:=by unfold nxt;rw[ex]
   refine aH<|aH<|ao rfl<|aH<|ao rfl<|aV<|zM<|bC (x:=xr l) (i:=(i':Int)-1) (w:=.int (x:Int)) rfl ?_<|aV<|mQ ?_
   rw[show(i':Int)-1=((i'-1:Nat):Int) by lia];exact ax;refine jt (U':=[Dn<|.int (m:Int),Dn<|.int (k:Int),Dn w,Dn<|.int (i':Int),Dn<|.loc h'.nx,Dn<|xr l,Dn<|.int (nxt l:Int)]) (by rw[en];rfl)<|bx<|fin _ rfl
   have l0:l=[]:=Qs (by lia);have en:nxt l=0:=by rw[l0];rfl
   refine aV ?_;refine jt (U':=[Dn<|.int (m:Int),Dn<|.int (k:Int),Dn w,Dn<|.int (i':Int),Dn<|.loc h'.nx,Dn<|xr l,Dn<|.int (nxt l:Int)]) (by rw[en];rfl)<|bx<|fin _ rfl
   rintro U g' ⟨s5,s6,rfl,h1,h2,h3⟩;rw[Lj]at h1;refine bx ?_;refine aU ?_;refine ao rfl ?_;refine nV<|bx ?_
   exact hN _ _ ⟨_,_,_,_,_,rfl,.inr ⟨_,rfl,hx,by lia,h1⟩,by lia,λn hn=>by rw[h3 n<|by lia];exact ho n hn⟩
 rintro U h' ⟨w,s3,s4,s5,s6,rfl,hw,hx,ho⟩;have hl:((rng 0 k).map λx:Nat=>W.int (x:Int)).length=k:=by
  rw[CV];unfold rng;rw[List.length_range'];lia
 rw[hl]at hw;unfold uW;refine bx ?_;refine aR ?_;refine ao rfl ?_;refine eN ?_;refine⟨λn c hn e=>by rw[ho n hn];exact e,?_⟩;rcases hw with rfl|⟨n,rfl,h1,h2,h3⟩
 exact .inl ⟨by rw[Lo];exact wR _ _,q⟩;exact .inr ⟨n,_,rfl,h1,h3,wR _ _,q⟩
abbrev Tm:=List Int×Int
def Hj (t:Tm):W:=.tup [.tup (t.1.map .int),.int t.2]
def Cp (ts:List Tm):W:=.tup (ts.map Hj)
def Ge (h h':Gh):Prop:=h.nx<=h'.nx/\∀n,n<h.nx->h'.c n=h.c n
theorem CP (n:Nat):∀l:List Int,O6 n (l.map .int)
 | []=>by simp[O6]
 | x::l=>⟨by simp[Lo],CP n l⟩
def Nh (ts:List Tm):List (List Int×W):=ts.map λt=>(t.1,.int t.2)
def u6 (ts:List Tm)(k:List Int)(n:Int):List Tm:=if ts.any (λt=>decide (t.1=k))then ts.map (λt=>if t.1=k then(t.1,n)else t)else ts++[(k,n)]
theorem Fx:∀(ts:List Tm) (k:List Int),EY (Nh ts) k=((ts.find? λt=>decide (t.1=k)).map λt=>W.int t.2)
 | [],k=>rfl
 | t::ts,k=>by
  show EY ((t.1,.int _)::Nh ts) k=_;rw[Eu,Fx ts k];grind
theorem aa4 (ts:List Tm)(k:List Int)(n:Int):Zz (Nh ts) k (.int n)=Nh (u6 ts k n):=by
 have e:(EY (Nh ts) k).isSome=ts.any λt=>decide (t.1=k):=by
  rw[Fx,Option.isSome_map,XQ,List.find?_isSome,VR]
 unfold Zz u6;rw[e];by_cases c:(ts.any λt=>decide (t.1=k))=true
 rw[if_pos c,if_pos c];unfold Nh;rw[Ks,Ks];refine VG λt _=>?_;grind
 rw[if_neg c,if_neg c];simp[Nh]
theorem M7 (ts:List Tm)(k:List Int)(n:Int):(u6 ts k n).length<=ts.length+1:=by
 unfold u6;grind
theorem Gk (k:List Int):Tz (.tup (k.map .int))=Dn k:=by
 show wW _=Dn k;induction k with
 | nil=>rfl
 | cons a k ih=>rw[HY];simp[wW,ih]
variable {k:List Int}{ts:List Tm}
theorem abQ {x:Int}{N:Gh->Prop}(e:h.c n=Dn (.dtt (Nh ts)))(hz:ts.length<=990)(q:∀g:Gh,g.c n=Dn (.dtt (Nh (u6 ts k x)))->(∀m,m≠n->g.c m=h.c m)->g.nx=h.nx->N g):Mp (.loc n) (.tup (k.map .int)) (.int x) h N:=by
 unfold Mp;rw[Gk];dsimp only;rw[e];refine gn.mk (HN (m:=1000) (by unfold Nh;rw[CV];lia)<|by decide) ?_;rw[aa4];exact q _ (xM _ _ _) (λ_ e=>nu e) rfl
variable {t:Tm}
theorem aen (e:h.c n=Dn (.dtt (Nh ts)))(f:(ts.find? λt=>decide (t.1=k))=Dn t)(q:Q (.int t.2) h):aaJ (.loc n) (.tup (k.map .int)) h Q:=by
 unfold aaJ;rw[Gk];dsimp only;rw[e];dsimp only
 rwa[Fx,f]
theorem zbN (ts:List Tm)(k:List Int)(n:Int)(nd:(ts.map (·.1)).Nodup):((u6 ts k n).map (·.1)).Nodup:=by
 unfold u6;split
 rw[Ks];have e:(((·.1):Tm->List Int) ∘λt:Tm=>if t.1=k then(t.1,n)else t)=(·.1):=by
  funext t;grind
 rwa[e]
 rename_i c;rw[Jb,List.nodup_append];grind
def getM (ts:List Tm)(k:List Int):Int:=((ts.find? λt=>decide (t.1=k)).map (·.2)).getD 0
def Kz (ts:List Tm)(k:List Int)(v:Int):List Tm:=u6 ts k (getM ts k+v)
def vG (ts:List Tm)(ks:List (List Int)):List Tm:=(ks.map λk=>(k,getM ts k)).filter λt=>decide (t.2≠0)
def lin (f:List Int->Int)(ts:List Tm):Int:=(ts.map λt=>f t.1*t.2).sum
theorem bO (t:Tm)(ts:List Tm)(k:List Int):getM (t::ts) k=if t.1=k then t.2 else getM ts k:=by
 unfold getM;grind
theorem akZ (ts us:List Tm)(k:List Int):getM (ts++us) k=if k∈ts.map (·.1)then getM ts k else getM us k:=by
 induction ts with
 | nil=>simp
 | cons t ts ih=>
  rw[List.cons_append,bO,bO];grind
theorem getM_none (h:k∉ts.map (·.1)):getM ts k=0:=by
 induction ts with
 | nil=>rfl
 | cons t ts ih=>
  rw[bO,if_neg (λe=>h (by simp[e])),ih λm=>h (OD _ m)]
theorem eY (nd:(ts.map (·.1)).Nodup)(h:t∈ts):getM ts t.1=t.2:=by
 induction ts with
 | nil=>cases h
 | cons u ts ih=>
  rw[HY]at nd;rw[bO];grind
theorem get_map (ts:List Tm)(k r:List Int)(n:Int):getM (ts.map λt=>if t.1=k then(t.1,n)else t) r=if r=k/\k∈ts.map (·.1)then n else getM ts r:=by
 induction ts with
 | nil=>simp
 | cons t ts ih=>
  rw[HY,bO,bO];grind
theorem BW (n:Int)(h:k∈ts.map (·.1)):u6 ts k n=ts.map λt=>if t.1=k then(t.1,n)else t:=by
 unfold u6;grind
theorem q9 (n:Int)(h:k∉ts.map (·.1)):u6 ts k n=ts++[(k,n)]:=by
 unfold u6;grind
theorem akG (ts:List Tm)(k r:List Int)(n:Int):getM (u6 ts k n) r=if r=k then n else getM ts r:=by
 by_cases h:k∈ts.map (·.1)
 rw[BW n h,get_map];grind
 rw[q9 n h,akZ];by_cases q:r=k
 rw[if_pos q,q,if_neg h,bO,if_pos rfl];rw[if_neg q];by_cases m:r∈ts.map (·.1)
 rw[if_pos m];rw[if_neg m,bO,if_neg (Lr q),getM_none m];rfl
theorem keys_map (ts:List Tm)(k:List Int)(n:Int):(ts.map λt=>if t.1=k then(t.1,n)else t).map (·.1)=ts.map (·.1):=by
 rw[Ks];refine VG λt _=>?_;grind
theorem wD (ts:List Tm)(k:List Int)(v:Int):(Kz ts k v).map (·.1)=if k∈ts.map (·.1)then ts.map (·.1)else ts.map (·.1)++[k]:=by
 unfold Kz;by_cases h:k∈ts.map (·.1)
 rw[BW _ h,keys_map,if_pos h];rw[q9 _ h,if_neg h,Jb];rfl
variable {v:Int}
theorem Ai (nd:(ts.map (·.1)).Nodup):((Kz ts k v).map (·.1)).Nodup:=zbN ts k _ nd
theorem gA (f:List Int->Int)(t:Tm)(ts:List Tm):lin f (t::ts)=f t.1*t.2+lin f ts:=rfl
theorem vQ (f:List Int->Int)(ts us:List Tm):lin f (ts++us)=lin f ts+lin f us:=by unfold lin;simp
theorem Ip {f:List Int->Int}{k:List Int}{n:Int}:∀{ts:List Tm},(ts.map (·.1)).Nodup->k∈ts.map (·.1)->lin f (ts.map λt=>if t.1=k then(t.1,n)else t)=lin f ts+f k*(n-getM ts k)
 | t::ts,nd,h=>by
  rw[HY,RZ]at nd;rw[HY,gA,gA,bO];by_cases e:t.1=k
  have em:(ts.map λt=>if t.1=k then(t.1,n)else t)=ts:=by
   refine(VG λu hu=>?_).trans (List.map_id _);grind
  grind
  rw[if_neg e,if_neg e,Ip nd.2 (by rcases Jz.mp h with q|q;exact absurd q.symm e;exact q)];lia
theorem Jv {f:List Int->Int}(nd:(ts.map (·.1)).Nodup):lin f (Kz ts k v)=lin f ts+f k*v:=by
 unfold Kz;by_cases h:k∈ts.map (·.1)
 rw[BW _ h,Ip nd h];grind
 rw[q9 _ h,vQ,getM_none h];unfold lin;simp
theorem ahx {a b:List Int}(p:a.Perm b):a.sum=b.sum:=by
 induction p with
 | nil=>rfl
 | cons x _ ih=>simp[ih]
 | swap x y l=>simp;lia
 | trans _ _ ih1 ih2=>exact ih1.trans ih2
theorem oA (f:List Int->Int):∀ts:List Tm,lin f (ts.filter λt=>decide (t.2≠0))=lin f ts
 | []=>rfl
 | t::ts=>by
  rw[Qg];by_cases e:t.2=0
  rw[if_neg (by simp[e]),oA f ts,gA,e];lia;rw[if_pos (by simp[e]),gA,gA,oA f ts]
variable {ks:List (List Int)}{D:List Tm}
theorem akM {f:List Int->Int}(nd:(D.map (·.1)).Nodup)(p:ks.Perm (D.map (·.1))):lin f (vG D ks)=lin f D:=by
 unfold vG;rw[oA];unfold lin;rw[Ks,ahx (p.map _),Ks];congr 1
 refine VG λt ht=>?_;simp;rw[eY nd ht]
theorem Ud {u:Tm}(nd:(D.map (·.1)).Nodup)(p:∀k∈ks,k∈D.map (·.1))(h:u∈vG D ks):u∈D/\u.2≠0:=by
 obtain⟨h1,h2⟩:=Qm.mp h;obtain⟨k,hk,rfl⟩:=GX.mp h1;obtain⟨t,ht,rfl⟩:=GX.mp (p k hk);rw[eY nd ht]at h2|-
 grind
theorem ajq (D:List Tm)(ks:List (List Int)):(vG D ks).length<=ks.length:=HN (List.length_filter_le _ _) (by rw[CV];exact GZ _)
theorem Cu (h:ks.Pairwise (· < ·)):((vG D ks).map (·.1)).Pairwise (· < ·):=by
 rw[RT];refine List.Pairwise.filter _ ?_
 rwa[RT]
theorem cU (h:ks.Pairwise (· < ·)):ks.Nodup:=by
 refine h.imp λ{a b} h e=>?_;grind
def fr (l:Nat)(x:Int)(r k:List Int):Int:=if r=k.set l 0 then x^(k.getD l 0).toNat else 0
theorem CR {α:Type}{P:List α->Prop}(h0:P [])(h1:∀ts t,P ts->P (ts++[t]))(ts:List α):P ts:=by
 have:∀us:List α,P us.reverse:=λus=>by
  induction us with
  | nil=>exact h0
  | cons a us ih=>rw[Y4];exact h1 _ _ ih
 have:=this ts.reverse
 rwa[List.reverse_reverse]at this
theorem SQ (e:h.c n=Dn (.dtt (Nh ts)))(m:k∈ts.map (·.1))(q:Q (.int (getM ts k)) h):aaJ (.loc n) (.tup (k.map .int)) h Q:=by
 cases f:ts.find? λt=>decide (t.1=k)with
 | none=>
  grind
 | some t=>
  have eg:getM ts k=t.2:=by unfold getM;rw[f];rfl
  rw[eg]at q;exact aen e f q
variable {L:Nat}
theorem ahF (nd:(ts.map (·.1)).Nodup)(hL:∀t∈ts,t.1.length=L):JW (ts.map (·.1)):=by
 intro h2 k hk e;obtain⟨t,ht,e1⟩:=GX.mp hk;have L0:L=0:=by rw[<-hL t ht,e1,e];rfl
 have all:∀k∈ts.map (·.1),k=[]:=λk hk=>by
  grind
 generalize ts.map _=ks at nd h2 all;match ks,nd,h2,all with
 | a::b::r,nd,_,all=>
  rw[(all a (by simp)),(all b (by simp))]at nd;simp at nd
def Pv (ps:List Int):Prop:=∀p∈ps,0<=p/\p<=61
theorem akV (us:List W)(k:Nat):Kw us (Dn (k:Int)) Go=us.drop k:=by
 unfold Kw;rw[HT.WY];by_cases h:k<=us.length
 rw[Nat.min_eq_left h,Yp (List.length_drop ▸ GZ _)];rw[Nat.min_eq_right (by lia),List.drop_length,List.drop_of_length_le (by lia)];simp
theorem zq {Q:Option Int->Gh->Prop}(x:Q Go h):rC U h Q:=x
theorem aeD (e:h.c n=Dn (.dtt (Nh ts)))(q:Q (.int (getM ts k)) h):Lz (.loc n) [.tup (k.map .int),.int 0] h Q:=by
 unfold Lz;dsimp only;rw[e,Gk];dsimp only;rw[Fx];have:(((ts.find? λt=>decide (t.1=k)).map λt=>W.int t.2).getD (.int 0))=.int (getM ts k):=by
  unfold getM;cases ts.find? λt=>decide (t.1=k)<;>rfl
 rwa[this]
theorem ahU {kvs:List (List Int×W)}(e:h.c n=Dn (.dtt kvs))(p:P):Kq h (.loc n) P:=by
 unfold Kq;grind
theorem aau {r:MM}{mo:ME}(x:mo U h λx h1=>Kq h1 x (ma U h1 λxs h2=>r x xs h2 Q)):adL r mo ma U h Q:=x
theorem aem (n:Nat)(t:Tm):Lo n (Hj t):=⟨CP _ _,trivial,trivial⟩
theorem Uk (n:Nat):∀ts:List Tm,O6 n (ts.map Hj)
 | []=>by simp[O6]
 | t::ts=>⟨aem n t,Uk n ts⟩
theorem Y6 (n:Nat)(ts:List Tm):Lo n (Cp ts):=Uk n ts
theorem SN (n:Nat):∀ss:List (List Tm),O6 n (ss.map Cp)
 | []=>by simp[O6]
 | s::ss=>⟨Y6 n s,SN n ss⟩
theorem BZ:∀l:List Int,lX (l.map .int) (l.map .int)=true
 | []=>rfl
 | a::l=>by rw[HY,lX,BZ l,Hg];simp
theorem ad8 (t:Tm):Hg (Hj t) (Hj t)=true:=by
 unfold Hj;simp only[Hg,lX,BZ,beq_self_eq_true,Bool.and_self]
theorem TV:∀s:List Tm,lX (s.map Hj) (s.map Hj)=true
 | []=>rfl
 | t::s=>by rw[HY,lX,TV s,ad8];rfl
theorem ad4 (n:Nat)(t:Tm):Gy (n+3) (Hj t)=true:=by simp[Hj,Gy]
theorem Zx (n:Nat)(s:List Tm):Gy (n+4) (Cp s)=true:=by
 unfold Cp;rw[Gy,Qe];intro w hw;obtain⟨t,_,rfl⟩:=GX.mp hw;exact ad4 n t
theorem abM (s:List Tm):Hg (Cp s) (Cp s)=true:=by
 unfold Cp;rw[Hg,TV]
def pack (k:List Int):Int:=k.foldl (λa p=>a*65536+p) 0
def Kb (L:Nat)(k:List Int):Prop:=k.length=L/\∀p∈k,0<=p/\p<=100
theorem cI (k:List Int)(p:Int):pack (k++[p])=pack k*65536+p:=by unfold pack;rw[Ww];rfl
theorem pL {p:Int}(h:Kb (L+1) (k++[p])):Kb L k/\0<=p/\p<=100:=by
 refine⟨⟨by have:=h.1;simp at this;lia,λq hq=>h.2 q<|Qv _ hq⟩,h.2 p<|by simp⟩
theorem jg (h:k.length=L+1):∃(a:List Int) (p:Int),k=a++[p]:=by
 refine⟨k.dropLast,k.getLast (by intro e;rw[e]at h;simp at h),?_⟩;exact(List.dropLast_concat_getLast _).symm
theorem iH:∀{L:Nat}{k l:List Int},Kb L k->Kb L l->pack k=pack l->k=l
 | 0,k,l,h1,h2,_=>by rw[Qs h1.1,Qs h2.1]
 | L+1,k,l,h1,h2,e=>by
  obtain⟨a,p,rfl⟩:=jg h1.1;obtain⟨b,q,rfl⟩:=jg h2.1;obtain⟨ha,p0,p1⟩:=pL h1;obtain⟨hb,q0,q1⟩:=pL h2;rw[cI,cI]at e;have e2:p=q:=by lia
  rw[iH ha hb (by lia),e2]
theorem Ld:∀{a b:List Int}{p q:Int},a.length=b.length->(a++[p]<b++[q]↔a<b\/a=b/\p<q)
 | [],[],p,q,_=>by simp[Xj]
 | x::a,y::b,p,q,h=>by
  rw[List.cons_append,List.cons_append,Xj,Xj,(Ld (by simpa using h))];grind
theorem pJ:∀{L:Nat}{k l:List Int},Kb L k->Kb L l->(k<l↔pack k<pack l)
 | 0,k,l,h1,h2=>by
  rw[Qs h1.1,Qs h2.1];grind
 | L+1,k,l,h1,h2=>by
  obtain⟨a,p,rfl⟩:=jg h1.1;obtain⟨b,q,rfl⟩:=jg h2.1;obtain⟨ha,p0,p1⟩:=pL h1;obtain⟨hb,q0,q1⟩:=pL h2;have ih:=pJ ha hb;rw[Ld (by rw[ha.1,hb.1]),cI,cI];constructor;grind
  intro h;rcases Int.lt_trichotomy _ _ with c|c|c
  exact .inl<|ih.mpr c
  exact .inr ⟨iH ha hb c,by lia⟩;lia
def dJ (k l:List Int):List Int:=List.zipWith (· + ·) k l
theorem wL {l:List Int}(h:k.length=l.length):(dJ k l).length=k.length:=by unfold dJ;rw[List.length_zipWith,h,Nat.min_self]
theorem yD:∀(k l:List Int),dJ k l=dJ l k
 | [],[]|[],_::_|_::_,[]=>rfl
 | a::k,b::l=>by
  show _::dJ k l=(b+a)::dJ l k;rw[yD k l,Int.add_comm]
theorem yp:∀{k l:List Int}{p q:Int},k.length=l.length->dJ (k++[p]) (l++[q])=dJ k l++[p+q]
 | [],[],p,q,_=>rfl
 | x::a,y::b,p,q,h=>by
  show _::dJ (a++[p]) (b++[q])=(x+y)::(dJ a b++[p+q]);rw[yp (by simpa using h)]
theorem gG:∀{L:Nat}{k l:List Int},k.length=L->l.length=L->pack (dJ k l)=pack k+pack l
 | 0,k,l,h1,h2=>by rw[Qs h1,Qs h2];rfl
 | L+1,k,l,h1,h2=>by
  obtain⟨a,p,rfl⟩:=jg h1;obtain⟨b,q,rfl⟩:=jg h2;have la:=by simpa using h1
  have lb:=by simpa using h2
  rw[yp (by rw[la,lb]),cI,cI,cI,gG la lb];lia
theorem qX:∀{k l:List Int}{p:Int},p∈dJ k l->∃a∈k,∃b∈l,p=a+b
 | a::k,b::l,p,h=>by
  rcases Jz.mp h with rfl|h
  simp_all
  obtain⟨x,hx,y,hy,e⟩:=qX h;grind
theorem j6:∀{L:Nat}{k:List Int},Kb L k->0<=pack k/\(pack k).natAbs<2^(16*L)
 | 0,k,h=>by rw[Qs h.1];exact⟨Int.le_refl _,by decide⟩
 | L+1,k,h=>by
  obtain⟨a,p,rfl⟩:=jg h.1;obtain⟨ha,p0,p1⟩:=pL h;obtain⟨i0,i1⟩:=j6 ha;rw[cI,Nat.mul_succ,Nat.pow_add];lia
def Hz (k:List Int)(n:Int)(vs:List Tm)(D:List Tm):List Tm:=vs.foldl (λD s=>Kz D (dJ k s.1) (n*s.2)) D
def n8 (us vs:List Tm):List Tm:=us.foldl (λD t=>Hz t.1 t.2 vs D) []
theorem iW (k:List Int)(n:Int)(vs D:List Tm)(s:Tm):Hz k n (vs++[s]) D=Kz (Hz k n vs D) (dJ k s.1) (n*s.2):=by unfold Hz;rw[Ww];rfl
theorem iY (us vs:List Tm)(t:Tm):n8 (us++[t]) vs=Hz t.1 t.2 vs (n8 us vs):=by unfold n8;rw[Ww];rfl
variable {vs:List Tm}
theorem Nx {n:Int}(h:(D.map (·.1)).Nodup):((Hz k n vs D).map (·.1)).Nodup:=by
 refine CR (P:=λvs=>((Hz k n vs D).map _).Nodup) h (λvs t ih=>?_) vs;rw[iW];exact Ai ih
theorem sY (us vs:List Tm):((n8 us vs).map (·.1)).Nodup:=by
 refine CR (P:=λus=>((n8 us vs).map _).Nodup) YH (λus t ih=>?_) us;rw[iY];exact Nx ih
theorem En (k:List Int)(n:Int)(vs D:List Tm):(Hz k n vs D).length<=D.length+vs.length:=by
 refine CR (P:=λvs=>(Hz k n vs D).length<=D.length+vs.length) (GZ _) (λvs t ih=>?_) vs;rw[iW,Pa,Yh];exact HN (M7 ..)<|by lia
theorem zbV (us vs:List Tm):(n8 us vs).length<=us.length*vs.length:=by
 refine CR (P:=λus=>(n8 us vs).length<=us.length*vs.length) (Oj _) (λus t ih=>?_) us;rw[iY,Pa,Yh,Nat.add_mul];exact HN (En ..)<|by lia
def dl (r k:List Int):Int:=if k=r then 1 else 0
def Df (D rs:List Tm):Prop:=∃ks:List (List Int),ks.Perm (D.map (·.1))/\ks.Pairwise (· < ·)/\rs=vG D ks
def Ms (L:Nat)(us:List Tm):Prop:=us.length<=210/\(us.map (·.1)).Pairwise (· < ·)/\∀t∈us,t.1.length=L/\t.2≠0/\Sm 30000 t.2/\∀p∈t.1,0<=p/\p<=40
theorem K6 {l:List Int}(hk:k.length=L/\∀p∈k,0<=p/\p<=40)(hl:l.length=L/\∀p∈l,0<=p/\p<=40):Kb L (dJ k l):=by
 refine⟨by rw[wL<|by rw[hk.1,hl.1],hk.1],λp hp=>?_⟩;obtain⟨a,ha,b,hb,rfl⟩:=qX hp;grind
theorem K9 (ht:t.1.length=L/\∀p∈t.1,0<=p/\p<=40)(hv:∀t∈vs,t.1.length=L/\∀p∈t.1,0<=p/\p<=40)(hD:∀k∈D.map (·.1),Kb L k):∀k∈(Hz t.1 t.2 vs D).map (·.1),Kb L k:=by
 revert hv
 refine CR (P:=λvs=>(∀t∈vs,t.1.length=L/\∀p∈t.1,0<=p/\p<=40)->∀k∈(Hz _ _ vs D).map _,Kb L k) (λ_=>hD) (λvs s ih hv k hk=>?_) vs;rw[iW,wD]at hk;have hk:k∈(Hz t.1 t.2 vs D).map (·.1)\/k=dJ t.1 s.1:=by
  split at hk
  exact .inl hk;grind
 rcases hk with hk|rfl
 exact ih (λu hu=>hv u<|Qv _ hu) k hk;exact K6 ht<|hv s<|by simp
theorem zW {us:List Tm}(hu:∀t∈us,t.1.length=L/\∀p∈t.1,0<=p/\p<=40)(hv:∀t∈vs,t.1.length=L/\∀p∈t.1,0<=p/\p<=40):∀k∈(n8 us vs).map (·.1),Kb L k:=by
 revert hu
 refine CR (P:=λus=>(∀t∈us,t.1.length=L/\∀p∈t.1,0<=p/\p<=40)->∀k∈(n8 us vs).map _,Kb L k) (λ_ k hk=>by simp[n8]at hk) (λus t ih hu=>?_) us;rw[iY];exact K9 (hu t<|by simp) hv<|ih λu h=>hu u<|Qv _ h
def Hv (D:List Tm):List (Key×W):=D.map λt=>(.inl (pack t.1),.int t.2)
theorem vL (hD:∀j∈D.map (·.1),Kb L j)(hk:Kb L k):ql (Hv D) (.inl (pack k))=((D.find? λt=>decide (t.1=k)).map λt=>W.int t.2):=by
 unfold ql Hv;induction D with
 | nil=>rfl
 | cons t D ih=>
  rw[HY,List.find?_cons];by_cases c:t.1=k
  grind
  rw[decide_eq_false (λe=>c (iH (hD _ (by simp)) hk (Sum.inl.inj e)))];grind
theorem akH (hD:∀j∈D.map (·.1),Kb L j)(hk:Kb L k):(ql (Hv D) (.inl (pack k))).getD (.int 0)=.int (getM D k):=by
 rw[vL hD hk];unfold getM;cases D.find? λt=>decide (t.1=k)<;>rfl
theorem KH {n:Int}(hD:∀j∈D.map (·.1),Kb L j)(hk:Kb L k):Vi (Hv D) (.inl (pack k)) (.int n)=Hv (u6 D k n):=by
 have ea:((Hv D).any λkv=>decide (kv.1=Sum.inl (pack k)))=D.any λt=>decide (t.1=k):=by
  unfold Hv;rw[Xe,XQ,VR,VR];constructor;rintro⟨t,ht,e⟩;simp only[Function.comp,decide_eq_true_iff]at e;exact⟨t,ht,decide_eq_true<|iH (hD _<|GX.mpr ⟨t,ht,rfl⟩) hk<|Sum.inl.inj e⟩;grind
 unfold Vi u6;rw[ea];by_cases c:(D.any λt=>decide (t.1=k))=true
 rw[if_pos c,if_pos c];unfold Hv;rw[Ks,Ks];refine VG λt ht=>?_;simp only[Function.comp];by_cases e:t.1=k
 grind
 rw[if_neg e,if_neg (λz=>e (iH (hD _ (GX.mpr ⟨t,ht,rfl⟩)) hk (Sum.inl.inj z)))];rw[if_neg c,if_neg c];simp[Hv]
theorem Ky:∀{ks js:List Int},ks.Perm js->ks.Pairwise (· < ·)->js.Pairwise (· < ·)->ks=js
 | [],js,p,_,_=>p.symm.eq_nil.symm
 | a::ks,[],p,_,_=>p.eq_nil
 | a::ks,b::js,p,h1,h2=>by
  have e:a=b:=by
   have ma:=p.mem_iff.mp (Lp ..);have mb:=p.mem_iff.mpr (Lp ..);rcases Jz.mp ma with e|ma
   exact e;rcases Jz.mp mb with e|mb
   exact e.symm;have:=(Vc.mp h1).1 b mb
   have:=(Vc.mp h2).1 a ma
   lia
  subst e;rw[Ky (List.Perm.cons_inv p) (Vc.mp h1).2 (Vc.mp h2).2]
def VD (a:List Int):List (List Int)->List (List Int)
 | []=>[a]
 | b::l=>if a<b then a::b::l else b::VD a l
theorem uf (a:List Int):∀l,(VD a l).Perm (a::l)
 | []=>.refl _
 | b::l=>by
  unfold VD;split
  exact .refl _
  ·exact(List.Perm.cons b<|uf a l).trans (List.Perm.swap a b l)
theorem Ep {a:List Int}:∀{l:List (List Int)},l.Pairwise (· < ·)->a∉l->(VD a l).Pairwise (· < ·)
 | [],_,_=>by simp[VD]
 | b::l,h,n=>by
  rw[Vc]at h;unfold VD;split
  rename_i c;rw[Vc];refine⟨λx hx=>?_,Vc.mpr h⟩;grind
  rename_i c;rw[Vc];refine⟨λx hx=>?_,Ep h.2 λm=>n<|OD _ m⟩;rcases Jz.mp ((uf a l).mem_iff.mp hx)with rfl|hx
  grind
  grind
theorem Vw:∀(l:List (List Int)),l.Nodup->∃ks:List (List Int),ks.Perm l/\ks.Pairwise (· < ·)
 | [],_=>⟨[],.refl _,.nil⟩
 | a::l,nd=>by
  rw[RZ]at nd;obtain⟨ks,p,s⟩:=Vw l nd.2;exact⟨VD a ks,(uf a ks).trans (p.cons a),Ep s λm=>nd.1<|p.mem_iff.mp m⟩
def PkX (c0:AP):Prop:=∀{h:Gh}{k:List Int}{L:Nat}{Q:WK}{E:CQ},Kb L k->L<=8->Q (.int (pack k)) h->c0 [.tup (k.map .int)] h Q E
theorem NP {D:bR}(hv:U[i]?=Dn (Dn (.tup ws)))(x:g8 ⟨ws,Go⟩ g b D ws U h):qP (Hs (aA i)) g b D U h:=m7 (gZ (ao hv (uH rfl (pX x))))
theorem akr (h:Kb L k)(i:Nat):Kb (min i L) (k.take i):=⟨by rw[Qn,h.1],λp hp=>h.2 p (YZ hp)⟩
theorem Iz:PkX Gw:=by
 intro h k L Q E hk hL q;refine fZ (λi U h'=>h'=h/\∃s2:Option W,U=[Dn _,Dn<|.int<|pack<|k.take i,s2]) ?_ ?_ ⟨rfl,Go,rfl⟩;rintro i w U h' N hN e ⟨rfl,s2,rfl⟩;obtain⟨p,ep,rfl⟩:=ints_get e;have s1:Sm 128 _:=K1 ((j6 (akr hk i)).2) (Z5 (by decide) (by lia));refine aU<|aH<|aH<|ao rfl<|aV<|vg (.of s1 (.lit rfl) (by decide)<|by decide)<|ao rfl<|mQ ?_
 refine jt (U':=[Dn _,Dn _,Dn<|.int p]) ?_<|bx<|hN _ _ ⟨rfl,_,rfl⟩
 rw[Jt,ep];show _=[Dn (W.tup _),Dn (.int (pack (k.take i++[p]))),Dn (.int p)];rw[cI];rfl;rintro U h' ⟨rfl,s2,rfl⟩;rw[CV,Lj];exact bx<|aR<|ao rfl<|eN q
def UnX (c0:AP):Prop:=∀{h:Gh}{k:List Int}{L:Nat}{Q:WK}{E:CQ},Kb L k->L<=8->Q (.tup (k.map .int)) h->c0 [.int (pack k),.int (L:Int)] h Q E
theorem aiK (h:Kb L k)(hi:i<L):(pack (k.take (L-i))).fmod 65536=k.getD (L-1-i) 0/\(pack (k.take (L-i))).fdiv 65536=pack (k.take (L-(i+1))):=by
 have lk:=h.1;have e1:L-i=(L-1-i)+1:=by lia
 have e2:L-(i+1)=L-1-i:=by lia
 have ek:k[L-1-i]?=Dn _:=JD (by lia);have hb:=h.2 (k[L-1-i]'(by lia)) (RQ _);rw[e2,e1,Jt,ek];show(pack (k.take _++[k[L-1-i]'(by lia)])).fmod 65536=_/\(pack (k.take _++[k[L-1-i]'(by lia)])).fdiv 65536=_;rw[cI,M9,ek,kE (by decide),wH (by decide)];grind
theorem aaG (hv:U[i]?=Dn (Dn (.loc n)))(e:h.c n=Dn (.lst us))(x:Q (.tup us.reverse) h):wG (aA i) U h Q:=by
 refine ao hv ?_
 rwa[aji e]
def dg (k:List Int)(L i:Nat):List Int:=(Ji i).map λj=>k.getD (L-1-j) 0
theorem aaO (h:k.length=L):(dg k L L).reverse=k:=by
 have ll:(dg k L L).length=L:=by unfold dg;simp
 refine List.ext_getElem (by rw[List.length_reverse,ll,h]) λj h1 h2=>?_;rw[List.getElem_reverse];simp[dg];grind
theorem Z7:UnX vI:=by
 intro h k L Q E hk hL q;refine pU rfl (U:=[Dn<|.int<|pack k,Dn<|.int L,Go,Go]) rfl ?_;refine aJ<|aU<|je (ws:=[]) (λR=>rfl) rfl λg eg og xg=>?_
 refine nV<|bx ?_
 refine ajF (λ_=>rfl) (by lia) (by lia) (λi U h'=>i<=L/\∃s3:Option W,U=[Dn<|.int<|pack<|k.take<|L-i,Dn<|.int L,Dn<|.loc h.nx,s3]/\h'.c h.nx=Dn (.lst<|(dg k L i).map .int)/\∀n,n≠h.nx->h'.c n=h.c n) ?_ ?_ ⟨Oj _,Go,by rw[Nat.sub_zero,Yp (by rw[hk.1];exact GZ _)],eg,og⟩;rintro i U h' N hN hi ⟨_,s3,rfl,e2,o2⟩;obtain⟨u1,u2⟩:=aiK hk hi;refine aJ<|d9<|lH<|ao rfl<|gK e2<|ak<|aH<|ao rfl<|aV<|T9 (by decide)<|aq ?_
 refine Bj e2 (by rw[CV];unfold dg;simp;lia) λg2 a1 a2 a3=>bx ?_;refine aU<|aH<|ao rfl<|aV<|Lw ⟨by decide,64,by decide,.lit rfl⟩ ?_
 rw[u2];refine hN _ _ ⟨by lia,_,rfl,?_,λn hn=>by rw[a2 n hn];exact o2 n hn⟩;rw[a1,u1];unfold dg;rw[VP,Jb,Jb];rfl;rintro U h' ⟨_,s3,rfl,e2,o2⟩;have eL:(L:Int).toNat=L:=by lia
 rw[eL]at e2;refine bx<|aR<|aaG rfl e2 ?_
 rw[<-List.map_reverse,aaO hk.1];exact⟨λn c hn ec=>by rw[o2 n<|by lia];exact ec,.inl ⟨by rw[Lo];exact CP _ _,q⟩⟩
def Rp (t:Tm):W:=.tup [.int (pack t.1),.int t.2]
def PtX (c0:AP):Prop:=∀{h:Gh}{us:List Tm}{L:Nat}{Q:WK}{E:CQ},(∀t∈us,Kb L t.1)->us.length<=1000->L<=8->Q (.lst (us.map Rp)) h->c0 [Cp us] h Q E
theorem afr {pk:AP}(hpk:PkX pk):PtX (lO pk):=by
 intro h us L Q E hu hz hL q;refine bY rfl rfl<|aR<|iu<|gZ<|ao rfl<|uH rfl<|gn.mk (HN (by rwa[CV])<|by decide)<|dU (λi acc g=>g=h/\acc=(us.take i).map Rp) ?_ (by grind) ⟨rfl,rfl⟩
 rintro i w acc g N hN e ⟨rfl,rfl⟩;rw[HI]at e;cases qe:us[i]? with
 | none=>rw[qe]at e;cases e
 | some t=>
  rw[qe]at e;cases e;refine⟨[.tup _,.int t.2],rfl,dN<|dF<|dD<|ak<|aF<|ak<|ao rfl<|aq<|hpk (hu t<|Mz qe) hL<|ak<|ao rfl<|aq<|bW rfl<|hN _ _ ⟨rfl,?_⟩⟩;rw[Jt,qe,Jb];rfl
theorem Ut (e:h.c n=Dn (.dct (Hv D)))(hD:∀j∈D.map (·.1),Kb L j)(m:k∈D.map (·.1))(q:Q (.int (getM D k)) h):Xu (.loc n) (.int (pack k)) h Q:=by
 show(match h.c n with
  | some (.dct kvs)=>(match ql kvs _ with
   | some w=>Q w h
   | none=>False)
  | _=>False)
 rw[e];show(match ql _ _ with
  | some w=>Q w h
  | none=>False)
 rw[vL hD (hD k m)];cases f:D.find? λt=>decide (t.1=k)with
 | none=>
  grind
 | some t=>
  have eg:getM D k=t.2:=by unfold getM;rw[f];rfl
  rwa[eg]at q
def itW (t:Tm):W:=.tup [.int (pack t.1),.int t.2]
def acO (rs:List Tm):Prop:=∃t∈rs,∃p∈t.1,60<p
instance (rs:List Tm):Decidable (acO rs):=by unfold acO;infer_instance
def CpX (c0:AP):Prop:=∀{h:Gh}{rs:List Tm}{L:Nat}{Q:WK}{E:CQ},(∀t∈rs,t.1.length=L)->L<=8->rs.length<=600->(¬acO rs->Q .non h)->(acO rs->E ⟨"TooMuch",[]⟩ h)->c0 [Cp rs] h Q E
theorem agq:CpX lG:=by
 intro h rs L Q E hl hL hz q1 q2;refine bY rfl rfl ?_;refine fZ (λi U h'=>h'=h/\(∀t∈rs.take i,∀p∈t.1,¬60<p)/\∃s1 s2:Option W,U=[Dn<|Cp rs,s1,s2]) ?_ ?_ ⟨rfl,λ_ h=>by simp at h,Go,Go,rfl⟩
 ·rintro i w U h' N hN e ⟨rfl,lo,s1,s2,rfl⟩;rw[HI]at e;cases qe:rs[i]? with
  | none=>rw[qe]at e;cases e
  | some t=>
   rw[qe]at e;cases e;have mt:=Mz qe;have lt:=hl t mt;refine jx rfl rfl<|cC<|nV ?_
   refine cC<|nV ?_
   refine bf<|cR<|bG<|ak<|iu<|gZ<|ao rfl<|uH (o:=Go) rfl<|gn.mk (HN (m:=1000) (by rw[CV];lia)<|by decide) ?_
   refine dU (λj acc g=>g=h'/\acc=((t.1.take j).map λp=>decide<|p>60).map .bl) ?_ ?_ ⟨rfl,rfl⟩;rintro j w acc g N' hN' e' ⟨rfl,rfl⟩;obtain⟨p,ep,rfl⟩:=ints_get e';refine⟨[.int p],rfl,dN<|dF<|aH<|ao rfl<|aV<|Bh<|hN' _ _ ⟨rfl,?_⟩⟩;rw[Jt,ep];simp;rintro acc g ⟨rfl,rfl⟩;rw[CV,Lj];refine aq<|Jy rfl (Cw _)<|qT rfl ?_
   have ea:(t.1.map λp=>decide (p>60)).any id=decide (∃p∈t.1,60<p):=by
    rw[XQ,Xe,VR,decide_eq_true_iff];constructor;rintro⟨p,hp,e⟩;exact⟨p,hp,by simpa using e⟩;rintro⟨p,hp,e⟩;exact⟨p,hp,by simpa using e⟩
   rw[ea];refine Bp (λc=>kj<|q2 ⟨t,mt,c⟩) λc=>aQ<|hN _ _ ⟨rfl,λu hu p hp h60=>?_,_,_,rfl⟩
   rw[Jt,qe]at hu;rcases W9.mp hu with hu|hu
   exact lo u hu p hp h60;have:u=t:=by simpa using hu
   exact c ⟨p,this ▸ hp,h60⟩
 rintro U h' ⟨rfl,lo,s1,s2,rfl⟩;rw[CV,Lj]at lo;exact bx<|q1 λ⟨t,ht,p,hp,h60⟩=>lo t ht p hp h60
def Over (us vs rs:List Tm):Prop:=20000<us.length*vs.length\/600<rs.length\/acO rs
theorem Uh {x:Int}{N:Gh->Prop}(e:h.c n=Dn (.dct (Hv D)))(hD:∀j∈D.map (·.1),Kb L j)(hk:Kb L k)(hz:D.length<=30000)(q:∀g:Gh,g.c n=Dn (.dct (Hv (u6 D k x)))->(∀m,m≠n->g.c m=h.c m)->g.nx=h.nx->N g):Jf (.loc n) (.int (pack k)) (.int x) h N:=by
 show(match h.c n with
  | some (.dct kvs)=>gn _ _
  | _=>False)
 rw[e];refine gn.mk (HN (m:=30001) (by unfold Hv;rw[CV];lia)<|by decide) ?_;exact KH hD hk ▸ q _ (xM _ _ _) (λ_ e=>nu e) rfl
theorem R9 (e:h.c n=Dn (.dct (Hv D)))(hD:∀j∈D.map (·.1),Kb L j)(hk:Kb L k)(q:Q (.int (getM D k)) h):Jx (.loc n) [.int (pack k),.int 0] h Q:=by
 show(match h.c n,(Dn _:Option Key)with
  | some (.dct kvs),Dn k=>Q _ h
  | _,_=>False)
 rw[e];show Q _ h
 rwa[akH hD hk]
theorem CK {kvs:List (Key×W)}(e:h.c n=Dn (.dct kvs))(p:P):HS h (.loc n) P:=by
 unfold HS;grind
theorem Jh {r:MM}{mo:ME}(x:mo U h λx h1=>HS h1 x (ma U h1 λxs h2=>r x xs h2 Q)):Zg r mo ma U h Q:=x
theorem akN (x:∀g:Gh,g.c h.nx=Dn (.dct (Hv []))->(∀n,n≠h.nx->g.c n=h.c n)->g.nx=h.nx+1->Q (.loc h.nx) g):Wt U h Q:=x _ (Iu _ _) (λ_ e=>zA e) rfl
theorem ahb {us:List Tm}(e:us[i]?=Dn t):n8 (us.take (i+1)) vs=Hz t.1 t.2 vs (n8 (us.take i) vs):=by
 rw[Jt,e];exact iY ..
theorem ahm {n:Int}{s:Tm}(e:vs[i]?=Dn s):Hz k n (vs.take (i+1)) D=Kz (Hz k n (vs.take i) D) (dJ k s.1) (n*s.2):=by
 rw[Jt,e];exact iW ..
theorem Ms.kb {us:List Tm}(h:Ms L us):∀t∈us,t.1.length=L/\∀p∈t.1,0<=p/\p<=40:=λt ht=>⟨(h.2.2 t ht).1,(h.2.2 t ht).2.2.2⟩
theorem Df.facts {rs:List Tm}(hD:∀k∈D.map (·.1),Kb L k)(nd:(D.map (·.1)).Nodup)(a:Df D rs):(∀t∈rs,Kb L t.1/\t.2≠0)/\(rs.map (·.1)).Pairwise (· < ·):=by
 obtain⟨ks,pk,sk,rfl⟩:=a;refine⟨λt ht=>?_,Cu sk⟩;have:=Ud nd (λk hk=>pk.mem_iff.mp hk) ht
 grind
theorem Gd:∀us:List Tm,qz (us.map Hj)=Dn (Nh us)
 | []=>rfl
 | t::us=>by
  show(match Tz _ with
   | some ks=>(qz _).map _
   | none=>Go)=_
  rw[Gk,Gd us];rfl
theorem acV {us:List Tm}(nd:(us.map (·.1)).Nodup)(x:∀g:Gh,g.c h.nx=Dn (.dtt (Nh us))->(∀n,n≠h.nx->g.c n=h.c n)->g.nx=h.nx+1->Q (.loc h.nx) g):Fe [Cp us] h Q:=by
 show(match qz _ with
  | some ps=>(ps.map _).Nodup/\Q _ _
  | none=>False)
 rw[Gd];refine⟨?_,x _ (Iu _ _) (λ_ e=>zA e) rfl⟩;have:(Nh us).map (·.1)=us.map (·.1):=by unfold Nh;rw[Ks];rfl
 rwa[this]
theorem Uu {h':Gh}{us:List Tm}(keep:∀n,n<h.nx->h'.c n=h.c n)(q:Q (Cp us) h):mG true h (Cp us) h' Q:=
 ⟨λn c hn ec=>keep n hn ▸ ec,.inl ⟨Y6 _ _,q⟩⟩
def uJ (f:Int)(us vs:List Tm):List Tm:=vs.foldl (λD t=>Kz D t.1 (f*t.2)) us
theorem jN (f:Int)(us vs:List Tm)(t:Tm):uJ f us (vs++[t])=Kz (uJ f us vs) t.1 (f*t.2):=by unfold uJ;rw[Ww];rfl
theorem Cm {us:List Tm}(h:(us.map (·.1)).Nodup):((uJ f us vs).map (·.1)).Nodup:=by
 refine CR (P:=λvs=>((uJ f us vs).map _).Nodup) h (λvs t ih=>?_) vs;rw[jN];exact Ai ih
theorem zbC (f:Int)(us vs:List Tm):(uJ f us vs).length<=us.length+vs.length:=by
 refine CR (P:=λvs=>(uJ f us vs).length<=us.length+vs.length) (GZ _) (λvs t ih=>?_) vs;rw[jN,Pa,Yh];exact HN (M7 ..)<|by lia
theorem Jc {r:List Int}:∀{vs:List Tm},(vs.map (·.1)).Nodup->lin (λk=>if k=r then 1 else 0) vs=getM vs r
 | [],_=>rfl
 | t::vs,nd=>by
  rw[HY,RZ]at nd;rw[gA,bO,Jc nd.2];by_cases c:t.1=r
  rw[if_pos c,if_pos c,getM_none (c ▸ nd.1)];lia;grind
theorem zO {us:List Tm}:∀k∈(uJ f us vs).map (·.1),k∈us.map (·.1)\/k∈vs.map (·.1):=by
 refine CR (P:=λvs=>∀k∈(uJ f us vs).map _,k∈us.map _\/k∈vs.map _) (λk h=>.inl h) (λvs t ih k hk=>?_) vs;rw[jN,wD]at hk;grind
def Ls (L:Nat)(us:List Tm):Prop:=us.length<=400/\(us.map (·.1)).Pairwise (· < ·)/\∀t∈us,t.1.length=L/\t.2≠0/\Sm 30000 t.2
theorem ZS {us:List Tm}(hu:Ls L us)(hv:Ls L vs):∀t∈uJ f us vs,t.1.length=L:=λt ht=>by
 rcases zO _ (GX.mpr ⟨t,ht,rfl⟩)with h|h
 obtain⟨u,h1,h2⟩:=GX.mp h;rw[<-h2];exact(hu.2.2 u h1).1;obtain⟨u,h1,h2⟩:=GX.mp h;rw[<-h2];exact(hv.2.2 u h1).1
def aft (c0:AP):Prop:=∀{h:Gh}{n:Nat}{ts:List Tm}{Q:WK}{E:CQ},h.c n=Dn (.dtt (Nh ts))->ts.length<64->JW (ts.map (·.1))->(∀ks:List (List Int),ks.Perm (ts.map (·.1))->ks.Pairwise (· < ·)->((vG ts ks).length<=600->Q (Cp (vG ts ks)) h)/\(600<(vG ts ks).length->E ⟨"TooMuch",[]⟩ h))->c0 [.loc n] h Q E
theorem zbJ (hv:U[0]?=Dn (Dn (.loc n)))(ec:h.c n=Dn (.dct (Hv D)))(hD:∀j∈D.map (·.1),Kb L j)(nd:(D.map (·.1)).Nodup)(hz:D.length<64)
  (q:∀rs,Df D rs->Q (.lst (rs.map itW)) h) :
  HJ JR [0] (Hs (G8 Gm (aj (aA 0) aG))) (bF (Af Kv (Af Yn (aA 1) (aA 0)) (mC (.int 0)))) (bH (aj (aA 0) (aj (Af Yn (aA 1) (aA 0)) aG))) U h Q:=by
 have eb:mU [0] U=[Dn (.loc n)]:=by unfold mU;rw[HY,hv];rfl
 refine iu<|gZ<|bG<|ak<|ao hv<|aq<|Or.inr ?_
 show(match h.c n with
  | some (.dct kvs)=>∃ks:List Int,Ao kvs ks/\ks.length<64/\∀js:List Int,js.Perm ks->js.Pairwise (· < ·)->_
  | _=>False)
 rw[ec];refine⟨(D.map (·.1)).map pack,by unfold Ao Hv;rw[Ks,Ks,Ks];rfl,by rw[CV,CV];exact hz,λjs pj sj=>?_⟩;obtain⟨ks,pk,sk⟩:=Vw (D.map (·.1)) nd;have ej:js=ks.map pack:=by
  refine Ky (pj.trans (pk.map pack).symm) sj ?_;rw[RT];exact YT (λ{a b} ha hb h=>(pJ (hD a<|pk.mem_iff.mp ha)<|hD b<|pk.mem_iff.mp hb).mp h) sk
 subst ej;have q:=q _ ⟨ks,pk,sk,rfl⟩;have lk:ks.length=D.length:=by rw[pk.length_eq,CV]
 refine uH (ws:=(ks.map pack).map .int) (o:=Go) rfl<|gn.mk (HN (m:=30000) (by rw[CV,CV];lia)<|by decide) ?_
 refine dU (λi acc h'=>h'=h/\acc=(vG D<|ks.take i).map itW) ?_ ?_ ⟨rfl,rfl⟩
 ·rintro i w acc h' N hN e ⟨rfl,rfl⟩;rw[Ks,HI]at e;cases qe:ks[i]? with
  | none=>rw[qe]at e;cases e
  | some k=>
   rw[qe]at e;cases e;have mk:=pk.mem_iff.mp (Mz qe);refine⟨[.int<|pack k],rfl,?_⟩;rw[eb];have eo:vG D (ks.take (i+1))=vG D (ks.take i)++([(k,getM D k)].filter λt:Tm=>decide (t.2≠0)):=by
    unfold vG;rw[Jt,qe,Jb,Y7];rfl
   refine aN<|aH<|aH<|ao rfl<|ao rfl<|Or.inr<|Ut ec hD mk<|aV<|sJ<|eE ?_
   refine aaE (λne=>?_) λne=>?_;refine dD<|ak<|ao rfl<|ak<|aH<|ao rfl<|ao rfl<|Or.inr<|Ut ec hD mk<|aq<|bW rfl ?_
   refine hN _ _ ⟨rfl,?_⟩;rw[eo,Qg,if_pos (by simpa using ne),Jb];rfl;refine hN _ _ ⟨rfl,?_⟩;rw[eo,Qg,if_neg (by simpa using ne)];simp
 rintro acc h' ⟨rfl,rfl⟩;rw[CV,CV,Lj];exact q
def afs (c0:AP):Prop:=∀{h:Gh}{n:Nat}{D:List Tm}{L:Nat}{Q:WK}{E:CQ},h.c n=Dn (.dct (Hv D))->(∀j∈D.map (·.1),Kb L j)->(D.map (·.1)).Nodup->D.length<64->(∀rs,Df D rs->(rs.length<=600->Q (.tup (rs.map itW)) h)/\(600<rs.length->E ⟨"TooMuch",[]⟩ h))->c0 [.loc n] h Q E
theorem alh:afs gP:=by
 intro h n D L Q E ec hD nd hz q;refine bY rfl (U:=[Dn _,Go]) rfl<|aJ<|aU<|bG<|ak<|zbJ rfl ec hD nd hz λrs hr=>aq<|gD ?_
 obtain⟨q1,q2⟩:=q rs hr;refine nV<|bx<|aJ<|bf<|aN<|aH<|bG<|ak<|ao rfl<|aq<|cN rfl ?_
 rw[CV];exact aV<|Bh<|eE<|Bp (λc=>kj<|q2<|by lia) λc=>aQ<|bx<|aR<|ao rfl<|eN<|q1<|by lia
theorem zbI (hv:U[0]?=Dn (Dn (.loc n)))(ec:h.c n=Dn (.dtt (Nh ts)))(hz:ts.length<64)(hs:JW (ts.map (·.1)))
  (q:∀ks:List (List Int),ks.Perm (ts.map (·.1))->ks.Pairwise (· < ·)->Q (.lst ((vG ts ks).map Hj)) h) :
  HJ JR [0] (Hs (G8 Gm (aj (aA 0) aG))) (bF (Af Kv (Af Yn (aA 1) (aA 0)) (mC (.int 0)))) (bH (aj (aA 0) (aj (Af Yn (aA 1) (aA 0)) aG))) U h Q:=by
 have eb:mU [0] U=[Dn (.loc n)]:=by unfold mU;rw[HY,hv];rfl
 refine iu<|gZ<|bG<|ak<|ao hv<|aq<|Or.inl ?_
 show(match h.c n with
  | some (.dtt kvs)=>Xx (kvs.map (·.1))/\∀ks:List (List Int),ks.Perm (kvs.map (·.1))->ks.Pairwise (· < ·)->_
  | _=>False)
 rw[ec];have ek:(Nh ts).map (·.1)=ts.map (·.1):=by unfold Nh;rw[Ks];rfl
 refine⟨⟨by rw[ek,CV];exact hz,by rw[ek];exact hs⟩,λks pk sk=>?_⟩;rw[ek]at pk;have q:=q ks pk sk;have lk:ks.length=ts.length:=by rw[pk.length_eq,CV]
 refine uH (o:=Go) rfl<|gn.mk (HN (m:=1000) (by rw[CV];lia)<|by decide) ?_
 refine dU (λi acc h'=>h'=h/\acc=(vG ts<|ks.take i).map Hj) ?_ ?_ ⟨rfl,rfl⟩
 ·rintro i w acc h' N hN e ⟨rfl,rfl⟩;rw[HI]at e;cases qe:ks[i]? with
  | none=>rw[qe]at e;cases e
  | some k=>
   rw[qe]at e;cases e;have mk:=pk.mem_iff.mp (Mz qe);refine⟨[.tup<|k.map .int],rfl,?_⟩;rw[eb];have eo:vG ts (ks.take (i+1))=vG ts (ks.take i)++([(k,getM ts k)].filter λt:Tm=>decide (t.2≠0)):=by
    unfold vG;rw[Jt,qe,Jb,Y7];rfl
   refine aN<|aH<|aH<|ao rfl<|ao rfl<|Or.inl<|SQ ec mk<|aV<|sJ<|eE ?_
   refine aaE (λne=>?_) λne=>?_;refine dD<|ak<|ao rfl<|ak<|aH<|ao rfl<|ao rfl<|Or.inl<|SQ ec mk<|aq<|bW rfl ?_
   refine hN _ _ ⟨rfl,?_⟩;rw[eo,Qg,if_pos (by simpa using ne),Jb];rfl;refine hN _ _ ⟨rfl,?_⟩;rw[eo,Qg,if_neg (by simpa using ne)];simp
 rintro acc h' ⟨rfl,rfl⟩;rw[CV,Lj];exact q
theorem aaX:aft gP:=by
 intro h n ts Q E ec hz hs q;refine bY rfl (U:=[Dn _,Go]) rfl<|aJ<|aU<|bG<|ak<|zbI rfl ec hz hs λks pk sk=>aq<|gD ?_
 obtain⟨q1,q2⟩:=q ks pk sk;refine nV<|bx<|aJ<|bf<|aN<|aH<|bG<|ak<|ao rfl<|aq<|cN rfl ?_
 rw[CV];exact aV<|Bh<|eE<|Bp (λc=>kj<|q2<|by lia) λc=>aQ<|bx<|aR<|ao rfl<|eN<|q1<|by lia
def afB (f:Int)(us vs rs:List Tm):Prop:=∃ks:List (List Int),ks.Perm ((uJ f us vs).map (·.1))/\ks.Pairwise (· < ·)/\rs=vG (uJ f us vs) ks
def WhX (c0:AP):Prop:=∀{h:Gh}{us vs:List Tm}{f:Int}{L:Nat}{Q:WK}{E:CQ},Ls L us->Ls L vs->Sm 64 f->(uJ f us vs).length<64->(∀rs,afB f us vs rs->(rs.length<=600->Q (Cp rs) h)/\(600<rs.length->∀h':Gh,E ⟨"TooMuch",[]⟩ h'))->c0 [Cp us,Cp vs,.int f] h Q E
theorem ajc {us:List Tm}(e:vs[i]?=Dn t):uJ f us (vs.take (i+1))=Kz (uJ f us (vs.take i)) t.1 (f*t.2):=by
 rw[Jt,e];exact jN ..
variable {so:AP}
theorem agk (hso:aft so):WhX (pQ so):=by
 intro h us vs f L Q E hu hv sf h64 q;have lu:=hu.1;have lv:=hv.1;refine pU rfl rfl<|aJ<|aU<|bG<|ak<|ao rfl<|aq<|acV (cU hu.2.1) λg eg og xg=>?_
 refine fZ (λi U h'=>∃s4 s5:Option W,U=[Dn<|Cp us,Dn<|Cp vs,Dn<|.int f,Dn<|.loc h.nx,s4,s5]/\h'.c h.nx=Dn (.dtt<|Nh<|uJ f us<|vs.take i)/\∀n,n≠h.nx->h'.c n=h.c n) ?_ ?_ ⟨Go,Go,rfl,eg,og⟩
 ·rintro i w U h' N hN e ⟨s4,s5,rfl,e2,o2⟩;rw[HI]at e;cases qe:vs[i]? with
  | none=>rw[qe]at e;cases e
  | some t=>
   rw[qe]at e;cases e;have ld:=zbC f us (vs.take i);rw[Qn]at ld;refine jx rfl rfl<|cC<|nV ?_
   refine cC<|nV ?_
   refine aU<|aH<|aau<|ao rfl<|ahU e2<|ak<|ao rfl<|ak<|aV<|aq<|aeD e2 ?_
   refine aH<|ao rfl<|ao rfl<|vg (.of sf (hv.2.2 t<|Mz qe).2.2 (by decide) (by decide))<|mQ<|Ju<|ao rfl<|ao rfl ?_
   refine abQ e2 (by lia) λg2 a1 a2 a3=>bx<|hN _ _ ⟨_,_,rfl,?_,λn hn=>a2 n hn ▸ o2 n hn⟩
   rw[ajc qe];exact a1
 rintro U h' ⟨s4,s5,rfl,e2,o2⟩;rw[CV,Lj]at e2;refine hso e2 h64 (ahF (L:=L) (Cm<|cU hu.2.1)<|ZS hu hv) λks pk sk=>?_;obtain⟨q1,q2⟩:=q _ ⟨ks,pk,sk,rfl⟩;exact⟨λl=>Uu (λn hn=>o2 n<|by lia)<|q1 l,λl=>q2 l h'⟩
def PlX (f:Int)(c0:AP):Prop:=∀{h:Gh}{us vs:List Tm}{L:Nat}{Q:WK}{E:CQ},Ls L us->Ls L vs->(uJ f us vs).length<64->(∀rs,afB f us vs rs->(rs.length<=600->Q (Cp rs) h)/\(600<rs.length->∀h':Gh,E ⟨"TooMuch",[]⟩ h'))->c0 [Cp us,Cp vs] h Q E
theorem aaT {wt:AP}(hwt:WhX wt):PlX 1 (Ui wt):=by
 intro h us vs L Q E hu hv h64 q;exact bY rfl rfl<|aR<|aF<|ak<|ao rfl<|ak<|ao rfl<|ak<|aV<|aq<|hwt hu hv (.lit rfl) h64 q
theorem ajw {wt:AP}(hwt:WhX wt):PlX (-1) (Nz wt):=by
 intro h us vs L Q E hu hv h64 q;exact bY rfl rfl<|aR<|aF<|ak<|ao rfl<|ak<|ao rfl<|ak<|Oa<|aV<|zf<|aq<|hwt hu hv (.lit rfl) h64 q
theorem ahr {D:bR}(hv:U[i]?=Dn (Dn (.lst ws)))(x:g8 ⟨ws,Go⟩ g b D ws U h):qP (Hs (aA i)) g b D U h:=m7 (gZ (ao hv (uH rfl (pX x))))
theorem S7 {l:List W}:Mi (w::l) 0=Dn w:=by
 unfold Mi QS;simp
theorem lets {us:List Tm}(hv:U[0]?=Dn (Dn (Cp us)))(hl:∀t∈us,t.1.length=L)(q:∀l:Nat,(us≠[]->l=L)->Q (.int l) h):
  Vn (pR (aA 0)) (G8 HB (aj (Af Bm (Af Bm (aA 0) (mC (.int 0))) (mC (.int 0))) aG)) (mC (.int 0)) U h Q:=by
 cases us with
 | nil=>exact RP (cR (ao hv (qT rfl (yR (aV (q 0 λn=>absurd rfl n))))))
 | cons t us=>
  refine RP<|cR<|ao hv<|qT rfl<|yL<|bG<|ak<|aH<|aH<|ao hv<|aV<|bC rfl S7<|aV<|bC rfl S7<|aq<|cN rfl ?_
  grind
theorem agf {l:Nat}{rs:List Tm}{un:AP}{E0:CQ}(hun:UnX un)(hv:U[10]?=Dn (Dn (.tup (rs.map itW))))(hv9:U[9]?=Dn (Dn (.int l)))(hr:∀t∈rs,Kb L t.1)(hl:rs≠[]->l=L)(hL:L<=8)(hz:rs.length<=600)(q:Q (.lst (rs.map Hj)) h):
  HJ (Q6 2) [9] (Hs (aA 10)) jd (bH (aj (aL un E0 (aj (aA 0) (aj (aA 2) aG))) (aj (aA 1) aG))) U h Q:=by
 have eb:mU [9] U=[Dn (.int l)]:=by unfold mU;rw[HY,hv9];rfl
 refine iu<|gZ<|ao hv<|uH (ws:=rs.map itW) (o:=Go) rfl<|gn.mk (HN (m:=1000) (by rw[CV];lia)<|by decide) ?_
 refine dU (λi acc g=>g=h/\acc=(rs.take i).map Hj) ?_ ?_ ⟨rfl,rfl⟩
 ·rintro i w acc g N hN e ⟨rfl,rfl⟩;rw[HI]at e;cases qe:rs[i]? with
  | none=>rw[qe]at e;cases e
  | some t=>
   rw[qe]at e;cases e;have mt:=Mz qe;have el:=hl (List.ne_nil_of_mem mt);subst el;refine⟨[.int<|pack t.1,.int t.2],rfl,?_⟩;rw[eb];refine hun (hr t mt) hL<|ak<|ao rfl<|aq<|bW rfl<|hN _ _ ⟨rfl,?_⟩
   rw[Jt,qe,Jb];rfl
 rintro acc g ⟨rfl,rfl⟩;rw[CV,Lj];exact q
def adl (c0:AP):Prop:=∀{h:Gh}{us vs:List Tm}{L:Nat}{Q:WK}{E:CQ},Ms L us->Ms L vs->L<=8->(n8 us vs).length<64->(∀rs,Df (n8 us vs) rs->(¬Over us vs rs->Q (Cp rs) h)/\(Over us vs rs->∀h':Gh,E ⟨"TooMuch",[]⟩ h'))->c0 [Cp us,Cp vs] h Q E
abbrev ht (us vs:List Tm)(h:Gh)(r:Sw):Sw:=Dn (Cp us)::Dn (Cp vs)::Dn (.loc h.nx)::Dn (.lst (vs.map Rp))::r
theorem ajC {un pt cp:AP}(hso:afs so)(hun:UnX un)(hpt:PtX pt)(hcp:CpX cp):adl (K4 so un pt cp):=by
 intro h us vs L Q E hu hv hL h64 q;have lu:=hu.1;have lv:=hv.1;have ku:=hu.kb;have kv:=hv.kb;have kbu:∀t∈us,Kb L t.1:=λt ht=>⟨(ku t ht).1,λp hp=>by have:=(ku t ht).2 p hp;lia⟩
 have kbv:∀t∈vs,Kb L t.1:=λt ht=>⟨(kv t ht).1,λp hp=>by have:=(kv t ht).2 p hp;lia⟩
 have kD:=zW ku kv;obtain⟨ks,pk,sk⟩:=Vw _ (sY us vs);have hO:Df (n8 us vs) (vG (n8 us vs) ks):=⟨ks,pk,sk,rfl⟩
 refine pU rfl (U:=[Dn<|Cp us,Dn<|Cp vs,Go,Go,Go,Go,Go,Go,Go,Go,Go,Go]) rfl ?_;refine aJ<|bf<|aN<|aH<|aH<|bG<|ak<|ao rfl<|aq<|cN (xs:=us.map Hj) rfl<|bG<|ak<|ao rfl<|aq<|cN (xs:=vs.map Hj) rfl ?_
 rw[CV,CV];refine vg (.of (n:=8) (m:=8) (by unfold Sm;show(us.length:Int).natAbs<256;lia) (by unfold Sm;show(vs.length:Int).natAbs<256;lia) (by decide)<|by decide)<|aV<|Bh<|eE ?_
 generalize ez:us.length*vs.length=z;refine Bp (λc=>kj<|(q _ hO).2 (.inl<|by lia) _) λc=>aQ<|bx ?_
 have hz:us.length*vs.length<=20000:=by lia
 unfold yF;refine aJ<|aU<|akN λg eg og xg=>?_
 refine nV<|bx ?_
 refine aJ<|aU<|aF<|ak<|ao rfl<|aq<|hpt kbv (by lia) hL ?_
 refine nV<|bx ?_
 refine aJ<|m7<|gZ<|aF<|ak<|ao rfl<|aq<|hpt kbu (by lia) hL<|uH (ws:=us.map Rp) (o:=Go) rfl<|pX ?_
 refine fZ (λi U h'=>∃s4 s5 s6 s7 s8:Option W,U=ht us vs h [s4,s5,s6,s7,s8,Go,Go,Go]/\h'.c h.nx=Dn (.dct<|Hv<|n8 (us.take i) vs)/\h'.nx=h.nx+1/\∀n,n≠h.nx->h'.c n=h.c n) ?_ ?_ ⟨Go,Go,Go,Go,Go,rfl,eg,xg,og⟩
 ·rintro i w U h' N hN e ⟨s4,s5,s6,s7,s8,rfl,e2,x2,o2⟩;rw[HI]at e;cases qe:us[i]? with
  | none=>rw[qe]at e;cases e
  | some t=>
   rw[qe]at e;cases e;have mt:=Mz qe;have zi:(us.take i).length*vs.length<=20000:=HN (Nat.mul_le_mul_right _ (by rw[Qn];lia)) hz;have ldi:=HN (zbV (us.take i) vs) zi;have kDi:∀k∈(n8 (us.take i) vs).map (·.1),Kb L k:=zW (λu hu=>ku u (YZ hu)) kv
   refine jx rfl rfl<|cC<|nV ?_
   refine cC<|nV ?_
   refine qb ?_;refine ahr (ws:=vs.map Rp) rfl ?_;refine fZ (λj U h'=>∃s6 s7 s8:Option W,U=ht us vs h [Dn<|.int<|pack t.1,Dn<|.int t.2,s6,s7,s8,Go,Go,Go]/\h'.c h.nx=Dn (.dct<|Hv<|Hz t.1 t.2 (vs.take j)<|n8 (us.take i) vs)/\h'.nx=h.nx+1/\∀n,n≠h.nx->h'.c n=h.c n) ?_ ?_ ⟨s6,s7,s8,rfl,e2,x2,o2⟩
   ·rintro j w U h2 N2 hN2 e' ⟨s6,s7,s8,rfl,e3,x3,o3⟩;rw[HI]at e';cases qf:vs[j]? with
    | none=>rw[qf]at e';cases e'
    | some s=>
     rw[qf]at e';cases e'
     have ms:=Mz qf;have kDj:=K9 (t:=t) (vs:=vs.take j) (ku t mt) (λu hu=>kv u (YZ hu)) kDi;have kz:=K6 (ku t mt) (kv s ms);have lj:=En t.1 t.2 (vs.take j) (n8 (us.take i) vs);rw[Qn]at lj;refine jx rfl rfl<|cC<|nV ?_
     refine cC<|nV ?_
     refine qb ?_;refine aJ<|aU<|aH<|ao rfl<|ao rfl<|mQ ?_
     rw[<-gG (ku t mt).1 (kv s ms).1];refine nV<|bx ?_
     refine aU<|aH<|Jh<|ao rfl<|CK e3<|ak<|ao rfl<|ak<|aV<|aq<|R9 e3 kDj kz ?_
     refine aH<|ao rfl<|ao rfl<|vg (.of (hu.2.2 t mt).2.2.1 (hv.2.2 s ms).2.2.1 (by decide) (by decide))<|mQ<|Ju<|ao rfl<|ao rfl ?_
     refine Uh e3 kDj kz (by lia) λg2 a1 a2 a3=>bx<|hN2 _ _ ⟨_,_,_,rfl,?_,by lia,λn hn=>by rw[a2 n hn];exact o3 n hn⟩
     rw[ahm qf];exact a1
   rintro U h2 ⟨s6,s7,s8,rfl,e3,x3,o3⟩;rw[CV,Lj]at e3;refine bx<|hN _ _ ⟨_,_,_,_,_,rfl,?_,x3,o3⟩
   rw[ahb qe];exact e3
 rintro U h' ⟨s4,s5,s6,s7,s8,rfl,e2,x2,o2⟩;rw[CV,Lj]at e2;have ge:Ge h h':=⟨by lia,λn hn=>o2 n (by lia)⟩
 refine bx ?_;unfold yC;refine aJ<|aU<|lets (L:=L) rfl (λt ht=>(ku t ht).1) λl el=>?_
 refine nV<|bx ?_
 refine aJ<|aU<|aF<|ak<|ao rfl<|aq ?_
 refine hso e2 kD (sY us vs) h64 λrs hr=>?_;obtain⟨q1,q2⟩:=q rs hr;have fr:=(hr.facts kD (sY us vs)).1;refine⟨λl6=>?_,λl6=>q2 (.inr<|.inl l6) _⟩;have hne:rs≠[]->l=L:=λn=>el λeu=>n (by
  subst eu;obtain⟨ks,pk,sk,rfl⟩:=hr;have:ks=[]:=pk.eq_nil
  rw[this];rfl)
 refine nV<|bx ?_
 refine aJ<|aU<|bG<|ak<|agf hun rfl rfl (λt ht=>(fr t ht).1) hne hL l6<|aq<|gD ?_
 refine nV<|bx ?_
 refine aJ<|d9<|aF<|ak<|ao rfl<|aq ?_
 refine hcp (λt ht=>(fr t ht).1.1) hL l6 (λlo=>bx<|aR<|ao rfl<|eN<|Uu (λn hn=>ge.2 n hn)<|q1 λo=>?_) λhi=>q2 (.inr<|.inr hi) _;rcases o with o|o|o
 lia;lia;exact lo o
def mo (ps xs:List Int):Nat->Int
 | 0=>1
 | i+1=>mo ps xs i*(xs.getD i 0)^(ps.getD i 0).toNat
def wo (ts:List Tm)(xs:List Int)(L:Nat):Nat->Int
 | 0=>0
 | i+1=>wo ts xs L i+(ts.getD i ([],0)).2*mo (ts.getD i ([],0)).1 xs L
theorem CT {r:List Int}:∀{vs:List Tm},(vs.map (·.1)).Nodup->lin (dl r) vs=getM vs r
 | [],_=>rfl
 | t::vs,nd=>by
  rw[HY,RZ]at nd;rw[gA,bO,CT nd.2];unfold dl;by_cases c:t.1=r
  rw[if_pos c,if_pos c,getM_none (c ▸ nd.1)];lia;grind
theorem zbr {g:List Int->Int}{n:Int}(nd:(D.map (·.1)).Nodup)(vs:List Tm):lin g (Hz k n vs D)=lin g D+n*lin (λl=>g (dJ k l)) vs:=by
 refine CR (P:=λvs=>lin g (Hz k n vs D)=lin g D+n*lin _ vs) (by show lin g D=lin g D+n*0;lia) (λvs t ih=>?_) vs;rw[iW,Jv (Nx nd),vQ];show _=_+n*(_+(g _*t.2+0));grind
theorem zbM (g:List Int->Int)(us vs:List Tm):lin g (n8 us vs)=lin (λk=>lin (λl=>g (dJ k l)) vs) us:=by
 refine CR (P:=λus=>lin g (n8 us vs)=lin (λk=>lin (λl=>g<|dJ k l) vs) us) rfl (λus t ih=>?_) us;rw[iY,zbr (sY us vs),vQ];show _=_+(_+0);grind
theorem ako {g:List Int->Int}{us:List Tm}(nd:(us.map (·.1)).Nodup)(vs:List Tm):lin g (uJ f us vs)=lin g us+f*lin g vs:=by
 refine CR (P:=λvs=>lin g _=lin g us+f*lin g vs) (by show lin g us=lin g us+f*0;lia) (λvs t ih=>?_) vs;rw[jN,Jv (Cm nd),vQ];show _=_+f*(_+(g _*t.2+0));grind
theorem Df.lin {D rs:List Tm}(nd:(D.map (·.1)).Nodup)(a:Df D rs)(g:List Int->Int):lin g rs=lin g D:=by
 obtain⟨ks,pk,_,rfl⟩:=a;exact akM nd pk
theorem Df.nd {rs:List Tm}(a:Df D rs):(rs.map (·.1)).Nodup:=by
 obtain⟨ks,_,sk,rfl⟩:=a;exact cU<|Cu sk
theorem ahT {n:Int}(vs:List Tm):∀x∈(Hz k n vs D).map (·.1),x∈D.map (·.1)\/∃s∈vs,x=dJ k s.1:=by
 refine CR (P:=λvs=>∀x∈(Hz k n vs D).map _,x∈D.map _\/∃s∈vs,x=dJ k s.1) (λ_ h=>.inl h) (λvs s ih x hx=>?_) vs;rw[iW,wD]at hx;have hx:x∈(Hz k n vs D).map (·.1)\/x=dJ k s.1:=by
  grind
 rcases hx with hx|hx
 rcases ih x hx with h|⟨u,hu,e⟩
 exact .inl h;grind
 exact .inr ⟨s,by simp,hx⟩
theorem ahX (us vs:List Tm):∀x∈(n8 us vs).map (·.1),∃t∈us,∃s∈vs,x=dJ t.1 s.1:=by
 refine CR (P:=λus=>∀x∈(n8 us vs).map _,∃t∈us,∃s∈vs,x=dJ t.1 s.1) (λx h=>by simp[n8]at h) (λus t ih x hx=>?_) us;rw[iY]at hx;rcases ahT vs x hx with h|⟨s,hs,e⟩
 obtain⟨u,hu,s,hs,e⟩:=ih x h;grind
 grind
def Mb (L b p n:Nat)(us:List Tm):Prop:=us.length<=n/\(us.map (·.1)).Pairwise (· < ·)/\∀t∈us,t.1.length=L/\t.2≠0/\Sm b t.2/\∀q∈t.1,0<=q/\q<=(p:Int)
theorem Df.mem {rs:List Tm}(nd:(D.map (·.1)).Nodup)(a:Df D rs):rs.length<=D.length/\(rs.map (·.1)).Pairwise (· < ·)/\∀t∈rs,t.1∈D.map (·.1)/\t.2≠0/\t.2=getM D t.1:=by
 obtain⟨ks,pk,sk,rfl⟩:=a;have lo:=ajq D ks;rw[pk.length_eq,CV]at lo;refine⟨lo,Cu sk,λt ht=>?_⟩;have:=Ud nd (λk hk=>pk.mem_iff.mp hk) ht
 exact⟨GX.mpr ⟨t,this.1,rfl⟩,this.2,(eY nd this.1).symm⟩
theorem Fw:∀ps qs:List Int,qG (ps.map .int) (qs.map .int)=(List.zip ps qs).map λx=>.tup [.int x.1,.int x.2]
 | [],_|_::_,[]=>by simp[qG]
 | a::ps,b::qs=>by rw[HY,HY,qG,Fw ps qs];rfl
theorem ajD {ps qs:List Int}{wi wj:W}{j:Nat}{op:ME}{f:Int->Int->Int}(e1:U[i]?=Dn (Dn wi))(e2:U[j]?=Dn (Dn wj))(v1:oO wi=Dn (ps.map .int))(v2:oO wj=Dn (qs.map .int))(hz:ps.length<=1000)
  (hop:∀(a b:Int) (R:WK),R (.int (f a b)) h->op [Dn (.int a),Dn (.int b)] h R) (q:Q (.lst ((List.zipWith f ps qs).map .int)) h):HJ (Q6 2) [] (XF (aj (aA i) (aj (aA j) aG))) jd op U h Q:=by
 refine iu<|ak<|ao e1<|ak<|ao e2<|aq ?_
 show(match J9 h wi wj with
  | some s=>_
  | none=>False)
 have ez:J9 h wi wj=Dn ⟨qG (ps.map .int) (qs.map .int),Go⟩:=by unfold J9;rw[v1,v2]
 rw[ez,Fw];refine gn.mk (HN (m:=1000) (by rw[CV,List.length_zip];lia)<|by decide) ?_;refine dU (λi acc h'=>h'=h/\acc=(((List.zip ps qs).take i).map λx=>f x.1 x.2).map .int) ?_ ?_ ⟨rfl,rfl⟩
 ·rintro i w acc h' N hN e ⟨rfl,rfl⟩;rw[HI]at e;cases qe:(List.zip ps qs)[i]? with
  | none=>rw[qe]at e;cases e
  | some x=>
   rw[qe]at e;cases e;refine⟨[.int _,.int x.2],rfl,dN<|dF<|hop _ _ _<|hN _ _ ⟨rfl,?_⟩⟩;rw[Jt,qe];simp
 rintro acc h' ⟨rfl,rfl⟩;rw[CV,Lj];have:(List.zip ps qs).map (λx=>f x.1 x.2)=List.zipWith f ps qs:=by rw[List.zip,List.map_zipWith]
 rwa[this]
theorem Ul (e:h.c n=Dn (.lst ws)):J7 h (.loc n)=Dn ⟨ws,Dn (n,ws)⟩:=by
 simp[J7,e]
theorem Mh {ix:List Nat}(hv:U[i]?=Dn (Dn (.loc n)))(ec:h.c n=Dn (.lst ws))(hz:ws.length<=1000)(I:Nat->List W->Prop)
  (step:∀(j:Nat) (w:W) (acc:List W) (N:List W->Gh->Prop),(∀acc',I (j+1) acc'->N acc' h)->ws[j]?=Dn w->I j acc->∃vs,own w=Dn vs/\tt (vs.map Dn++mU ix U) h λc h1=>Ir c (te (vs.map Dn++mU ix U) h1 λv h2=>N (acc++[v]) h2) (N acc h1))
  (fin:∀acc,I ws.length acc->Q (.lst acc) h) (h0:I 0 []):HJ own ix (Hs (aA i)) tt te U h Q:=by
 refine iu<|gZ<|ao hv<|uH (Ul ec)<|gn.mk (HN hz<|by decide) ?_
 refine Zb (λj acc h'=>h'=h/\I j acc) (λj acc h' ⟨e,_⟩ P p=>by subst e;exact⟨ec,p⟩) ?_ (λacc h' ⟨e,a⟩=>by subst e;exact fin acc a) ⟨rfl,h0⟩;rintro j w acc h' N hN e ⟨rfl,a⟩;exact step j w acc N (λacc' b=>hN acc' h' ⟨rfl,b⟩) e a
def abH (h:Gh)(w:W)(ts:List Tm):Prop:=w=.tup (ts.map Hj)\/w=.lst (ts.map Hj)\/∃n,w=.loc n/\h.c n=Dn (.lst (ts.map Hj))
theorem Ka {ix:List Nat}(hv:U[i]?=Dn (Dn w))(e:abH h w ts)(hz:ts.length<=1000)(I:Nat->List W->Prop)
  (step:∀(j:Nat) (t:Tm) (acc:List W) (N:List W->Gh->Prop),(∀acc',I (j+1) acc'->N acc' h)->ts[j]?=Dn t->I j acc->∃vs,own (Hj t)=Dn vs/\tt (vs.map Dn++mU ix U) h λc h1=>Ir c (te (vs.map Dn++mU ix U) h1 λv h2=>N (acc++[v]) h2) (N acc h1))
  (fin:∀acc,I ts.length acc->Q (.lst acc) h) (h0:I 0 []):HJ own ix (Hs (aA i)) tt te U h Q:=by
 have hl:(ts.map Hj).length<=1000:=by rwa[CV]
 have st:∀(j:Nat) (w:W) (acc:List W) (N:List W->Gh->Prop),(∀acc',I _ acc'->N acc' h)->(ts.map Hj)[j]?=Dn w->I j acc->∃vs,own w=Dn vs/\tt (vs.map Dn++mU ix U) h λc h1=>Ir c (te (vs.map Dn++mU ix U) h1 λv h2=>N (acc++[v]) h2) (N acc h1):=λj w acc N hN e a=>by
  rw[HI]at e;cases qe:ts[j]? with
  | none=>rw[qe]at e;cases e
  | some t=>
   rw[qe]at e;cases e;exact step j t acc N hN qe a
 have fi:∀acc,I (ts.map Hj).length acc->Q _ h:=λacc a=>fin acc (by rw[CV]at a;exact a)
 have plain:∀u:W,J7 h u=Dn ⟨ts.map Hj,Go⟩->U[i]?=Dn _->HJ own ix _ tt te U h Q:=λu eu hu=>by
  refine iu<|gZ<|ao hu<|uH eu<|gn.mk (HN hl<|by decide) ?_
  refine dU (λj acc h'=>h'=h/\I j acc) ?_ (λacc h' ⟨e,a⟩=>by subst e;exact fi acc a) ⟨rfl,h0⟩;rintro j w' acc h' N hN e' ⟨rfl,a⟩;exact st j w' acc N (λacc' b=>hN acc' h' ⟨rfl,b⟩) e' a
 rcases e with rfl|rfl|⟨n,rfl,ec⟩
 exact plain _ rfl hv;exact plain _ rfl hv;exact Mh hv ec hl I st fi h0
theorem Ja (t:Tm):Q6 2 (Hj t)=Dn [.tup (t.1.map .int),.int t.2]:=rfl
theorem ahY (hv:U[i]?=Dn (Dn w))(e:abH h w ts)(hz:ts.length<=1000)(q:Q (.lst ((ts.map (·.2)).map .int)) h):HJ (Q6 2) [] (Hs (aA i)) jd (aA 1) U h Q:=by
 refine Ka hv e hz (λj acc=>acc=((ts.take j).map (·.2)).map .int) ?_ (by grind) rfl;rintro j t acc N hN e rfl;refine⟨_,Ja t,dN<|dF<|ao rfl<|hN _ ?_⟩;rw[Jt,e];simp
def CmX (c0:AP):Prop:=∀{h:Gh}{w:W}{ts:List Tm}{Q:WK}{E:CQ},abH h w ts->ts.length<=1000->Q (.int (gL (ts.map (·.2)))) h->c0 [w] h Q E
theorem aiM {dv:AP}(hdv:zj dv):CmX (Fi dv):=by
 intro h w ts Q E e hz q;exact bY rfl rfl<|aR<|aF<|ak<|ahY rfl e hz<|aq<|hdv (.inl rfl) q
def fH (G:Int)(le:List Int)(t:Tm):Tm:=(List.zipWith (· - ·) t.1 le,t.2.fdiv G)
def WoX (c0:AP):Prop:=∀{h:Gh}{s:List Tm}{G:Int}{le:List Int}{L m:Nat}{Q:WK}{E:CQ},L<=8->(∀t∈s,t.1.length=L)->s.length<=600->G≠0->m<=8000->Sm m G->Q (Cp (s.map (fH G le))) h->c0 [Cp s,.int G,.lst (le.map .int)] h Q E
theorem aiP:WoX zZ:=by
 intro h s G le L m Q E hL hs hz g0 hm sg q;refine bY rfl rfl<|aR<|bG<|ak<|Ka rfl (.inl rfl) (by lia) (λj acc=>acc=((s.take j).map (fH G le)).map Hj) ?_ ?_ rfl
 rintro j t acc N hN e rfl;have hl:=hs t (Mz e);refine⟨_,Ja t,dN<|dF<|dD<|ak<|bG<|ak<|ajD rfl rfl rfl rfl (by lia) (λa b R hR=>aH<|ao rfl<|ao rfl<|zM hR)<|aq<|gD<|ak<|aH<|ao rfl<|ao rfl<|Lw ⟨g0,m,hm,sg⟩<|aq<|bW rfl<|hN _ ?_⟩;rw[Jt,e,Jb,Jb];rfl;rintro acc rfl
 rwa[Lj]
def P0 (ss:List (List Tm)):Int:=match(ss.filter λs=>decide (s≠[])).getLast? with
 | some s=>(match s.getLast? with
  | some t=>t.2
  | none=>0)
 | none=>0
variable {ss:List (List Tm)}
theorem aiF (h:∃s∈ss,s≠[]):∃s t,(ss.filter λs=>decide (s≠[])).getLast?=Dn s/\s.getLast?=Dn t/\P0 ss=t.2/\s∈ss:=by
 obtain⟨s0,hs0,n0⟩:=h;have hne:(ss.filter λs=>decide (s≠[]))≠[]:=List.ne_nil_of_mem (Qm.mpr ⟨hs0,by simpa using n0⟩);have e1:=List.getLast?_eq_some_getLast hne;have hm:=Qm.mp (List.getLast_mem hne);generalize(ss.filter λs=>decide _).getLast hne=s at e1 hm;have e2:=List.getLast?_eq_some_getLast (by simpa using hm.2);refine⟨s,_,e1,e2,?_,hm.1⟩;unfold P0;grind
theorem Fd (h:us.getLast?=Dn w):Mi us (-1)=Dn w:=by
 have hn:us≠[]:=by
  grind
 obtain⟨i,hi⟩:∃i,us.length=i+1:=⟨us.length-1,by have:=List.length_pos_iff.mpr hn;lia⟩
 have e1:QS (i+1) (-1)=Dn i:=by
  unfold QS;repeat' split
  all_goals first|lia|(congr 1;lia)
 unfold Mi;grind
theorem Gv {x:W}(v:view h x=Dn us)(e:us.getLast?=Dn w)(q:Q w h):Bm x (.int (-1)) h Q:=bC v (Fd e) q
def EbX (c0:AP):Prop:=∀{h:Gh}{ss:List (List Tm)}{Q:WK}{E:CQ},ss.length<=1000->(∃s∈ss,s≠[])->Q (.bl (decide (P0 ss<0))) h->c0 [.tup (ss.map Cp)] h Q E
theorem KJ (hv:U[i]?=Dn (Dn (.tup (ss.map Cp))))(hz:ss.length<=1000)(ht:∀(s:List Tm) (R:Bool->Gh->Prop),R (decide (s≠[])) h->tt [Dn (Cp s)] h R)(q:Q (.lst ((ss.filter λs=>decide (s≠[])).map Cp)) h):HJ JR [] (Hs (aA i)) tt (aA 0) U h Q:=by
 refine iu<|gZ<|ao hv<|uH rfl<|gn.mk (HN (by rwa[CV])<|by decide)<|dU (λi acc h'=>h'=h/\acc=((ss.take i).filter λs=>decide<|s≠[]).map Cp) ?_ ?_ ⟨rfl,rfl⟩
 ·rintro i w acc h' N hN e ⟨rfl,rfl⟩;rw[HI]at e;cases qe:ss[i]? with
  | none=>rw[qe]at e;cases e
  | some s=>
   rw[qe]at e;cases e;refine⟨[Cp s],rfl,ht s _ ?_⟩;by_cases c:s≠[]
   rw[decide_eq_true c];refine dF<|ao rfl<|hN _ _ ⟨rfl,?_⟩
   rw[Jt,qe];simp[c];rw[decide_eq_false c];refine DP<|hN _ _ ⟨rfl,?_⟩
   rw[Jt,qe];simp[c]
 rintro acc h' ⟨rfl,rfl⟩
 rwa[CV,Lj]
theorem S8 (h:Gh)(s:List Tm):abF h (Cp s)=Dn (decide (s≠[])):=by
 cases s with
 | nil|cons t s=>rfl
theorem ab8:EbX gQ:=by
 intro h ss Q E hz ne q;obtain⟨s,t,e1,e2,e3,_⟩:=aiF ne;refine bY rfl rfl<|aJ<|aU<|aH<|KJ rfl hz (λs R hR=>cR<|ao rfl<|qT (S8 _ _) hR) ?_
 refine Oa<|aV<|zf<|Gv rfl (by rw[List.getLast?_map,e1];rfl) ?_
 refine jt rfl<|bx<|aR<|aH<|aH<|aH<|ao rfl ?_
 refine Oa<|aV<|zf<|Gv rfl (by rw[List.getLast?_map,e2];rfl) ?_
 refine aV<|bC rfl rfl<|aV<|Xm ?_
 rwa[<-e3]
def mnL (ns:List Int):Int:=ns.min?.getD 0
theorem acn {M:Int}(h1:M∈ns)(h2:∀a∈ns,M<=a):M=mnL ns:=by
 unfold mnL;rw[List.min?_eq_some_iff.mpr ⟨h1,h2⟩];rfl
def gj (L:Nat)(ts:List Tm):List Int:=(Ji L).map λi=>mnL (ts.map λt=>t.1.getD i 0)
theorem ajT (hv:U[1]?=Dn (Dn w))(e:abH h w ts)(hz:ts.length<=1000)(hne:ts≠[])(hL:L<=8)(hl:∀t∈ts,t.1.length=L)(q:Q (.lst ((gj L ts).map .int)) h):
  HJ JR [1] (iZ (aj (G8 HB (aj (Af Bm (Af Bm (aA 1) (mC (.int 0))) (mC (.int 0))) aG)) aG)) jd (G8 RV (aj (HJ (Q6 2) [0] (Hs (aA 1)) jd (Af Bm (aA 0) (aA 2))) aG)) U h Q:=by
 obtain⟨t0,ts',rfl⟩:=YM hne;have vw:view h w=Dn ((t0::ts').map Hj):=by
  rcases e with rfl|rfl|⟨n,rfl,ec⟩
  rfl;rfl;exact fj ec
 refine iu<|vU<|ak<|bG<|ak<|aH<|aH<|ao hv ?_
 refine aV<|bC (w:=Hj t0) vw (bN (j:=0) rfl) ?_
 refine aV<|bC rfl rfl ?_
 refine aq<|cN rfl<|aq ?_
 rw[CV,hl t0 Lp];refine Xi (by lia) ?_;have hb:mU [1] U=[Dn w]:=by
  show[(U[1]?).getD Go]=_;rw[hv];rfl
 have lr:((rng 0 L).map λx:Nat=>W.int (x:Int)).length=L:=by
  rw[CV];unfold rng;rw[List.length_range'];lia
 refine gn.mk (HN (m:=1000) (by rw[lr];lia)<|by decide) ?_;refine dU (λi acc h'=>h'=h/\acc=(((Ji L).take i).map λi=>mnL<|(t0::ts').map λt=>t.1.getD i 0).map .int) ?_ ?_ ⟨rfl,rfl⟩
 ·rintro i w2 acc h' N hN e2 ⟨rfl,rfl⟩;rw[HI]at e2;cases qe:(rng 0 L)[i]? with
  | none=>rw[qe]at e2;cases e2
  | some i'=>
   rw[qe]at e2;cases e2;obtain⟨ei,hi⟩:=BK qe;rw[Xc]at ei;subst ei;refine⟨[.int (i':Int)],rfl,?_⟩;rw[hb];refine dN<|dF<|bG<|ak ?_
   refine Ka (i:=1) rfl e hz (λj acc=>acc=(((t0::ts').take j).map λt=>t.1.getD i' 0).map .int) ?_ ?_ rfl;rintro j t acc N' hN' e' rfl;have ht:=hl t (Mz e');refine⟨_,Ja t,dN<|dF<|aH<|ao rfl<|ao rfl ?_⟩;have eg:t.1[i']?=Dn (t.1.getD i' 0):=by
    rw[M9,JD (by lia)];rfl
   refine bC (ws:=t.1.map .int) rfl (bN (by rw[HI,eg];rfl))<|hN' _ ?_
   rw[Jt,e'];simp;rintro acc rfl;rw[Lj];refine aq ⟨(t0::ts').map λt=>t.1.getD i' 0,rfl,by simp,λM hM hm=>?_⟩;refine hN _ _ ⟨rfl,?_⟩;rw[Jt,Xq (by lia),acn hM hm];simp
 rintro acc h' ⟨rfl,rfl⟩;rw[lr,Yp (by simp)];exact q
def KZ (ss:List (List Tm)):Int:=if P0 ss<0 then-gL (ss.flatten.map (·.2))else gL (ss.flatten.map (·.2))
def LT (L:Nat)(ss:List (List Tm)):List (List Tm):=ss.map λs=>s.map (fH (KZ ss) (gj L ss.flatten))
structure So (L m:Nat) (ss:List (List Tm)):Prop where
 wf:∀s∈ss,∀t∈s,t.1.length=L/\t.2≠0/\Sm m t.2
 few:1<=ss.length/\ss.length<=6
 lens:∀s∈ss,s.length<=64
theorem Tn:∀r:List (List Tm),(∀s∈r,s.length<=64)->r.flatten.length<=64*r.length
 | [],_=>by simp
 | a::r,hr=>by
  have h1:=hr a Lp;have h2:=Tn r λs hs=>hr s (OD _ hs)
  grind
theorem zbo (sk:So L m ss):ss.flatten.length<=1000:=by
 have:=Tn ss sk.lens
 have:=sk.few.2
 lia
variable {s:List Tm}
theorem aiR (sk:So L m ss)(hs:s∈ss):s.length<=600:=by
 have:=sk.lens s hs
 lia
theorem BR (h:∃s∈ss,s≠[]):ss.flatten≠[]:=by simp_all
theorem KQ (sk:So L m ss)(ne:∃s∈ss,s≠[]):KZ ss≠0/\Sm m (KZ ss)/\Sm m (gL (ss.flatten.map (·.2))):=by
 have wf:∀t∈ss.flatten,t.2≠0/\Sm m _:=λt ht=>by
  obtain⟨s,hs,hm⟩:=List.mem_flatten.mp ht;exact(sk.wf s hs t hm).2
 have s1:=adQ λn hn=>by
  obtain⟨t,ht,rfl⟩:=GX.mp hn;exact(wf t ht).2
 have p1:0<gL (ss.flatten.map (·.2)):=by
  obtain⟨t,r,e⟩:=YM (BR ne);exact adT ⟨t.2,GX.mpr ⟨t,e ▸ Lp,rfl⟩,(wf t<|e ▸ Lp).1⟩
 unfold KZ;split
 exact⟨by lia,by unfold Sm at s1|-;rw[Int.natAbs_neg];exact s1,s1⟩;grind
theorem akO (sk:So L m ss):∀t∈ss.flatten,t.1.length=L:=λt ht=>by
 obtain⟨s,hs,hm⟩:=List.mem_flatten.mp ht;exact(sk.wf s hs t hm).1
def LiX (c0:AP):Prop:=∀{h:Gh}{ss:List (List Tm)}{L m:Nat}{Q:WK}{E:CQ},L<=8->m<=8000->So L m ss->(∃s∈ss,s≠[])->Q (.tup ((LT L ss).map Cp)) h->c0 [.tup (ss.map Cp)] h Q E
theorem ab7 {zs:List W}(e:h.c n=Dn (.lst us))(hz:us.length+zs.length<=1000)(k:∀g:Gh,g.c n=Dn (.lst (us++zs))->(∀m,m≠n->g.c m=h.c m)->g.nx=h.nx->Q .non g):JT (.loc n) [.tup zs] h Q:=by
 show(match h.c n with
  | some (.lst us)=>gn _ _
  | _=>False)
 exact e ▸ gn.mk (HN hz<|by decide) (k _ (xM _ _ _) (λ_ e=>nu e) rfl)
theorem zbh (e:ss[i]?=Dn s):(ss.take (i+1)).flatten=(ss.take i).flatten++s:=by
 rw[Jt,e];simp
theorem zaY (ss:List (List Tm))(i:Nat):(ss.take i).flatten.length<=ss.flatten.length:=by
 have:=congrArg (λl:List _=>l.flatten.length) (X8 i ss)
 grind
theorem ahp {cm wo eb:AP}(hcm:CmX cm)(hwo:WoX wo)(heb:EbX eb):LiX (yS cm wo eb):=by
 intro h ss L m Q E hL hm sk ne q;have fl:=zbo sk;obtain⟨g0,g1,g2⟩:=KQ sk ne;have l2:=sk.few.2;refine pU rfl (U:=[Dn<|.tup<|ss.map Cp,Go,Go,Go,Go]) rfl ?_;refine aJ<|aU<|je (ws:=[]) (λR=>rfl) rfl λg eg og xg=>?_
 refine fZ (λi U h'=>∃s2:Option W,U=[Dn<|.tup<|ss.map Cp,Dn<|.loc h.nx,s2,Go,Go]/\h'.c h.nx=Dn (.lst<|(ss.take i).flatten.map Hj)/\∀n,n≠h.nx->h'.c n=h.c n) ?_ ?_ ⟨Go,rfl,eg,og⟩
 ·rintro i w U h' N hN e ⟨s2,rfl,a1,a2⟩;rw[HI]at e;cases qe:ss[i]? with
  | none=>rw[qe]at e;cases e
  | some s=>
   rw[qe]at e;cases e;have hf:=zbh qe;have hz:=zaY ss (i+1);rw[hf,Pa]at hz;refine d9<|lH<|ao rfl<|gK a1<|ak<|ao rfl<|aq ?_
   refine ab7 a1 (by rw[CV,CV];lia) λg2 b1 b2 b3=>bx<|hN _ _ ⟨_,rfl,?_,λn hn=>by rw[b2 n hn];exact a2 n hn⟩
   rw[b1,hf,Jb]
 ·rintro U h' ⟨s2,rfl,a1,a2⟩;rw[CV,Lj]at a1;have src:abH h' (.loc h.nx) ss.flatten:=.inr (.inr ⟨_,rfl,a1⟩);have t4:∀G:Int,G=KZ ss->sZ cm wo eb E {nx:=λ_ h'=>mG true h .non h' Q,rt:=λw h'=>mG true h w h' Q} [Dn (.tup (ss.map Cp)),Dn (.loc h.nx),s2,Dn (.int G),Go] h':=by
   intro G eG;rw[<-eG]at g0 g1;refine aJ<|aU<|ajT (L:=L) rfl src fl (BR ne) hL (akO sk) ?_
   refine jt (U':=[Dn<|.tup<|ss.map Cp,Dn<|.loc h.nx,s2,Dn<|.int G,Dn<|.lst<|(gj L ss.flatten).map .int]) rfl<|bx<|aR<|bG<|ak ?_
   refine iu<|gZ<|ao rfl<|uH (ws:=ss.map Cp) (o:=Go) rfl<|gn.mk (HN (m:=1000) (by rw[CV];lia)<|by decide) ?_
   refine dU (λi acc g=>g=h'/\acc=((ss.take i).map λs=>s.map<|fH G<|gj L ss.flatten).map Cp) ?_ ?_ ⟨rfl,rfl⟩
   ·rintro i w acc g N hN e ⟨rfl,rfl⟩;rw[HI]at e;cases qe:ss[i]? with
    | none=>rw[qe]at e;cases e
    | some s=>
     rw[qe]at e;cases e;have ms:=Mz qe;refine⟨[Cp s],rfl,dN<|dF<|aF<|ak<|ao rfl<|ak<|ao rfl<|ak<|ao rfl<|aq ?_⟩;refine hwo (L:=L) hL (λt ht=>(sk.wf s ms t ht).1) (aiR sk ms) g0 hm g1<|hN _ _ ⟨rfl,?_⟩
     rw[Jt,qe];simp
   rintro acc g ⟨rfl,rfl⟩;rw[CV,Lj,eG];exact aq<|gD ⟨λn c hn ec=>by rw[a2 n<|by lia];exact ec,.inl ⟨by rw[Lo];exact SN _ _,q⟩⟩
  unfold uq;refine bx<|aJ<|aU<|aF<|ak<|ao rfl<|aq<|hcm src fl ?_
  refine jt (U':=[Dn<|.tup<|ss.map Cp,Dn<|.loc h.nx,s2,Dn<|.int<|gL<|ss.flatten.map (·.2),Go]) rfl<|bx<|aJ<|bf<|cR<|aF<|ak<|ao rfl<|aq ?_
  refine heb (by lia) ne<|qT rfl<|Bp (λc=>?_) λc=>?_
  refine aU<|Oa<|ao rfl<|zf<|jt rfl<|bx<|t4 _ ?_
  unfold KZ;rw[if_pos c];refine aQ<|bx<|t4 _ ?_
  unfold KZ;rw[if_neg c]
def Xb (ts:List Tm)(k:List Int):List Tm:=ts.filter λt=>decide (t.1≠k)
def Ek (ts:List Tm)(k:List Int)(v:Int):List Tm:=if v=0 then Xb ts k else u6 ts k v
structure Dc (L:Nat) (D:List Tm):Prop where
 kb:∀j∈D.map (·.1),Kb L j
 nd:(D.map (·.1)).Nodup
 nz:∀t∈D,t.2≠0
theorem ajI (hD:∀j∈D.map (·.1),Kb L j)(hk:Kb L k):Zn (Hv D) (.inl (pack k))=Hv (Xb D k):=by
 unfold Zn Hv Xb;rw[List.filter_map];congr 1
 refine List.filter_congr λt ht=>?_;show decide (Sum.inl _≠(Sum.inl _:Key))=decide _;exact decide_eq_decide.mpr ⟨λh e=>h<|by rw[e],λh e=>h<|iH (hD _<|GX.mpr ⟨t,ht,rfl⟩) hk<|Sum.inl.inj e⟩
theorem ajW (D:List Tm)(k r:List Int):getM (Xb D k) r=if r=k then 0 else getM D r:=by
 induction D with
 | nil=>unfold Xb getM;simp
 | cons t D ih=>
  unfold Xb at *;rw[Qg];by_cases c:t.1=k
  rw[bO];grind
  rw[if_pos (by simpa using c),bO,bO];grind
theorem akA (D:List Tm)(k r:List Int)(v:Int):getM (Ek D k v) r=if r=k then v else getM D r:=by
 unfold Ek;split
 rename_i e;rw[ajW,e];exact akG ..
theorem wF (h:t∈Ek D k v):t∈D\/v≠0/\t=(k,v):=by
 unfold Ek at h;split at h
 exact .inl (Qm.mp h).1;rename_i e;unfold u6 at h;grind
theorem ajz (nd:(D.map (·.1)).Nodup):((Ek D k v).map (·.1)).Nodup:=by
 unfold Ek;split
 exact nd.sublist<|List.Sublist.map _ List.filter_sublist
 unfold u6;split
 rw[keys_map];exact nd;rename_i c;rw[Jb,List.nodup_append];grind
theorem Dc.put (h:Dc L D)(hk:Kb L k):Dc L (Ek D k v):=by
 refine⟨λj hj=>?_,ajz h.nd,λt ht=>?_⟩;obtain⟨t,ht,rfl⟩:=GX.mp hj;rcases wF ht with m|⟨_,rfl⟩
 exact h.kb _<|GX.mpr ⟨t,m,rfl⟩
 exact hk;rcases wF ht with m|⟨e,rfl⟩
 exact h.nz t m;exact e
theorem zbu (D:List Tm)(k:List Int)(v:Int):(Ek D k v).length<=D.length+1:=by
 unfold Ek;split
 exact HN (List.length_filter_le _ _)<|Ws _
 unfold u6;grind
theorem acq (e:h.c n=Dn (.dct (Hv D)))(hD:∀j∈D.map (·.1),Kb L j)(hk:Kb L k)(m:k∈D.map (·.1))(q:∀(g:Gh) (w:W),g.c n=Dn (.dct (Hv (Xb D k)))->(∀m,m≠n->g.c m=h.c m)->g.nx=h.nx->Q w g):O5 (.loc n) [.int (pack k)] h Q:=by
 show(match h.c n,(Dn _:Option Key)with
  | some (.dct kvs),Dn k=>(match ql kvs k with
   | some v=>Q v _
   | none=>False)
  | _,_=>False)
 rw[e];show(match ql _ _ with
  | some v=>Q v _
  | none=>False)
 rw[vL hD hk,ajI hD hk];obtain⟨t,ht,et⟩:=GX.mp m;cases c:D.find? λt=>decide (t.1=k)with
 | none=>exact absurd (decide_eq_true et) (by simpa using List.find?_eq_none.mp c t ht)
 | some u=>exact q _ _ (xM _ _ _) (λ_ e=>nu e) rfl
def Ly (s:List Int)(f:Int)(vs D:List Tm):List Tm:=vs.foldl (λD t=>Ek D (dJ s t.1) (getM D (dJ s t.1)-f*t.2)) D
theorem nW (s:List Int)(f:Int)(vs D:List Tm)(t:Tm):Ly s f (vs++[t]) D=Ek (Ly s f vs D) (dJ s t.1) (getM (Ly s f vs D) (dJ s t.1)-f*t.2):=by unfold Ly;rw[Ww];rfl
theorem Ec {s:List Int}{j:Nat}(e:vs[j]?=Dn t):Ly s f (vs.take (j+1)) D=Ek (Ly s f (vs.take j) D) (dJ s t.1) (getM (Ly s f (vs.take j) D) (dJ s t.1)-f*t.2):=by
 rw[Jt,e];exact nW ..
def dz (s r k:List Int):Int:=if dJ s k=r then 1 else 0
theorem JG (s:List Int)(f:Int)(vs D:List Tm)(r:List Int):getM (Ly s f vs D) r=getM D r-f*lin (dz s r) vs:=by
 refine CR (P:=λvs=>getM (Ly s f vs D) r=getM D r-f*lin _ vs) (by simp[Ly,lin]) (λvs t ih=>?_) vs;rw[nW,akA];have el:lin (dz s r) (vs++[t])=lin (dz s r) vs+dz s r t.1*t.2:=by unfold lin;simp
 unfold dz at *;grind
theorem yW {s:List Int}(hD:Dc L D)(hv:∀t∈vs,Kb L (dJ s t.1)):Dc L (Ly s f vs D):=by
 revert hv
 refine CR (P:=λvs=>(∀t∈vs,Kb L<|dJ s t.1)->Dc L (Ly s f vs D)) (λ_=>hD) (λvs t ih hv=>?_) vs;rw[nW];exact(ih λu hu=>hv u<|Qv _ hu).put (hv t<|by simp)
theorem ajG (s:List Int)(f:Int)(vs D:List Tm):(Ly s f vs D).length<=D.length+vs.length:=by
 refine CR (P:=λvs=>(Ly s f vs D).length<=D.length+vs.length) (GZ _) (λvs t ih=>?_) vs;rw[nW];have:=zbu (Ly s f vs D) (dJ s t.1) (getM (Ly s f vs D) (dJ s t.1)-f*t.2)
 simp;lia
def afl (c0:AP):Prop:=∀{h:Gh}{n:Nat}{D vs:List Tm}{s:List Int}{f:Int}{L:Nat}{Q:WK}{E:CQ},h.c n=Dn (.dct (Hv D))->Dc L D->D.length+vs.length<=30000->s.length=L->(∀t∈vs,t.1.length=L/\Kb L (dJ s t.1)/\t.2≠0/\Sm 8000 t.2)->f≠0->Sm 8000 f ->
 (∀g:Gh,g.c n=Dn (.dct (Hv (Ly s f vs D)))->(∀m,m≠n->g.c m=h.c m)->g.nx=h.nx->Q .non g)->c0 [.loc n,.lst (vs.map Rp),.int (pack s),.int f] h Q E
theorem akB:afl tY:=by
 intro h n D vs s f L Q E e hD hz hs hv f0 sf q;refine fZ (λj U h'=>∃s4 s5 s6 s7:Option W,U=[Dn<|.loc n,Dn<|.lst<|vs.map Rp,Dn<|.int<|pack s,Dn<|.int f,s4,s5,s6,s7]/\h'.c n=Dn (.dct<|Hv<|Ly s f (vs.take j) D)/\h'.nx=h.nx/\∀m,m≠n->h'.c m=h.c m) ?_ ?_ ⟨Go,Go,Go,Go,rfl,e,rfl,λ_ _=>rfl⟩
 ·rintro j w U h' N hN e' ⟨s4,s5,s6,s7,rfl,e3,x3,o3⟩;rw[HI]at e';cases qf:vs[j]? with
  | none=>rw[qf]at e';cases e'
  | some t=>
   rw[qf]at e';cases e'
   have mt:=Mz qf;obtain⟨lt,kt,t0,st⟩:=hv t mt;have dj:Dc L (Ly s f (vs.take j) D):=yW hD λu hu=>(hv u (YZ hu)).2.1
   have lj:=ajG s f (vs.take j) D;rw[Qn]at lj;refine jx rfl rfl<|cC ?_
   refine nV<|cC ?_
   refine nV<|qb ?_
   refine aJ<|aU<|aH<|ao rfl<|ao rfl<|mQ ?_
   rw[Int.add_comm,<-gG hs lt];refine nV<|bx ?_
   refine aJ<|aU<|aH<|Jh<|ao rfl<|CK e3<|ak<|ao rfl<|ak<|aV<|aq<|R9 e3 dj.kb kt ?_
   refine aH<|ao rfl<|ao rfl<|vg (.of sf st (by decide)<|by decide)<|zM ?_
   refine Bp (λc=>?_) λc=>?_;refine d9<|Jh<|ao rfl<|CK e3<|ak<|ao rfl<|aq ?_
   refine acq e3 dj.kb kt ?_ λg w a1 a2 a3=>bx<|hN _ _ ⟨_,_,_,_,rfl,?_,by lia,λm hm=>by rw[a2 m hm];exact o3 m hm⟩
   refine YS λz=>?_;rw[getM_none z]at c;have:=Int.mul_ne_zero f0 t0
   lia;rw[Ec qf];unfold Ek;rw[if_pos c];exact a1;refine Uh e3 dj.kb kt (by lia) λg a1 a2 a3=>bx<|hN _ _ ⟨_,_,_,_,rfl,?_,by lia,λm hm=>by rw[a2 m hm];exact o3 m hm⟩
   rw[Ec qf];unfold Ek;rw[if_neg c];exact a1
 rintro U h' ⟨s4,s5,s6,s7,rfl,e3,x3,o3⟩;rw[CV,Lj]at e3;exact bx<|q _ e3 o3 x3
def fP (k l:List Int):List Int:=List.zipWith (· - ·) k l
theorem xZ:∀{k l:List Int}{p q:Int},k.length=l.length->fP (k++[p]) (l++[q])=fP k l++[p-q]
 | [],[],_,_,_=>rfl
 | a::k,b::l,p,q,h=>by
  have:=xZ (p:=p) (q:=q) (by simpa using h)
  unfold fP at *
  simp_all
theorem qZ {l:List Int}(h:k.length=l.length):(fP k l).length=k.length:=by unfold fP;rw[List.length_zipWith,h,Nat.min_self]
theorem zT:∀{k l:List Int},k.length=l.length->fP (dJ k l) l=k
 | [],[],_=>rfl
 | a::k,b::l,h=>by
  have:=zT (by simpa using h)
  unfold fP dJ at *
  simp_all
theorem nR:∀{k l:List Int},k.length=l.length->dJ (fP k l) l=k
 | [],[],_=>rfl
 | a::k,b::l,h=>by
  have:=nR (by simpa using h)
  unfold fP dJ at *
  simp_all
theorem vR:∀{k l:List Int},k.length=l.length->(qG (k.map W.int) (l.map .int)).length=k.length
 | [],[],_=>rfl
 | a::k,b::l,h=>congrArg _ (vR (by simpa using h))
def Ng (k:List Int):Prop:=∃p∈k,p<0
instance (k:List Int):Decidable (Ng k):=inferInstanceAs (Decidable (∃p∈k,p<0))
def PoX (c0:AP):Prop:=∀{h:Gh}{k:List Int}{v:Int}{t:Tm}{L:Nat}{Q:WK}{E:CQ},k.length=L->t.1.length=L->L<=8->t.2≠0->Sm 8000 v->Sm 8000 t.2->(v.fmod t.2≠0\/Ng (fP k t.1)->Q .non h)->(v.fmod t.2=0->¬Ng (fP k t.1)->Q (Hj (fP k t.1,v.fdiv t.2)) h)->c0 [.tup (k.map .int),.int v,Hj t] h Q E
theorem abZ:PoX lW:=by
 intro h k v t L Q E hk ht hL t0 sv st q1 q2;refine bY rfl (U:=[Dn<|.tup<|k.map .int,Dn<|.int v,Dn<|Hj t,Go]) rfl<|aJ<|aU ?_
 refine gn.mk (HN (m:=1000) (by rw[vR<|by rw[hk,ht]];lia)<|by decide) ?_;refine dU (λi acc g=>g=h/\acc=(fP (k.take i)<|t.1.take i).map .int) ?_ ?_ ⟨rfl,rfl⟩;rintro i w acc g N hN e ⟨rfl,rfl⟩;obtain⟨a,b,ea,eb,rfl⟩:=qY e;obtain⟨p,ep,rfl⟩:=ints_get ea;obtain⟨r,er,rfl⟩:=ints_get eb;refine⟨[.int p,.int r],rfl,dN<|dF<|aH<|ao rfl<|ao rfl<|zM<|hN _ _ ⟨rfl,?_⟩⟩;rw[Jt,Jt,ep,er];show _=(fP (k.take i++[p]) (t.1.take i++[r])).map W.int;rw[xZ (by rw[Qn,Qn,hk,ht]),Jb];rfl;rintro acc g ⟨rfl,rfl⟩;rw[vR (by rw[hk,ht]),Lj,hk,<-ht,Lj];refine nV<|bx ?_
 refine aJ<|bf<|oH<|aN<|aH<|aH<|ao rfl<|aH<|ao rfl<|aV<|bC (x:=Hj t) (i:=1) (w:=.int t.2) rfl rfl<|T9 t0<|aV<|sJ<|eE ?_
 refine Bp (λc=>yL<|aR<|aV<|eN<|q1<|.inl c) λc=>?_;refine cR<|bG<|ak<|iu<|gZ<|ao rfl<|uH (ws:=(fP k t.1).map .int) (o:=Go) rfl<|gn.mk (HN (m:=1000) (by rw[CV,qZ<|by rw[hk,ht]];lia)<|by decide) ?_
 refine dU (λj acc g'=>g'=g/\acc=(((fP k t.1).take j).map λp=>decide<|p<0).map .bl) ?_ ?_ ⟨rfl,rfl⟩;rintro j w acc g' N' hN' e' ⟨rfl,rfl⟩;obtain⟨p,ep,rfl⟩:=ints_get e';refine⟨[.int p],rfl,dN<|dF<|aH<|ao rfl<|aV<|Xm<|hN' _ _ ⟨rfl,?_⟩⟩;rw[Jt,ep];simp;rintro acc g' ⟨rfl,rfl⟩;rw[CV,Lj];refine aq<|Jy (us:=((fP k t.1).map λp=>decide<|p<0).map .bl) (bs:=(fP k t.1).map λp=>decide<|p<0) rfl (Cw _)<|qT rfl ?_
 have ea:((fP k t.1).map λp=>decide (p<0)).any id=decide (Ng (fP k t.1)):=by
  rw[XQ,Xe,VR,decide_eq_true_iff];constructor;rintro⟨p,hp,e⟩;exact⟨p,hp,by simpa using e⟩;rintro⟨p,hp,e⟩;exact⟨p,hp,by simpa using e⟩
 rw[ea];refine Bp (λd=>aR<|aV<|eN<|q1<|.inr d) λd=>aQ<|bx ?_
 have c':v.fmod t.2=0:=YS c;refine aR<|dD<|ak<|ao rfl<|ak<|aH<|ao rfl<|aH<|ao rfl<|aV<|bC (x:=Hj t) (i:=1) (w:=.int t.2) rfl rfl<|Lw ⟨t0,8000,by decide,st⟩<|aq<|bW rfl<|eN<|q2 c' d
theorem ZW (e:h.c n=Dn (.dct (Hv D)))(hD:Dc L D)(m:k∈D.map (·.1))(q:Q (.int (getM D k)) h):Xu (.loc n) (.int (pack k)) h Q:=by
 show(match h.c n with
  | some (.dct kvs)=>(match ql kvs _ with
   | some w=>Q w h
   | none=>False)
  | _=>False)
 rw[e];show(match ql _ _ with
   | some w=>Q w h
   | none=>False)
 rw[vL hD.kb (hD.kb k m)];unfold getM at q;obtain⟨t,ht,et⟩:=GX.mp m;cases c:D.find? λt=>decide (t.1=k)with
 | none=>exact absurd (decide_eq_true et) (by simpa using List.find?_eq_none.mp c t ht)
 | some u=>rw[c]at q;exact q
theorem acA {Q:Bool->Gh->Prop}(hv:U[i]?=Dn (Dn (.loc n)))(e:h.c n=Dn (.dct (Hv D)))(q:Q (!D.isEmpty) h):Yy (aA i) U h Q:=by
 refine ao hv ?_;show(match h.c n with
  | some (.dct kvs)=>Q _ h
  | _=>False)
 rw[e];show Q _ h;have:(Hv D).isEmpty=D.isEmpty:=by cases D<;>rfl
 rwa[this]
theorem aaw (e:h.c n=Dn (.dct (Hv D)))(ne:D≠[])(q:∀k,k∈D.map (·.1)->(∀j∈D.map (·.1),pack j<=pack k)->Q (.int (pack k)) h):QJ [.loc n] h Q:=by
 show(match h.c n with
  | some (.dct kvs)=>∃ks:List Int,Ao kvs ks/\0<ks.length/\∀M,M∈ks->(∀a,a∈ks->a<=M)->Q _ h
  | _=>False)
 rw[e];refine⟨(D.map (·.1)).map pack,?_,(by grind),λM hM ha=>?_⟩;unfold Ao Hv
 simp_all
 obtain⟨k,hk,rfl⟩:=GX.mp hM;exact q k hk λj hj=>ha _<|GX.mpr ⟨j,hj,rfl⟩
theorem yt:∀us:List Tm,qm (us.map Rp)=Dn (Hv us)
 | []=>rfl
 | t::us=>by
  show(match S9 (.int (pack t.1))with
   | some ks=>(qm _).map _
   | none=>Go)=_
  rw[yt us];rfl
theorem zbi {us:List Tm}(kb:∀j∈us.map (·.1),Kb L j)(nd:(us.map (·.1)).Nodup):tH [] (Hv us)=Hv us:=by
 revert kb nd
 refine CR (P:=λus=>(∀j∈us.map (·.1),Kb L j)->(us.map (·.1)).Nodup->tH [] (Hv us)=Hv us) (λ_ _=>rfl) (λus t ih kb nd=>?_) us;rw[Jb]at kb nd;rw[List.nodup_append]at nd;have kb1:=λj hj=>kb j (Qv _ hj)
 have e1:Hv (us++[t])=Hv us++[(.inl (pack t.1),.int t.2)]:=by unfold Hv;rw[Jb];rfl
 have e2:tH [] (Hv us++[(.inl (pack t.1),.int t.2)])=Vi (tH [] (Hv us)) (.inl (pack t.1)) (.int t.2):=by unfold tH;rw[Ww];rfl
 rw[e1,e2,(ih kb1 nd.1),KH kb1 (kb t.1 (by simp)),q9 t.2 (λm=>nd.2.2 _ m t.1 (by simp) rfl),e1]
theorem air {us:List Tm}(kb:∀j∈us.map (·.1),Kb L j)(nd:(us.map (·.1)).Nodup)(q:∀g:Gh,g.c h.nx=Dn (.dct (Hv us))->(∀n,n≠h.nx->g.c n=h.c n)->g.nx=h.nx+1->Q (.loc h.nx) g):Dr [.lst (us.map Rp)] h Q:=by
 show(match qm _ with
   | some ps=>Q _ _
   | none=>False)
 rw[yt];show Q _ _;rw[zbi kb nd];exact q _ (Iu _ _) (λ_ e=>zA e) rfl
structure Vt (L:Nat) (vs:List Tm) (ld:Tm):Prop where
 ex:∃vi,vs=vi++[ld]
 kb:∀t∈vs,Kb L t.1/\t.2≠0/\Sm 8000 t.2
 srt:(vs.map (·.1)).Pairwise (· < ·)
 len:vs.length<=1000
variable {ld:Tm}
theorem Vt.mem (V:Vt L vs ld):ld∈vs:=by obtain⟨vi,rfl⟩:=V.ex;simp
theorem Vt.le (V:Vt L vs ld)(h:t∈vs):t=ld\/pack t.1<pack ld.1:=by
 have km:=V.kb t h;obtain⟨vi,rfl⟩:=V.ex;have s:=V.srt;rw[Jb,List.pairwise_append]at s;rcases W9.mp h with h|h
 exact .inr<|(pJ km.1 (V.kb ld V.mem).1).mp (s.2.2 _ (GX.mpr ⟨t,h,rfl⟩) _<|by simp)
 grind
theorem aak {s:List Int}(V:Vt L vs ld)(hs:s.length=L):lin (dz s (dJ s ld.1)) vs=ld.2:=by
 have z:∀t∈vs,t≠ld->dJ s _≠dJ s ld.1:=λt ht ne e=>by
  have:=V.le ht
  have e2:=congrArg pack e;rw[gG hs (V.kb t ht).1.1,gG hs (V.kb ld V.mem).1.1]at e2;grind
 obtain⟨vi,rfl⟩:=V.ex;have nn:∀t∈vi,t≠ld:=λt ht e=>by
  have s:=V.srt;grind
 unfold lin;rw[Jb,List.sum_append];have e0:(vi.map λt=>dz s (dJ s ld.1) t.1*t.2).sum=0:=by
  have:vi.map (λt=>dz s _ _*t.2)=vi.map λ_=>(0:Int):=VG λt ht=>by
   unfold dz;rw[if_neg (z t (Qv _ ht) (nn t ht))];exact Int.zero_mul _
  rw[this];clear this z nn V;induction vi with
  | nil=>rfl
  | cons _ _ ih=>rw[HY,List.sum_cons,ih];rfl
 rw[e0];show 0+(dz s _ _*ld.2+0)=_;unfold dz;rw[if_pos rfl];lia
theorem adK {K:List Int}(V:Vt L vs ld)(hD:Dc L D)(mK:K∈D.map (·.1))(up:∀j∈D.map (·.1),pack j<=pack K)(hn:¬Ng (fP K ld.1))(hd:(getM D K).fmod ld.2=0)(kz:∀t∈vs,Kb L (dJ (fP K ld.1) t.1)):
  ∀j∈(Ly (fP K ld.1) ((getM D K).fdiv ld.2) vs D).map (·.1),pack j<pack K:=by
 have kK:=hD.kb K mK;have kl:=V.kb ld V.mem;have ll:K.length=ld.1.length:=by rw[kK.1,kl.1.1]
 have ls:(fP K ld.1).length=L:=by rw[qZ ll,kK.1]
 have dc:=yW (f:=(getM D K).fdiv ld.2) hD kz;have z0:getM (Ly (fP K ld.1) ((getM D K).fdiv ld.2) vs D) K=0:=by
  rw[JG];have:=aak V ls
  rw[nR ll]at this;have:=Int.mul_fdiv_add_fmod (getM D K) ld.2
  grind
 intro j hj;have ne:j≠K:=λe=>by
  subst e;obtain⟨t,ht,et⟩:=GX.mp hj;have:=eY dc.nd ht
  rw[et,z0]at this;exact dc.nz t ht this.symm
 have le:=by
  have go:=λws=>by
   refine CR (P:=λws=>(∀t∈ws,t∈vs)->∀j∈(Ly (fP K ld.1) ((getM D K).fdiv ld.2) ws D).map _,pack j<=pack K) (λ_=>up) (λws t ih hw j hj=>?_) ws;rw[nW]at hj;obtain⟨u,hu,eu⟩:=GX.mp hj;rcases wF hu with m|⟨_,rfl⟩
   exact ih (λt ht=>hw t<|Qv _ ht) j<|GX.mpr ⟨u,m,eu⟩
   have mt:=hw t (by simp);rw[<-eu];have e2:=gG ls kl.1.1;rw[nR ll]at e2;rw[(gG ls (V.kb t mt).1.1)];rcases V.le mt with h|h
   rw[h];lia;lia
  exact go vs (λ_ h=>h) j hj
 have:=iH (dc.kb j hj) kK
 exact Int.lt_iff_le_and_ne.mpr ⟨le,λe=>ne<|this e⟩
def aed (c0:AP):Prop:=∀{h:Gh}{us vs:List Tm}{ld:Tm}{L:Nat}{Q:WK}{E:CQ}(J:List Tm->List Tm->Prop),L<=8->Dc L us->us.length<=1000->Vt L vs ld->J [] us ->
 (∀f D K,J f D->Dc L D->K∈D.map (·.1)->(∀j∈D.map (·.1),pack j<=pack K)->D.length<=20000/\Sm 8000 (getM D K)/\f.length<=600 /\
  ((getM D K).fmod ld.2≠0\/Ng (fP K ld.1)->Q .non h) /\
  ((getM D K).fmod ld.2=0->¬Ng (fP K ld.1)->(f.length=600->∀h',Ge h h'->E ⟨"TooMuch",[]⟩ h') /\
   (f.length≠600->(getM D K).fdiv ld.2≠0/\Sm 8000 ((getM D K).fdiv ld.2)/\(∀t∈vs,Kb L (dJ (fP K ld.1) t.1))/\J (f++[(fP K ld.1,(getM D K).fdiv ld.2)]) (Ly (fP K ld.1) ((getM D K).fdiv ld.2) vs D)))) ->
 (∀f,J f []->Q (Cp f.reverse) h)->c0 [Cp us,Cp vs] h Q E
theorem ajx {l:List Int}(hk:Kb L k)(hl:Kb L l)(n:¬Ng (fP k l)):Kb L (fP k l):=by
 refine⟨by rw[qZ<|by rw[hk.1,hl.1],hk.1],λp hp=>⟨Int.not_lt.mp λc=>n ⟨p,hp,c⟩,?_⟩⟩;unfold fP at hp;obtain⟨i,hi,e⟩:=X3.mp hp;rw[List.getElem_zipWith]at e;rw[List.length_zipWith]at hi;have h1:=hk.2 (k[i]'(by lia)) (RQ _);have h2:=hl.2 (l[i]'(by lia)) (RQ _);lia
theorem akU (e:∃vi,vs=vi++[ld])(q:Q (Hj ld) h):Bm (Cp vs) (.int (-1)) h Q:=by
 obtain⟨vi,rfl⟩:=e;exact bC rfl (Fd<|by simp) q
theorem akF (x:Q (.bl true) h):kIs .non .non h Q:=x
theorem abG (x:Q (.bl false) h):kIs (Hj t) .non h Q:=x
theorem zbn {pk un pt po tk:AP}(hpk:PkX pk)(hun:UnX un)(hpt:PtX pt)(hpo:PoX po)(htk:afl tk):aed (Gg pk un pt po tk):=by
 intro h us vs ld L Q E J hL hu lu V j0 step fin;have kl:=V.kb ld V.mem;have vne:vs≠[]:=λe=>by have:=V.mem;rw[e]at this;cases this
 refine pU rfl (U:=[Dn<|Cp us,Dn<|Cp vs,Go,Go,Go,Go,Go,Go]) rfl ?_;refine aJ<|bf<|gW<|cR<|ao rfl<|qT (b:=true) ?_ ?_
 ·cases vs with
  | nil=>exact absurd rfl vne
  | cons _ _=>rfl
 refine yR<|aQ<|bx ?_
 refine akU V.ex ?_;refine nV<|bx ?_
 refine aJ<|aU<|aF<|ak<|ao rfl<|aq<|hpt (λt ht=>(V.kb t ht).1) V.len hL ?_
 refine nV<|bx ?_
 refine aJ<|aU<|bG<|ak<|aF<|ak<|ao rfl<|aq<|hpt (λt ht=>hu.kb _<|GX.mpr ⟨t,ht,rfl⟩) lu hL<|aq ?_
 refine air hu.kb hu.nd λg1 a1 b1 c1=>?_;refine nV<|bx ?_
 refine aJ<|aU<|je (ws:=[]) (λR=>rfl) rfl λg2 a2 b2 c2=>?_
 refine nV<|bx ?_
 have nb:g1.nx=h.nx+1:=c1;refine aJ ?_;refine⟨λm U h'=>∃(f D:List Tm) (s6 s7:Option W),U=[Dn<|Cp us,Dn<|Cp vs,Dn<|Hj ld,Dn<|.lst<|vs.map Rp,Dn<|.loc h.nx,Dn<|.loc g1.nx,s6,s7]/\h'.c h.nx=Dn (.dct<|Hv D)/\h'.c g1.nx=Dn (.lst<|f.map Hj)/\(∀n,n<h.nx->h'.c n=h.c n)/\h.nx<=h'.nx/\J f D/\Dc L D/\∀j∈D.map (·.1),(pack j).toNat<m,?_,?_⟩;refine⟨2^200,[],us,Go,Go,rfl,?_,a2,λn hn=>?_,by lia,j0,hu,λj hj=>?_⟩;rw[b2 _ (by lia)];exact a1;rw[b2 n (by lia),b1 n (by lia)];have:=(j6 (hu.kb j hj))
 have p2:(2:Nat)^(16*L)<=2^200:=Z5 (by decide) (by lia);lia
 ·rintro m U h' ⟨f,D,s6,s7,rfl,eD,eF,ko,kn,jf,dc,um⟩;refine acA rfl eD ?_;cases D with
  | nil=>
   refine yR ?_;unfold vh;refine bx<|aR<|aaG rfl eF ?_
   rw[<-List.map_reverse];exact⟨λn c hn ec=>by rw[ko n hn];exact ec,.inl ⟨Y6 _ _,fin f jf⟩⟩
  | cons d0 D0=>
   generalize hDD:d0::D0=D at *;have ne:D≠[]:=by rw[<-hDD];simp
   rw[show(!D.isEmpty)=true by rw[<-hDD];rfl];refine yL ?_;refine aJ<|aU<|bG<|ak<|ao rfl<|aq<|aaw eD ne λK mK up=>?_
   obtain⟨lD,sK,lf,qn,qd⟩:=step f D K jf dc mK up;have kK:=dc.kb K mK;refine nV<|bx ?_
   refine aJ<|aU<|aF<|ak<|aF<|ak<|ao rfl<|ak<|bG<|ak<|aH<|ao rfl<|aV<|bC (x:=Hj ld) (i:=0) (w:=.tup (ld.1.map .int)) rfl rfl<|aq<|cN (xs:=ld.1.map .int) rfl<|aq ?_
   rw[CV,kl.1.1];refine hun kK hL ?_;refine ak<|aH<|ao rfl<|ao rfl<|ZW eD dc mK<|ak<|ao rfl<|aq ?_
   refine hpo kK.1 kl.1.1 hL kl.2.1 sK kl.2.2 (λc=>?_) λc1' c2'=>?_;refine nV<|bx ?_
   refine aJ<|bf<|aN<|aH<|ao rfl<|aV ?_
   refine akF<|eE<|yL<|aR<|aV ?_
   exact⟨λn c hn ec=>by rw[ko n hn];exact ec,.inl ⟨by simp[Lo],qn c⟩⟩;obtain⟨qx,qg⟩:=qd c1' c2';refine nV<|bx ?_
   refine aJ<|bf<|aN<|aH<|ao rfl<|aV ?_
   refine abG<|eE<|yR<|aQ<|bx ?_
   refine aJ<|bf<|aN<|aH<|bG<|ak<|ao rfl<|aq<|cN (xs:=f.map Hj) (fj eF)<|aV<|yx<|eE ?_
   rw[CV];refine Bp (λc6=>kj<|qx (by lia) h' ⟨kn,ko⟩) λc6=>aQ<|bx ?_
   obtain⟨f0,sf,kz,jn⟩:=qg (by lia);have ks:=ajx kK kl.1 c2';refine aJ<|d9<|lH<|ao rfl<|gK eF<|ak<|ao rfl<|aq<|Bj eF (by rw[CV];lia) λg3 a3 b3 c3=>bx ?_
   have eD3:g3.c h.nx=Dn (.dct (Hv D)):=by rw[b3 _ (by lia)];exact eD
   refine d9<|aF<|ak<|ao rfl<|ak<|ao rfl<|ak<|aF<|ak<|aH<|ao rfl<|aV<|bC (x:=Hj (fP K ld.1,(getM D K).fdiv ld.2)) (i:=0) (w:=.tup ((fP K ld.1).map .int)) rfl rfl<|aq<|hpk ks hL ?_ 
   refine ak<|aH<|ao rfl<|aV<|bC (x:=Hj (fP K ld.1,(getM D K).fdiv ld.2)) (i:=1) (w:=.int ((getM D K).fdiv ld.2)) rfl rfl<|aq ?_
   refine htk eD3 dc (by have:=V.len;lia) ks.1 (λt ht=>⟨(V.kb t ht).1.1,kz t ht,(V.kb t ht).2⟩) f0 sf λg4 a4 b4 c4=>bx ?_;have tl:=adK V dc mK up c2' c1' kz;refine⟨(pack K).toNat,um K mK,f++[(fP K ld.1,(getM D K).fdiv ld.2)],_,_,_,rfl,a4,?_,λn hn=>?_,by lia,jn,yW dc kz,λj hj=>?_⟩;rw[b4 _ (by lia),a3,Jb];rfl;rw[b4 n (by lia),b3 n (by lia),ko n hn];have:=tl j hj
   have:=(j6 ((yW dc kz).kb j hj)).1
   lia
variable {le:List Int}
theorem acg (h:k.length=L)(hl:le.length=L):dJ (fP k le) le=k:=nR (by rw[h,hl])
theorem zK (L:Nat)(ts:List Tm):(gj L ts).length=L:=by unfold gj;rw[CV,List.length_range]
theorem aa8:∀{ns:List Int},ns≠[]->mnL ns∈ns/\∀a∈ns,mnL ns<=a
 | a::ns,_=>by
  have e:(a::ns).min?=Dn _:=rfl;have:=List.min?_eq_some_iff.mp e
  exact this
theorem Fb (ht:t∈ts)(hi:i<L):(gj L ts).getD i 0<=t.1.getD i 0/\∃u∈ts,(gj L ts).getD i 0=u.1.getD i 0:=by
 obtain⟨h1,h2⟩:=aa8 (List.ne_nil_of_mem (GX.mpr ⟨t,ht,rfl⟩));have e:(gj L ts).getD i 0=mnL (ts.map λt=>t.1.getD i 0):=by
  unfold gj;rw[M9,HI,Xq hi];rfl
 rw[e];refine⟨h2 _<|GX.mpr ⟨t,ht,rfl⟩,?_⟩;grind
theorem abC {l:List Int}(h:k.length=l.length):(fP k l).getD i 0=k.getD i 0-l.getD i 0:=by
 unfold fP;rw[M9,List.getElem?_zipWith];grind
theorem J3 {q:Int}(h:q∈k):∃i,i<k.length/\q=k.getD i 0:=by
 obtain⟨i,hi,e⟩:=X3.mp h;exact⟨i,hi,by rw[M9,JD hi,<-e];rfl⟩
structure Lit (L p m:Nat) (us:List Tm) (G:Int) (le:List Int):Prop where
 len:le.length=L
 le0:∀q∈le,0<=q/\q<=(p:Int)
 g0:G≠0
 gs:Sm m G
 low:∀t∈us,∀i,i<L->le.getD i 0<=t.1.getD i 0
 dv:∀t∈us,G ∣ t.2
variable {p:Nat}
theorem Lit.of (sk:So L m ss)(ne:∃s∈ss,s≠[])(hp:∀s∈ss,Mb L m p n s)(hs:s∈ss):Lit L p m s (KZ ss) (gj L ss.flatten):=by
 obtain⟨g0,g1,_⟩:=KQ sk ne;have up:∀t∈s,t∈ss.flatten:=λt ht=>List.mem_flatten.mpr ⟨s,hs,ht⟩
 obtain⟨t0,r0,e0⟩:=YM (BR ne);have m0:t0∈ss.flatten:=by rw[e0];simp
 refine⟨zK ..,λq hq=>?_,g0,g1,λt ht i hi=>(Fb (up t ht) hi).1,λt ht=>?_⟩;obtain⟨i,hi,rfl⟩:=J3 hq;rw[zK]at hi;obtain⟨u,hu,e⟩:=(Fb m0 hi).2;rw[e];obtain⟨s1,hs1,hu1⟩:=List.mem_flatten.mp hu;have w:=((hp s1 hs1).2.2 u hu1)
 simp_all
 have d:=Ua t.2 (GX.mpr ⟨t,up t ht,rfl⟩);unfold KZ;split
 simp_all
 exact d
section
variable {us:List Tm}{G:Int}(hLt:Lit L p m us G le)
include hLt
theorem Lit.back (hu:Mb L m p n us)(ht:t∈us):dJ le (fH G le t).1=t.1/\G*(fH G le t).2=t.2:=by
 refine⟨?_,?_⟩;show dJ le (fP t.1 le)=t.1;rw[yD];exact acg (hu.2.2 t ht).1 hLt.len;obtain⟨q,e⟩:=hLt.dv t ht;show G*t.2.fdiv G=t.2;rw[e,Int.mul_fdiv_cancel_left _ hLt.g0]
theorem Lit.mb (hu:Mb L m p n us):Mb L m p n (us.map (fH G le)):=by
 refine⟨by rw[CV];exact hu.1,?_,λt ht=>?_⟩
 ·rw[Ks,RT];have s:=hu.2.1;rw[RT]at s;refine YT (λ{a b} ha hb c=>?_) s;show fP a.1 le<fP b.1 le;have la:=(hu.2.2 a ha).1;have lb:=(hu.2.2 b hb).1;have key:∀{x y l:List Int},x.length=l.length->y.length=l.length->x<y->fP x l<fP y l:=λ{x y l} hx hy c=>by
   induction l generalizing x y with
   | nil=>rw[Qs hx,Qs hy]at c;exact absurd c (List.lt_irrefl _)
   | cons z l ih=>
    match x,y,hx,hy with
    | a::x,b::y,hx,hy=>
     show(a-z)::fP x l<(b-z)::fP y l;rw[Xj]at c|-
     rcases c with c|⟨c,d⟩
     exact .inl<|by lia
     exact .inr ⟨by rw[c],ih (by simpa using hx) (by simpa using hy) d⟩
  exact key (by rw[la,hLt.len]) (by rw[lb,hLt.len]) c
 obtain⟨u,hu',rfl⟩:=GX.mp ht;obtain⟨b1,b2⟩:=hLt.back hu hu';obtain⟨w1,w2,w3,w4⟩:=hu.2.2 u hu';have ll:(fH G le u).1.length=L:=by
  show(fP u.1 le).length=L;rw[qZ (by rw[w1,hLt.len]),w1]
 refine⟨ll,λz=>w2<|by rw[<-b2,z,Int.mul_zero],?_,λq hq=>?_⟩;unfold Sm at *;rw[<-b2,Int.natAbs_mul]at w3;have:0<G.natAbs:=Int.natAbs_pos.mpr hLt.g0
 exact Wz (Nat.le_mul_of_pos_left _ this) w3;obtain⟨i,hi,rfl⟩:=J3 hq;rw[ll]at hi;have e:(fH G le u).1.getD i 0=u.1.getD i 0-le.getD i 0:=abC (by rw[w1,hLt.len]);have l1:=hLt.low u hu' i hi;have m1:∀{k:List Int},k.length=L->k.getD i 0∈k:=λ{k} hk=>by
  rw[M9,JD (by lia)];exact RQ _
 have l2:=hLt.le0 _ (m1 hLt.len);have l3:=w4 _ (m1 w1);rw[e];lia
end
abbrev Ps:=List (Nat×Int)
def dk:Nat->Nat->List Int
 | 0,_=>[]
 | L+1,n=>dk L (n / 65536)++[((n % 65536:Nat):Int)]
def sP (L:Nat)(us:Ps):List Tm:=us.map λt=>(dk L t.1,t.2)
def fl:Nat->Nat->Bool
 | 0,n=>JM n 0
 | L+1,n=>RJ (n % 65536) 40&&fl L (n / 65536)
def nzI (v:Int):Bool:=!Nat.beq v.natAbs 0
noncomputable def Al (k:Nat)(v:Int)(D:Ps):Ps:=List.rec (motive:=λ_=>Ps) [(k,v)] (λa D ih=>bif RK k a.1 then(k,v)::a::D else bif JM k a.1 then(a.1,a.2+v)::D else a::ih) D
noncomputable def RB {α β:Type}(f:α->β->β)(b:β)(l:List α):β:=List.rec (motive:=λ_=>β) b (λa _ ih=>f a ih) l
noncomputable def allR {α:Type}(f:α->Bool)(l:List α):Bool:=List.rec (motive:=λ_=>Bool) true (λa _ ih=>bif f a then ih else false) l
noncomputable def adf (l:Ps):Ps:=List.rec (motive:=λ_=>Ps) [] (λa _ ih=>bif JM a.2.natAbs 0 then ih else a::ih) l
noncomputable def aey {α:Type}(l:List α):Nat:=List.rec (motive:=λ_=>Nat) 0 (λ_ _ ih=>Nat.succ ih) l
theorem allR_eq {α:Type}(f:α->Bool):∀l:List α,allR f l=l.all f
 | []=>rfl
 | a::l=>by
  show(bif f a then allR f l else false)=(f a&&l.all f);rw[allR_eq f l];cases f a<;>rfl
theorem Kg:∀l:Ps,adf l=l.filter λt=>nzI t.2
 | []=>rfl
 | a::l=>by
  show(bif JM a.2.natAbs 0 then adf l else a::adf l)=_;rw[Kg l,Qg];unfold nzI;cases JM a.2.natAbs 0<;>rfl
theorem BL {α:Type}:∀l:List α,aey l=l.length
 | []=>rfl
 | _::l=>congrArg Nat.succ (BL l)
noncomputable def upF (a:Nat)(D:Ps):Bool:=List.rec (motive:=λ_=>Nat->Bool) (λ_=>true) (λb _ ih a=>bif RK a b.1 then ih b.1 else false) D a
noncomputable def upP:Ps->Bool
 | []=>true
 | (a,_)::D=>upF a D
noncomputable def okP (L:Nat)(us:Ps):Bool:=RJ (aey us) 64&&(upP us&&allR (λt=>fl L t.1&&(nzI t.2&&RK t.2.natAbs 1073741824)) us)
noncomputable def nF {α:Type}(n:Nat)(f:Nat->α):α:=Nat.rec (motive:=λ_=>α) (f 0) (λm _=>f (Nat.succ m)) n
noncomputable def iF {α:Type}(v:Int)(f:Int->α):α:=Int.rec (motive:=λ_=>α) (λn=>nF n λm=>f (.ofNat m)) (λn=>nF n λm=>f (.negSucc m)) v
noncomputable def Nr {α:Type}(l:Ps)(k:Ps->α):α:=List.rec (motive:=λ_=>(Ps->α)->α) (λk=>k []) (λa _ ih k=>nF a.1 λn=>iF a.2 λv=>ih λl=>k ((n,v)::l)) l k
theorem RD {α:Type}(n:Nat)(f:Nat->α):nF n f=f n:=by cases n<;>rfl
theorem acI {α:Type}(v:Int)(f:Int->α):iF v f=f v:=by
 cases v with
 | ofNat n=>exact RD n λm=>f (.ofNat m)
 | negSucc n=>exact RD n λm=>f (.negSucc m)
theorem jH {α:Type}:∀(l:Ps) (k:Ps->α),Nr l k=k l
 | [],_=>rfl
 | a::l,k=>by
  show(nF a.1 λn=>iF a.2 λv=>Nr l λl=>k ((n,v)::l))=_;rw[RD,acI,jH l]
noncomputable def ado (L:Nat)(D:Ps):Option Ps:=bif RK (aey D) 64 then(Nr (adf D) λl=>bif okP L l then Dn l else Go)else Go
noncomputable def R8 (t:Nat×Int)(vs D:Ps):Ps:=RB (λs D=>Al (t.1+s.1) (t.2*s.2) D) D vs
noncomputable def Av (L:Nat)(us vs:Ps):Option Ps:=ado L (RB (λt D=>R8 t vs D) [] us)
noncomputable def Px (L:Nat)(f:Int)(us vs:Ps):Option Ps:=ado L (RB (λt D=>Al t.1 (f*t.2) D) us vs)
theorem jU:∀(L n:Nat),(dk L n).length=L
 | 0,_=>rfl
 | L+1,n=>by rw[dk,Pa,jU L];rfl
theorem qM:∀{L n:Nat},fl L n=true->(∀p∈dk L n,0<=p/\p<=40)/\pack (dk L n)=n
 | 0,n,h=>⟨λ_ h=>(nomatch h),by rw[VJ h];rfl⟩
 | L+1,n,h=>by
  rw[fl,Ol]at h;have h1:=ML h.1;obtain⟨i1,i2⟩:=qM h.2;refine⟨λp hp=>?_,?_⟩;rcases W9.mp hp with hp|hp
  exact i1 p hp;rw[Q0.mp hp];lia;rw[dk,cI,i2];lia
theorem vN:∀{L:Nat}{k:List Int}{n:Nat},Kb L k->pack k=n->dk L n=k
 | 0,k,n,h,_=>(Qs h.1).symm
 | L+1,k,n,h,e=>by
  obtain⟨a,p,rfl⟩:=jg h.1;obtain⟨ha,p0,p1⟩:=pL h;have a0:=(j6 ha).1;rw[cI]at e;rw[dk,vN ha (n:=n / 65536) (by lia)];congr 2
  lia
theorem adk (h:fl L n=true):Kb L (dk L n):=⟨jU ..,λp hp=>by have:=(qM h).1 p hp;lia⟩
theorem ZK {a b:Nat}(ha:fl L a=true)(hb:fl L b=true):dk L (a+b)=dJ (dk L a) (dk L b):=by
 refine vN ⟨by rw[wL<|by rw[jU,jU],jU],λp hp=>?_⟩ ?_;obtain⟨x,hx,y,hy,rfl⟩:=qX hp;have:=(qM ha).1 x hx
 have:=(qM hb).1 y hy
 lia;rw[gG (jU ..) (jU ..),(qM ha).2,(qM hb).2];lia
theorem Kc:nzI v=true↔v≠0:=by
 unfold nzI;constructor;rintro h rfl;exact absurd h<|by decide
 ·intro h;cases c:JM v.natAbs 0 with
  | false=>rfl
  | true=>exact absurd (Int.natAbs_eq_zero.mp (VJ c)) h
structure HD (L:Nat) (us:Ps):Prop where
 l8:L<=8
 len:us.length<=64
 up:us.Pairwise λa b=>a.1<b.1
 f:∀t∈us,fl L t.1=true
 nz:∀t∈us,t.2≠0
 sm:∀t∈us,t.2.natAbs<1073741824
theorem Tc:∀{D:Ps}{a:Nat},upF a D=true->(∀t∈D,a<t.1)/\D.Pairwise λa b=>a.1<b.1
 | [],_,_=>⟨λ_ h=>(nomatch h),.nil⟩
 | (b,w)::D,a,h=>by
  have h:(bif RK a b then upF b D else false)=true:=h;rw[Bool.cond_false_right,Ol]at h;have h1:=K1 (Nat.lt_succ_self a) (ML h.1);obtain⟨i1,i2⟩:=Tc h.2;refine⟨λt ht=>?_,.cons (λt ht=>i1 t ht) i2⟩;rcases Jz.mp ht with rfl|ht
  exact h1;exact Xa h1<|i1 t ht
theorem Tg {us:Ps}(hL:L<=8)(h:okP L us=true):HD L us:=by
 unfold okP at h;rw[Ol,Ol,allR_eq,Qe,BL]at h;obtain⟨h1,h2,h3⟩:=h;have h4:∀t∈us,fl L t.1=true/\t.2≠0/\t.2.natAbs<1073741824:=λt ht=>by
  have:=h3 t ht
  rw[Ol,Ol,Kc]at this;exact⟨this.1,this.2.1,ML this.2.2⟩
 refine⟨hL,ML h1,?_,λt ht=>(h4 t ht).1,λt ht=>(h4 t ht).2.1,λt ht=>(h4 t ht).2.2⟩;cases us with
 | nil=>exact .nil
 | cons a D=>
  obtain⟨i1,i2⟩:=Tc (a:=a.1) h2;exact .cons i1 i2
theorem HD.pw {us:Ps}(h:HD L us):((sP L us).map (·.1)).Pairwise (· < ·):=by
 unfold sP;rw[Ks,RT];refine YT (λ{a b} ha hb c=>?_) h.up;refine(pJ (adk<|h.f a ha)<|adk<|h.f b hb).mpr ?_;rw[(qM (h.f a ha)).2,(qM (h.f b hb)).2];lia
theorem vK {us:Ps}(h:t∈sP L us):∃s∈us,t=(dk L s.1,s.2):=by
 obtain⟨s,hs,e⟩:=GX.mp h;exact⟨s,hs,e.symm⟩
theorem Kf (L:Nat)(us:Ps):(sP L us).length=us.length:=CV ..
theorem HD.mb {us:Ps}(h:HD L us):Mb L 30 40 64 (sP L us):=by
 refine⟨by rw[Kf];exact h.len,h.pw,λt ht=>?_⟩;obtain⟨s,hs,rfl⟩:=vK ht;exact⟨jU ..,h.nz s hs,h.sm s hs,(qM<|h.f s hs).1⟩
theorem HD.nd {us:Ps}(h:HD L us):((sP L us).map (·.1)).Nodup:=cU h.pw
theorem xQ (k:Nat)(v:Int)(j:Nat)(w:Int)(D:Ps):Al k v ((j,w)::D)=bif RK k j then(k,v)::(j,w)::D else bif JM k j then(j,w+v)::D else(j,w)::Al k v D:=rfl
theorem Bo {L:Nat}(g:List Int->Int)(k:Nat)(v:Int):∀D:Ps,lin g (sP L (Al k v D))=lin g (sP L D)+g (dk L k)*v
 | []=>by
  show g (dk L k)*v+0=0+g (dk L k)*v;lia
 | (j,w)::D=>by
  rw[xQ];cases h1:RK k j with
  | true=>
   show g (dk L k)*v+lin g (sP L ((j,w)::D))=lin g (sP L ((j,w)::D))+g (dk L k)*v;exact Int.add_comm ..
  | false=>
   cases h2:JM k j with
   | true=>
    have e:=VJ h2;subst e;show g (dk L k)*(w+v)+lin g (sP L D)=g (dk L k)*w+lin g (sP L D)+g (dk L k)*v;rw[Int.mul_add];lia
   | false=>
    show g (dk L j)*w+lin g (sP L (Al k v D))=g (dk L j)*w+lin g (sP L D)+g (dk L k)*v;rw[Bo g k v D];lia
theorem BX (k:Nat)(v:Int):∀(D:Ps) (j:Nat),(j∈(Al k v D).map (·.1))↔(j=k\/j∈D.map (·.1))
 | [],j=>by show j∈[k]↔_;simp
 | (i,w)::D,j=>by
  rw[xQ];cases h1:RK k i with
  | true=>simp
  | false=>
   cases h2:JM k i with
   | true=>
    have e:=VJ h2;subst e;simp
   | false=>
    show j∈i::(Al k v D).map (·.1)↔j=k\/j∈i::D.map (·.1);rw[Jz,Jz,BX k v D j];constructor;rintro(h|h|h)<;>simp[h]
    rintro(h|h|h)<;>simp[h]
theorem Sx {L:Nat}(g:List Int->Int)(t:Nat×Int)(D:Ps):∀vs:Ps,(∀s∈vs,dk L (t.1+s.1)=dJ (dk L t.1) (dk L s.1))->lin g (sP L (R8 t vs D))=lin g (sP L D)+t.2*lin (λl=>g (dJ (dk L t.1) l)) (sP L vs)
 | [],_=>by show lin g (sP L D)=lin g (sP L D)+t.2*0;lia
 | s::vs,h=>by
  show lin g (sP L (Al (t.1+s.1) (t.2*s.2) (R8 t vs D)))=lin g (sP L D)+t.2*(g (dJ (dk L t.1) (dk L s.1))*s.2+lin (λl=>g (dJ (dk L t.1) l)) (sP L vs));rw[Bo,Sx g t D vs λs hs=>h s (OD _ hs),h s Lp];grind
theorem SJ (t:Nat×Int)(D:Ps)(j:Nat):∀vs:Ps,(j∈(R8 t vs D).map (·.1))↔(j∈D.map (·.1)\/∃s∈vs,j=t.1+s.1)
 | []=>by show j∈D.map (·.1)↔_;simp
 | s::vs=>by
  show j∈(Al (t.1+s.1) (t.2*s.2) (R8 t vs D)).map (·.1)↔_;rw[BX,SJ t D j vs];simp only[Jz,exists_eq_or_imp];exact⟨λh=>by rcases h with h|h|h<;>simp[h],λh=>by rcases h with h|h|h<;>simp[h]⟩
theorem TY {L:Nat}(g:List Int->Int)(vs:Ps):∀us:Ps,(∀t∈us,∀s∈vs,dk L (t.1+s.1)=dJ (dk L t.1) (dk L s.1))->lin g (sP L (RB (λt D=>R8 t vs D) [] us))=lin (λk=>lin (λl=>g (dJ k l)) (sP L vs)) (sP L us)
 | [],_=>rfl
 | t::us,h=>by
  show lin g (sP L (R8 t vs (RB (λt D=>R8 t vs D) [] us)))=lin (λl=>g (dJ (dk L t.1) l)) (sP L vs)*t.2+lin (λk=>lin (λl=>g (dJ k l)) (sP L vs)) (sP L us);rw[Sx g t _ vs (h t Lp),TY g vs us λt ht=>h t (OD _ ht),Int.mul_comm t.2];lia
theorem T7 (vs:Ps)(j:Nat):∀us:Ps,(j∈(RB (λt D=>R8 t vs D) [] us).map (·.1))↔∃t∈us,∃s∈vs,j=t.1+s.1
 | []=>by show j∈[]↔_;simp
 | t::us=>by
  show j∈(R8 t vs (RB (λt D=>R8 t vs D) [] us)).map (·.1)↔_;rw[SJ,T7 vs j us];simp only[Jz,exists_eq_or_imp];exact⟨λh=>h.symm,λh=>h.symm⟩
theorem TJ {L:Nat}(g:List Int->Int)(f:Int)(us:Ps):∀vs:Ps,lin g (sP L (RB (λt D=>Al t.1 (f*t.2) D) us vs))=lin g (sP L us)+f*lin g (sP L vs)
 | []=>by show lin g (sP L us)=lin g (sP L us)+f*0;lia
 | t::vs=>by
  show lin g (sP L (Al t.1 (f*t.2) (RB (λt D=>Al t.1 (f*t.2) D) us vs)))=lin g (sP L us)+f*(g (dk L t.1)*t.2+lin g (sP L vs));rw[Bo,TJ g f us vs];grind
theorem Jg (f:Int)(us:Ps)(j:Nat):∀vs:Ps,(j∈(RB (λt D=>Al t.1 (f*t.2) D) us vs).map (·.1))↔(j∈us.map (·.1)\/j∈vs.map (·.1))
 | []=>by show j∈us.map (·.1)↔_;simp
 | t::vs=>by
  show j∈(Al t.1 (f*t.2) (RB (λt D=>Al t.1 (f*t.2) D) us vs)).map (·.1)↔_\/j∈t.1::vs.map (·.1);rw[BX,Jg f us j vs,Jz];exact⟨λh=>by rcases h with h|h|h<;>simp[h],λh=>by rcases h with h|h|h<;>simp[h]⟩
theorem Ti {α:Type} [DecidableEq α]:∀{l m:List α},l.Nodup->(∀x∈l,x∈m)->l.length<=m.length
 | [],_,_,_=>Oj _
 | a::l,m,nd,h=>by
  rw[RZ]at nd;have ha:=h a Lp;have:=Ti (m:=m.erase a) nd.2 λx hx=>(List.mem_erase_of_ne (by rintro rfl;exact nd.1 hx)).mpr (h x (OD _ hx))
  have e:=List.length_erase_of_mem ha;have:=List.length_pos_of_mem ha
  rw[PB];lia
theorem Et:∀{L:Nat}{A B:List Tm},(∀t∈A,Kb L t.1/\t.2≠0)->(∀t∈B,Kb L t.1/\t.2≠0)->(A.map (·.1)).Pairwise (· < ·)->(B.map (·.1)).Pairwise (· < ·)->(∀r,getM A r=getM B r)->A=B
 | L,[],[],_,_,_,_,_=>rfl
 | L,[],b::B,_,hB,_,sB,e=>by
  have:=e b.1
  rw[eY (cU sB) Lp]at this;exact absurd this.symm (hB b Lp).2
 | L,a::A,[],hA,_,sA,_,e=>by
  have:=e a.1
  rw[eY (cU sA) Lp]at this;exact absurd this (hA a Lp).2
 | L,a::A,b::B,hA,hB,sA,sB,e=>by
  have na:=cU sA;have nb:=cU sB;have ka:=(hA a Lp)
  have kb:=(hB b Lp)
  have ga:getM (a::A) a.1=a.2:=eY na Lp;have gb:getM (b::B) b.1=b.2:=eY nb Lp;have lo:∀{c:Tm}{C:List Tm}{d:Tm},((c::C).map (·.1)).Pairwise (· < ·)->(∀t∈c::C,Kb L t.1/\t.2≠0)->Kb L d.1->pack d.1<pack c.1->getM (c::C) d.1=0:=λ{c C d} sC hC hd lt=>by
   refine getM_none λm=>?_;obtain⟨t,ht,et⟩:=GX.mp m;have:pack c.1<=pack t.1:=by
    rcases Jz.mp ht with rfl|ht'
    exact Int.le_refl _;rw[HY,Vc]at sC;have:=(pJ (hC c Lp).1 (hC t ht).1).mp (sC.1 _ (GX.mpr ⟨t,ht',rfl⟩))
    lia
   rw[et]at this;lia
  have ek:a.1=b.1:=by
   rcases Int.lt_trichotomy (pack a.1) (pack b.1)with c|c|c
   have:=lo sB hB ka.1 c
   rw[<-e,ga]at this;exact absurd this ka.2;exact iH ka.1 kb.1 c;have:=lo sA hA kb.1 c
   rw[e,gb]at this;exact absurd this kb.2
  have ev:a.2=b.2:=by rw[<-ga,<-gb,e,ek]
  have eab:a=b:=Prod.ext ek ev;subst eab;rw[HY]at sA sB na nb;rw[Vc]at sA sB;rw[RZ]at na nb;rw[Et (L:=L) (λt ht=>hA t (OD _ ht)) (λt ht=>hB t (OD _ ht)) sA.2 sB.2 λr=>?_];have er:=e r;rw[bO,bO]at er;by_cases c:a.1=r
  rw[getM_none (c ▸ na.1),getM_none (c ▸ nb.1)];rw[if_neg c,if_neg c]at er;exact er
theorem wU {L:Nat}(g:List Int->Int):∀D:Ps,lin g (sP L (D.filter λt=>nzI t.2))=lin g (sP L D)
 | []=>rfl
 | t::D=>by
  rw[Qg];split
  show g (dk L t.1)*t.2+lin g (sP L _)=g (dk L t.1)*t.2+lin g (sP L D);rw[wU g D];rename_i c;rw[wU g D];show _=g (dk L t.1)*t.2+lin g (sP L D);have:t.2=0:=YS λn=>c (Kc.mpr n)
  rw[this];lia
theorem Tj {D ps:Ps}{D' rs:List Tm}(hL:L<=8)(e:ado L D=Dn ps)(nd:(D'.map (·.1)).Nodup)(hk:∀k∈D'.map (·.1),Kb L k/\∃j∈D.map (·.1),k=dk L j)(hl:∀g,lin g (sP L D)=lin g D'):HD L ps/\D'.length<64/\(Df D' rs->rs=sP L ps):=by
 unfold ado at e;rw[BL,jH,Kg]at e;cases c1:RK D.length 64 with
 | false=>rw[c1]at e;cases e
 | true=>
 cases c2:okP L (D.filter λt=>nzI t.2)with
 | false=>rw[c1,c2]at e;cases e
 | true=>
  have c:=And.intro c1 c2;rw[c1,c2]at e;cases e;have ok:=Tg hL c.2;have h64:D.length<64:=ML c.1;refine⟨ok,?_,λa=>?_⟩;have:=Ti (m:=(D.map (·.1)).map (dk L)) nd λk h=>by
   obtain⟨_,j,hj,e⟩:=hk k h;exact GX.mpr ⟨j,hj,e.symm⟩
  simp only[CV]at this;lia;obtain⟨_,m2,m3⟩:=a.mem nd;refine Et (L:=L) (λt ht=>⟨(hk _ (m3 t ht).1).1,?_⟩) (λt ht=>?_) m2 ok.pw λr=>?_;obtain⟨ks,_,_,rfl⟩:=a;have:=(Qm.mp ht).2
  simpa using this
  obtain⟨s,hs,rfl⟩:=vK ht;exact⟨adk<|ok.f s hs,ok.nz s hs⟩;rw[<-CT a.nd,a.lin nd,<-CT ok.nd,wU,hl]
theorem ald {us vs ps:Ps}(hu:HD L us)(hv:HD L vs)(e:Av L us vs=Dn ps):HD L ps/\(n8 (sP L us) (sP L vs)).length<64/\∀rs,Df (n8 (sP L us) (sP L vs)) rs->rs=sP L ps:=by
 unfold Av at e;have ha:∀t∈us,∀s∈vs,dk L (t.1+s.1)=dJ (dk L t.1) (dk L s.1):=λt ht s hs=>ZK (hu.f t ht) (hv.f s hs)
 have key:=λrs=>Tj (rs:=rs) (D':=n8 (sP L us) (sP L vs)) hu.l8 e (sY _ _) (λk hk=>by
  obtain⟨t,ht,s,hs,rfl⟩:=ahX _ _ k hk;obtain⟨t,mt,rfl⟩:=vK ht;obtain⟨s,ms,rfl⟩:=vK hs;refine⟨⟨by rw[wL<|by rw[jU,jU],jU],λp hp=>?_⟩,t.1+s.1,(T7 vs _ us).mpr ⟨t,mt,s,ms,rfl⟩,(ha t mt s ms).symm⟩;obtain⟨x,hx,y,hy,rfl⟩:=qX hp;have:=(qM (hu.f t mt)).1 x hx
  have:=(qM (hv.f s ms)).1 y hy
  lia) λg=>by rw[TY g vs us ha,zbM]
 exact⟨(key []).1,(key []).2.1,λrs=>(key rs).2.2⟩
theorem aiZ {us vs ps:Ps}(hu:HD L us)(hv:HD L vs)(e:Px L f us vs=Dn ps):HD L ps/\(uJ f (sP L us) (sP L vs)).length<64/\∀rs,Df (uJ f (sP L us) (sP L vs)) rs->rs=sP L ps:=by
 unfold Px at e;have go:∀{ws:Ps}{k:List Int},HD L ws->k∈(sP L ws).map (·.1)->∃t∈ws,k=dk L t.1/\Kb L k:=λ{ws k} hw hk=>by
  obtain⟨t,ht,rfl⟩:=GX.mp hk;obtain⟨s,hs,rfl⟩:=vK ht;exact⟨s,hs,rfl,adk<|hw.f s hs⟩
 have key:=λrs=>Tj (rs:=rs) (D':=uJ f (sP L us) (sP L vs)) hu.l8 e (Cm hu.nd) (λk hk=>by
  rcases zO k hk with m|m
  obtain⟨t,ht,e,b⟩:=go hu m;exact⟨b,t.1,(Jg f us _ vs).mpr (.inl<|GX.mpr ⟨t,ht,rfl⟩),e⟩;obtain⟨t,ht,e,b⟩:=go hv m;exact⟨b,t.1,(Jg f us _ vs).mpr (.inr (GX.mpr ⟨t,ht,rfl⟩)),e⟩) λg=>by rw[TJ,ako hu.nd]
 exact⟨(key []).1,(key []).2.1,λrs=>(key rs).2.2⟩
abbrev P3:=Ps×Ps×Ps
abbrev P6:=Ps×Ps×Ps×Ps×Ps×Ps
def l3 (x:P3):List Ps:=[x.1,x.2.1,x.2.2]
def l6 (x:P6):List Ps:=[x.1,x.2.1,x.2.2.1,x.2.2.2.1,x.2.2.2.2.1,x.2.2.2.2.2]
inductive Th
 | t (x:P3)
 | c (x:P6)
def HF:Th->List Ps
 | .t x=>l3 x
 | .c x=>l6 x
def to3:List Ps->Option P3
 | [a,b,c]=>Dn (a,b,c)
 | _=>Go
def to6:List Ps->Option P6
 | [a,b,c,d,e,f]=>Dn (a,b,c,d,e,f)
 | _=>Go
noncomputable def lsP (L:Nat)(a b c d:Ps):Option Ps:=(Av L a b).bind λp=>(Av L c d).bind λq=>Px L (-1) p q
noncomputable def QV (L:Nat)(s t:P3):Option P3:=(lsP L s.2.1 t.2.2 s.2.2 t.2.1).bind λx=>(lsP L s.2.2 t.1 s.1 t.2.2).bind λy=>(lsP L s.1 t.2.1 s.2.1 t.1).bind λz=>Dn (x,y,z)
noncomputable def plP (L:Nat)(a b c:Ps):Option Ps:=(Av L b c).bind λp=>Px L 1 a p
noncomputable def QZ (L:Nat)(s t:P3):Option Ps:=(plP L [] s.1 t.1).bind λp=>(plP L p s.2.1 t.2.1).bind λq=>plP L q s.2.2 t.2.2
noncomputable def tuP (L:Nat)(a b c:P3):Option Ps:=(QV L a b).bind λx=>QZ L x c
noncomputable def Rm (L:Nat):List Ps->Ps->Option (List Ps)
 | [],_=>Dn []
 | a::r,f=>(Av L a f).bind λx=>(Rm L r f).bind λy=>Dn (x::y)
noncomputable def mnP (L:Nat):List Ps->List Ps->Option (List Ps)
 | a::r,b::s=>(Px L (-1) a b).bind λx=>(mnP L r s).bind λy=>Dn (x::y)
 | _,_=>Dn []
noncomputable def dbP (L:Nat)(a:Ps):Option Ps:=Px L 1 a a
noncomputable def mxP (L:Nat)(a b c d:Ps):Option Ps:=(Av L a b).bind λp=>(Av L c d).bind λq=>Px L 1 p q
noncomputable def tgP (L:Nat)(l o:P3):Option P6:=(Av L l.1 o.1).bind λa=>(mxP L l.1 o.2.1 l.2.1 o.1).bind λb=>(Av L l.2.1 o.2.1).bind λc=>(mxP L l.1 o.2.2 l.2.2 o.1).bind λd=>(mxP L l.2.1 o.2.2 l.2.2 o.2.1).bind λe=>(Av L l.2.2 o.2.2).bind λf=>Dn (a,b,c,d,e,f)
noncomputable def Ro (L:Nat)(c:P6):Option (P3×P3×P3):=(dbP L c.1).bind λa=>(dbP L c.2.2.1).bind λb=>(dbP L c.2.2.2.2.2).bind λd=>Dn ((a,c.2.1,c.2.2.2.1),(c.2.1,b,c.2.2.2.2.1),(c.2.2.2.1,c.2.2.2.2.1,d))
noncomputable def trP (L:Nat)(r:P3×P3×P3):Option (P3×P3×P3):=(QV L r.2.1 r.2.2).bind λa=>(QV L r.2.2 r.1).bind λb=>(QV L r.1 r.2.1).bind λc=>Dn (a,b,c)
noncomputable def rtP (L:Nat)(r:P3×P3×P3)(t:P3):Option P3:=(QZ L r.1 t).bind λa=>(QZ L r.2.1 t).bind λb=>(QZ L r.2.2 t).bind λc=>Dn (a,b,c)
noncomputable def boP (L:Nat)(r:P3×P3×P3)(a b:P3):Option Ps:=(rtP L r b).bind λx=>QZ L a x
noncomputable def szP (L:Nat)(r:P3×P3×P3):Option Ps:=tuP L r.1 r.2.1 r.2.2
noncomputable def cuP (L:Nat)(a b c d x:P3):Option P6:=
 (QV L a b).bind λp=>(QV L c d).bind λq=>(QV L a c).bind λr=>(QV L b d).bind λs=>
 (QZ L p x).bind λm1=>(QZ L q x).bind λm2=>(Av L m1 m2).bind λm=>
 (QZ L r x).bind λn1=>(QZ L s x).bind λn2=>(Av L n1 n2).bind λn=>
 (tgP L r s).bind λg=>(Rm L (l6 g) m).bind λg2=>(tgP L p q).bind λk=>(Rm L (l6 k) n).bind λk2=>
 (mnP L g2 k2).bind to6
noncomputable def poP (L:Nat)(c:P6)(l:P3):Option P3:=(Ro L c).bind λr=>(trP L r).bind λu=>(rtP L u l).bind λv=>(szP L r).bind λz=>(Rm L (l3 v) z).bind to3
noncomputable def otP (L:Nat)(c:P6)(a b:P3):Option P3:=(Ro L c).bind λr=>(boP L r b b).bind λw=>(boP L r a b).bind λs=>(dbP L s).bind λs2=>(Rm L (l3 a) w).bind λx=>(Rm L (l3 b) s2).bind λy=>(mnP L x y).bind to3
inductive Wd
 | free|join|meet|curve|about|pole|other|same|on|row|touch|parted
def PJ:Wd->Str
 | .free => "free"
 | .join => "join"
 | .meet => "meet"
 | .curve => "curve"
 | .about => "about"
 | .pole => "pole"
 | .other => "other"
 | .same => "same"
 | .on => "on"
 | .row => "row"
 | .touch => "touch"
 | .parted => "parted"
noncomputable def rwP (L:Nat):Wd->List Th->Option Th
 | .join,[.t a,.t b]=>(QV L a b).bind λx=>Dn (.t x)
 | .meet,[.t a,.t b]=>(QV L a b).bind λx=>Dn (.t x)
 | .curve,[.t a,.t b,.t c,.t d,.t e]=>(cuP L a b c d e).bind λx=>Dn (.c x)
 | .about,[.c a,.t b]=>(Ro L a).bind λr=>(rtP L r b).bind λx=>Dn (.t x)
 | .pole,[.c a,.t b]=>(poP L a b).bind λx=>Dn (.t x)
 | .other,[.c a,.t b,.t c]=>(otP L a b c).bind λx=>Dn (.t x)
 | _,_=>Go
noncomputable def tiP (L:Nat):List Th->Option Ps
 | [.c a,.t b,_]=>(Ro L a).bind λr=>boP L r b b
 | _=>Go
def Rr:Option Ps->Bool
 | some []=>true
 | _=>false
noncomputable def Vo (L:Nat):Wd->List Th->Bool
 | .same,[.t a,.t b]=>(match QV L a b with
  | some ([],[],[])=>true
  | _=>false)
 | .same,[.c a,.c b]=>(Ji 6).all λj=>(Ji j).all λi=>Rr (lsP L ((l6 a).getD i []) ((l6 b).getD j []) ((l6 a).getD j []) ((l6 b).getD i []))
 | .on,[.t a,.t b]=>Rr (QZ L a b)
 | .row,[.t a,.t b,.t c]=>Rr (tuP L a b c)
 | .touch,[.t a,.c b]=>Rr ((Ro L b).bind λr=>(trP L r).bind λu=>boP L u a a)
 | .parted,[.c a]=>Rr ((Ro L a).bind (szP L))
 | _,_=>false
def R7 (f:Ps->Ps):Th->Th
 | .t x=>.t (f x.1,f x.2.1,f x.2.2)
 | .c x=>.c (f x.1,f x.2.1,f x.2.2.1,f x.2.2.2.1,f x.2.2.2.2.1,f x.2.2.2.2.2)
noncomputable def loP (L:Nat)(T:Th):Nat:=(pack (gj L ((HF T).map (sP L)).flatten)).toNat
noncomputable def Lh (L:Nat)(T:Th):Int:=KZ ((HF T).map (sP L))
def Pq (m:Nat)(g:Int)(s:Ps):Ps:=s.map λt=>(t.1-m,t.2.fdiv g)
def isO:Wd->Bool
 | .other=>true
 | _=>false
noncomputable def frT {α:Type}(T:Th)(k:Th->α):α:=Th.rec (motive:=λ_=>α) (λx=>Nr x.1 λa=>Nr x.2.1 λb=>Nr x.2.2 λc=>k (.t (a,b,c))) (λx=>Nr x.1 λa=>Nr x.2.1 λb=>Nr x.2.2.1 λc=>Nr x.2.2.2.1 λd=>Nr x.2.2.2.2.1 λe=>Nr x.2.2.2.2.2 λf=>k (.c (a,b,c,d,e,f))) T
theorem acs {α:Type}(T:Th)(k:Th->α):frT T k=k T:=by
 cases T with
 | t x=>
  show(Nr x.1 λa=>Nr x.2.1 λb=>Nr x.2.2 λc=>k (.t (a,b,c)))=_;rw[jH,jH,jH]
 | c x=>
  show(Nr x.1 λa=>Nr x.2.1 λb=>Nr x.2.2.1 λc=>Nr x.2.2.2.1 λd=>Nr x.2.2.2.2.1 λe=>Nr x.2.2.2.2.2 λf=>k (.c (a,b,c,d,e,f)))=_;rw[jH,jH,jH,jH,jH,jH]
noncomputable def fcP (L:Nat)(R:Th)(m:Nat)(g:Int):Option (Th×Ps):=nF m λm=>iF g λg=>frT (R7 (Pq m g) R) λT=>(Rm L (HF T) [(m,g)]).bind λR2=>bif R2==HF R then Dn (T,[(m,g)])else Go
noncomputable def enP (L:Nat)(w:Wd)(us:List Th):Option (Th×Ps):=
 bif isO w&&!Rr (tiP L us)then Go else
 (rwP L w us).bind λR=>bif (HF R).all (·.isEmpty)then Go else fcP L R (loP L R) (Lh L R)
abbrev Rq:=Wd×List Nat
def Ke:Th:=.t ([],[],[])
noncomputable def goP (L:Nat):List Rq->List Th->Option (List (Th×Ps))
 | [],_=>Dn []
 | (w,js)::rs,ts=>bif js.all λj=>RK j ts.length then(enP L w (js.map λj=>ts.getD j Ke)).bind λe=>(goP L rs (ts++[e.1])).bind λes=>Dn (e::es)else Go
def NZ (n:Int):Ps:=if n=0 then[]else[(0,n)]
def O7:Nat->Th
 | 0=>.t (NZ 0,NZ 0,NZ 1)
 | 1=>.t (NZ 1,NZ 0,NZ 1)
 | 2=>.t (NZ 0,NZ 1,NZ 1)
 | 3=>.t (NZ 1,NZ 1,NZ 1)
 | _=>.t ([(65536,1)],[(1,1)],NZ 1)
def fr5:List Th:=[O7 0,O7 1,O7 2,O7 3,O7 4]
def isL:Wd->Bool
 | .join=>true
 | .about=>true
 | _=>false
def onP (rs:List Rq):Wd->List Nat->Bool
 | .on,[_,j]=>RJ 5 j&&isL (rs.getD (j-5) (.free,[])).1
 | _,_=>true
noncomputable def okC (rs:List Rq)(cw:Wd)(cj:List Nat):Bool:=match goP 2 rs fr5 with
 | some es=>(cj.all λj=>RK j (5+es.length))&&(onP rs cw cj&&Vo 2 cw (cj.map λj=>(fr5++es.map (·.1)).getD j Ke))
 | none=>false
def cS (w:Nat)(o p q r x:Nat):List Rq×Wd×List Nat:=match w with
 | 0=>([(.join,[o,p]),(.join,[o,q]),(.join,[o,r]),(.join,[x,q]),(.meet,[5,8]),(.join,[x,r]),(.meet,[6,10]),(.join,[x,p]),(.meet,[7,12]),(.join,[p,q]),(.join,[9,11]),(.meet,[14,15]),(.join,[q,r]),(.join,[11,13]),(.meet,[17,18]),(.join,[r,p]),(.join,[13,9]),(.meet,[20,21])],.row,[16,19,22])
 | 1=>([(.join,[o,p]),(.join,[q,r]),(.join,[x,q]),(.meet,[5,7]),(.join,[x,o]),(.meet,[6,9]),(.join,[o,r]),(.join,[q,p]),(.meet,[11,12]),(.join,[o,10]),(.join,[q,8]),(.meet,[14,15]),(.join,[p,10]),(.join,[r,8]),(.meet,[17,18])],.row,[13,16,19])
 | 2=>([(.curve,[0,1,2,3,4]),(.join,[p,q]),(.join,[r,x]),(.meet,[6,7]),(.other,[5,o,8]),(.join,[o,p]),(.join,[r,x]),(.meet,[10,11]),(.join,[p,q]),(.join,[x,9]),(.meet,[13,14]),(.join,[q,r]),(.join,[9,o]),(.meet,[16,17])],.row,[12,15,18])
 | 3=>([(.curve,[0,1,2,3,4]),(.join,[o,p]),(.join,[q,r]),(.meet,[6,7]),(.about,[5,8]),(.pole,[5,9])],.same,[10,8])
 | 4=>([(.curve,[0,1,2,3,4]),(.join,[o,p]),(.join,[q,r]),(.meet,[6,7]),(.about,[5,x]),(.meet,[9,7]),(.about,[5,10])],.on,[x,11])
 | 5=>([(.curve,[0,1,2,3,4]),(.join,[o,p]),(.join,[q,r]),(.meet,[6,7]),(.about,[5,o])],.touch,[9,5])
 | 6=>([(.curve,[0,1,2,3,4]),(.join,[o,p]),(.join,[q,r]),(.meet,[6,7]),(.curve,[o,p,8,q,x])],.parted,[9])
 | _=>([(.curve,[0,1,2,3,4]),(.join,[o,p]),(.join,[q,r]),(.meet,[6,7]),(.other,[5,o,8]),(.other,[5,q,8]),(.curve,[p,q,r,x,o])],.same,[11,5])
theorem ob {α β:Type}{x:Option α}{f:α->Option β}{b:β}(h:x.bind f=Dn b):∃a,x=Dn a/\f a=Dn b:=Option.bind_eq_some_iff.mp h
abbrev tW (T:List (List Tm)):W:=.tup (T.map Cp)
abbrev sw (L:Nat)(us:Ps):W:=Cp (sP L us)
abbrev tq (L:Nat)(l:List Ps):W:=tW (l.map (sP L))
theorem aij (hL:L<=8):HD L []:=⟨hL,by decide,.nil,λ_ h=>(nomatch h),λ_ h=>(nomatch h),λ_ h=>(nomatch h)⟩
def Vf (c0:AP):Prop:=∀{h:Gh}{us vs ps:Ps}{L:Nat}{Q:WK}{E:CQ},HD L us->HD L vs->Av L us vs=Dn ps->(HD L ps->Q (sw L ps) h)->c0 [sw L us,sw L vs] h Q E
def Vj (f:Int)(c0:AP):Prop:=∀{h:Gh}{us vs ps:Ps}{L:Nat}{Q:WK}{E:CQ},HD L us->HD L vs->Px L f us vs=Dn ps->(HD L ps->Q (sw L ps) h)->c0 [sw L us,sw L vs] h Q E
theorem HD.ms {us:Ps}(h:HD L us):Ms L (sP L us):=by
 have m:=h.mb;exact⟨by have:=m.1;lia,m.2.1,λt ht=>⟨(m.2.2 t ht).1,(m.2.2 t ht).2.1,(m.2.2 t ht).2.2.1.mono (by decide),(m.2.2 t ht).2.2.2⟩⟩
variable {c0:AP}
theorem adl.mu (hc:adl c0):Vf c0:=by
 intro h us vs ps L Q E hu hv e q;obtain⟨ho,h64,u⟩:=ald hu hv e;refine hc hu.ms hv.ms hu.l8 h64 λrs a=>?_;rw[u rs a];have m:=ho.mb;refine⟨λ_=>q ho,λo=>?_⟩;exfalso;rcases o with o|o|⟨t,ht,z,hz,h60⟩
 rw[Kf,Kf]at o;have:=Nat.mul_le_mul hu.len hv.len
 lia;have:=m.1
 lia;have:=(m.2.2 t ht).2.2.2 z hz
 lia
theorem PlX.ad (hc:PlX f c0):Vj f c0:=by
 intro h us vs ps L Q E hu hv e q;obtain⟨ho,h64,u⟩:=aiZ hu hv e;have ls:∀{ws:Ps},HD L ws->Ls L (sP L ws):=λ{ws} hw=>by
  have m:=hw.mb;exact⟨by have:=m.1;lia,m.2.1,λt ht=>⟨(m.2.2 t ht).1,(m.2.2 t ht).2.1,(m.2.2 t ht).2.2.1.mono (by decide)⟩⟩
 refine hc (ls hu) (ls hv) h64 λrs a=>?_;rw[u rs a];exact⟨λ_=>q ho,λo=>by have:=ho.mb.1;lia⟩
theorem Cq {A:List Ps}{u:Ps}(e:A[i]?=Dn u)(x:Q (sw L u) h):Bm (tq L A) (.int (i:Int)) h Q:=
 bC (ws:=(A.map (sP L)).map Cp) rfl (bN (by rw[HI,HI,e];rfl)) x
def LsS (c0:AP):Prop:=∀{h:Gh}{A B:List Ps}{i j:Nat}{a b c d ps:Ps}{L:Nat}{Q:WK}{E:CQ},A[i]?=Dn a->B[j]?=Dn b->A[j]?=Dn c->B[i]?=Dn d->HD L a->HD L b->HD L c->HD L d->lsP L a b c d=Dn ps->(HD L ps->Q (sw L ps) h)->c0 [tq L A,tq L B,.int (i:Int),.int (j:Int)] h Q E
variable {ti:AP}
theorem aar {mi:AP}(hmi:Vj (-1) mi)(hti:Vf ti):LsS (iT mi ti):=by
 intro h A B i j a b c d ps L Q E e1 e2 e3 e4 a1 a2 a3 a4 e x;obtain⟨p,ep,e⟩:=ob e;obtain⟨q,eq,e⟩:=ob e;unfold iT;refine bY rfl (U:=[Dn<|tq L A,Dn<|tq L B,Dn<|.int (i:Int),Dn<|.int (j:Int)]) rfl<|aR<|aF<|ak<|aF<|ak<|aH<|ao rfl<|ao rfl<|Cq e1 ?_
 refine ak<|aH<|ao rfl<|ao rfl<|Cq e2<|aq<|hti a1 a2 ep λb1=>?_
 refine ak<|aF<|ak<|aH<|ao rfl<|ao rfl<|Cq e3 ?_
 refine ak<|aH<|ao rfl<|ao rfl<|Cq e4<|aq<|hti a3 a4 eq λb2=>aq ?_
 exact hmi b1 b2 e λer=>eN<|x er
def K8 (L:Nat)(x:P3):Prop:=HD L x.1/\HD L x.2.1/\HD L x.2.2
def Ok6 (L:Nat)(x:P6):Prop:=HD L x.1/\HD L x.2.1/\HD L x.2.2.1/\HD L x.2.2.2.1/\HD L x.2.2.2.2.1/\HD L x.2.2.2.2.2
def CrS (c0:AP):Prop:=∀{h:Gh}{s t r:P3}{L:Nat}{Q:WK}{E:CQ},K8 L s->K8 L t->QV L s t=Dn r->(K8 L r->Q (tq L (l3 r)) h)->c0 [tq L (l3 s),tq L (l3 t)] h Q E
theorem zbq {ls:AP}(hls:LsS ls):CrS (mj ls):=by
 intro h s t r L Q E a b e q;obtain⟨x,ex,e⟩:=ob e;obtain⟨y,ey,e⟩:=ob e;obtain⟨z,ez,e⟩:=ob e;cases e;unfold mj;refine bY rfl (U:=[Dn<|tq L<|l3 s,Dn<|tq L<|l3 t]) rfl<|aR<|dD<|ak<|aF<|ak<|ao rfl<|ak<|ao rfl<|ak<|aV<|ak<|aV<|aq ?_
 refine hls (i:=1) (j:=2) rfl rfl rfl rfl a.2.1 b.2.2 a.2.2 b.2.1 ex λx1=>?_;refine ak<|aF<|ak<|ao rfl<|ak<|ao rfl<|ak<|aV<|ak<|aV<|aq ?_
 refine hls (i:=2) (j:=0) rfl rfl rfl rfl a.2.2 b.1 a.1 b.2.2 ey λx2=>?_;refine ak<|aF<|ak<|ao rfl<|ak<|ao rfl<|ak<|aV<|ak<|aV<|aq ?_
 refine hls (i:=0) (j:=1) rfl rfl rfl rfl a.1 b.2.1 a.2.1 b.1 ez λx3=>?_;exact aq<|bW rfl<|eN<|q ⟨x1,x2,x3⟩
def DtS (c0:AP):Prop:=∀{h:Gh}{s t:P3}{r:Ps}{L:Nat}{Q:WK}{E:CQ},K8 L s->K8 L t->QZ L s t=Dn r->(HD L r->Q (sw L r) h)->c0 [tq L (l3 s),tq L (l3 t)] h Q E
variable {pl:AP}
theorem ach (hpl:Vj 1 pl)(hti:Vf ti):DtS (rH pl ti):=by
 intro h s t r L Q E a b e q;obtain⟨p,e1,e⟩:=ob e;obtain⟨o,e2,e3⟩:=ob e;unfold rH;refine bY rfl (U:=[Dn<|tq L<|l3 s,Dn<|tq L<|l3 t,Go,Go,Go]) rfl<|aJ<|aU<|dD<|aq<|bW rfl ?_
 refine nV<|bx ?_
 refine aJ<|m7<|Ln<|ak<|ao rfl<|ak<|ao rfl<|aq ?_
 refine Wx (as:=[sw L s.1,sw L s.2.1,sw L s.2.2]) (bs:=[sw L t.1,sw L t.2.1,sw L t.2.2]) rfl rfl rfl<|pX ?_
 have step:∀{u mx ix v:Ps}{s3 s4:Option W}{h':Gh}{N' b0 c0:Sw->Gh->Prop}{r0:WK},HD L u->HD L mx->HD L ix->plP L u mx ix=Dn v ->
   (HD L v->N' [Dn (tq L (l3 s)),Dn (tq L (l3 t)),Dn (sw L v),Dn (sw L mx),Dn (sw L ix)] h') ->
   (lC 2 (fY (Mk 3) (fY (Mk 4) Ik))) (.tup [sw L mx,sw L ix]) [Dn (tq L (l3 s)),Dn (tq L (l3 t)),Dn (sw L u),s3,s4] h' λU1 h1=>(bQ (aL pl E (aj (aA 2) (aj (aL ti E (aj (aA 3) (aj (aA 4) aG))) aG))) (Mk 2)) {nx:=N',rt:=r0,bk:=b0,ct:=c0} U1 h1:=λ{u mx ix v s3 s4 h' N' b0 c0 r0} et em ei e k'=>by
  obtain⟨p,e1,e⟩:=ob e;refine jx rfl rfl<|cC<|nV ?_
  refine cC<|nV ?_
  refine qb ?_;refine aU<|aF<|ak<|ao rfl<|ak<|aF<|ak<|ao rfl<|ak<|ao rfl<|aq<|hti em ei e1 λb1=>aq ?_
  refine hpl et b1 e λer=>?_;refine nV<|bx ?_
  exact k' er
 refine w6<|step (s3:=Go) (s4:=Go) (u:=[]) (aij a.1.l8) a.1 b.1 e1 λa1=>?_
 refine w6<|step a1 a.2.1 b.2.1 e2 λa2=>?_
 refine w6<|step a2 a.2.2 b.2.2 e3 λa3=>?_
 refine Ml ?_;unfold rB;exact bx<|aR<|ao rfl<|eN<|q a3
abbrev Qy (L:Nat)(l:List Ps):Prop:=∀s∈l,HD L s
def StS (c0:AP):Prop:=∀{h:Gh}{l r:List Ps}{f:Ps}{L:Nat}{Q:WK}{E:CQ},Qy L l->HD L f->l.length<=6->Rm L l f=Dn r->(Qy L r->Q (tq L r) h)->c0 [tq L l,sw L f] h Q E
theorem pG {L:Nat}{f:Ps}:∀{l r:List Ps},Rm L l f=Dn r->l.length=r.length/\∀(i:Nat) (u:Ps),l[i]?=Dn u->∃v:Ps,r[i]?=Dn v/\Av L u f=Dn v
 | [],r,e=>by cases e;exact⟨rfl,λi u h=>by simp at h⟩
 | a::l,r,e=>by
  obtain⟨x,ex,e⟩:=ob e;obtain⟨y,ey,e⟩:=ob e;cases e;obtain⟨i1,i2⟩:=pG ey;refine⟨by rw[PB,PB,i1],λi u h=>?_⟩;cases i with
  | zero=>cases h;exact⟨x,rfl,ex⟩
  | succ i=>exact i2 i u h
theorem ahH (hti:Vf ti):StS (jJ ti):=by
 intro h l r f L Q E hl hf h6 e q;obtain⟨le,at'⟩:=pG e;unfold jJ;refine bY rfl (U:=[Dn<|tq L l,Dn<|sw L f]) rfl<|aR<|bG<|ak<|iu<|gZ<|ao rfl<|uH (ws:=(l.map<|sP L).map Cp) (o:=Go) rfl<|gn.mk (HN (m:=1000) (by rw[CV,CV];lia)<|by decide) ?_
 refine dU (λi acc h'=>h'=h/\acc=((r.take i).map (sP L)).map Cp/\Qy L (r.take i)) ?_ ?_ ⟨rfl,rfl,λ_ h=>(nomatch h)⟩
 ·rintro i w acc h' N' hN e' ⟨rfl,rfl,ok⟩;rw[HI,HI]at e';cases qe:l[i]? with
  | none=>rw[qe]at e';cases e'
  | some us=>
   rw[qe]at e';cases e'
   obtain⟨v,ev,em⟩:=at' i us qe;refine⟨[sw L us],rfl,dN<|dF<|aF<|ak<|ao rfl<|ak<|ao rfl<|aq ?_⟩;refine hti (hl us<|Mz qe) hf em λov=>hN _ _ ⟨rfl,?_,λs hs=>?_⟩;rw[Jt,ev,Jb,Jb];rfl;rw[Jt,ev]at hs;rcases W9.mp hs with hs|hs
   exact ok s hs;rw[Q0.mp hs];exact ov
 rintro acc h' ⟨rfl,rfl,ok⟩;rw[CV,CV,le,Lj]at *;exact aq<|gD<|eN<|q ok
def SmS (c0:AP):Prop:=∀{h:Gh}{l m r:List Ps}{L:Nat}{Q:WK}{E:CQ},Qy L l->Qy L m->l.length<=6->l.length=m.length->mnP L l m=Dn r->(Qy L r->Q (tq L r) h)->c0 [tq L l,tq L m] h Q E
theorem JL {L:Nat}:∀{l m r:List Ps},l.length=m.length->mnP L l m=Dn r->l.length=r.length/\∀(i:Nat) (u v:Ps),l[i]?=Dn u->m[i]?=Dn v->∃w:Ps,r[i]?=Dn w/\Px L (-1) u v=Dn w
 | [],[],r,_,e=>by cases e;exact⟨rfl,λi u v h=>by simp at h⟩
 | [],_::_,_,h,_=>by simp at h
 | _::_,[],_,h,_=>by simp at h
 | a::l,b::m,r,h,e=>by
  obtain⟨x,ex,e⟩:=ob e;obtain⟨y,ey,e⟩:=ob e;cases e;obtain⟨i1,i2⟩:=JL (by simpa using h) ey;refine⟨by rw[PB,PB,i1],λi u v h1 h2=>?_⟩;cases i with
  | zero=>cases h1;cases h2;exact⟨x,rfl,ex⟩
  | succ i=>exact i2 i u v h1 h2
theorem aiu {mi:AP}(hmi:Vj (-1) mi):SmS (jW mi):=by
 intro h l m r L Q E hl hm h6 lm e q;obtain⟨le,at'⟩:=JL lm e;unfold jW;refine bY rfl (U:=[Dn<|tq L l,Dn<|tq L m]) rfl<|aR<|bG<|ak<|iu<|Ln<|ak<|ao rfl<|ak<|ao rfl<|aq<|Wx (as:=(l.map<|sP L).map Cp) (bs:=(m.map<|sP L).map Cp) rfl rfl rfl ?_
 have lz:(qG ((l.map (sP L)).map Cp) ((m.map (sP L)).map Cp)).length=l.length:=by rw[vZ,CV,CV,CV,CV];lia
 refine gn.mk (HN (m:=1000) (by rw[lz];lia)<|by decide) ?_;refine dU (λi acc h'=>h'=h/\acc=((r.take i).map (sP L)).map Cp/\Qy L (r.take i)) ?_ ?_ ⟨rfl,rfl,λ_ h=>(nomatch h)⟩
 ·rintro i w acc h' N' hN e' ⟨rfl,rfl,ok⟩;obtain⟨a,b,ea,ec,rfl⟩:=qY e';rw[HI,HI]at ea ec;cases qa:l[i]? with
  | none=>rw[qa]at ea;cases ea
  | some us=>
   cases qc:m[i]? with
   | none=>rw[qc]at ec;cases ec
   | some vs=>
    rw[qa]at ea;rw[qc]at ec;cases ea;cases ec;obtain⟨w,ew,em⟩:=at' i us vs qa qc;refine⟨[sw L us,sw L vs],rfl,dN<|dF<|aF<|ak<|ao rfl<|ak<|ao rfl<|aq ?_⟩;refine hmi (hl us<|Mz qa) (hm vs<|Mz qc) em λov=>hN _ _ ⟨rfl,?_,λs hs=>?_⟩;rw[Jt,ew,Jb,Jb];rfl;rw[Jt,ew]at hs;rcases W9.mp hs with hs|hs
    exact ok s hs;rw[Q0.mp hs];exact ov
 rintro acc h' ⟨rfl,rfl,ok⟩;rw[lz,le,Lj]at *;exact aq<|gD<|eN<|q ok
def DbS (c0:AP):Prop:=∀{h:Gh}{us ps:Ps}{L:Nat}{Q:WK}{E:CQ},HD L us->dbP L us=Dn ps->(HD L ps->Q (sw L ps) h)->c0 [sw L us] h Q E
theorem agU (hpl:Vj 1 pl):DbS (rG pl):=by
 intro h us ps L Q E a e q;unfold rG;refine bY rfl (U:=[Dn<|sw L us]) rfl<|aR<|aF<|ak<|ao rfl<|ak<|ao rfl<|aq ?_
 exact hpl a a e λb=>eN<|q b
theorem tij (hti:Vf ti){A B:List Ps}{j:Nat}{u v r:Ps}(v0:U[0]?=Dn (Dn (tq L A)))(v1:U[1]?=Dn (Dn (tq L B)))(eu:A[i]?=Dn u)(ev:B[j]?=Dn v)(hu:HD L u)(hv:HD L v)(e:Av L u v=Dn r)(x:HD L r->Q (sw L r) h):
  aL ti E (aj (Af Bm (aA 0) (mC (.int (i:Int)))) (aj (Af Bm (aA 1) (mC (.int (j:Int)))) aG)) U h Q:=
 aF (ak (aH (ao v0 (aV (Cq eu (ak (aH (ao v1 (aV (Cq ev (aq (hti hu hv e x))))))))))))
theorem pij (hpl:Vj 1 pl)(hti:Vf ti){A B:List Ps}{j i' j':Nat}{u v u' v' r:Ps}(v0:U[0]?=Dn (Dn (tq L A)))(v1:U[1]?=Dn (Dn (tq L B)))(eu:A[i]?=Dn u)(ev:B[j]?=Dn v)(hu:HD L u)(hv:HD L v)(eu':A[i']?=Dn u')(ev':B[j']?=Dn v')(hu':HD L u')(hv':HD L v')(e:mxP L u v u' v'=Dn r)(x:HD L r->Q (sw L r) h):
  aL pl E (aj (aL ti E (aj (Af Bm (aA 0) (mC (.int (i:Int)))) (aj (Af Bm (aA 1) (mC (.int (j:Int)))) aG))) (aj (aL ti E (aj (Af Bm (aA 0) (mC (.int (i':Int)))) (aj (Af Bm (aA 1) (mC (.int (j':Int)))) aG))) aG)) U h Q:=by
 obtain⟨p,e1,e⟩:=ob e;obtain⟨o,e2,e⟩:=ob e;exact aF<|ak<|tij hti v0 v1 eu ev hu hv e1 λb1=>ak<|tij hti v0 v1 eu' ev' hu' hv' e2 λb2=>aq<|hpl b1 b2 e x
def ToS (c0:AP):Prop:=∀{h:Gh}{s t:P3}{r:P6}{L:Nat}{Q:WK}{E:CQ},K8 L s->K8 L t->tgP L s t=Dn r->(Ok6 L r->Q (tq L (l6 r)) h)->c0 [tq L (l3 s),tq L (l3 t)] h Q E
theorem aha (hpl:Vj 1 pl)(hti:Vf ti):ToS (iV pl ti):=by
 intro h s t r L Q E a b e q;obtain⟨x1,e1,e⟩:=ob e;obtain⟨x2,e2,e⟩:=ob e;obtain⟨x3,e3,e⟩:=ob e;obtain⟨x4,e4,e⟩:=ob e;obtain⟨x5,e5,e⟩:=ob e;obtain⟨x6,e6,e⟩:=ob e;cases e;unfold iV;refine bY rfl (U:=[Dn<|tq L<|l3 s,Dn<|tq L<|l3 t]) rfl<|aR<|dD<|ak ?_
 refine tij (i:=0) (j:=0) hti rfl rfl rfl rfl a.1 b.1 e1 λb1=>ak ?_;refine pij (i:=0) (j:=1) (i':=1) (j':=0) hpl hti rfl rfl rfl rfl a.1 b.2.1 rfl rfl a.2.1 b.1 e2 λb2=>ak ?_;refine tij (i:=1) (j:=1) hti rfl rfl rfl rfl a.2.1 b.2.1 e3 λb3=>ak ?_;refine pij (i:=0) (j:=2) (i':=2) (j':=0) hpl hti rfl rfl rfl rfl a.1 b.2.2 rfl rfl a.2.2 b.1 e4 λb4=>ak ?_;refine pij (i:=1) (j:=2) (i':=2) (j':=1) hpl hti rfl rfl rfl rfl a.2.1 b.2.2 rfl rfl a.2.2 b.2.1 e5 λb5=>ak ?_;exact tij (i:=2) (j:=2) hti rfl rfl rfl rfl a.2.2 b.2.2 e6 λb6=>aq<|bW rfl<|eN<|q ⟨b1,b2,b3,b4,b5,b6⟩
abbrev P9:=P3×P3×P3
abbrev t9 (L:Nat)(r:P9):W:=.tup [tq L (l3 r.1),tq L (l3 r.2.1),tq L (l3 r.2.2)]
def Ok9 (L:Nat)(r:P9):Prop:=K8 L r.1/\K8 L r.2.1/\K8 L r.2.2
def TaS (c0:AP):Prop:=∀{h:Gh}{c:P6}{r:P9}{L:Nat}{Q:WK}{E:CQ},Ok6 L c->Ro L c=Dn r->(Ok9 L r->Q (t9 L r) h)->c0 [tq L (l6 c)] h Q E
theorem aiJ {db:AP}(hdb:DbS db):TaS (mV db):=by
 intro h c r L Q E a e q;obtain⟨x1,e1,e⟩:=ob e;obtain⟨x2,e2,e⟩:=ob e;obtain⟨x3,e3,e⟩:=ob e;cases e;unfold mV;refine bY rfl (U:=[Dn<|tq L<|l6 c]) rfl<|aR<|dD<|ak<|dD<|ak<|aF<|ak<|aH<|ao rfl<|aV<|Cq (i:=0) rfl<|aq ?_
 refine hdb a.1 e1 λb1=>?_;refine ak<|aH<|ao rfl<|aV<|Cq (i:=1) rfl<|ak<|aH<|ao rfl<|aV<|Cq (i:=3) rfl<|aq<|bW rfl ?_
 refine ak<|dD<|ak<|aH<|ao rfl<|aV<|Cq (i:=1) rfl<|ak<|aF<|ak<|aH<|ao rfl<|aV<|Cq (i:=2) rfl<|aq ?_
 refine hdb a.2.2.1 e2 λb2=>?_;refine ak<|aH<|ao rfl<|aV<|Cq (i:=4) rfl<|aq<|bW rfl ?_
 refine ak<|dD<|ak<|aH<|ao rfl<|aV<|Cq (i:=3) rfl<|ak<|aH<|ao rfl<|aV<|Cq (i:=4) rfl ?_
 refine ak<|aF<|ak<|aH<|ao rfl<|aV<|Cq (i:=5) rfl<|aq ?_
 refine hdb a.2.2.2.2.2 e3 λb3=>aq<|bW rfl<|aq<|bW rfl<|eN ?_
 exact q ⟨⟨b1,a.2.1,a.2.2.2.1⟩,⟨a.2.1,b2,a.2.2.2.2.1⟩,a.2.2.2.1,a.2.2.2.2.1,b3⟩
theorem V7 {r:P9}{x:P3}(e:[r.1,r.2.1,r.2.2][i]?=Dn x)(q:Q (tq L (l3 x)) h):Bm (t9 L r) (.int (i:Int)) h Q:=
 bC (ws:=[r.1,r.2.1,r.2.2].map λx=>tq L (l3 x)) rfl (bN (by rw[HI,e];rfl)) q
def TuS (c0:AP):Prop:=∀{h:Gh}{a b c:P3}{r:Ps}{L:Nat}{Q:WK}{E:CQ},K8 L a->K8 L b->K8 L c->tuP L a b c=Dn r->(HD L r->Q (sw L r) h)->c0 [tq L (l3 a),tq L (l3 b),tq L (l3 c)] h Q E
variable {cr dt:AP}
theorem zck (hcr:CrS cr)(hdt:DtS dt):TuS (oF cr dt):=by
 intro h a b c r L Q E ha hb hc e q;obtain⟨x,ex,e⟩:=ob e;unfold oF;refine bY rfl (U:=[Dn<|tq L<|l3 a,Dn<|tq L<|l3 b,Dn<|tq L<|l3 c]) rfl<|aR<|aF<|ak<|aF<|ak<|ao rfl<|ak<|ao rfl<|aq ?_
 refine hcr ha hb ex λo=>ak<|ao rfl<|aq ?_
 exact hdt o hc e λo=>eN<|q o
def TrS (c0:AP):Prop:=∀{h:Gh}{r s:P9}{L:Nat}{Q:WK}{E:CQ},Ok9 L r->trP L r=Dn s->(Ok9 L s->Q (t9 L s) h)->c0 [t9 L r] h Q E
theorem aja (hcr:CrS cr):TrS (jq cr):=by
 intro h r s L Q E a e q;obtain⟨x1,e1,e⟩:=ob e;obtain⟨x2,e2,e⟩:=ob e;obtain⟨x3,e3,e⟩:=ob e;cases e;unfold jq;refine bY rfl (U:=[Dn<|t9 L r]) rfl<|aR<|dD<|ak ?_
 refine aF<|ak<|aH<|ao rfl<|aV<|V7 (i:=1) rfl<|ak<|aH<|ao rfl<|aV<|V7 (i:=2) rfl<|aq ?_
 refine hcr a.2.1 a.2.2 e1 λb1=>?_;refine ak<|aF<|ak<|aH<|ao rfl<|aV<|V7 (i:=2) rfl<|ak<|aH<|ao rfl<|aV<|V7 (i:=0) rfl<|aq ?_
 refine hcr a.2.2 a.1 e2 λb2=>?_;refine ak<|aF<|ak<|aH<|ao rfl<|aV<|V7 (i:=0) rfl<|ak<|aH<|ao rfl<|aV<|V7 (i:=1) rfl<|aq ?_
 exact hcr a.1 a.2.1 e3 λb3=>aq<|bW rfl<|eN<|q ⟨b1,b2,b3⟩
def RtS (c0:AP):Prop:=∀{h:Gh}{r:P9}{t x:P3}{L:Nat}{Q:WK}{E:CQ},Ok9 L r->K8 L t->rtP L r t=Dn x->(K8 L x->Q (tq L (l3 x)) h)->c0 [t9 L r,tq L (l3 t)] h Q E
theorem zbH (hdt:DtS dt):RtS (jY dt):=by
 intro h r t x L Q E a b e q;obtain⟨x1,e1,e⟩:=ob e;obtain⟨x2,e2,e⟩:=ob e;obtain⟨x3,e3,e⟩:=ob e;cases e;unfold jY;refine bY rfl (U:=[Dn<|t9 L r,Dn<|tq L<|l3 t]) rfl<|aR<|bG<|ak<|iu<|gZ<|ao rfl<|uH (ws:=[tq L<|l3 r.1,tq L<|l3 r.2.1,tq L<|l3 r.2.2]) (o:=Go) rfl<|abz rfl ?_
 refine Ej (vs:=[tq L<|l3 r.1]) rfl<|dN<|dF<|aF<|ak<|ao rfl<|ak<|ao rfl<|aq ?_
 refine hdt a.1 b e1 λb1=>?_;refine Ej (vs:=[tq L<|l3 r.2.1]) rfl<|dN<|dF<|aF<|ak<|ao rfl<|ak<|ao rfl<|aq ?_
 refine hdt a.2.1 b e2 λb2=>?_;refine Ej (vs:=[tq L<|l3 r.2.2]) rfl<|dN<|dF<|aF<|ak<|ao rfl<|ak<|ao rfl<|aq ?_
 exact hdt a.2.2 b e3 λb3=>Ue<|aq<|gD<|eN<|q ⟨b1,b2,b3⟩
def BoS (c0:AP):Prop:=∀{h:Gh}{r:P9}{a b:P3}{p:Ps}{L:Nat}{Q:WK}{E:CQ},Ok9 L r->K8 L a->K8 L b->boP L r a b=Dn p->(HD L p->Q (sw L p) h)->c0 [t9 L r,tq L (l3 a),tq L (l3 b)] h Q E
theorem aay {rt:AP}(hdt:DtS dt)(hrt:RtS rt):BoS (dh dt rt):=by
 intro h r a b p L Q E hr ha hb e q;obtain⟨x,ex,e⟩:=ob e;unfold dh;refine bY rfl (U:=[Dn<|t9 L r,Dn<|tq L<|l3 a,Dn<|tq L<|l3 b]) rfl<|aR<|aF<|ak<|ao rfl<|ak<|aF<|ak<|ao rfl<|ak<|ao rfl<|aq ?_
 refine hrt hr hb ex λo=>aq ?_;exact hdt ha o e λo=>eN<|q o
def SzS (c0:AP):Prop:=∀{h:Gh}{r:P9}{p:Ps}{L:Nat}{Q:WK}{E:CQ},Ok9 L r->szP L r=Dn p->(HD L p->Q (sw L p) h)->c0 [t9 L r] h Q E
theorem akn {tu:AP}(htu:TuS tu):SzS (mO tu):=by
 intro h r p L Q E a e q;unfold mO;refine bY rfl (U:=[Dn<|t9 L r]) rfl<|aR ?_
 refine aF<|ak<|aH<|ao rfl<|aV<|V7 (i:=0) rfl<|ak<|aH<|ao rfl<|aV<|V7 (i:=1) rfl ?_
 refine ak<|aH<|ao rfl<|aV<|V7 (i:=2) rfl<|aq ?_
 exact htu a.1 a.2.1 a.2.2 e λo=>eN<|q o
theorem S6 {l:List Ps}{x:P3}(h:to3 l=Dn x):l=l3 x:=by
 unfold to3 at h;split at h
 cases h;rfl
 cases h
theorem acZ {l:List Ps}{x:P6}(h:to6 l=Dn x):l=l6 x:=by
 unfold to6 at h;split at h
 cases h;rfl
 cases h
theorem dH {x:P3}:K8 L x↔Qy L (l3 x):=by
 unfold K8 Qy l3;simp only[Qh,Va,false_implies,implies_true,and_true]
theorem uR {x:P6}:Ok6 L x↔Qy L (l6 x):=by
 unfold Ok6 Qy l6;simp only[Qh,Va,false_implies,implies_true,and_true]
def Nk (L:Nat)(T:Th):Prop:=Qy L (HF T)
abbrev HX (L:Nat)(T:Th):W:=tq L (HF T)
theorem rR {A:List Th}{T:Th}(e:A[i]?=Dn T)(x:Q (HX L T) h):Bm (.lst (A.map (HX L))) (.int (i:Int)) h Q:=
 bC (ws:=A.map (HX L)) rfl (bN (by rw[HI,e];rfl)) x
def CuS (c0:AP):Prop:=∀{h:Gh}{a b c d x:P3}{r:P6}{L:Nat}{Q:WK}{E:CQ},K8 L a->K8 L b->K8 L c->K8 L d->K8 L x->cuP L a b c d x=Dn r->(Ok6 L r->Q (tq L (l6 r)) h)->c0 [.lst ([Th.t a,Th.t b,Th.t c,Th.t d,Th.t x].map (HX L))] h Q E
theorem akS {st sm to:AP}(hti:Vf ti)(hcr:CrS cr)(hdt:DtS dt)(hst:StS st)(hsm:SmS sm)(hto:ToS to):CuS (mL ti cr dt st sm to):=by
 intro h a b c d x r L Q E ea eb ec ed ex e q';obtain⟨p1,f1,e⟩:=ob e;obtain⟨p2,f2,e⟩:=ob e;obtain⟨p3,f3,e⟩:=ob e;obtain⟨p4,f4,e⟩:=ob e;obtain⟨m1,g1,e⟩:=ob e;obtain⟨m2,g2,e⟩:=ob e;obtain⟨m,g3,e⟩:=ob e;obtain⟨n1,k1,e⟩:=ob e;obtain⟨n2,k2,e⟩:=ob e;obtain⟨n,k3,e⟩:=ob e;obtain⟨u1,j1,e⟩:=ob e;obtain⟨u2,j2,e⟩:=ob e;obtain⟨v1,j3,e⟩:=ob e;obtain⟨v2,j4,e⟩:=ob e;obtain⟨z,j5,e⟩:=ob e;have ez:=acZ e;subst ez;unfold mL;refine bY rfl (U:=[Dn<|.lst<|[Th.t a,Th.t b,Th.t c,Th.t d,Th.t x].map (HX L),Go,Go,Go,Go,Go,Go]) rfl ?_;have ix:∀{U:Sw}{i:Nat}{T:Th}{h:Gh}{Q:WK},U[0]?=Dn (Dn (.lst ([Th.t a,Th.t b,Th.t c,Th.t d,Th.t x].map (HX L))))->[Th.t a,Th.t b,Th.t c,Th.t d,Th.t x][i]?=Dn T->Q (HX L T) h->Af Bm (aA 0) (mC (.int (i:Int))) U h Q:=λv0 e x=>aH (ao v0 (aV (rR e x)))
 refine aJ<|aU<|aF<|ak<|ix (i:=0) rfl rfl<|ak<|ix (i:=1) rfl rfl<|aq ?_
 refine hcr ea eb f1 λe1=>nV<|bx ?_
 refine aJ<|aU<|aF<|ak<|ix (i:=2) rfl rfl<|ak<|ix (i:=3) rfl rfl<|aq ?_
 refine hcr ec ed f2 λe2=>nV<|bx ?_
 refine aJ<|aU<|aF<|ak<|ix (i:=0) rfl rfl<|ak<|ix (i:=2) rfl rfl<|aq ?_
 refine hcr ea ec f3 λe3=>nV<|bx ?_
 refine aJ<|aU<|aF<|ak<|ix (i:=1) rfl rfl<|ak<|ix (i:=3) rfl rfl<|aq ?_
 refine hcr eb ed f4 λe4=>nV<|bx ?_
 refine aJ<|aU<|aF<|ak<|aF<|ak<|ao rfl<|ak<|ix (i:=4) rfl rfl<|aq ?_
 refine hdt e1 ex g1 λb1=>ak<|aF<|ak<|ao rfl<|ak<|ix (i:=4) rfl rfl<|aq ?_
 refine hdt e2 ex g2 λb2=>aq<|hti b1 b2 g3 λb3=>?_
 refine nV<|bx ?_
 refine aJ<|aU<|aF<|ak<|aF<|ak<|ao rfl<|ak<|ix (i:=4) rfl rfl<|aq ?_
 refine hdt e3 ex k1 λb4=>ak<|aF<|ak<|ao rfl<|ak<|ix (i:=4) rfl rfl<|aq ?_
 refine hdt e4 ex k2 λb5=>aq<|hti b4 b5 k3 λb6=>?_
 refine nV<|bx ?_
 refine aR<|aF<|ak<|aF<|ak<|aF<|ak<|ao rfl<|ak<|ao rfl<|aq ?_
 refine hto e3 e4 j1 λc1=>ak<|ao rfl<|aq<|hst (uR.mp c1) b3 (ML rfl) j2 λc2=>?_
 refine ak<|aF<|ak<|aF<|ak<|ao rfl<|ak<|ao rfl<|aq ?_
 refine hto e1 e2 j3 λc3=>ak<|ao rfl<|aq<|hst (uR.mp c3) b6 (ML rfl) j4 λc4=>aq ?_
 have l2:6=u2.length:=(pG j2).1;have l4:6=v2.length:=(pG j4).1;exact hsm c2 c4 (by lia) (by lia) j5 λc5=>eN<|q'<|uR.mpr c5
def PoS (c0:AP):Prop:=∀{h:Gh}{a:P6}{b r:P3}{L:Nat}{Q:WK}{E:CQ},Ok6 L a->K8 L b->poP L a b=Dn r->(K8 L r->Q (tq L (l3 r)) h)->c0 [tq L (l6 a),tq L (l3 b)] h Q E
variable {ta:AP}
theorem abU {st tr rt sz:AP}(hst:StS st)(hta:TaS ta)(htr:TrS tr)(hrt:RtS rt)(hsz:SzS sz):PoS (pD st ta tr rt sz):=by
 intro h a b r L Q E ea eb e q';obtain⟨t,f1,e⟩:=ob e;obtain⟨u,f2,e⟩:=ob e;obtain⟨v,f3,e⟩:=ob e;obtain⟨z,f4,e⟩:=ob e;obtain⟨y,f5,e⟩:=ob e;have ez:=S6 e;subst ez;unfold pD;refine bY rfl (U:=[Dn<|tq L<|l6 a,Dn<|tq L<|l3 b,Go]) rfl<|aJ<|aU<|aF<|ak<|ao rfl<|aq ?_
 refine hta ea f1 λo=>nV<|bx ?_
 refine aR<|aF<|ak<|aF<|ak<|aF<|ak<|ao rfl<|aq ?_
 refine htr o f2 λo2=>?_;refine ak<|ao rfl<|aq<|hrt o2 eb f3 λo3=>?_
 refine ak<|aF<|ak<|ao rfl<|aq<|hsz o f4 λoz=>aq ?_
 exact hst (dH.mp o3) oz (ML rfl) f5 λo5=>eN<|q'<|dH.mpr o5
def OtS (c0:AP):Prop:=∀{h:Gh}{a:P6}{b c r:P3}{L:Nat}{Q:WK}{E:CQ},Ok6 L a->K8 L b->K8 L c->otP L a b c=Dn r->(K8 L r->Q (tq L (l3 r)) h)->c0 [tq L (l6 a),tq L (l3 b),tq L (l3 c)] h Q E
theorem aiC {st sm db bo':AP}(hst:StS st)(hsm:SmS sm)(hdb:DbS db)(hta:TaS ta)(hbo:BoS bo'):OtS (mF st sm db ta bo'):=by
 intro h a b c r L Q E ea eb ec e q';obtain⟨t,f1,e⟩:=ob e;obtain⟨w,f2,e⟩:=ob e;obtain⟨s,f3,e⟩:=ob e;obtain⟨s2,f4,e⟩:=ob e;obtain⟨x,f5,e⟩:=ob e;obtain⟨y,f6,e⟩:=ob e;obtain⟨z,f7,e⟩:=ob e;have ez:=S6 e;subst ez;unfold mF;refine bY rfl (U:=[Dn<|tq L<|l6 a,Dn<|tq L<|l3 b,Dn<|tq L<|l3 c,Go,Go,Go]) rfl<|aJ<|aU<|aF<|ak<|ao rfl<|aq ?_
 refine hta ea f1 λo=>nV<|bx ?_
 refine aJ<|aU<|aF<|ak<|ao rfl<|ak<|ao rfl<|ak<|ao rfl<|aq ?_
 refine hbo o ec ec f2 λow=>nV<|bx ?_
 refine aJ<|aU<|aF<|ak<|aF<|ak<|ao rfl<|ak<|ao rfl<|ak<|ao rfl<|aq ?_
 refine hbo o eb ec f3 λos=>aq<|hdb os f4 λod=>?_
 refine nV<|bx ?_
 refine aR<|aF<|ak<|aF<|ak<|ao rfl<|ak<|ao rfl<|aq ?_
 refine hst (dH.mp eb) ow (ML rfl) f5 λc1=>ak<|aF<|ak<|ao rfl<|ak<|ao rfl<|aq ?_
 refine hst (dH.mp ec) od (ML rfl) f6 λc2=>aq ?_;have l1:3=x.length:=(pG f5).1;have l2:3=y.length:=(pG f6).1;exact hsm c1 c2 (by lia) (by lia) f7 λc3=>eN<|q'<|dH.mpr c3
inductive V2 (L:Nat):Wd->List Th->Th->Prop
 | join {w:Wd}{a b x:P3}:w=.join\/w=.meet->QV L a b=Dn x->V2 L w [.t a,.t b] (.t x)
 | curve {a b c d e:P3}{x:P6}:cuP L a b c d e=Dn x->V2 L .curve [.t a,.t b,.t c,.t d,.t e] (.c x)
 | about {a:P6}{b x:P3}{r:P9}:Ro L a=Dn r->rtP L r b=Dn x->V2 L .about [.c a,.t b] (.t x)
 | pole {a:P6}{b x:P3}:poP L a b=Dn x->V2 L .pole [.c a,.t b] (.t x)
 | other {a:P6}{b c x:P3}:otP L a b c=Dn x->V2 L .other [.c a,.t b,.t c] (.t x)
theorem Nj {w:Wd}{us:List Th}{R:Th}(h:rwP L w us=Dn R):V2 L w us R:=by
 unfold rwP at h;split at h
 obtain⟨x,e,h⟩:=ob h;cases h;exact .join (.inl rfl) e;obtain⟨x,e,h⟩:=ob h;cases h;exact .join (.inr rfl) e;obtain⟨x,e,h⟩:=ob h;cases h;exact .curve e;obtain⟨r,e,h⟩:=ob h;obtain⟨x,e2,h⟩:=ob h;cases h;exact .about e e2;obtain⟨x,e,h⟩:=ob h;cases h;exact .pole e;obtain⟨x,e,h⟩:=ob h;cases h;exact .other e;cases h
abbrev G3 (r:Rq):W:=.tup (.str (PJ r.1)::r.2.map λj:Nat=>W.int (j:Int))
def RaS (c0:AP):Prop:=∀{h:Gh}{rw tv:W}{rws thg:List W}{k:Nat}{w:Wd}{js:List Nat}{us:List Th}{R:Th}{L:Nat}{Q:WK}{E:CQ},view h rw=Dn rws->rws[k]?=Dn (G3 (w,js))->view h tv=Dn thg ->
 js.map (λj=>thg[j]?)=us.map (λT=>Dn (HX L T))->(∀T∈us,Nk L T)->rwP L w us=Dn R->(Nk L R->Q (HX L R) h)->c0 [rw,tv,.int (k:Int)] h Q E
theorem uN {l:List W}:Mi (w::l) 0=Dn w:=by
 unfold Mi QS;simp
theorem afS (w:W)(ws:List W):Kw (w::ws) (Dn 1) Go=ws:=by
 first|rfl|exact akV _ 1|simp
theorem afG {lo hi:Option Int}(e:Kw ws lo hi=us)(x:Q (.tup us) h):acP (.tup ws) lo hi h Q:=by
 subst e;exact x
variable {js:List Nat}
theorem Td {ia:Nat}{tv:W}{thg:List W}{us:List Th}(hv:U[ia]?=Dn (Dn tv))(etv:view h tv=Dn thg)(hl:us.length<=100)(et:js.map (λj=>thg[j]?)=us.map (λT=>Dn (HX L T)))(q:Q (.lst (us.map (HX L))) h):
  iK (lcK JR [ia] jd (Af Bm (aA 1) (aA 0)) U Q) (.tup (js.map λj:Nat=>W.int (j:Int))) h:=by
 have lj:js.length=us.length:=by have:=congrArg Wu et;simpa using this
 have eb:mU [ia] U=[Dn tv]:=by unfold mU;rw[HY,hv];rfl
 refine uH (ws:=js.map λj:Nat=>W.int (j:Int)) (o:=Go) rfl<|gn.mk (HN (m:=1000) (by rw[CV];lia)<|by decide) ?_
 refine dU (λi acc g=>g=h/\acc=(us.take i).map (HX L)) ?_ ?_ ⟨rfl,rfl⟩
 ·rintro i w acc g N hN e ⟨rfl,rfl⟩;rw[HI]at e;cases qe:js[i]? with
  | none=>rw[qe]at e;cases e
  | some j=>
   rw[qe]at e;cases e;have hi:=(O4.mp qe).1;have qw:us[i]?=Dn (us[i]'(by lia)):=JD _;have e2:=congrArg (·[i]?) et;simp only[HI,qe,qw,Option.map_some]at e2;refine⟨[.int (j:Int)],rfl,?_⟩;rw[eb];refine dN<|dF<|aH<|ao rfl<|ao rfl<|bC (ws:=thg) etv (bN<|IV e2)<|hN _ _ ⟨rfl,?_⟩
   rw[Jt,qw,Jb];rfl
 rintro acc g ⟨rfl,rfl⟩;rw[CV,lj,Lj];exact q
theorem V2.len {w:Wd}{us:List Th}{R:Th}(h:V2 L w us R):us.length<=5:=by
 cases h<;>simp
theorem aes {rt cu po ot:AP}(hcr:CrS cr)(hta:TaS ta)(hrt:RtS rt)(hcu:CuS cu)(hpo:PoS po)(hot:OtS ot):RaS (W7 cr ta rt cu po ot):=by
 intro h rw tv rws thg k w js us R L Q E er ek etv et ok e q';have I:=Nj e;have lw:=I.len;unfold W7;refine bY rfl (U:=[Dn rw,Dn tv,Dn<|.int (k:Int),Go,Go]) rfl<|aJ<|aU<|aH<|aH<|ao rfl<|ao rfl<|bC (ws:=rws) er (bN ek)<|aV<|bC (ws:=.str (PJ w)::js.map λj:Nat=>W.int (j:Int)) rfl uN ?_
 refine nV<|bx ?_
 refine aJ<|aU ?_
 refine iu<|gZ<|Yu<|aH<|ao rfl<|ao rfl<|bC (ws:=rws) er (bN ek)<|Cj<|aV<|ady<|zq ?_
 refine afG (afS _ _)<|Td (us:=us) rfl etv (by lia) et ?_
 refine nV<|bx ?_
 refine aJ<|bf<|aN<|aH<|ao rfl<|aV<|dX<|eE ?_
 cases I with
 | curve f=>
  simp only[Qh]at ok;obtain⟨o1,o2,o3,o4,o5,_⟩:=ok;refine qR (by decide)<|aR<|aF<|ak<|ao rfl<|aq ?_
  exact hcu (dH.mpr o1) (dH.mpr o2) (dH.mpr o3) (dH.mpr o4) (dH.mpr o5) f λo=>eN<|q'<|uR.mp o
 | about f1 f2=>
  simp only[Qh]at ok;obtain⟨o1,o2,_⟩:=ok;refine gH (by decide)<|aQ<|bx ?_
  unfold sU;refine aJ<|bf<|aN<|aH<|ao rfl<|aV<|dX<|eE<|qR (by decide) ?_
  refine aR<|aF<|ak<|aF<|ak<|aH<|ao rfl<|aV<|rR (i:=0) rfl<|aq ?_
  refine hta (uR.mpr o1) f1 λo=>ak<|aH<|ao rfl<|aV<|rR (i:=1) rfl<|aq ?_
  exact hrt o (dH.mpr o2) f2 λo=>eN<|q'<|dH.mp o
 | pole f=>
  simp only[Qh]at ok;obtain⟨o1,o2,_⟩:=ok;refine gH (by decide)<|aQ<|bx ?_
  unfold sU;refine aJ<|bf<|aN<|aH<|ao rfl<|aV<|dX<|eE<|gH (by decide)<|aQ<|bx ?_
  unfold wI;refine aJ<|bf<|aN<|aH<|ao rfl<|aV<|dX<|eE<|qR (by decide) ?_
  refine aR<|aF<|ak<|aH<|ao rfl<|aV<|rR (i:=0) rfl<|ak<|aH<|ao rfl<|aV<|rR (i:=1) rfl<|aq ?_
  exact hpo (uR.mpr o1) (dH.mpr o2) f λo=>eN<|q'<|dH.mp o
 | other f=>
  simp only[Qh]at ok;obtain⟨o1,o2,o3,_⟩:=ok;refine gH (by decide)<|aQ<|bx ?_
  unfold sU;refine aJ<|bf<|aN<|aH<|ao rfl<|aV<|dX<|eE<|gH (by decide)<|aQ<|bx ?_
  unfold wI;refine aJ<|bf<|aN<|aH<|ao rfl<|aV<|dX<|eE<|gH (by decide)<|aQ<|bx ?_
  unfold Cv;refine aJ<|bf<|aN<|aH<|ao rfl<|aV<|dX<|eE<|qR (by decide) ?_
  refine aR<|aF<|ak<|aH<|ao rfl<|aV<|rR (i:=0) rfl<|ak<|aH<|ao rfl<|aV<|rR (i:=1) rfl ?_
  refine ak<|aH<|ao rfl<|aV<|rR (i:=2) rfl<|aq ?_
  exact hot (uR.mpr o1) (dH.mpr o2) (dH.mpr o3) f λo=>eN<|q'<|dH.mp o
 | join hx f=>
  simp only[Qh]at ok;obtain⟨o1,o2,_⟩:=ok;have c:∀x:Str,x ≠ "join"->x ≠ "meet"->decide (PJ w=x)=false:=λx h1 h2=>by
   rw[decide_eq_false_iff_not];rcases hx with rfl|rfl
   exact λe=>h1 e.symm;exact λe=>h2 e.symm
  refine gH (c _ (by decide)<|by decide)<|aQ<|bx ?_
  unfold sU;refine aJ<|bf<|aN<|aH<|ao rfl<|aV<|dX<|eE<|gH (c _ (by decide)<|by decide)<|aQ<|bx ?_
  unfold wI;refine aJ<|bf<|aN<|aH<|ao rfl<|aV<|dX<|eE<|gH (c _ (by decide)<|by decide)<|aQ<|bx ?_
  unfold Cv;refine aJ<|bf<|aN<|aH<|ao rfl<|aV<|dX<|eE<|gH (c _ (by decide)<|by decide)<|aQ<|bx ?_
  unfold Ni;refine aR<|aF<|ak<|aH<|ao rfl<|aV<|rR (i:=0) rfl<|ak<|aH<|ao rfl<|aV<|rR (i:=1) rfl<|aq ?_
  exact hcr (dH.mpr o1) (dH.mpr o2) f λo=>eN<|q'<|dH.mp o
def TiS (c0:AP):Prop:=∀{h:Gh}{rw tv:W}{rws thg:List W}{k:Nat}{js:List Nat}{us:List Th}{R:Ps}{L:Nat}{Q:WK}{E:CQ},view h rw=Dn rws->rws[k]?=Dn (G3 (.other,js))->view h tv=Dn thg ->
 js.map (λj=>thg[j]?)=us.map (λT=>Dn (HX L T))->(∀T∈us,Nk L T)->tiP L us=Dn R->(HD L R->Q (sw L R) h)->c0 [rw,tv,.int (k:Int)] h Q E
theorem ad7 {bo:AP}(hta:TaS ta)(hbo:BoS bo):TiS (Yq ta bo):=by
 intro h rw tv rws thg k js us R L Q E er ek etv et ok e q;unfold tiP at e;split at e
 ·rename_i a b z;obtain⟨r,e1,e⟩:=ob e;simp only[Qh]at ok;obtain⟨o1,o2,_⟩:=ok;have lj:js.length=3:=by have:=congrArg Wu et;simpa using this
  match js,lj,et with
  | [j1,j2,j3],_,et=>
   simp only[HY,Vv,List.cons.injEq,and_true]at et;obtain⟨t1,t2,_⟩:=et;unfold Yq;refine bY rfl (U:=[Dn rw,Dn tv,Dn<|.int (k:Int),Go]) rfl<|aJ<|aU ?_
   refine aH<|ao rfl<|aH<|aH<|ao rfl<|ao rfl<|bC er (bN ek)<|aV<|bC (ws:=[.str "other",.int (j1:Int),.int (j2:Int),.int (j3:Int)]) (w:=.int (j2:Int)) rfl rfl<|bC etv (bN t2) ?_
   refine nV<|bx<|aR<|aF<|ak<|aF<|ak ?_
   refine aH<|ao rfl<|aH<|aH<|ao rfl<|ao rfl<|bC er (bN ek)<|aV<|bC (ws:=[.str "other",.int (j1:Int),.int (j2:Int),.int (j3:Int)]) (w:=.int (j1:Int)) rfl rfl<|bC etv (bN t1)<|aq ?_
   refine hta (uR.mpr o1) e1 λo=>ak<|ao rfl<|ak<|ao rfl<|aq ?_
   exact hbo o (dH.mpr o2) (dH.mpr o2) e λo=>eN<|q o
 cases e
theorem WX:∀{L:Nat}{k:List Int}{n:Nat},k.length=L->(∀p∈k,0<=p/\p<=40)->pack k=n->fl L n=true
 | 0,k,n,h,_,e=>by
  rw[Qs h]at e;have:n=0:=by have e:(0:Int)=n:=e;lia
  subst this;rfl
 | L+1,k,n,h,b,e=>by
  obtain⟨a,p,rfl⟩:=jg h;have la:a.length=L:=by simpa using h
  have ba:∀p∈a,0<=p/\p<=40:=λp hp=>b p (Qv _ hp)
  have bp:=b p (by simp);have a0:=(j6 (L:=L) ⟨la,λp hp=>by have:=ba p hp;lia⟩).1;rw[cI]at e;rw[fl,Ol];exact⟨Nat.ble_eq_true_of_le<|by lia,WX la ba<|by lia⟩
theorem acQ (em:pack le=m)(hl:le.length=L)(hk:k.length=L)(bk:∀p∈k,0<=p/\p<=40)(hn:fl L n=true)(e:dJ le k=dk L n):m<=n/\dk L (n-m)=k/\fl L (n-m)=true:=by
 have kb:Kb L k:=⟨hk,λp hp=>by have:=bk p hp;lia⟩
 have p1:=gG hl hk;rw[e,(qM hn).2,em]at p1;have p0:=(j6 kb).1;have ek:pack k=((n-m:Nat):Int):=by lia
 exact⟨by lia,vN kb ek,WX hk bk ek⟩
theorem Yj (f:Ps->Ps)(T:Th):HF (R7 f T)=(HF T).map f:=by cases T<;>rfl
theorem v8 (T:Th):1<=(HF T).length/\(HF T).length<=6:=by cases T<;>exact⟨ML rfl,ML rfl⟩
theorem Nk.l8 {L:Nat}{T:Th}(h:Nk L T):L<=8:=by cases T<;>exact(h _ Lp).l8
theorem acT {r:List Int}{G:Int}{us:List Tm}(h:Lit L p m us G le)(hu:Mb L m p n us):G*lin (dz le r) (us.map (fH G le))=getM us r:=by
 rw[<-Jc (cU hu.2.1)];have key:∀vs:List Tm,(∀t∈vs,t∈us)->G*lin (dz le r) (vs.map _)=lin (λk=>if k=r then 1 else 0) vs:=λvs hv=>by
  induction vs with
  | nil=>show _*(0:Int)=0;lia
  | cons t vs ih=>
   obtain⟨b1,b2⟩:=h.back hu (hv t (by simp));rw[HY,gA,gA,Int.mul_add,ih λu hu=>hv u (OD _ hu)];unfold dz;rw[b1];grind
 grind
theorem kb7 {us:List Tm}(hu:Mb L m p n us)(hp:p<=40)(ht:t∈us):Kb L t.1:=⟨(hu.2.2 t ht).1,λq hq=>by have:=(hu.2.2 t ht).2.2.2 q hq;lia⟩
theorem ajl (hp:aed c0){us:List Tm}{G:Int}(l:Lit L p m us G le)(hu:Mb L m p n us)(hL:L<=8)(p7:p<=40)(hm:m<=8000)(hn:n<=64)(ne:us≠[])(q:Q (Cp [(le,G)]) h):c0 [Cp us,Cp (us.map (fH G le))] h Q E:=by
 have hv:=l.mb hu;have e0:=(List.dropLast_concat_getLast ne).symm;generalize us.dropLast=ui at e0;generalize us.getLast ne=t at e0;have mt:t∈us:=by rw[e0];simp
 obtain⟨b1,b2⟩:=l.back hu mt;have mv:fH G le t∈us.map (fH G le):=GX.mpr ⟨t,mt,rfl⟩;have V:Vt L (us.map (fH G le)) (fH G le t):=⟨⟨ui.map (fH G le),by rw[e0];simp⟩,λu mu=>⟨kb7 hv p7 mu,(hv.2.2 u mu).2.1,(hv.2.2 u mu).2.2.1.mono hm⟩,hv.2.1,by have:=hv.1;lia⟩
 have D0:Dc L us:=⟨λj hj=>by obtain⟨u,mu,rfl⟩:=GX.mp hj;exact kb7 hu p7 mu,cU hu.2.1,λu mu=>(hu.2.2 u mu).2.1⟩
 have lz:fP t.1 (fH G le t).1=le:=by
  have e:fP (dJ le (fH G le t).1) (fH G le t).1=le:=zT (by rw[l.len,(hv.2.2 _ mv).1]);rw[b1]at e;exact e
 refine hp (ld:=fH G le t) (λf D=>f=[]/\D=us\/f=[(le,G)]/\D=[]) hL D0 (by have:=hu.1;lia) V (.inl ⟨rfl,rfl⟩) (λf D K=>?_) λf J=>by
   rcases J with⟨_,e⟩|⟨rfl,_⟩
   exact absurd e.symm ne;exact q
 rintro(⟨rfl,rfl⟩|⟨rfl,rfl⟩) dc mK up
 ·have eK:K=t.1:=by
   obtain⟨u,mu,rfl⟩:=GX.mp mK;rw[e0]at mu;rcases W9.mp mu with mu|mu
   exfalso;have s:=hu.2.1;rw[e0,Jb,List.pairwise_append]at s;have lt:=s.2.2 u.1 (GX.mpr ⟨u,mu,rfl⟩) t.1 (by simp);have:=(pJ (kb7 hu p7 (by rw[e0];exact Qv _ mu)) (kb7 hu p7 mt)).mp lt
   have:=up t.1 (GX.mpr ⟨t,mt,rfl⟩)
   lia;rw[Q0.mp mu]
  subst eK;have g:getM D t.1=t.2:=eY (cU hu.2.1) mt;have n0:=(hv.2.2 _ mv).2.1;rw[g,lz,<-b2,Int.mul_fmod_left,Int.mul_fdiv_cancel _ n0,b2];have ng:¬Ng le:=λ⟨q,mq,lt⟩=>by have:=(l.le0 q mq).1;lia
  refine⟨by have:=hu.1;lia,(hu.2.2 t mt).2.2.1.mono hm,by simp,λc=>absurd rfl<|c.resolve_right ng,λ_ _=>⟨λc=>by simp at c,λ_=>⟨l.g0,l.gs.mono hm,λu mu=>?_,.inr ⟨rfl,?_⟩⟩⟩⟩;obtain⟨v,mv',rfl⟩:=GX.mp mu;rw[(l.back hu mv').1];exact kb7 hu p7 mv'
  ·have kz:∀u∈D.map (fH G le),Kb L (dJ le u.1):=λu mu=>by
    obtain⟨v,mv',rfl⟩:=GX.mp mu;rw[(l.back hu mv').1];exact kb7 hu p7 mv'
   have dn:=yW (f:=G) dc kz;cases eD:Ly le G (D.map (fH G le)) D with
   | nil=>rfl
   | cons u r=>
    exfalso;have mu:u∈Ly le G (D.map (fH G le)) D:=by rw[eD];simp
    have:=eY dn.nd mu
    rw[JG,acT l hu]at this;exact dn.nz u mu<|by lia
 cases mK
def Ou (T:List (List Tm)):List Tm:=(T.filter λs=>decide (s≠[])).headD []
variable {T:List (List Tm)}
theorem Ei (h:∃s∈T,s≠[]):Ou T∈T/\Ou T≠[]/\(T.filter λs=>decide (s≠[]))[0]?=Dn (Ou T):=by
 obtain⟨s,hs,n⟩:=h;have hm:s∈T.filter λs=>decide (s≠[]):=Qm.mpr ⟨hs,by simpa using n⟩
 unfold Ou;generalize e:T.filter _=l at hm;cases l with
 | nil=>cases hm
 | cons a l=>
  grind
theorem akW (f:Tm->Tm):Ou (T.map λs=>s.map f)=(Ou T).map f:=by
 unfold Ou;rw[List.filter_map];have e:((λs=>decide (s≠[])) ∘λs:List Tm=>s.map f)=λs=>decide (s≠[]):=by
  funext s
  simp_all
 rw[e];cases T.filter _<;>rfl
def FsX (c0:AP):Prop:=∀{h:Gh}{T:List (List Tm)}{Q:WK}{E:CQ},T.length<=6->(∃s∈T,s≠[])->Q (Cp (Ou T)) h->c0 [tW T] h Q E
theorem Km:FsX rD:=by
 intro h T Q E hT ne q;refine bY rfl rfl<|aR<|aH<|KJ rfl (by lia) (λs R hR=>cR<|ao rfl<|qT (S8 _ _) hR) ?_
 refine aV<|bC rfl (bN (by rw[HI,(Ei ne).2.2];rfl))<|eN q
theorem abm {T:Th}(hT:Nk L T)(ne:∃s∈HF T,s≠[]):Nk L (R7 (Pq (loP L T) (Lh L T)) T)/\LT L ((HF T).map (sP L))=(HF (R7 (Pq (loP L T) (Lh L T)) T)).map (sP L)/\HD L [(loP L T,Lh L T)]/\So L 30 ((HF T).map (sP L))/\(∃s∈(HF T).map (sP L),s≠[])/\gj L ((HF T).map (sP L)).flatten=dk L (loP L T)/\∀s∈(HF T).map (sP L),Lit L 40 30 s (Lh L T) (dk L (loP L T)):=by
 have mb:∀s∈(HF T).map (sP L),Mb L 30 40 64 s:=λs hs=>by
  obtain⟨u,hu,rfl⟩:=GX.mp hs;exact(hT u hu).mb
 have sk:So L 30 ((HF T).map (sP L)):=⟨λs hs t ht=>⟨((mb s hs).2.2 t ht).1,((mb s hs).2.2 t ht).2.1,((mb s hs).2.2 t ht).2.2.1⟩,by rw[CV];exact v8 T,λs hs=>(mb s hs).1⟩
 have ne':∃s∈(HF T).map (sP L),s≠[]:=by
  obtain⟨s,hs,n⟩:=ne;refine⟨_,GX.mpr ⟨s,hs,rfl⟩,λe=>n ?_⟩;exact List.map_eq_nil_iff.mp e
 have lit:∀s∈(HF T).map (sP L),Lit L 40 30 s (Lh L T) (gj L ((HF T).map (sP L)).flatten):=λs hs=>Lit.of sk ne' mb hs
 have ne2:=ne';obtain⟨s0,hs0,n0⟩:=ne2;have l0:=lit s0 hs0;obtain⟨g0,gs,_⟩:=KQ sk ne';generalize ele:gj L ((HF T).map (sP L)).flatten=le at lit l0;have kle:Kb L le:=⟨l0.len,λq hq=>by have:=l0.le0 q hq;lia⟩
 have em:pack le=(loP L T:Nat):=by
  unfold loP;rw[ele];have:=(j6 kle).1
  lia
 have fm:fl L (loP L T)=true:=WX l0.len (λp hp=>by have:=l0.le0 p hp;lia) em;have dm:dk L (loP L T)=le:=vN kle em;rw[dm];have go:∀u∈HF T,∀t∈u,loP L T<=t.1/\(dk L (t.1-loP L T),t.2.fdiv (Lh L T))=fH (Lh L T) le (dk L t.1,t.2)/\fl L (t.1-loP L T)=true:=λu hu t ht=>by
  have mu:sP L u∈(HF T).map (sP L):=GX.mpr ⟨u,hu,rfl⟩;have l:=lit _ mu;have mt:(dk L t.1,t.2)∈sP L u:=GX.mpr ⟨t,ht,rfl⟩;have b:=(l.back (mb _ mu) mt).1;have w:=((l.mb (mb _ mu)).2.2 _ (GX.mpr ⟨_,mt,rfl⟩))
  obtain⟨h1,h2,h3⟩:=acQ em l.len w.1 w.2.2.2 ((hT u hu).f t ht) b;refine⟨h1,?_,h3⟩;rw[h2];rfl
 have es:∀u∈HF T,sP L (Pq (loP L T) (Lh L T) u)=(sP L u).map (fH (Lh L T) le):=λu hu=>by
  unfold sP Pq;rw[Ks,Ks];exact VG λt ht=>(go u hu t ht).2.1
 refine⟨λs hs=>?_,?_,⟨hT.l8,by simp,by simp,λt ht=>by rw[Q0.mp ht];exact fm,λt ht=>by rw[Q0.mp ht];exact g0,λt ht=>by rw[Q0.mp ht];exact gs⟩,sk,⟨s0,hs0,n0⟩,rfl,lit⟩;rw[Yj]at hs;obtain⟨u,hu,rfl⟩:=GX.mp hs;have mu:sP L u∈(HF T).map (sP L):=GX.mpr ⟨u,hu,rfl⟩;have m:=(lit _ mu).mb (mb _ mu);rw[<-es u hu]at m;have w:∀t∈u,(dk L (t.1-loP L T),t.2.fdiv (Lh L T))∈sP L (Pq (loP L T) (Lh L T) u):=λt ht=>by
  unfold sP Pq;rw[Ks];exact GX.mpr ⟨t,ht,rfl⟩
 refine⟨hT.l8,by unfold Pq;rw[CV];exact(hT u hu).len,?_,λt ht=>?_,λt ht=>?_,λt ht=>?_⟩;unfold Pq;rw[RT];refine YT (λ{a b} ha hb c=>?_) (hT u hu).up;have:=(go u hu a ha).1
 show a.1-_<b.1-_;lia;obtain⟨s,hs',rfl⟩:=GX.mp ht;exact(go u hu s hs').2.2;obtain⟨s,hs',rfl⟩:=GX.mp ht;exact(m.2.2 _<|w s hs').2.1;obtain⟨s,hs',rfl⟩:=GX.mp ht;exact(m.2.2 _<|w s hs').2.2.1;unfold LT;rw[Yj,Ks,Ks,ele];exact VG λu hu=>(es u hu).symm
def EnS (c0:AP):Prop:=∀{h:Gh}{T:Th}{L:Nat}{Q:WK}{E:CQ},Nk L T->(∃s∈HF T,s≠[])->(Nk L (R7 (Pq (loP L T) (Lh L T)) T)->HD L [(loP L T,Lh L T)]->Q (.tup [HX L (R7 (Pq (loP L T) (Lh L T)) T),sw L [(loP L T,Lh L T)]]) h)->c0 [HX L T] h Q E
theorem aku {pa li fs:AP}(hpa:aed pa)(hli:LiX li)(hfs:FsX fs):EnS (oM pa li fs):=by
 intro h T L Q E hT ne q;obtain⟨k1,k2,k3,sk,ne1,el,lit⟩:=abm hT ne;have mb:∀s∈(HF T).map (sP L),Mb L 30 40 64 s:=λs hs=>by
  obtain⟨u,hu,rfl⟩:=GX.mp hs;exact(hT u hu).mb
 have l6:=sk.few.2;obtain⟨f1,f2,_⟩:=Ei ne1;have ne':∃s∈LT L ((HF T).map (sP L)),s≠[]:=⟨_,GX.mpr ⟨_,f1,rfl⟩,by simpa using f2⟩
 unfold oM;refine bY rfl (U:=[Dn<|HX L T,Go]) rfl<|aJ<|aU<|aF<|ak<|ao rfl<|aq ?_
 refine hli (L:=L) (m:=30) hT.l8 (by decide) sk ne1 ?_;refine nV<|bx<|aR<|dD<|ak<|ao rfl<|ak<|aF<|ak<|aF<|ak<|ao rfl<|aq ?_
 refine hfs l6 ne1<|ak<|aF<|ak<|ao rfl<|aq ?_
 refine hfs (T:=LT L ((HF T).map (sP L))) (by unfold LT;rw[CV];exact l6) ne'<|aq ?_
 have e:Ou (LT L ((HF T).map (sP L)))=(Ou ((HF T).map (sP L))).map (fH (KZ ((HF T).map (sP L))) (gj L ((HF T).map (sP L)).flatten)):=akW _;rw[e,el];exact ajl hpa (lit _ f1) (mb _ f1) hT.l8 (by decide) (by decide) (by decide) f2<|aq<|bW rfl<|eN (by rw[k2];exact q k1 k3)
def frB:W->Bool
 | .tup (.str s::_)=>s == "free"
 | _=>false
def RowW (w:W):Prop:=∃s r,w=.tup (.str s::r)
def Ie (ws:List W):List Nat:=(Ji ws.length).filter λj=>frB (ws.getD j .non)
def fC (ws:List W):List Int:=(Ie ws).map λj=>((j:Nat):Int)
theorem agO (ws:List W):(Ie ws).Nodup:=List.Pairwise.filter _ List.nodup_range
def oh (c0:AP):Prop:=∀{h:Gh}{ws:List W}{Q:WK}{E:CQ},ws.length<=100->(∀w∈ws,RowW w)->Q (.lst ((fC ws).map .int)) h->c0 [.lst ws] h Q E
theorem ud:oh uh:=by
 intro h ws Q E hl hr q;show HJ JR [0] (iZ (aj (G8 HB _) aG)) _ (aA 0) [Dn (.lst ws)] h _;refine T5 (λ_=>rfl) (by lia) (by lia) (HN (show(ws.length:Int).toNat<=100 by lia)<|by decide) (λi acc h'=>h'=h/\acc=(((Ji i).filter λj=>frB<|ws.getD j .non).map λj=>((j:Nat):Int)).map W.int) ?_ ?_ ⟨rfl,rfl⟩
 ·rintro i acc h' N hN hlt ⟨rfl,rfl⟩;have hi:i<ws.length:=by lia
  refine⟨[.int (i:Int)],rfl,?_⟩;obtain⟨s,r,ew⟩:=hr ws[i] (RQ hi);have ed:frB (ws.getD i .non)=(s == "free"):=by
   rw[M9,JD hi];rw[ew];rfl
  show(match Mi ws _ with
   | some w=>_
   | none=>False)
  rw[(bN (JD hi)),ew];show(match Mi (W.str s::r) ((0:Nat):Int)with
   | some w=>_
   | none=>False)
  rw[(bN rfl)];show Ir _ _ (N _ h');rw[Js];cases es:(s == "free")with
  | true=>
   refine Wk rfl<|hN _ _ ⟨rfl,?_⟩
   rw[VP,Y7,Qg,ed,es];simp
  | false=>
   refine adX rfl<|hN _ _ ⟨rfl,?_⟩
   rw[VP,Y7,Qg,ed,es];simp
 rintro acc h' ⟨rfl,rfl⟩;exact q
def Ub (ps:List Int):Int:=2*(if 0>(ps.length:Int)-4 then 0 else(ps.length:Int)-4)
def sV (c0:AP):Prop:=∀{h:Gh}{ws:List W}{Q:WK}{E:CQ},ws.length<=100->(∀w∈ws,RowW w)->Q (.int (Ub (fC ws))) h->c0 [.lst ws] h Q E
theorem agP (ws:List W):(fC ws).length<=ws.length:=by
 unfold fC Ie;grind
theorem w_count {fr':AP}(hfr:oh fr'):sV (lV fr'):=by
 intro h ws Q E hl hr q;have:=agP ws
 refine hfr hl hr ?_;have lm:(((fC ws).map W.int).length:Int)=(fC ws).length:=by rw[CV]
 refine And.intro (.of (n:=20) (.lit rfl) (Hy (by split<;>lia) (by split<;>lia)) (by decide)<|by decide) ?_
 rwa[lm]
def zs (L:Int):List Int:=Iw L.toNat 0
def Am (n L:Int):W:=if n=0 then .tup []else .tup [.tup [.tup ((zs L).map .int),.int n]]
def aga (l L:Int):List Int:=(Ji L.toNat).map λ(i:Nat)=>if(i:Int)=l then 1 else 0
def aeo (l L:Int):W:=.tup [.tup [.tup ((aga l L).map .int),.int 1]]
theorem ahC (k:Nat):(Iw k [W.int 0]).flatten=(Iw k (0:Int)).map W.int:=by simp_all
def JN (c0:AP):Prop:=∀{h:Gh}{n L:Int}{Q:WK}{E:CQ},0<=L->L<=100->Q (Am n L) h->c0 [.int n,.int L] h Q E
theorem aez:JN qF:=by
 intro h n L Q E l0 l1 q;show br _ _ _;rw[ou];by_cases e:n=0
 refine gH (by simp[e]) ?_;unfold Am at q
 rwa[if_pos e]at q
 refine qR (by simp[e]) ?_;unfold Am at q;rw[if_neg e]at q;refine And.intro ⟨l0,by lia,by show 1*L.toNat<=1000;lia⟩ ?_
 rwa[ahC]
def aaN (c0:AP):Prop:=∀{h:Gh}{l L:Int}{Q:WK}{E:CQ},0<=L->L<=100->Q (aeo l L) h->c0 [.int l,.int L] h Q E
theorem adw:aaN qj:=by
 intro h l L Q E l0 l1 q;show HJ JR [0] (iZ (aj (aA 1) aG)) jd _ [Dn _,Dn (.int L)] h _;refine T5 (λ_=>rfl) (by lia) (by lia) (HN (show _<=100 by lia)<|by decide) (λi acc h'=>h'=h/\acc=((Ji i).map λ(i:Nat)=>if(i:Int)=l then(1:Int)else 0).map W.int) ?_ ?_ ⟨rfl,rfl⟩;rintro i acc h' N hN hlt ⟨rfl,rfl⟩;refine⟨[.int _],rfl,?_⟩;show br _ _ _;rw[ou];by_cases e:(i:Int)=l
 refine qR (by simp[e])<|hN _ _ ⟨rfl,?_⟩
 rw[VP];simp[e];refine gH (by simp[e])<|hN _ _ ⟨rfl,?_⟩
 rw[VP];simp[e];rintro acc h' ⟨rfl,rfl⟩;exact q
def JZ (at':Nat)(L:Int):W:=match at' with
 | 0=>.tup [Am 0 L,Am 0 L,Am 1 L]
 | 1=>.tup [Am 1 L,Am 0 L,Am 1 L]
 | 2=>.tup [Am 0 L,Am 1 L,Am 1 L]
 | 3=>.tup [Am 1 L,Am 1 L,Am 1 L]
 | n+4=>.tup [aeo (2*(n:Int)) L,aeo (2*(n:Int)+1) L,Am 1 L]
def xu (c0:AP):Prop:=∀{h:Gh}{ws:List W}{at':Nat}{k:Int}{Q:WK}{E:CQ},ws.length<=100->(∀w∈ws,RowW w)->(fC ws).length<=6->(fC ws)[at']?=Dn k->Q (JZ at' (Ub (fC ws))) h->c0 [.lst ws,.int k] h Q E
theorem zap {at':Nat}{k:Int}(h:(fC ws)[at']?=Dn k):∀m,m<at'->(fC ws)[m]?≠Dn k:=by
 intro m hm e;unfold fC at h e;rw[HI]at h e;cases h1:(Ie ws)[at']? with
 | none=>rw[h1]at h;cases h
 | some a=>
  cases h2:(Ie ws)[m]? with
  | none=>rw[h2]at e;cases e
  | some b=>
   rw[h1]at h;rw[h2]at e;have ea:((a:Nat):Int)=k:=IV h;have eb:((b:Nat):Int)=k:=IV e;have hlt1:=(O4.mp h1)
   have hlt2:=(O4.mp h2)
   have:=List.pairwise_iff_getElem.mp (agO ws) m at' hlt2.1 hlt1.1 hm
   lia
theorem akb {ps:List Int}(h:ps.length<=6):0<=Ub ps/\Ub ps<=100:=by
 unfold Ub;lia
theorem aiI {fr' nm lt ct:AP}(hfr:oh fr')(hnm:JN nm)(hlt:aaN lt)(hct:sV ct):xu (qy nm lt fr' ct):=by
 intro h ws at' k Q E hl hr h7 hat q;obtain⟨l0,l1⟩:=akb h7;have hlt7:at'<7:=by have:=(O4.mp hat).1;lia
 refine hct hl hr ?_;refine hfr hl hr ?_;refine⟨fC ws,at',rfl,hat,zap hat,?_⟩;generalize Ub (fC ws)=L at *;match at',hlt7,q with
 | 0,_,q=>
  refine qR (by decide) ?_;refine hnm l0 l1 ?_;refine hnm l0 l1 ?_;exact hnm l0 l1 q
 | 1,_,q=>
  refine qR (by decide) ?_;refine hnm l0 l1 ?_;show nm [.int 0,.int L] h _ _;refine hnm l0 l1 ?_;show nm [.int 1,.int L] h _ _;exact hnm l0 l1 q
 | 2,_,q=>
  refine qR (by decide) ?_;show nm [.int 0,.int L] h _ _;refine hnm l0 l1 ?_;show nm [.int 1,.int L] h _ _;refine hnm l0 l1 ?_;show nm [.int 1,.int L] h _ _;exact hnm l0 l1 q
 | 3,_,q=>
  refine qR (by decide) ?_;show nm [.int 1,.int L] h _ _;refine hnm l0 l1 ?_;show nm [.int 1,.int L] h _ _;refine hnm l0 l1 ?_;show nm [.int 1,.int L] h _ _;exact hnm l0 l1 q
 | n+4,hn,q=>
  refine gH (decide_eq_false<|by lia) ?_;have e:((n+4:Nat):Int)-4=n:=by lia
  refine And.intro (.of (m:=64) (n:=10) (.lit rfl) (Hy (by lia)<|by lia) (by decide)<|by decide) ?_;show lt [.int (2*(((n+4:Nat):Int)-4)),.int L] h _ _;rw[e];refine hlt l0 l1 ?_;show lt [.int (2*(n:Int)+1),.int L] h _ _;refine hlt l0 l1 ?_;show nm [.int 1,.int L] h _ _;exact hnm l0 l1 q
structure FR (f:Nat) (ws:List W):Prop where
 len:ws.length<=100
 row:∀w∈ws,RowW w
 le:f<=ws.length
 iff:∀j,j<ws.length->(frB (ws.getD j .non)=true↔j<f)
theorem FR.frN {f:Nat}(h:FR f ws):Ie ws=Ji f:=by
 have key:∀n,f<=n->(Ji n).filter (λj=>decide (j<f))=Ji f:=λn hn=>by
  induction n with
  | zero=>rw[Nat.le_zero.mp hn];rfl
  | succ n ih=>
   rw[VP,Y7];by_cases c:f=n+1
   rw[(List.filter_eq_self.mpr λj hj=>by have:=UG.mp hj;simp;lia),c,VP];simp;grind
 rw[<-key _ h.le];refine List.filter_congr λj hj=>?_;have:=h.iff j (UG.mp hj)
 grind
theorem FR.ix {f:Nat}(h:FR f ws):fC ws=(Ji f).map λj=>((j:Nat):Int):=by unfold fC;rw[h.frN]
theorem FR.let {f:Nat}(h:FR f ws)(hf:f=4\/f=5):Ub (fC ws)=((2*(f-4):Nat):Int):=by
 unfold Ub;rw[h.ix];grind
def HW (rs:List Rq):List Rq:=Iw 5 (.free,[])++rs
theorem oE (rs:List Rq):(HW rs).length=5+rs.length:=by unfold HW;rw[Pa,Wf]
variable {rs:List Rq}
theorem KD {k:Nat}(h:k<5):(HW rs)[k]?=Dn (.free,[]):=by
 unfold HW;rw[Vz (by rw[Wf];exact h),Yd,if_pos h]
theorem Ea (k:Nat):(HW rs)[5+k]?=rs[k]?:=by
 unfold HW;rw[Vd (by rw[Wf];lia),Wf];congr 1
 lia
theorem akf {w:Wd}:(PJ w == "free")=true↔w=.free:=
 ⟨λh=>by cases w<;>first|rfl|exact absurd h (by decide),λh=>by subst h;rfl⟩
theorem ajV (hl:rs.length<=30)(hw:∀r∈rs,r.1≠.free):FR 5 ((HW rs).map G3):=by
 refine⟨by rw[CV,oE];lia,λw hw=>?_,by rw[CV,oE];lia,λj hj=>?_⟩;obtain⟨r,_,rfl⟩:=GX.mp hw;exact⟨_,_,rfl⟩;rw[CV,oE]at hj;by_cases c:j<5
 have e:((HW rs).map G3).getD j .non=G3 (.free,[]):=by
  rw[M9,HI,KD c];rfl
 rw[e];exact⟨λ_=>c,λ_=>rfl⟩;obtain⟨k,rfl⟩:∃k,j=5+k:=⟨j-5,by lia⟩
 have hk:k<rs.length:=by lia
 have e:((HW rs).map G3).getD (5+k) .non=G3 rs[k]:=by
  rw[M9,HI,Ea,JD hk];rfl
 rw[e];refine⟨λz=>absurd (akf.mp z)<|hw _<|RQ hk,λz=>absurd z c⟩
theorem zbA {k:Nat}(h:k<5):JZ k 2=HX 2 (O7 k):=by
 match k,h with
 | 0,_=>rfl
 | 1,_=>rfl
 | 2,_=>rfl
 | 3,_=>rfl
 | 4,_=>rfl
theorem aew {k:Nat}(h:k<5):Nk 2 (O7 k):=by
 have key:∀u:Ps,u∈[NZ 0,NZ 1,[(65536,1)],[(1,1)]]->HD 2 u:=λu hu=>by
  refine Tg (by decide) ?_;simp only[Jz,Va,or_false]at hu;rcases hu with rfl|rfl|rfl|rfl<;>decide +kernel
 match k,h with
 | 0,_=>exact λs hs=>key s (by simp[HF,O7,l3]at hs|-;rcases hs with rfl|rfl|rfl<;>simp)
 | 1,_=>exact λs hs=>key s (by simp[HF,O7,l3]at hs|-;rcases hs with rfl|rfl|rfl<;>simp)
 | 2,_=>exact λs hs=>key s (by simp[HF,O7,l3]at hs|-;rcases hs with rfl|rfl|rfl<;>simp)
 | 3,_=>exact λs hs=>key s (by simp[HF,O7,l3]at hs|-;rcases hs with rfl|rfl|rfl<;>simp)
 | 4,_=>exact λs hs=>key s (by simp[HF,O7,l3]at hs|-;rcases hs with rfl|rfl|rfl<;>simp)
def FtS (c0:AP):Prop:=∀{h:Gh}{rs:List Rq}{k:Nat}{Q:WK}{E:CQ},FR 5 ((HW rs).map G3)->k<5->Q (HX 2 (O7 k)) h->c0 [.lst ((HW rs).map G3),.int (k:Int)] h Q E
theorem xu.ft (hc:xu c0):FtS c0:=by
 intro h rs k Q E hf hk q;refine hc (at':=k) hf.len hf.row (by rw[hf.ix,CV,List.length_range];lia) (by rw[hf.ix,HI,Xq hk];rfl) ?_;rw[hf.let (.inr rfl)];show Q (JZ k 2) h;rw[zbA hk];exact q
def LcS (c0:AP):Prop:=∀{h:Gh}{rs:List Rq}{Q:WK}{E:CQ},FR 5 ((HW rs).map G3)->Q (.int 2) h->c0 [.lst ((HW rs).map G3)] h Q E
theorem sV.lc (hc:sV c0):LcS c0:=by
 intro h rs Q E hf q;exact hc hf.len hf.row (by rw[hf.let<|.inr rfl];exact q)
theorem Xz {L:Nat}:∀{rs:List Rq}{ts:List Th}{es:List (Th×Ps)},goP L rs ts=Dn es->es.length=rs.length/\∀(i:Nat) (w:Wd) (js:List Nat),rs[i]?=Dn (w,js)->∃e:Th×Ps,es[i]?=Dn e/\(∀j∈js,j<ts.length+i)/\enP L w (js.map λj=>(ts++es.map (·.1)).getD j Ke)=Dn e
 | [],ts,es,h=>by
  cases h;exact⟨rfl,λi w js e=>by simp at e⟩
 | (w,js)::rs,ts,es,h=>by
  unfold goP at h;cases c:js.all λj=>RK j ts.length with
  | false=>rw[c]at h;cases h
  | true=>
   rw[c]at h;have h:((enP L w (js.map λj=>ts.getD j Ke)).bind λe=>(goP L rs (ts++[e.1])).bind λes=>Dn (e::es))=Dn es:=h;obtain⟨e,h1,h⟩:=ob h;obtain⟨es',h2,h⟩:=ob h;cases h;obtain⟨i1,i2⟩:=Xz h2;have lt:∀j∈js,j<ts.length:=λj hj=>ML (Qe.mp c j hj)
   refine⟨by rw[PB,PB,i1],λi v ks hi=>?_⟩;cases i with
   | zero=>
    cases hi;refine⟨e,rfl,lt,?_⟩;rw[<-h1];congr 1
    refine VG λj hj=>?_;rw[M9,M9,Vz (lt j hj)]
   | succ i=>
    obtain⟨e',a,b,d⟩:=i2 i v ks hi;refine⟨e',a,λj hj=>by have:=b j hj;rw[Pa,Yh]at this;lia,?_⟩;rw[List.append_assoc]at d;exact d
theorem vp {o:Option Ps}(h:Rr o=true):o=Dn []:=by
 unfold Rr at h;split at h
 rfl;cases h
def srW:Wd->Str
 | .join => "line"
 | .about => "line"
 | .curve => "curve"
 | _ => "spot"
inductive Rf:Wd->Prop
 | free:Rf .free
 | join:Rf .join
 | meet:Rf .meet
 | curve:Rf .curve
 | about:Rf .about
 | pole:Rf .pole
 | other:Rf .other
theorem aeL {tbl:List (Key×W)}{x:Str}{mb:ME}(e:ql tbl (.inr x)=Dn w)(m:∀R:WK,R (.str x) h->mb U h R)(k:Q w h):adi tbl mb U h Q:=m _ (by
 show(match ql tbl _ with
  | some w=>Q w h
  | none=>False)
 exact e ▸ k)
def SoS (c0:AP):Prop:=∀{h:Gh}{rw:W}{rws:List W}{j:Nat}{w:Wd}{ns:List Nat}{Q:WK}{E:CQ},view h rw=Dn rws->rws[j]?=Dn (G3 (w,ns))->Rf w->Q (.str (srW w)) h->c0 [rw,.int (j:Int)] h Q E
theorem xW:SoS tE:=by
 intro h rw rws j w ns Q E ev er hr k;unfold tE;refine bY rfl (U:=[Dn rw,Dn<|.int (j:Int)]) rfl ?_;refine(aeL (x:=PJ w) (w:=.str (srW w)) (by cases hr<;>rfl) (λR q=>?_) k:adi rM _ _ _ _);exact aH<|aH<|ao rfl<|ao rfl<|bC ev (bN er)<|aV<|bC (ws:=.str (PJ w)::ns.map λj:Nat=>W.int (j:Int)) (w:=.str (PJ w)) rfl uN q
inductive V3 (L:Nat):Wd->List Th->Prop
 | same {a b:P3}:QV L a b=Dn ([],[],[])->V3 L .same [.t a,.t b]
 | alike {a b:P6}:(∀i j,i<j->j<6->lsP L ((l6 a).getD i []) ((l6 b).getD j []) ((l6 a).getD j []) ((l6 b).getD i [])=Dn [])->V3 L .same [.c a,.c b]
 | on {a b:P3}:QZ L a b=Dn []->V3 L .on [.t a,.t b]
 | row {a b c:P3}:tuP L a b c=Dn []->V3 L .row [.t a,.t b,.t c]
 | touch {a:P3}{b:P6}{r u:P9}:Ro L b=Dn r->trP L r=Dn u->boP L u a a=Dn []->V3 L .touch [.t a,.c b]
 | parted {a:P6}{r:P9}:Ro L a=Dn r->szP L r=Dn []->V3 L .parted [.c a]
theorem abP {w:Wd}{us:List Th}(h:Vo L w us=true):V3 L w us:=by
 unfold Vo at h;split at h
 split at h
 exact .same<|by assumption
 cases h;refine .alike λi j hi hj=>?_;have:=Qe.mp h j (UG.mpr hj)
 exact vp<|Qe.mp this i<|UG.mpr hi
 exact .on<|vp h
 exact .row<|vp h
 obtain⟨r,e,h⟩:=ob (vp h);obtain⟨u,e2,h⟩:=ob h;exact .touch e e2 h;obtain⟨r,e,h⟩:=ob (vp h);exact .parted e h;cases h
theorem V3.len {w:Wd}{us:List Th}(h:V3 L w us):us.length<=3:=by cases h<;>simp
abbrev nou (n:Nat):W:=.lst (Iw n (.tup []))
def SaS (c0:AP):Prop:=∀{h:Gh}{a b:Th}{L:Nat}{Q:WK}{E:CQ},Nk L a->Nk L b->V3 L .same [a,b]->(∀n,n<=20->Q (nou n) h)->c0 [HX L a,HX L b] h Q E
theorem aeG {j:Nat}(h:(Ho 6 2)[j]?=Dn l):∃p q,l=[p,q]/\p<q/\q<6:=by
 have hj:=(O4.mp h).1;have e:Ho 6 2=[[0,1],[0,2],[0,3],[0,4],[0,5],[1,2],[1,3],[1,4],[1,5],[2,3],[2,4],[2,5],[3,4],[3,5],[4,5]]:=by decide +kernel
 have m:=Mz h;rw[e]at m;simp only[Jz,Va,or_false]at m;rcases m with rfl|rfl|rfl|rfl|rfl|rfl|rfl|rfl|rfl|rfl|rfl|rfl|rfl|rfl|rfl<;>exact⟨_,_,rfl,by decide,by decide⟩
theorem Uc (k:Q (.lst ws) h):qI [.tup ws] h Q:=k
theorem ab9 {α:Type}{l:List α}{d:α}(h:i<l.length):l[i]?=Dn (l.getD i d):=by rw[M9,JD h];rfl
theorem aao {ri ls:AP}(hri:Im ri)(hls:LsS ls)(hcr:CrS cr):SaS (mH ri ls cr):=by
 intro h a b L Q E oa ob' I q;unfold mH;refine bY rfl (U:=[Dn<|HX L a,Dn<|HX L b]) rfl<|aJ<|bf<|aN<|aH<|bG<|ak<|ao rfl<|aq<|cN (xs:=((HF a).map (sP L)).map Cp) rfl ?_
 rw[CV,CV];cases I with
 | same e=>
  refine aV<|yx<|eE<|qR rfl<|aR<|bG<|ak<|aF<|ak<|ao rfl<|ak<|ao rfl<|aq ?_
  refine hcr (dH.mpr oa) (dH.mpr ob') e λ_=>aq<|Uc<|eN ?_
  exact q 3<|by decide
 | @alike a b e=>
  refine aV<|yx<|eE<|gH rfl<|aQ<|bx ?_
  unfold nH;refine aR<|iu<|gZ<|aF<|ak<|bG<|ak<|ao rfl<|aq<|cN (xs:=((HF<|.c a).map (sP L)).map Cp) rfl ?_
  refine ak<|aV<|aq<|hri (m:=6) (k:=2) (by decide) (by decide) ?_
  refine uH (ws:=(Ho 6 2).map xr) (o:=Go) rfl<|gn.mk (HN (m:=20) (by rw[CV];decide +kernel)<|by decide) ?_
  refine dU (λi acc h'=>h'=h/\acc=Iw i (.tup [])) ?_ ?_ ⟨rfl,rfl⟩
  ·rintro i w acc h' N hN ei ⟨rfl,rfl⟩;rw[HI]at ei;cases qe:(Ho 6 2)[i]? with
   | none=>rw[qe]at ei;cases ei
   | some l=>
    rw[qe]at ei;cases ei;obtain⟨p,r,rfl,h1,h2⟩:=aeG qe;have la:(l6 a).length=6:=rfl;have lb:(l6 b).length=6:=rfl;refine⟨[xr [p,r]],rfl,dN<|dF<|aF<|ak<|ao rfl<|ak<|ao rfl ?_⟩;refine ak<|aH<|ao rfl<|aV<|bC (ws:=[.int (p:Int),.int (r:Int)]) rfl (w:=.int (p:Int)) rfl ?_
    refine ak<|aH<|ao rfl<|aV<|bC (ws:=[.int (p:Int),.int (r:Int)]) rfl (w:=.int (r:Int)) rfl<|aq ?_
    have g:∀{x:P6}{k:Nat},k<6->(l6 x)[k]?=Dn ((l6 x).getD k []):=λ{x k} hk=>ab9 (show k<(l6 x).length from hk)
    have o:∀{x:P6}{k:Nat},Nk L (.c x)->k<6->HD L ((l6 x).getD k []):=λ{x k} ox hk=>ox _ (Mz (g hk))
    refine hls (A:=HF (.c a)) (B:=HF (.c b)) (g<|by lia) (g h2) (g h2) (g<|by lia) (o oa<|by lia) (o ob' h2) (o oa h2) (o ob'<|by lia) (e p r h1 h2) λ_=>hN _ _ ⟨rfl,?_⟩;rw[List.replicate_succ'];rfl
  rintro acc h' ⟨rfl,rfl⟩;rw[CV];exact eN<|q _<|by decide +kernel
def OnS (c0:AP):Prop:=∀{h:Gh}{rw:W}{rws:List W}{cw:Wd}{j:Nat}{w:Wd}{i:Nat}{ns:List Nat}{a b:P3}{L:Nat}{Q:WK}{E:CQ},view h rw=Dn rws->rws[j]?=Dn (G3 (w,ns))->isL w=true->K8 L a->K8 L b->QZ L a b=Dn []->Q (sw L []) h->c0 [rw,G3 (cw,[i,j]),.lst ([Th.t a,Th.t b].map (HX L))] h Q E
theorem w_on {bo:AP}(hso:SoS so)(hdt:DtS dt):OnS (vW so dt ta bo):=by
 intro h rw rws cw j w i ns a b L Q E ev er hl oa ob' e q;have hw:Rf w/\srW w = "line":=by cases w<;>first|exact⟨.join,rfl⟩|exact⟨.about,rfl⟩|cases hl
 unfold vW;refine bY rfl (U:=[Dn rw,Dn<|G3 (cw,[i,j]),Dn<|.lst<|[Th.t a,Th.t b].map (HX L)]) rfl<|aJ<|bf<|aN<|aH<|aF<|ak<|ao rfl<|ak<|aH<|ao rfl<|aV<|bC (ws:=[.str<|PJ cw,.int (i:Int),.int (j:Int)]) (w:=.int (j:Int)) rfl rfl<|aq ?_
 refine hso ev er hw.1 ?_;rw[hw.2];refine aV<|dX<|eE<|qR rfl<|aR<|aF<|ak<|aH<|ao rfl<|aV<|rR (i:=0) rfl<|ak<|aH<|ao rfl<|aV<|rR (i:=1) rfl<|aq ?_
 exact hdt oa ob' e λ_=>eN q
def ClS (c0:AP):Prop:=∀{h:Gh}{rw tv:W}{rws thg:List W}{cw:Wd}{js:List Nat}{us:List Th}{L:Nat}{Q:WK}{E:CQ},view h rw=Dn rws->view h tv=Dn thg ->
 js.map (λj=>thg[j]?)=us.map (λT=>Dn (HX L T))->(∀T∈us,Nk L T)->Vo L cw us=true->(∀i j,cw=.on->js=[i,j]->∃w ns,rws[j]?=Dn (G3 (w,ns))/\isL w=true)->(∀n,n<=20->Q (nou n) h)->c0 [rw,tv,G3 (cw,js)] h Q E
theorem akt {tu tr bo sz sa on':AP}(htu:TuS tu)(hta:TaS ta)(htr:TrS tr)(hbo:BoS bo)(hsz:SzS sz)(hsa:SaS sa)(hon:OnS on'):ClS (jK tu ta tr bo sz sa on'):=by
 intro h rw tv rws thg cw js us L Q E er etv et ok e on1 q;have I:=abP e;have lw:=I.len;unfold jK;refine bY rfl (U:=[Dn rw,Dn tv,Dn<|G3 (cw,js),Go]) rfl<|aJ<|aU ?_
 refine iu<|gZ<|Yu<|ao rfl<|Cj<|aV<|ady<|zq ?_
 refine afG (afS _ _)<|Td (us:=us) rfl etv (by lia) et ?_
 refine nV<|bx ?_
 have w0:∀{U:Sw}{R:WK},U[2]?=Dn (Dn (G3 (cw,js)))->R (.str (PJ cw)) h->Af Bm (aA 2) (mC (.int 0)) U h R:=λv0 x=>aH (ao v0 (aV (bC (ws:=.str (PJ cw)::js.map λj:Nat=>W.int (j:Int)) rfl uN x)))
 refine aJ<|bf<|aN<|aH<|w0 rfl<|aV<|dX<|eE ?_
 cases I with
 | same f=>
  simp only[Qh]at ok;obtain⟨o1,o2,_⟩:=ok;refine qR rfl<|aR<|aF<|ak<|aH<|ao rfl<|aV<|rR (i:=0) rfl<|ak<|aH<|ao rfl<|aV<|rR (i:=1) rfl<|aq ?_
  exact hsa o1 o2 (.same f) λn hn=>eN<|q n hn
 | alike f=>
  simp only[Qh]at ok;obtain⟨o1,o2,_⟩:=ok;refine qR rfl<|aR<|aF<|ak<|aH<|ao rfl<|aV<|rR (i:=0) rfl<|ak<|aH<|ao rfl<|aV<|rR (i:=1) rfl<|aq ?_
  exact hsa o1 o2 (.alike f) λn hn=>eN<|q n hn
 | on f=>
  simp only[Qh]at ok;obtain⟨o1,o2,_⟩:=ok;have lj:js.length=2:=by have:=congrArg Wu et;simpa using this
  obtain⟨i,j,rfl⟩:∃i j,js=[i,j]:=by
   rcases js with _|⟨i,_|⟨j,_|_⟩⟩<;>simp at lj
   exact⟨i,j,rfl⟩
  obtain⟨w,ns,e1,e2⟩:=on1 i j rfl rfl;refine gH rfl<|aQ<|bx ?_
  unfold dB;refine aJ<|bf<|aN<|aH<|w0 rfl<|aV<|dX<|eE<|qR rfl ?_
  refine aR<|rK<|ak<|aF<|ak<|ao rfl<|ak<|ao rfl<|ak<|ao rfl<|aq ?_
  exact hon er e1 e2 (dH.mpr o1) (dH.mpr o2) f<|aq<|bW rfl<|eN<|q 1<|by decide
 | row f=>
  simp only[Qh]at ok;obtain⟨o1,o2,o3,_⟩:=ok;refine gH rfl<|aQ<|bx ?_
  unfold dB;refine aJ<|bf<|aN<|aH<|w0 rfl<|aV<|dX<|eE<|gH rfl<|aQ<|bx ?_
  unfold eZ;refine aJ<|bf<|aN<|aH<|w0 rfl<|aV<|dX<|eE<|gH rfl<|aQ<|bx ?_
  unfold iQ;refine aJ<|bf<|aN<|aH<|w0 rfl<|aV<|dX<|eE<|gH rfl<|aQ<|bx ?_
  unfold lM;refine aR<|rK<|ak<|aF<|ak<|aH<|ao rfl<|aV<|rR (i:=0) rfl<|ak<|aH<|ao rfl<|aV<|rR (i:=1) rfl ?_
  refine ak<|aH<|ao rfl<|aV<|rR (i:=2) rfl<|aq ?_
  exact htu (dH.mpr o1) (dH.mpr o2) (dH.mpr o3) f λ_=>aq<|bW rfl<|eN<|q 1<|by decide
 | touch f1 f2 f3=>
  simp only[Qh]at ok;obtain⟨o1,o2,_⟩:=ok;refine gH rfl<|aQ<|bx ?_
  unfold dB;refine aJ<|bf<|aN<|aH<|w0 rfl<|aV<|dX<|eE<|gH rfl<|aQ<|bx ?_
  unfold eZ;refine aJ<|bf<|aN<|aH<|w0 rfl<|aV<|dX<|eE<|qR rfl ?_
  refine aR<|rK<|ak<|aF<|ak<|aF<|ak<|aF<|ak<|aH<|ao rfl<|aV<|rR (i:=1) rfl<|aq ?_
  refine hta (uR.mpr o2) f1 λu1=>aq<|htr u1 f2 λu2=>?_
  refine ak<|aH<|ao rfl<|aV<|rR (i:=0) rfl<|ak<|aH<|ao rfl<|aV<|rR (i:=0) rfl<|aq ?_
  exact hbo u2 (dH.mpr o1) (dH.mpr o1) f3 λ_=>aq<|bW rfl<|eN<|q 1<|by decide
 | parted f1 f2=>
  simp only[Qh]at ok;obtain⟨o1,_⟩:=ok;refine gH rfl<|aQ<|bx ?_
  unfold dB;refine aJ<|bf<|aN<|aH<|w0 rfl<|aV<|dX<|eE<|gH rfl<|aQ<|bx ?_
  unfold eZ;refine aJ<|bf<|aN<|aH<|w0 rfl<|aV<|dX<|eE<|gH rfl<|aQ<|bx ?_
  unfold iQ;refine aJ<|bf<|aN<|aH<|w0 rfl<|aV<|dX<|eE<|qR rfl ?_
  refine aR<|rK<|ak<|aF<|ak<|aF<|ak<|aH<|ao rfl<|aV<|rR (i:=0) rfl<|aq ?_
  exact hta (uR.mpr o1) f1 λu1=>aq<|hsz u1 f2 λ_=>aq<|bW rfl<|eN<|q 1<|by decide
theorem KC (q:Q (.bl (decide (s≠[]))) h)(hp:Gy 30 (Cp s)=true):Kv (Cp s) (.tup []) h Q:=by
 show Ir _ _ False;rw[hp];have:(!Hg (Cp s) (.tup []))=decide (s≠[]):=by
  cases s with
  | nil|cons t s=>rfl
 rwa[this]
theorem Lf:∀R:List (List Tm),qN (R.map Cp)=Dn (R.map λs=>s.map Hj)
 | []=>rfl
 | s::R=>by
  show(qN _).map _=_;rw[Lf R];rfl
theorem Tw {R:List (List Tm)}(q:Q (.bl (R.any λs=>!s.isEmpty)) h):LC [tW R] h Q:=by
 show(match qN _ with
  | some ks=>Q _ h
  | none=>False)
 rw[Lf];dsimp only;rw[Xe];have e:((λk:List W=>!k.isEmpty) ∘λs:List Tm=>s.map Hj)=λs=>!s.isEmpty:=by
  funext s
  simp_all
 rwa[e]
theorem Ug {R:Th}(h:((HF R).all (·.isEmpty))=false):(((HF R).map (sP L)).any λs=>!s.isEmpty)=true/\∃s∈HF R,s≠[]:=by
 obtain⟨s,hs,e⟩:=List.all_eq_false.mp h;have n:s≠[]:=λz=>e (by rw[z];rfl)
 refine⟨VR.mpr ⟨_,GX.mpr ⟨s,hs,rfl⟩,?_⟩,s,hs,n⟩;cases s with
 | nil=>exact absurd rfl n
 | cons t s=>rfl
variable {e:Th×Ps}
theorem Yt {w:Wd}{us:List Th}(h:enP L w us=Dn e):(w=.other->tiP L us=Dn [])/\∃R,rwP L w us=Dn R/\(HF R).all (·.isEmpty)=false/\e=(R7 (Pq (loP L R) (Lh L R)) R,[(loP L R,Lh L R)])/\Rm L (HF e.1) e.2=Dn (HF R):=by
 unfold enP at h;cases c:isO w&&!Rr (tiP L us)with
 | true=>rw[c]at h;cases h
 | false=>
  rw[c]at h;obtain⟨R,e1,h⟩:=ob h;cases c2:(HF R).all (·.isEmpty)with
  | true=>rw[c2]at h;cases h
  | false=>
   rw[c2]at h;have h:fcP L R (loP L R) (Lh L R)=Dn e:=h;unfold fcP at h;rw[RD,acI,acs]at h;obtain⟨R2,e2,h⟩:=ob h;cases c3:R2==HF R with
   | false=>rw[c3]at h;cases h
   | true=>
    rw[c3]at h;cases h;refine⟨λho=>?_,R,e1,c2,rfl,?_⟩
    ·subst ho;refine vp ?_;cases z:Rr (tiP L us)with
     | true=>rfl
     | false=>rw[z]at c;cases c
    rw[e2,eq_of_beq c3]
def RrS (c0:AP):Prop:=∀{h:Gh}{rw tv:W}{rws thg:List W}{k:Nat}{w:Wd}{js:List Nat}{us:List Th}{R:Th}{L:Nat}{Q:WK}{E:CQ},view h rw=Dn rws->rws[k]?=Dn (G3 (w,js))->view h tv=Dn thg ->
 js.map (λj=>thg[j]?)=us.map (λT=>Dn (HX L T))->(∀T∈us,Nk L T)->(w=.other->tiP L us=Dn [])->rwP L w us=Dn R->(Nk L R->Q (HX L R) h)->c0 [rw,tv,.int (k:Int)] h Q E
theorem ajL {ra:AP}(hra:RaS ra)(hti:TiS ti):RrS (uD ra ti):=by
 intro h rw tv rws thg k w js us R L Q E er ek etv et ok ht e q;unfold uD;refine bY rfl (U:=[Dn rw,Dn tv,Dn<|.int (k:Int)]) rfl<|aJ<|bf<|FT<|aN ?_
 refine aH<|aH<|aH<|ao rfl<|ao rfl<|bC er (bN ek)<|aV<|bC (ws:=.str (PJ w)::js.map λj:Nat=>W.int (j:Int)) rfl uN<|aV<|dX<|eE ?_
 have go:(mX ra ti E) {nx:=λx h'=>mG false h W.non h' Q,rt:=λw h'=>mG false h w h' Q} [Dn rw,Dn tv,Dn (.int (k:Int))] h:=by
  unfold mX;refine aR<|aF<|ak<|ao rfl<|ak<|ao rfl<|ak<|ao rfl<|aq ?_
  exact hra er ek etv et ok e λo=>eN<|q o
 by_cases c:w=.other
 subst c;refine qR rfl<|aN<|aH<|aF<|ak<|ao rfl<|ak<|ao rfl<|ak<|ao rfl<|aq ?_
 refine hti er ek etv et ok (ht rfl) λ_=>dD<|aq<|bW rfl<|KC (s:=[]) (eE ?_) rfl
 exact gH rfl<|aQ<|bx go
 refine gH (decide_eq_false λz=>c ?_)<|yR<|aQ<|bx go
 cases w<;>first|rfl|exact absurd z (by decide)
abbrev N7 (es:List (Th×Ps)):List Th:=fr5++es.map (·.1)
def RG (es:List (Th×Ps))(k:Nat):W:=.tup [HX 2 ((N7 es).getD k Ke),sw 2 (if k<5 then NZ 1 else(es.getD (k-5) (Ke,[])).2)]
abbrev Q5 (es:List (Th×Ps))(n:Nat):List W:=(Ji n).map (RG es)
theorem Jk (es:List (Th×Ps))(n:Nat):Q5 es (n+1)=Q5 es n++[RG es n]:=by unfold Q5;rw[VP,Jb];rfl
theorem jP (es:List (Th×Ps))(n:Nat):(Q5 es n).length=n:=by rw[CV,List.length_range]
variable {es:List (Th×Ps)}
theorem Oz {j:Nat}(h:j<n):(Q5 es n)[j]?=Dn (RG es j):=by rw[HI,Xq h];rfl
theorem aaR {k:Nat}(h:k<5):(N7 es).getD k Ke=O7 k:=by
 rw[M9,Vz h];match k,h with
 | 0,_=>rfl
 | 1,_=>rfl
 | 2,_=>rfl
 | 3,_=>rfl
 | 4,_=>rfl
theorem aby (h:es[i]?=Dn e):(N7 es).getD (5+i) Ke=e.1:=by
 have l5:fr5.length=5:=rfl;rw[M9,Vd (by lia),l5,Nat.add_sub_cancel_left,HI,h];rfl
structure Run (rs:List Rq) (es:List (Th×Ps)):Prop where
 len:es.length=rs.length
 few:rs.length<=30
 at':∀(i:Nat) (w:Wd) (js:List Nat),rs[i]?=Dn (w,js)->∃e:Th×Ps,es[i]?=Dn e/\(∀j∈js,j<5+i)/\enP 2 w (js.map λj=>(N7 es).getD j Ke)=Dn e
theorem abT (h:goP 2 rs fr5=Dn es)(l:rs.length<=30):Run rs es:=⟨(Xz h).1,l,(Xz h).2⟩
theorem Run.nf (r:Run rs es):∀x∈rs,x.1≠.free:=λx hx e=>by
 obtain⟨i,hi⟩:=List.mem_iff_getElem?.mp hx;obtain⟨w,js⟩:=x;have e:w=.free:=e;subst e;obtain⟨_,_,_,h⟩:=r.at' i _ js hi;obtain⟨_,R,h,_⟩:=Yt h;have I:=Nj h;generalize(js.map λj=>(N7 es).getD j Ke)=us at I;cases I with
 | join h=>rcases h with h|h<;>cases h
theorem Run.FR {rs:List Rq}{es:List (Th×Ps)}(r:Run rs es):FR 5 ((HW rs).map G3):=ajV r.few r.nf
theorem aaj {k:Nat}(h:k<5):RG es k=.tup [HX 2 (O7 k),sw 2 (NZ 1)]:=by unfold RG;rw[aaR h,if_pos h]
theorem acK (h:es[i]?=Dn e):RG es (5+i)=.tup [HX 2 e.1,sw 2 e.2]:=by
 unfold RG;rw[aby h,if_neg (by lia),Nat.add_sub_cancel_left,M9,h];rfl
abbrev Rn (es:List (Th×Ps))(n:Nat):List W:=(Ji n).map λk=>HX 2 ((N7 es).getD k Ke)
theorem zV (h:∀j∈js,j<n):js.map (λj=>(Rn es n)[j]?)=(js.map λj=>(N7 es).getD j Ke).map λT=>Dn (HX 2 T):=by
 rw[Ks];refine VG λj hj=>?_;rw[HI,Xq (h j hj)];rfl
theorem yP {P:Nat}(hv:U[i]?=Dn (Dn (.loc P)))(ec:h.c P=Dn (.lst (Q5 es n)))(hn:n<=100)(q:Q (.lst (Rn es n)) h):HJ JR [] (Hs (aA i)) jd (Af Bm (aA 0) (mC (.int 0))) U h Q:=by
 refine Mh (own:=JR) hv ec (by rw[jP];lia) (λj acc=>acc=Rn es j) (λj w acc N hN ew ea=>?_) (λacc ea=>by rw[jP]at ea;rw[ea];exact q) rfl;have hj:j<n:=by have:=(O4.mp ew).1;rwa[jP]at this
 rw[Oz hj]at ew;cases ew;refine⟨[RG es j],rfl,dN<|dF<|aH<|ao rfl<|aV<|bC (ws:=[HX 2<|(N7 es).getD j Ke,sw 2<|if j<5 then NZ 1 else(es.getD (j-5) (Ke,[])).2]) (w:=HX 2 ((N7 es).getD j Ke)) rfl rfl<|hN _ ?_⟩;rw[ea];unfold Rn;rw[VP,Jb];rfl
def AnS (c0:AP):Prop:=∀{h:Gh}{rs:List Rq}{es:List (Th×Ps)}{cw:Wd}{cj:List Nat}{P:Nat}{m:W}{Q:WK}{E:CQ},rs.length<=30->h.c P=Dn (.lst (Q5 es (5+rs.length)))->(∀k,k<5+rs.length->Nk 2 ((N7 es).getD k Ke))->(∀j∈cj,j<5+rs.length)->Vo 2 cw (cj.map λj=>(N7 es).getD j Ke)=true->onP rs cw cj=true->Q (.tup [.str "paper",.loc P]) h->c0 [.lst ((HW rs).map G3),G3 (cw,cj),.loc P,m] h Q E
variable {cj:List Nat}
theorem ab2 {cw:Wd}(h:onP rs cw cj=true):∀i j,cw=.on->cj=[i,j]->∃w ns,((HW rs).map G3)[j]?=Dn (G3 (w,ns))/\isL w=true:=by
 rintro i j rfl rfl;have h:(RJ 5 j&&isL (rs.getD (j-5) (.free,[])).1)=true:=h;rw[Ol]at h;have h5:=ML h.1;by_cases c:j-5<rs.length
 rw[M9,JD c]at h;refine⟨rs[j-5].1,rs[j-5].2,?_,h.2⟩;obtain⟨k,rfl⟩:∃k,j=5+k:=⟨j-5,by lia⟩
 rw[HI,Ea];simp only[Nat.add_sub_cancel_left]at c|-
 rw[JD c];rfl;rw[M9,List.getElem?_eq_none (by lia)]at h;exact absurd h.2<|by decide
theorem ahW (q:Q (.lst []) h)(hn:n<=20)(ho:own (.tup [])=Dn [.tup []]):iK (lcK own [] (pR (aA 0)) (aA 0) U Q) (nou n) h:=by
 refine uH (ws:=Iw n (.tup [])) (o:=Go) rfl<|gn.mk (HN (m:=20) (by rw[Wf];exact hn)<|by decide) ?_
 refine dU (λi acc h'=>h'=h/\acc=[]) ?_ (λacc h' e=>by obtain⟨rfl,rfl⟩:=e;exact q) ⟨rfl,rfl⟩;rintro i w acc h' N hN e ⟨rfl,rfl⟩;have ew:w=.tup []:=List.eq_of_mem_replicate (Mz e);subst ew;exact⟨_,ho,cR<|ao rfl<|qT (b:=false) rfl<|DP<|hN _ _ ⟨rfl,rfl⟩⟩
theorem ahw {ke lc cl:AP}(hcl:ClS cl):AnS (xJ ke lc cl):=by
 intro h rs es cw cj P m Q E hl ec ok hj hc on' q;unfold xJ;refine bY rfl (U:=[Dn<|.lst<|(HW rs).map G3,Dn<|G3 (cw,cj),Dn<|.loc P,Dn m,Go]) rfl<|aJ<|aU<|iu<|gZ<|aF<|ak<|ao rfl<|ak ?_
 refine yP rfl ec (by lia)<|ak<|ao rfl<|aq ?_
 refine hcl (rws:=(HW rs).map G3) (thg:=Rn es (5+rs.length)) rfl rfl (zV hj) (λT hT=>?_) hc (ab2 on') λn hn=>?_;obtain⟨j,hj',rfl⟩:=GX.mp hT;exact ok j<|hj j hj'
 refine ahW ?_ hn rfl;refine nV<|bx<|aJ<|bf<|gW<|cR<|ao rfl<|qT (b:=false) rfl<|Tq ?_
 exact aR<|dD<|ak<|aV<|ak<|ao rfl<|aq<|bW rfl<|eN q
def DeS (c0:AP):Prop:=∀{h:Gh}{rs:List Rq}{es:List (Th×Ps)}{cw:Wd}{cj:List Nat}{Q:WK}{E:CQ},Run rs es->(∀j∈cj,j<5+rs.length)->Vo 2 cw (cj.map λj=>(N7 es).getD j Ke)=true->onP rs cw cj=true ->
 (∀(P:Nat) (g:Gh),h.nx<=P->P<g.nx->g.c P=Dn (.lst (Q5 es (5+rs.length)))->(∀n,n<h.nx->g.c n=h.c n)->(∀k,k<5+rs.length->Nk 2 ((N7 es).getD k Ke))->Q (.tup [.str "paper",.loc P]) g)->c0 [.lst ((HW rs).map G3),G3 (cw,cj)] h Q E
theorem ajg {nm lc ft fs en rr an:AP}(hnm:JN nm)(hlc:LcS lc)(hft:FtS ft)(hfs:FsX fs)(hen:EnS en)(hrr:RrS rr)(han:AnS an):DeS (uz nm lc ft fs en rr an):=by
 intro h rs es cw cj Q E r hj hc on' q;have hF:=r.FR;have lr:=r.few;unfold uz;refine bY rfl (U:=[Dn<|.lst<|(HW rs).map G3,Dn<|G3 (cw,cj),Go,Go,Go,Go]) rfl ?_;refine aJ<|aU<|je (ws:=[]) (λR=>rfl) rfl λg1 a1 b1 c1=>nV<|bx ?_
 refine aJ<|aU<|je (ws:=[]) (λR=>rfl) rfl λg2 a2 b2 c2=>nV<|bx ?_
 obtain⟨P,eP⟩:∃P,P=h.nx:=⟨_,rfl⟩
 obtain⟨M,eM⟩:∃M,M=g1.nx:=⟨_,rfl⟩
 rw[<-eP,<-eM];refine aJ<|m7<|vU<|ak<|bG<|ak<|ao rfl<|aq<|cN (xs:=(HW rs).map G3) rfl ?_
 rw[CV,oE];refine aq<|Xi (m:=5+rs.length) (by lia)<|pX ?_
 refine fZ (λi U h'=>∃(s4 s5:Option W) (ms:List W),U=[Dn<|.lst<|(HW rs).map G3,Dn<|G3 (cw,cj),Dn<|.loc P,Dn<|.loc M,s4,s5]/\h'.c P=Dn (.lst<|Q5 es i)/\h'.c M=Dn (.lst ms)/\ms.length<=i/\(∀k,k<i->Nk 2 ((N7 es).getD k Ke))/\M<h'.nx/\∀n,n<h.nx->h'.c n=h.c n) ?_ ?_ ?_
 ·rintro i w U h' N hN e ⟨s4,s5,ms,rfl,cP,cM,lm,ok,nx',ko⟩;rw[HI]at e;cases qe:(rng 0 (5+rs.length))[i]? with
  | none=>rw[qe]at e;cases e
  | some p=>
   rw[qe]at e;cases e;obtain⟨ei,hi⟩:=BK qe;rw[Xc]at ei;subst ei;refine nV<|bf<|aN ?_
   have PM:P≠M:=by lia
   by_cases c5:p<5
   have er:((HW rs).map G3)[p]?=Dn (G3 (.free,[])):=by rw[HI,KD c5];rfl
   refine aH<|aH<|aH<|ao rfl<|ao rfl<|bC (ws:=(HW rs).map G3) rfl (bN er)<|aV<|bC (ws:=[.str "free"]) (w:=.str "free") rfl uN<|aV<|dX<|eE ?_
   refine qR rfl<|d9<|lH<|ao rfl<|gK cP<|ak<|dD<|ak<|aF<|ak<|ao rfl<|ak<|ao rfl<|aq ?_
   refine hft hF c5<|ak<|aF<|ak<|aV<|ak<|aF<|ak<|ao rfl<|aq ?_
   refine hlc hF<|aq<|hnm (by decide) (by decide)<|aq<|bW rfl<|aq ?_
   refine Bj cP (by rw[jP];lia) λg3 a3 b3 c3=>bx<|hN _ _ ⟨_,_,ms,rfl,?_,by rw[b3 M PM.symm];exact cM,by lia,λk hk=>?_,by lia,λn hn=>by rw[b3 n<|by lia];exact ko n hn⟩
   rw[Jk,aaj c5];exact a3;by_cases ck:k<p
   exact ok k ck;have:k=p:=by lia
   subst this;rw[aaR c5];exact aew c5;obtain⟨j,rfl⟩:∃j,p=5+j:=⟨p-5,by lia⟩
   have hj':j<rs.length:=by lia
   obtain⟨⟨x,js⟩,hx⟩:∃y,rs[j]?=Dn y:=⟨_,JD hj'⟩
   obtain⟨en',ee,lt,ep⟩:=r.at' j x js hx;obtain⟨ho,R,eR,ne,ee2,etm⟩:=Yt ep;have er:((HW rs).map G3)[5+j]?=Dn (G3 (x,js)):=by rw[HI,Ea,hx];rfl
   have xf:x≠.free:=r.nf _ (Mz hx);refine aH<|aH<|aH<|ao rfl<|ao rfl<|bC (ws:=(HW rs).map G3) rfl (bN er)<|aV<|bC (ws:=.str (PJ x)::js.map λj:Nat=>W.int (j:Int)) rfl uN<|aV<|dX<|eE ?_
   refine gH (decide_eq_false λz=>xf ?_)<|aJ<|aU<|aF<|ak<|ao rfl<|ak ?_
   cases x<;>first|rfl|exact absurd z (by decide)
   refine yP rfl cP (by lia)<|ak<|ao rfl<|aq ?_
   refine hrr (rws:=(HW rs).map G3) (thg:=Rn es (5+j)) rfl er rfl (zV lt) (λT hT=>?_) ho eR λoR=>?_;obtain⟨k,hk,rfl⟩:=GX.mp hT;exact ok k<|lt k hk
   obtain⟨an1,an2⟩:=Ug (L:=2) ne;refine nV<|bx<|aJ<|bf<|gW<|cR<|bG<|ak<|ao rfl<|aq<|Tw<|qT rfl ?_
   rw[an1];refine jG<|aQ<|bx<|aJ<|d9<|lH<|ao rfl<|gK cP<|ak<|aF<|ak<|ao rfl<|aq ?_
   refine hen oR an2 λo1 o2=>aq ?_;refine Bj cP (by rw[jP];lia) λg3 a3 b3 c3=>bx ?_;refine d9<|lH<|ao rfl<|gK (by rw[b3 M PM.symm];exact cM)<|ak<|aF<|ak<|ao rfl<|aq ?_
   have ne2:∃s∈(HF R).map (sP 2),s≠[]:=by
    obtain⟨s,hs,n⟩:=an2;exact⟨_,GX.mpr ⟨s,hs,rfl⟩,λz=>n<|List.map_eq_nil_iff.mp z⟩
   refine hfs (by rw[CV];exact(v8 R).2) ne2<|aq<|Bj (by rw[b3 M PM.symm];exact cM) (by lia) λg4 a4 b4 c4=>bx<|hN _ _ ⟨_,_,_,rfl,?_,a4,?_,λk hk=>?_,by lia,λn hn=>by rw[b4 n<|by lia,b3 n<|by lia];exact ko n hn⟩
   rw[b4 P PM,Jk,acK ee,ee2];exact a3;rw[Pa];exact Nat.add_le_add_right lm 1;by_cases ck:k<5+j
   exact ok k ck;have:k=5+j:=by lia
   subst this;rw[aby ee,ee2];exact o1
 rintro U h' ⟨s4,s5,ms,rfl,cP,cM,lm,ok,nx',ko⟩;rw[CV]at cP ok;have lg:(rng 0 (5+rs.length)).length=5+rs.length:=by unfold rng;rw[List.length_range'];lia
 rw[lg]at cP ok;unfold uF;refine bx<|aR<|aF<|ak<|ao rfl<|ak<|ao rfl<|ak<|ao rfl<|ak<|ao rfl<|aq ?_
 exact han lr cP ok hj hc on'<|eN<|q P h' (by lia) (by lia) cP (λn hn=>ko n hn) ok
 exact⟨Go,Go,[],rfl,by rw[b2 P<|by lia,eP];exact a1,by rw[eM];exact a2,GZ _,λk hk=>absurd hk<|Nat.not_lt_zero _,by lia,λn hn=>by rw[b2 n<|by lia,b1 n<|by lia]⟩
theorem ahK {D:bR}(hv:U[i]?=Dn (Dn w))(e:N5 h w ws)(I:Nat->Sw->Gh->Prop)
  (go:∀i U h',I i U h'->N5 h' w ws)
  (step:∀(i:Nat) (x:W) (U:Sw) (h:Gh) (N:Sw->Gh->Prop),(∀U' h',I (i+1) U' h'->N U' h')->ws[i]?=Dn x->I i U h->g (.tup [.int (i:Int),x]) U h λU1 h1=>b {D with nx:=N,ct:=N,bk:=D.nx} U1 h1)
  (fin:∀U h,I ws.length U h->D.nx U h) (h0:I 0 U h):qP (Yk (aj (aA i) aG)) g b D U h:=by
 have len:∀(l:List W) (j:Nat),(QT j l).length=l.length:=λl=>by
  induction l with
  | nil=>exact λ_=>rfl
  | cons a l ih=>exact λj=>congrArg (· + 1) (ih (j+1))
 refine m7<|ak<|ao hv<|aq ?_
 show(match enS h w with
  | some s=>adp g b D U s h
  | none=>False)
 have gen:∀s:Src,enS h w=Dn s->s.ws=QT 0 ws->(∀h',N5 h' w ws->∀P:Prop,P->s.go h' P)->(match enS h w with
   | some s=>adp g b D U s h
   | none=>False):=by
  intro s es ew hg;rw[es];show g8 s g b D s.ws U h;rw[ew];refine xP I (λi U h' hi=>hg h'<|go i U h' hi) (λi w U h N hN e hi=>?_) (λU h q=>fin U h<|by rwa[len]at q) h0;obtain⟨a,ea,rfl⟩:=Bw e;rw[Xc];exact step i a U h N hN ea hi
 rcases e with rfl|⟨n,rfl,e⟩
 exact gen ⟨QT 0 ws,Go⟩ rfl rfl λ_ _ _ p=>p;refine gen ⟨QT 0 ws,Dn (n,ws)⟩ (by simp only[enS,e]) rfl λh' e' P p=>⟨?_,p⟩;rcases e' with e'|⟨n',e',q⟩
 cases e'
 cases e';exact q
theorem N5.view {h:Gh}{w:W}{ws:List W}(e:N5 h w ws):view h w=Dn ws:=by
 rcases e with rfl|⟨n,rfl,e⟩
 rfl;exact fj e
theorem ZR (n:Nat)(R:List (List Tm)):Gy (n+5) (tW R)=true:=by
 show(R.map Cp).all (Gy (n+4))=true;rw[Qe];intro w hw;obtain⟨s,_,rfl⟩:=GX.mp hw;exact Zx n s
theorem Uv:∀R:List (List Tm),lX (R.map Cp) (R.map Cp)=true
 | []=>rfl
 | s::R=>by rw[HY,lX,abM,Uv R];rfl
theorem acd (R:List (List Tm)):Hg (tW R) (tW R)=true:=by
 rw[tW,Hg,Uv]
theorem acY {R:List (List Tm)}(k:Q (.bl true) h):Ib (tW R) (tW R) h Q:=by
 show Ir (Gy 30 (tW R)&&Gy 30 (tW R)) (Q (.bl (Hg (tW R) (tW R))) h) False;rw[ZR 25,acd];exact k
theorem ZV {R:List (List Tm)}(k:Q (.bl true) h):Ib (.tup [tW R,Cp s]) (.tup [tW R,Cp s]) h Q:=by
 have p:Gy 30 (.tup [tW R,Cp s])=true:=by
  show(Gy 29 (tW R)&&(Gy 29 (Cp s)&&true))=true;rw[ZR 24,Zx 25];rfl
 have e:Hg (.tup [tW R,Cp s]) (.tup [tW R,Cp s])=true:=by
  rw[Hg,lX,lX,acd,abM];rfl
 show Ir (Gy 30 (.tup [tW R,Cp s])&&Gy 30 (.tup [tW R,Cp s])) (Q (.bl (Hg (.tup [tW R,Cp s]) (.tup [tW R,Cp s]))) h) False;rw[p,e];exact k
def DuS (c0:AP):Prop:=∀{h:Gh}{rw:W}{rws:List W}{j:Nat}{w:Wd}{ns:List Nat}{Q:WK}{E:CQ},view h rw=Dn rws->rws[j]?=Dn (G3 (w,ns))->Rf w->Q (.int (if srW w = "curve" then 6 else 3)) h->c0 [rw,.int (j:Int)] h Q E
theorem aeK (hso:SoS so):DuS (pH so):=by
 intro h rw rws j w ns Q E ev er hw q;unfold pH;refine bY rfl (U:=[Dn rw,Dn<|.int (j:Int)]) rfl<|aR<|RP<|aN<|aH<|aF<|ak<|ao rfl<|ak<|ao rfl<|aq ?_
 refine hso ev er hw<|aV<|dX<|eE ?_
 refine Bp (λc=>aV<|eN ?_) λc=>aV<|eN ?_
 rw[if_pos c]at q;exact q;rw[if_neg c]at q;exact q
theorem V2.sort {w:Wd}{us:List Th}{R:Th}(I:V2 L w us R):Rf w/\((HF R).length:Int)=if srW w = "curve" then 6 else 3:=by
 cases I with
 | join h=>
  rcases h with rfl|rfl
  exact⟨.join,rfl⟩;exact⟨.meet,rfl⟩
 | curve=>exact⟨.curve,rfl⟩
 | about=>exact⟨.about,rfl⟩
 | pole=>exact⟨.pole,rfl⟩
 | other=>exact⟨.other,rfl⟩
def ReS (c0:AP):Prop:=∀{h:Gh}{rs:List Rq}{es:List (Th×Ps)}{k:Nat}{tv:W}{Q:WK}{E:CQ},Run rs es->k<5+rs.length->view h tv=Dn (Rn es k)->(∀j,j<k->Nk 2 ((N7 es).getD j Ke))->Q (.bl true) h->c0 [.lst ((HW rs).map G3),tv,.int (k:Int),RG es k] h Q E
theorem aiB {nm lc ft st ra du:AP}(hnm:JN nm)(hlc:LcS lc)(hft:FtS ft)(hst:StS st)(hra:RaS ra)(hti:TiS ti)(hdu:DuS du):ReS (fX nm lc ft st ra ti du):=by
 intro h rs es k tv Q E r hk etv ok q;have hF:=r.FR;unfold fX;by_cases c5:k<5
 ·rw[aaj c5];refine bY rfl (U:=[Dn<|.lst<|(HW rs).map G3,Dn tv,Dn<|.int (k:Int),Dn<|.tup [HX 2<|O7 k,sw 2<|NZ 1],Go]) rfl<|aJ<|bf<|aN<|aH<|bG<|ak<|aH<|ao rfl<|aV<|bC (ws:=[HX 2<|O7 k,sw 2<|NZ 1]) (w:=HX 2 (O7 k)) rfl rfl ?_
  have er:((HW rs).map G3)[k]?=Dn (G3 (.free,[])):=by rw[HI,KD c5];rfl
  have l3':(((HF (O7 k)).map (sP 2)).map Cp).length=3:=by
   match k,c5 with
   | 0,_=>rfl
   | 1,_=>rfl
   | 2,_=>rfl
   | 3,_=>rfl
   | 4,_=>rfl
  refine aq<|cN (xs:=((HF<|O7 k).map (sP 2)).map Cp) rfl ?_
  rw[l3'];refine aF<|ak<|ao rfl<|ak<|ao rfl<|aq<|hdu (rws:=(HW rs).map G3) rfl er .free ?_
  refine sJ<|eE<|gH rfl<|aQ<|bx ?_
  unfold d8;refine aJ<|bf<|aN<|aH<|aH<|aH<|ao rfl<|ao rfl<|bC (ws:=(HW rs).map G3) rfl (bN er)<|aV<|bC (ws:=[.str "free"]) (w:=.str "free") rfl uN<|aV<|dX<|eE<|qR rfl ?_
  refine aR<|aH<|ao rfl<|dD<|ak<|aF<|ak<|ao rfl<|ak<|ao rfl<|aq ?_
  refine hft hF c5<|ak<|aF<|ak<|aV<|ak<|aF<|ak<|ao rfl<|aq ?_
  exact hlc hF<|aq<|hnm (by decide) (by decide)<|aq<|bW rfl<|ZV<|eN q
 obtain⟨j,rfl⟩:∃j,k=5+j:=⟨k-5,by lia⟩
 have hj':j<rs.length:=by lia
 obtain⟨⟨x,js⟩,hx⟩:∃y,rs[j]?=Dn y:=⟨_,JD hj'⟩
 obtain⟨e,ee,lt,ep⟩:=r.at' j x js hx;obtain⟨ho,R,eR,ne,ee2,etm⟩:=Yt ep;have er:((HW rs).map G3)[5+j]?=Dn (G3 (x,js)):=by rw[HI,Ea,hx];rfl
 have xf:x≠.free:=r.nf _ (Mz hx);have I:=Nj eR;obtain⟨s1,s2⟩:=I.sort;obtain⟨an1,an2⟩:=Ug (L:=2) ne;have okus:∀T∈js.map (λj=>(N7 es).getD j Ke),Nk 2 T:=λT hT=>by
  obtain⟨k,hk,rfl⟩:=GX.mp hT;exact ok k<|lt k hk
 rw[acK ee];refine bY rfl (U:=[Dn<|.lst<|(HW rs).map G3,Dn tv,Dn<|.int ((5+j:Nat):Int),Dn<|.tup [HX 2 e.1,sw 2 e.2],Go]) rfl<|aJ<|bf<|aN<|aH<|bG<|ak<|aH<|ao rfl<|aV<|bC (ws:=[HX 2 e.1,sw 2 e.2]) (w:=HX 2 e.1) rfl rfl ?_
 refine aq<|cN (xs:=((HF e.1).map (sP 2)).map Cp) rfl ?_
 rw[CV,CV,ee2,Yj,CV,s2];refine aF<|ak<|ao rfl<|ak<|ao rfl<|aq<|hdu (rws:=(HW rs).map G3) rfl er s1 ?_
 refine sJ<|eE<|gH (by simp)<|aQ<|bx ?_
 unfold d8;refine aJ<|bf<|aN<|aH<|aH<|aH<|ao rfl<|ao rfl<|bC (ws:=(HW rs).map G3) rfl (bN er)<|aV<|bC (ws:=.str (PJ x)::js.map λj:Nat=>W.int (j:Int)) rfl uN<|aV<|dX<|eE ?_
 refine gH (decide_eq_false λz=>xf ?_)<|aQ<|bx ?_
 cases x<;>first|rfl|exact absurd z (by decide)
 unfold iG;have go:(dZ nm lc ft st ra ti du E) {nx:=λx h'=>mG false h W.non h' Q,rt:=λw h'=>mG false h w h' Q} [Dn (.lst ((HW rs).map G3)),Dn tv,Dn (.int ((5+j:Nat):Int)),Dn (.tup [HX 2 (R7 (Pq (loP 2 R) (Lh 2 R)) R),sw 2 [(loP 2 R,Lh 2 R)]]),Go] h:=by
  unfold dZ;refine aJ<|aU<|aF<|ak<|ao rfl<|ak<|ao rfl<|ak<|ao rfl<|aq ?_
  refine hra (rws:=(HW rs).map G3) rfl er etv (zV lt) okus eR λoR=>nV<|bx<|aR ?_
  obtain⟨k1,_,k3,_⟩:=abm oR an2;refine CG<|bG<|ak<|ao rfl<|aq<|Tw<|aeB ?_
  rw[an1];refine yL<|aH<|ao rfl<|aF<|ak<|aH<|ao rfl<|aV<|bC (ws:=[HX 2<|R7 (Pq (loP 2 R)<|Lh 2 R) R,sw 2 [(loP 2 R,Lh 2 R)]]) (w:=HX 2 (R7 (Pq (loP 2 R)<|Lh 2 R) R)) rfl rfl ?_
  refine ak<|aH<|ao rfl<|aV<|bC (ws:=[HX 2<|R7 (Pq (loP 2 R)<|Lh 2 R) R,sw 2 [(loP 2 R,Lh 2 R)]]) (w:=sw 2 [(loP 2 R,Lh 2 R)]) rfl rfl<|aq ?_
  rw[ee2]at etm;exact hst k1 (k3) (v8 _).2 etm λ_=>acY<|eN q
 by_cases c:x=.other
 subst c;refine aJ<|bf<|FT<|aN<|aH<|aH<|aH<|ao rfl<|ao rfl<|bC (ws:=(HW rs).map G3) rfl (bN er)<|aV<|bC (ws:=.str (PJ .other)::js.map λj:Nat=>W.int (j:Int)) rfl uN<|aV<|dX<|eE<|qR rfl ?_
 refine aN<|aH<|aF<|ak<|ao rfl<|ak<|ao rfl<|ak<|ao rfl<|aq ?_
 refine hti (rws:=(HW rs).map G3) rfl er etv (zV lt) okus (ho rfl) λ_=>dD<|aq<|bW rfl<|KC (s:=[]) (eE ?_) rfl
 exact gH rfl<|aQ<|bx go
 refine aJ<|bf<|FT<|aN<|aH<|aH<|aH<|ao rfl<|ao rfl<|bC (ws:=(HW rs).map G3) rfl (bN er)<|aV<|bC (ws:=.str (PJ x)::js.map λj:Nat=>W.int (j:Int)) rfl uN<|aV<|dX<|eE ?_
 refine gH (decide_eq_false λz=>c ?_)<|yR<|aQ<|bx go
 cases x<;>first|rfl|exact absurd z (by decide)
theorem aje (q:Q (.bl false) h):Qt [nou n] h Q:=by
 have e:∀n:Nat,qN (Iw n (W.tup []))=Dn (Iw n []):=λn=>by
  induction n with
  | zero=>rfl
  | succ n ih=>
   rw[Yz,Yz];show(qN (Iw n (W.tup []))).map _=_;rw[ih];rfl
 show(match qN (Iw n (W.tup []))with
  | some ks=>Q (.bl (ks.any λk=>!k.isEmpty)) h
  | none=>False)
 rw[e];have:((Iw n ([]:List W)).any λk=>!k.isEmpty)=false:=by
  rw[List.any_eq_false];intro k hk;rw[List.eq_of_mem_replicate hk];decide
 dsimp only;rw[this];exact q
def PaS (c0:AP):Prop:=∀{h:Gh}{rs:List Rq}{es:List (Th×Ps)}{cw:Wd}{cj:List Nat}{pw:W}{Q:WK}{E:CQ},Run rs es->N5 h pw (Q5 es (5+rs.length))->(∀n,pw=.loc n->n<h.nx)->(∀k,k<5+rs.length->Nk 2 ((N7 es).getD k Ke))->(∀j∈cj,j<5+rs.length)->Vo 2 cw (cj.map λj=>(N7 es).getD j Ke)=true->onP rs cw cj=true->Q (.bl true) h->c0 [.lst ((HW rs).map G3),G3 (cw,cj),pw] h Q E
theorem aiW {cl re:AP}(hcl:ClS cl)(hre:ReS re):PaS (fW cl re):=by
 intro h rs es cw cj pw Q E r sp hpw ok hj hc on' q;have lr:=r.few;unfold fW;refine pU rfl (U:=[Dn<|.lst<|(HW rs).map G3,Dn<|G3 (cw,cj),Dn pw,Go,Go,Go]) rfl ?_;refine aJ<|bf<|aN<|aH<|bG<|ak<|ao rfl<|aq<|cN (xs:=Q5 es (5+rs.length)) sp.view ?_
 rw[jP];refine bG<|ak<|ao rfl<|aq<|cN (xs:=(HW rs).map G3) rfl ?_
 rw[CV,oE];refine sJ<|eE<|gH (by simp)<|aQ<|bx ?_
 unfold iz;refine aJ<|aU<|je (ws:=[]) (λR=>rfl) rfl λg1 a1 b1 c1=>nV<|bx ?_
 have keep:∀{g:Gh},(∀n,n<h.nx->g.c n=h.c n)->N5 g pw (Q5 es (5+rs.length)):=λ{g} kp=>by
  rcases sp with e|⟨n,e,e2⟩
  exact .inl e;exact .inr ⟨n,e,by rw[kp n<|hpw n e];exact e2⟩
 refine aJ<|ahK (w:=pw) rfl (keep λn hn=>b1 n<|by lia) (λi U h'=>∃s4 s5:Option W,U=[Dn<|.lst<|(HW rs).map G3,Dn<|G3 (cw,cj),Dn pw,Dn<|.loc h.nx,s4,s5]/\h'.c h.nx=Dn (.lst<|Rn es i)/\h.nx<h'.nx/\∀n,n<h.nx->h'.c n=h.c n) ?_ ?_ ?_ ?_
 rintro i U h' ⟨_,_,_,_,_,kp⟩;exact keep kp;rintro i x U h' N hN ex ⟨s4,s5,rfl,cT,nx',kp⟩;have hi:i<5+rs.length:=by have:=(O4.mp ex).1;rwa[jP]at this
 rw[Oz hi]at ex;cases ex;refine jx rfl rfl<|cC<|nV ?_
 refine cC<|nV ?_
 refine qb ?_;refine aJ<|bf<|gW<|cR<|aF<|ak<|ao rfl<|ak<|ao rfl<|ak<|ao rfl<|ak<|ao rfl<|aq ?_
 refine hre r hi (fj cT) (λj hj=>ok j<|by lia)<|qT (b:=true) rfl<|jG<|aQ<|bx ?_
 refine d9<|lH<|ao rfl<|gK cT<|ak<|aH<|ao rfl<|aV<|bC (ws:=[HX 2<|(N7 es).getD i Ke,sw 2<|if i<5 then NZ 1 else(es.getD (i-5) (Ke,[])).2]) (w:=HX 2 ((N7 es).getD i Ke)) rfl rfl<|aq ?_
 refine Bj cT (by rw[CV,List.length_range];lia) λg3 a3 b3 c3=>bx<|hN _ _ ⟨_,_,rfl,?_,by lia,λn hn=>by rw[b3 n<|by lia];exact kp n hn⟩
 rw[a3];unfold Rn;rw[VP,Jb];rfl;rintro U h' ⟨s4,s5,rfl,cT,nx',kp⟩;rw[jP]at cT;unfold iJ;refine bx<|aR<|LQ<|bG<|ak<|aF<|ak<|ao rfl<|ak<|ao rfl<|ak<|ao rfl<|aq ?_
 refine hcl (rws:=(HW rs).map G3) (thg:=Rn es (5+rs.length)) rfl (fj cT) (zV hj) (λT hT=>?_) hc (ab2 on') λn hn=>aq<|aje<|afK ⟨λm c hm ec=>by rw[kp m hm];exact ec,.inl ⟨by simp[Lo],q⟩⟩
 obtain⟨j,hj',rfl⟩:=GX.mp hT;exact ok j<|hj j hj'
 exact⟨Go,Go,rfl,a1,by lia,λn hn=>b1 n<|by lia⟩
theorem Jm {mb:CQ->MS}{mh:MS}{D:bR}(x:mb (λx h'=>Ir (Np x.cls d) (mh D U h') False) D U h):Qf d mb mh D U h:=x
theorem aai {pa:AP}(hpa:PaS pa):PaS (rW pa):=by
 intro h rs es cw cj pw Q E r sp hpw ok hj hc on' q;unfold rW;refine bY rfl (U:=[Dn<|.lst<|(HW rs).map G3,Dn<|G3 (cw,cj),Dn pw,Go]) rfl<|aJ<|Jm<|aU<|aF<|ak<|ao rfl<|ak<|ao rfl<|ak<|ao rfl<|aq ?_
 refine hpa r sp hpw ok hj hc on'<|nV<|bx ?_
 unfold tM;exact aR<|ao rfl<|eN q
def Z4 (c0:AP):Prop:=∀{h:Gh}{a:Int}{Q:WK}{E:CQ},(∀h',Bag h' h.nx->h'.nx=h.nx+1->(∀m,m≠h.nx->h'.c m=h.c m)->Q (.loc h.nx) h')->c0 [.int a] h Q E
theorem ad9:Z4 MF:=by
 intro h a Q E k;refine And.intro ⟨by decide,by decide,by decide⟩<|And.intro (.inr<|.inr ?_) ?_
 have g:∀b:Bool,Sm 64 (if b=true then(1:Int)else 0):=λb=>by
  cases b;exact Sm.zero;exact .lit rfl
 exact g _;refine And.intro (show _≠0 by decide)<|k _ ⟨_,_,Iu _ _,?_,(by grind)⟩ rfl λm hm=>zA hm
 rw[kE (by decide)];exact YJ _ (by decide)
abbrev csW (w:Nat)(o p q r x:Nat):W:=.tup [.lst ((HW (cS w o p q r x).1).map G3),G3 (cS w o p q r x).2]
abbrev CsX (w:Nat)(c0:AP):Prop:=∀{h:Gh}{o p q r x:Nat}{Q:WK}{E:CQ},Q (csW w o p q r x) h->c0 [.int (o:Int),.int (p:Int),.int (q:Int),.int (r:Int),.int (x:Int)] h Q E
theorem aiY:CsX 0 jL:=λk=>k
theorem abA:CsX 1 nC:=λk=>k
theorem aaQ:CsX 2 Ds:=λk=>k
abbrev ShX (c0:AP):Prop:=∀{h:Gh}{w o p q r x:Nat}{Q:WK}{E:CQ},3<=w->w<8->Q (csW w o p q r x) h->c0 [.int (w:Int),.int (o:Int),.int (p:Int),.int (q:Int),.int (r:Int),.int (x:Int)] h Q E
abbrev af0 (o p q r:Nat):List Rq:=[(.curve,[0,1,2,3,4]),(.join,[o,p]),(.join,[q,r]),(.meet,[6,7])]
abbrev shS (w o p q r x:Nat):Sw:=[Dn (.int (w:Int)),Dn (.int (o:Int)),Dn (.int (p:Int)),Dn (.int (q:Int)),Dn (.int (r:Int)),Dn (.int (x:Int)),Dn (.lst ((HW (af0 o p q r)).map G3))]
theorem Ow {w:Nat}{n:Int}{ma:MS}{D:bR}(v:U[0]?=Dn (Dn (.int (w:Int))))(ne:(w:Int)≠n)(k:D.nx U h):fK (bF (Af Ib (aA 0) (mC (.int n)))) ma bV D U h:=
 bf (aN (aH (ao v (aV (yx (eE (gH (decide_eq_false ne) (aQ k))))))))
theorem ac7 {w:Nat}{n:Int}{ma mb:MS}{D:bR}(v:U[0]?=Dn (Dn (.int (w:Int))))(e:(w:Int)=n)(k:ma D U h):fK (bF (Af Ib (aA 0) (mC (.int n)))) ma mb D U h:=
 bf (aN (aH (ao v (aV (yx (eE (qR (decide_eq_true e) k)))))))
theorem ajS:ShX yH:=by
 intro h w o p q r x Q E h3 h8 k;suffices key:(bA (fK (bF (Af Ib (aA 0) (mC (.int 3)))) (bM (bH (aj (Af cO (aA 6) (pC (aj (bH (aj (mC (.str "about")) (aj (mC (.int 5)) (aj (mC (.int 8)) aG)))) (aj (bH (aj (mC (.str "pole")) (aj (mC (.int 5)) (aj (mC (.int 9)) aG)))) aG)))) (aj (bH (aj (mC (.str "same")) (aj (mC (.int 10)) (aj (mC (.int 8)) aG)))) aG)))) bV) (eX E)) {nx:=λ_ h'=>Q .non h',rt:=λw h'=>Q w h'} (shS w o p q r x) h from key
 match w,h3,h8 with
 | 3,_,_=>exact aJ (ac7 rfl rfl k)
 | 4,_,_=>
  refine aJ<|Ow rfl (by decide)<|bx ?_
  unfold eX;exact aJ<|ac7 rfl rfl k
 | 5,_,_=>
  refine aJ<|Ow rfl (by decide)<|bx ?_
  unfold eX;refine aJ<|Ow rfl (by decide)<|bx ?_
  unfold jr;exact aJ<|ac7 rfl rfl k
 | 6,_,_=>
  refine aJ<|Ow rfl (by decide)<|bx ?_
  unfold eX;refine aJ<|Ow rfl (by decide)<|bx ?_
  unfold jr;refine aJ<|Ow rfl (by decide)<|bx ?_
  unfold mZ;exact aJ<|ac7 rfl rfl k
 | 7,_,_=>
  refine aJ<|Ow rfl (by decide)<|bx ?_
  unfold eX;refine aJ<|Ow rfl (by decide)<|bx ?_
  unfold jr;refine aJ<|Ow rfl (by decide)<|bx ?_
  unfold mZ;refine aJ<|Ow rfl (by decide)<|bx ?_
  exact k
def uI (l:List Nat):List W:=l.map λx:Nat=>W.int (x:Int)
theorem alb {A:Nat}(e:h.c A=Dn (.lst (uI l)))(q:Q (.bl (!l.isEmpty)) h):Kv (.loc A) (.lst []) h Q:=by
 have d:Sv h (.loc A)=Dn (.lst (uI l)):=by
  show(match h.c A with
   | some (.lst ws)=>Dn (W.lst ws)
   | _=>Go)=_
  rw[e]
 unfold Kv;rw[d];have p:Gy 30 (.lst (uI l))=true:=by
  show(uI l).all (Gy 29)=true;refine Qe.mpr λw hw=>?_;obtain⟨x,_,rfl⟩:=GX.mp hw;rfl
 show Ir (Gy 30 (.lst (uI l))&&Gy 30 (.lst [])) (Q (.bl (!lX (uI l) [])) h) False;rw[p];cases l with
 | nil=>exact q
 | cons a l=>exact q
theorem zE {α β:Type}(f:α->β):∀(l:List α) (i:Nat),(l.map f).eraseIdx i=(l.eraseIdx i).map f
 | [],_=>rfl
 | _::_,0=>rfl
 | a::l,i+1=>congrArg (f a::·) (zE f l i)
theorem vB {x:Nat}:∀{l:List Nat}{i:Nat},l[i]?=Dn x->(x::l.eraseIdx i).Perm l
 | [],_,h=>by simp at h
 | a::l,0,h=>by cases h;exact .refl _
 | a::l,i+1,h=>.trans (.swap a x _) (.cons a (vB (l:=l) (i:=i) h))
theorem zco {g:QX}(e:h.c m=Dn (.lst ws))(b:JM ws.length n=true)(x:g ws U h N):lC n g (.loc m) U h N:=by
 show(match h.c m with
  | some (.lst ws)=>Ir (JM ws.length n) (g ws U h N) False
  | _=>False)
 rw[e];dsimp only;rw[b];exact x
theorem aaf {A:Nat}{d:Int}(e:h.c A=Dn (.lst (uI l)))(d0:0<=d)(d1:d<(l.length:Int))(k:∀(x:Nat) (g:Gh),l[d.toNat]?=Dn x->g.c A=Dn (.lst (uI (l.eraseIdx d.toNat)))->(∀m,m≠A->g.c m=h.c m)->g.nx=h.nx->Q (.int (x:Int)) g):Nf (.loc A) [.int d] h Q:=by
 show(match h.c A with
  | some (.lst us)=>(0<=d/\d<(us.length:Int))/\Q (us.getD d.toNat .non) (h.set A (.lst (us.eraseIdx d.toNat)))
  | _=>False)
 rw[e];have ln:(uI l).length=l.length:=CV ..;have hd:d.toNat<l.length:=by lia
 have ex:l[d.toNat]?=Dn l[d.toNat]:=JD hd;refine⟨⟨d0,by rw[ln];exact d1⟩,?_⟩;have eg:(uI l).getD d.toNat .non=.int ((l[d.toNat]:Nat):Int):=by
  rw[M9];unfold uI;rw[HI,ex];rfl
 rw[eg];refine k _ _ ex ?_ (λm hm=>nu hm) rfl;rw[xM];unfold uI;rw[zE]
def afH (c0:AP):Prop:=∀{h:Gh}{n:Nat}{Q:WK}{E:CQ},Bag h n->n<h.nx->(∀(w o p q r x:Nat) (g:Gh),w<8->[o,p,q,r,x].Perm [0,1,2,3,4]->h.nx<=g.nx->Q (csW w o p q r x) g)->c0 [.loc n] h Q E
theorem zbY {dr pe tw' ro sh:AP}(hdr:Sy dr)(hpe:CsX 0 pe)(htw:CsX 1 tw')(hro:CsX 2 ro)(hsh:ShX sh):afH (rJ dr pe tw' ro sh):=by
 intro h n Q E hb hn k;unfold rJ;refine bY rfl (U:=[Dn<|.loc n,Go,Go,Go,Go,Go,Go,Go,Go]) rfl ?_;refine aJ<|aU<|je (ws:=uI [0,1,2,3,4]) (λR=>rfl) rfl λg1 a1 b1 c1=>nV<|bx ?_
 refine aJ<|aU<|je (ws:=[]) (λR=>rfl) rfl λg2 a2 b2 c2=>nV<|bx ?_
 obtain⟨A,eA⟩:∃A,A=h.nx:=⟨_,rfl⟩
 obtain⟨B,eB⟩:∃B,B=g1.nx:=⟨_,rfl⟩
 rw[<-eA,<-eB];refine aJ ⟨λm U h'=>∃l r:List Nat,m=l.length/\(l++r).Perm [0,1,2,3,4]/\U=[Dn<|.loc n,Dn<|.loc A,Dn<|.loc B,Go,Go,Go,Go,Go,Go]/\h'.c A=Dn (.lst<|uI l)/\h'.c B=Dn (.lst<|uI r)/\Bag h' n/\B<h'.nx,?_,?_⟩;have hb2:Bag g2 n:=by
  obtain⟨a,b,e,x⟩:=hb;exact⟨a,b,by rw[b2 n<|by lia,b1 n<|by lia];exact e,x⟩
 exact⟨5,[0,1,2,3,4],[],rfl,.refl _,rfl,by rw[b2 A<|by lia,eA];exact a1,by rw[eB];exact a2,hb2,by lia⟩
 ·rintro m U h' ⟨l,r,rfl,pm,rfl,cA,cB,hb',nx'⟩;have nA:n≠A:=by lia
  have nB:n≠B:=by lia
  have AB:A≠B:=by lia
  have lr:l.length+r.length=5:=by have:=pm.length_eq;rw[Pa]at this;exact this
  refine aN<|aH<|ao rfl<|rK<|aq<|bW rfl<|alb cA<|eE ?_
  cases l with
  | nil=>
   refine gH rfl<|bx ?_
   have pm:r.Perm [0,1,2,3,4]:=pm;rcases r with _|⟨o,_|⟨p,_|⟨q,_|⟨s,_|⟨x,_|_⟩⟩⟩⟩⟩<;>simp at lr
   unfold sG;refine aJ<|aU<|ao rfl<|zco cB rfl ?_
   refine cC<|nV ?_
   refine cC<|nV ?_
   refine cC<|nV ?_
   refine cC<|nV ?_
   refine cC<|nV ?_
   refine qb<|bx ?_
   refine aJ<|aU<|aF<|ak<|ao rfl<|ak<|aV<|aq ?_
   refine hdr hb' (by decide) (by unfold Sm;decide) λd g d0 d1 _ ot=>nV<|bx ?_
   obtain⟨w,rfl⟩:∃w:Nat,d=(w:Int):=⟨d.toNat,by lia⟩
   have fin:Q (csW w o p q s x) g:=k w o p q s x g (by lia) pm (by have:=ot.1;lia);have args:∀{c0:AP}{U:Sw}{R:WK},U[3]?=Dn (Dn (.int (o:Int)))->U[4]?=Dn (Dn (.int (p:Int)))->U[5]?=Dn (Dn (.int (q:Int)))->U[6]?=Dn (Dn (.int (s:Int)))->U[7]?=Dn (Dn (.int (x:Int)))->c0 [.int (o:Int),.int (p:Int),.int (q:Int),.int (s:Int),.int (x:Int)] g R E->aL c0 E (aj (aA 3) (aj (aA 4) (aj (aA 5) (aj (aA 6) (aj (aA 7) aG))))) U g R:=λv3 v4 v5 v6 v7 y=>aF (ak (ao v3 (ak (ao v4 (ak (ao v5 (ak (ao v6 (ak (ao v7 (aq y)))))))))))
   have eqw:∀{n:Int}{U:Sw}{ma mb:MS}{D:bR},U[8]?=Dn (Dn (.int (w:Int)))->((w:Int)=n->ma D U g)->((w:Int)≠n->mb D U g)->fK (bF (Af Ib (aA 8) (mC (.int n)))) ma mb D U g:=λv y z=>bf (aN (aH (ao v (aV (yx (eE (Bp y z)))))))
   refine aJ<|eqw rfl (λe=>?_) λn0=>aQ<|bx ?_
   obtain rfl:w=0:=by lia
   exact aR<|args rfl rfl rfl rfl rfl<|hpe<|eN fin
   unfold rQ;refine aJ<|eqw rfl (λe=>?_) λn1=>aQ<|bx ?_
   obtain rfl:w=1:=by lia
   exact aR<|args rfl rfl rfl rfl rfl<|htw<|eN fin
   unfold rP;refine aJ<|eqw rfl (λe=>?_) λn2=>aQ<|bx ?_
   obtain rfl:w=2:=by lia
   exact aR<|args rfl rfl rfl rfl rfl<|hro<|eN fin
   unfold rE;refine aR<|aF<|ak<|ao rfl<|ak<|ao rfl<|ak<|ao rfl<|ak<|ao rfl<|ak<|ao rfl<|ak<|ao rfl<|aq ?_
   exact hsh (by lia) (by lia)<|eN fin
  | cons y l=>
   refine qR rfl<|d9<|lH<|ao rfl<|gK cB<|ak<|lH<|ao rfl<|gK cA<|ak<|aF<|ak<|ao rfl<|ak<|bG<|ak<|ao rfl<|aq<|cN (xs:=uI (y::l)) (fj cA) ?_
   have ln:(uI (y::l)).length=(y::l).length:=CV ..;rw[ln];refine aq<|hdr hb' (by simp) (Hy (by simp at lr|-;lia) (by simp at lr|-;lia)) λd g d0 d1 hb3 ot=>aq ?_
   have cA':g.c A=Dn (.lst (uI (y::l))):=by rw[ot.2 A nA.symm];exact cA
   have cB':g.c B=Dn (.lst (uI r)):=by rw[ot.2 B nB.symm];exact cB
   refine aaf cA' d0 d1 λx g3 ex a3 b3 c3=>aq ?_;refine Bj (us:=uI r) (by rw[b3 B AB.symm];exact cB') (by have:(uI r).length=r.length:=CV ..;lia) λg4 a4 b4 c4=>bx ?_;have hd:d.toNat<(y::l).length:=by lia
   have pe:((y::l).eraseIdx d.toNat++(r++[x])).Perm (y::l++r):=by
    have p1:=vB ex;refine .trans ?_<|p1.append_right r
    refine .trans (List.Perm.append_left _ List.perm_append_comm) ?_;show(List.eraseIdx (y::l) d.toNat++(x::r)).Perm _;exact List.perm_middle
   refine⟨_,?_,(y::l).eraseIdx d.toNat,r++[x],rfl,pe.trans pm,rfl,by rw[b4 A AB];exact a3,?_,?_,by have:=ot.1;lia⟩;rw[List.length_eraseIdx,if_pos hd];simp;rw[a4];unfold uI;rw[Jb];rfl;obtain⟨a,b,e,z⟩:=hb3;exact⟨a,b,by rw[b4 n nB,b3 n nA];exact e,z⟩
def IsS (c0:AP):Prop:=∀{h:Gh}{us:Ps}{Q:WK}{E:CQ},Q (.bl true) h->c0 [sw 2 us] h Q E
theorem zci:IsS oU:=by
 intro h us Q E q;unfold oU;refine bY rfl (U:=[Dn<|sw 2 us,Go]) rfl<|aJ<|bf<|gW<|cR<|bG<|ak<|ao rfl<|ak<|aV<|aq<|lF (b:=true) rfl<|qT rfl<|jG<|aQ<|bx ?_
 unfold pO;refine aJ<|NP (ws:=(sP 2 us).map Hj) rfl ?_
 refine fZ (λi U h'=>h'=h/\∃s1:Option W,U=[Dn<|sw 2 us,s1]) ?_ ?_ ⟨rfl,Go,rfl⟩
 ·rintro i w U h' N hN e ⟨rfl,s1,rfl⟩;rw[HI]at e;cases qe:(sP 2 us)[i]? with
  | none=>rw[qe]at e;cases e
  | some t=>
   rw[qe]at e;cases e;obtain⟨s,_,rfl⟩:=vK (Mz qe);refine nV ?_;have ix0:∀{R:WK},R (.tup ((dk 2 s.1).map .int)) h'->Bm (Hj (dk 2 s.1,s.2)) (.int 0) h' R:=λx=>bC (ws:=[.tup ((dk 2 s.1).map .int),.int s.2]) (w:=.tup ((dk 2 s.1).map .int)) rfl rfl x
   have ix1:∀{R:WK},R (.int s.2) h'->Bm (Hj (dk 2 s.1,s.2)) (.int 1) h' R:=λx=>bC (ws:=[.tup ((dk 2 s.1).map .int),.int s.2]) (w:=.int s.2) rfl rfl x
   refine aJ<|bf<|oH<|gW<|cR<|bG<|ak<|ao rfl<|ak<|aV<|aq<|lF (b:=true) rfl<|qT rfl<|jG ?_
   refine oH<|aN<|aH<|bG<|ak<|ao rfl<|aq<|cN (xs:=[.tup<|(dk 2 s.1).map .int,.int s.2]) rfl<|aV<|sJ<|eE<|gH rfl ?_
   refine oH<|gW<|cR<|bG<|ak<|aH<|ao rfl<|aV<|ix0<|ak<|aV<|aq<|lF (b:=true) rfl<|qT rfl<|jG ?_
   refine aN<|aH<|bG<|ak<|aH<|ao rfl<|aV<|ix0<|aq<|cN (xs:=(dk 2 s.1).map .int) rfl ?_
   refine aV<|sJ<|eE<|gH rfl<|aQ<|bx ?_
   refine bf<|oH<|gW<|cR<|bG<|ak<|aH<|ao rfl<|aV<|ix1<|ak<|aV<|aq<|lF (b:=true) rfl<|qT rfl<|jG ?_
   refine cR<|bG<|ak<|aH<|ao rfl<|aV<|ix1<|ak<|aV<|aq<|lF (b:=false) rfl<|qT rfl<|gH rfl ?_
   exact aQ<|bx<|hN _ _ ⟨rfl,_,rfl⟩
 rintro U h' ⟨rfl,s1,rfl⟩;unfold qD;exact bx<|aR<|aV<|eN q
def PtS (c0:AP):Prop:=∀{h:Gh}{rs:List Rq}{es:List (Th×Ps)}{P:Nat}{Q:WK}{E:CQ},rs.length<=30->h.c P=Dn (.lst (Q5 es (5+rs.length)))->Q (.bl true) h->c0 [.tup [.str "paper",.loc P],.lst ((HW rs).map G3)] h Q E
theorem ZM {is':AP}(his:IsS is'):PtS (iR is'):=by
 intro h rs es P Q E lr ec q;have ix0:∀{R:WK},R (.str "paper") h->Bm (.tup [.str "paper",.loc P]) (.int 0) h R:=λx=>bC (ws:=[.str "paper",.loc P]) (w:=.str "paper") rfl rfl x
 have ix1:∀{R:WK},R (.loc P) h->Bm (.tup [.str "paper",.loc P]) (.int 1) h R:=λx=>bC (ws:=[.str "paper",.loc P]) (w:=.loc P) rfl rfl x
 unfold iR;refine bY rfl (U:=[Dn<|.tup [.str "paper",.loc P],Dn<|.lst<|(HW rs).map G3,Go]) rfl ?_;refine aJ<|bf<|oH<|gW<|cR<|bG<|ak<|ao rfl<|ak<|aV<|aq<|lF (b:=true) rfl<|qT rfl<|jG ?_
 refine oH<|aN<|aH<|bG<|ak<|ao rfl<|aq<|cN (xs:=[.str "paper",.loc P]) rfl<|aV<|sJ<|eE<|gH rfl ?_
 refine oH<|aN<|aH<|aH<|ao rfl<|aV<|ix0<|aV<|ac1<|eE<|gH rfl ?_
 refine gW<|cR<|bG<|ak<|aH<|ao rfl<|aV<|ix1<|ak<|aV<|aq<|lF (b:=true) (by simp only[acS,eU,ec];rfl)<|qT rfl<|jG ?_
 refine aQ<|bx ?_
 unfold jA;refine aJ<|m7<|gZ<|aH<|ao rfl<|aV<|ix1<|uH (Ul ec)<|pX ?_
 refine xP (λi U h'=>h'=h/\∃s2:Option W,U=[Dn<|.tup [.str "paper",.loc P],Dn<|.lst<|(HW rs).map G3,s2]) (λi U h' hi P p=>by obtain⟨rfl,_⟩:=hi;exact⟨ec,p⟩) ?_ ?_ ⟨rfl,Go,rfl⟩
 ·rintro i w U h' N hN e ⟨rfl,s2,rfl⟩;have hi:i<5+rs.length:=by have:=(O4.mp e).1;rwa[jP]at this
  rw[Oz hi]at e;cases e;generalize eT:(N7 es).getD i Ke=T;generalize ef:(if i<5 then NZ 1 else(es.getD (i-5) (Ke,[])).2)=f;have ee:RG es i=.tup [HX 2 T,sw 2 f]:=by unfold RG;rw[eT,ef]
  rw[ee];have jx0:∀{R:WK},R (HX 2 T) h'->Bm (.tup [HX 2 T,sw 2 f]) (.int 0) h' R:=λx=>bC (ws:=[HX 2 T,sw 2 f]) (w:=HX 2 T) rfl rfl x
  have jx1:∀{R:WK},R (sw 2 f) h'->Bm (.tup [HX 2 T,sw 2 f]) (.int 1) h' R:=λx=>bC (ws:=[HX 2 T,sw 2 f]) (w:=sw 2 f) rfl rfl x
  refine nV ?_;refine aJ<|bf<|oH<|gW<|cR<|bG<|ak<|ao rfl<|ak<|aV<|aq<|lF (b:=true) rfl<|qT rfl<|jG ?_
  refine oH<|aN<|aH<|bG<|ak<|ao rfl<|aq<|cN (xs:=[HX 2 T,sw 2 f]) rfl<|aV<|sJ<|eE<|gH rfl ?_
  refine gW<|cR<|bG<|ak<|aH<|ao rfl<|aV<|jx0<|ak<|aV<|aq<|lF (b:=true) rfl<|qT rfl<|jG ?_
  refine aQ<|bx<|bf<|aN<|aH<|bG<|ak ?_
  refine iu<|gZ<|aH<|bG<|ak<|aH<|ao rfl<|aV<|jx0<|aq<|Uc ?_
  refine rK<|ak<|aH<|ao rfl<|aV<|jx1<|aq<|bW rfl ?_
  have l6':=(v8 T).2;have en:(W.lst ((((HF T).map (sP 2)).map Cp)++[sw 2 f]))=.lst ((HF T++[f]).map (sw 2)):=by
   rw[Jb,Ks];rfl
  refine gn.mk (HN (m:=100) (by rw[CV,CV];simp;lia)<|by decide) ?_;rw[en];refine uH (ws:=(HF T++[f]).map (sw 2)) (o:=Go) rfl<|gn.mk (HN (m:=100) (by rw[CV,Pa];simp;lia)<|by decide) ?_
  refine dU (λj acc g=>g=h'/\acc=[]) ?_ ?_ ⟨rfl,rfl⟩
  ·rintro j u acc g M hM eu ⟨rfl,rfl⟩;rw[HI]at eu;cases qu:(HF T++[f])[j]? with
   | none=>rw[qu]at eu;cases eu
   | some v=>
    rw[qu]at eu;cases eu;refine⟨[sw 2 v],rfl,gW<|cR<|aF<|ak<|ao rfl<|aq<|his<|qT (b:=true) rfl<|DP<|hM _ _ ⟨rfl,rfl⟩⟩
  rintro acc g ⟨rfl,rfl⟩;refine aq<|cN (xs:=[]) rfl<|aV<|Bh<|eE<|gH rfl<|aQ<|bx<|hN _ _ ⟨rfl,_,rfl⟩
 rintro U h' ⟨rfl,s2,rfl⟩;unfold jC;refine bx<|aR<|aH<|bG<|ak<|aH<|ao rfl<|aV<|ix1<|aq<|cN (xs:=Q5 es (5+rs.length)) (fj ec) ?_
 rw[jP];refine bG<|ak<|ao rfl<|aq<|cN (xs:=(HW rs).map G3) rfl ?_
 rw[CV,oE];refine yx<|eN ?_
 rw[decide_eq_true rfl];exact q
theorem aam {de:AP}(hde:DeS de):DeS (mW de):=by
 intro h rs es cw cj Q E r hj hc on' q;unfold mW;refine bY rfl (U:=[Dn<|.lst<|(HW rs).map G3,Dn<|G3 (cw,cj),Go]) rfl<|aJ<|Jm<|aU<|aF<|ak<|ao rfl<|ak<|ao rfl<|aq ?_
 refine hde r hj hc on' λP g p1 p2 p3 p4 p5=>nV<|bx ?_
 unfold nY;exact aR<|ao rfl<|eN<|q P g p1 p2 p3 p4 p5
def a5 (f:Nat->Bool):Bool:=f 0&&(f 1&&(f 2&&(f 3&&f 4)))
theorem MJ {f:Nat->Bool}(h:a5 f=true)(hn:n∈[0,1,2,3,4]):f n=true:=by
 unfold a5 at h;simp only[Ol]at h;simp only[Jz,Va,or_false]at hn;obtain⟨h0,h1,h2,h3,h4⟩:=h;rcases hn with rfl|rfl|rfl|rfl|rfl<;>assumption
noncomputable def Kl (w:Nat):Bool:=a5 λo=>a5 λp=>JM p o||a5 λq=>(JM q o||JM q p)||a5 λr=>(JM r o||(JM r p||JM r q))||a5 λx=>(JM x o||(JM x p||(JM x q||JM x r)))||okC (cS w o p q r x).1 (cS w o p q r x).2.1 (cS w o p q r x).2.2
theorem ck0:Kl 0=true:=by decide +kernel
theorem ck1:Kl 1=true:=by decide +kernel
theorem ck2:Kl 2=true:=by decide +kernel
theorem ck3:Kl 3=true:=by decide +kernel
theorem ck4:Kl 4=true:=by decide +kernel
theorem ck5:Kl 5=true:=by decide +kernel
theorem ck6:Kl 6=true:=by decide +kernel
theorem ck7:Kl 7=true:=by decide +kernel
theorem agm {w o q r:Nat}(h:Kl w=true)(pm:[o,p,q,r,x].Perm [0,1,2,3,4]):okC (cS w o p q r x).1 (cS w o p q r x).2.1 (cS w o p q r x).2.2=true:=by
 have mem:∀y∈[o,p,q,r,x],y∈[0,1,2,3,4]:=λy hy=>pm.mem_iff.mp hy
 have nd:[o,p,q,r,x].Nodup:=pm.nodup_iff.mpr (by decide);simp only[RZ,Jz,Va,or_false,not_or]at nd;have nb:∀{a b:Nat},¬b=a->JM a b=false:=λ{a b} n=>by
  cases e:JM a b with
  | true=>exact absurd (VJ e).symm n
  | false=>rfl
 unfold Kl at h;have h:=MJ h (mem o (by simp));try dsimp only at h
 have h:=MJ h (mem p (by simp));try dsimp only at h
 rw[nb nd.1.1,Xh]at h;have h:=MJ h (mem q (by simp));try dsimp only at h
 rw[nb nd.1.2.1,nb nd.2.1.1,Xd,Xh]at h;have h:=MJ h (mem r (by simp));try dsimp only at h
 rw[nb nd.1.2.2.1,nb nd.2.1.2.1,nb nd.2.2.1.1,Xd,Xd,Xh]at h;have h:=MJ h (mem x (by simp));rw[nb nd.1.2.2.2,nb nd.2.1.2.2,nb nd.2.2.1.2,nb nd.2.2.2.1,Xd,Xd,Xd,Xh]at h;exact h
theorem zbX:∀{w:Nat},w<8->Kl w=true
 | 0,_=>ck0
 | 1,_=>ck1
 | 2,_=>ck2
 | 3,_=>ck3
 | 4,_=>ck4
 | 5,_=>ck5
 | 6,_=>ck6
 | 7,_=>ck7
theorem okc {w o q r:Nat}(hw:w<8)(pm:[o,p,q,r,x].Perm [0,1,2,3,4]):okC (cS w o p q r x).1 (cS w o p q r x).2.1 (cS w o p q r x).2.2=true:=agm (zbX hw) pm
theorem abn {w o q r:Nat}(hw:w<8):(cS w o p q r x).1.length<=30:=by
 match w,hw with
 | 0,_=>exact ML rfl
 | 1,_=>exact ML rfl
 | 2,_=>exact ML rfl
 | 3,_=>exact ML rfl
 | 4,_=>exact ML rfl
 | 5,_=>exact ML rfl
 | 6,_=>exact ML rfl
 | 7,_=>exact ML rfl
theorem aiH {cw:Wd}(h:okC rs cw cj=true)(l:rs.length<=30):∃es,Run rs es/\(∀j∈cj,j<5+rs.length)/\Vo 2 cw (cj.map λj=>(N7 es).getD j Ke)=true/\onP rs cw cj=true:=by
 unfold okC at h;split at h
 rename_i es e;rw[Ol,Ol,Qe]at h;have r:=abT e l;refine⟨es,r,λj hj=>?_,h.2.2,h.2.1⟩;have:=ML (h.1 j hj)
 rw[<-r.len];exact this;cases h
theorem aeM (r:Rq):Hg (G3 r) (G3 r)=true:=by
 have e:(r.2.map λj:Nat=>W.int (j:Int))=(r.2.map λj:Nat=>(j:Int)).map W.int:=by rw[Ks];rfl
 show lX (.str (PJ r.1)::r.2.map λj:Nat=>W.int (j:Int)) (.str (PJ r.1)::r.2.map λj:Nat=>W.int (j:Int))=true;rw[e,lX,BZ,Js];simp
theorem Uj:∀l:List Rq,lX (l.map G3) (l.map G3)=true
 | []=>rfl
 | r::l=>by rw[HY,lX,aeM,Uj l];rfl
theorem zbF {l:List Rq}(q:Q (.bl false) h):Kv (.lst (l.map G3)) (.lst (l.map G3)) h Q:=by
 have p:Gy 30 (.lst (l.map G3))=true:=by
  show(l.map G3).all (Gy 29)=true;rw[Qe];intro w hw;obtain⟨r,_,rfl⟩:=GX.mp hw;show(Gy 28 (.str (PJ r.1))&&(r.2.map λj:Nat=>W.int (j:Int)).all (Gy 28))=true;have:(r.2.map λj:Nat=>W.int (j:Int)).all (Gy 28)=true:=by
   rw[Qe];intro w hw;obtain⟨j,_,rfl⟩:=GX.mp hw;rfl
  rw[this];rfl
 show Ir (Gy 30 (.lst (l.map G3))&&Gy 30 (.lst (l.map G3))) (Q (.bl (!lX (l.map G3) (l.map G3))) h) False;rw[p,Uj];exact q
theorem Es (k:Q (.lst ws) h):qI [.lst ws] h Q:=k
theorem acu (e:h.c n=Dn (.lst us))(k:Q (.lst us) h):qI [.loc n] h Q:=by
 show(match eU h (.loc n)with
  | some ws=>Q (.lst ws) h
  | none=>False)
 simp only[eU,e];exact k
theorem ajp {r:MM}{mo:ME}(x:mo U h λx h1=>Ak h1 x (r x [] h1 Q)):Rz r mo U h Q:=x
theorem adz {A:Nat}(e:h.c A=Dn (.lst us))(ew:us[us.length-1]?=Dn w)(q:∀g:Gh,(∀m,m≠A->g.c m=h.c m)->g.nx=h.nx->Q w g):aaU (.loc A) [] h Q:=by
 show(match h.c A with
  | some (.lst us)=>(match us[us.length-1]? with
   | some w=>Q w (h.set A (.lst us.dropLast))
   | none=>False)
  | _=>False)
 rw[e];dsimp only;rw[ew];exact q _ (λm hm=>nu hm) rfl
theorem ae0 {lb ce ba tr to ld:AP}(hlb:PaS lb)(hce:K7 ce)(hba:Z4 ba)(htr:afH tr)(hto:PtS to)(hld:DeS ld)(ns:List Int):X4 lb ce ba tr to ld [.kls (ns.map W.int)] g0 (λw _=>w=.bl true) EF:=by
 unfold X4;refine bY rfl (U:=[Dn<|.kls<|ns.map W.int,Go,Go,Go,Go,Go]) rfl ?_;refine aJ<|aU<|aF<|ak<|aF<|ak<|aF<|ak<|ao rfl<|ak<|aV<|aq ?_
 refine hce (by decide)<|aq<|hba λh1 hb x1 o1=>aq ?_
 refine htr hb (by lia) λw o p q r x g hw pm xg=>?_;obtain⟨es,run,hj,hc,on'⟩:=aiH (okc hw pm) (abn hw);unfold csW;generalize eC:cS w o p q r x=C at run hj hc on'|-
 obtain⟨rs,cw,cj⟩:=C;dsimp only at run hj hc on';have lr:=run.few;refine jx rfl rfl<|cC<|nV ?_
 refine cC<|nV ?_
 refine qb<|bx ?_
 refine aJ<|aU<|bG<|ak<|ao rfl<|aq<|Es<|nV<|bx ?_
 refine aJ<|aU<|aF<|ak<|ao rfl<|ak<|ao rfl<|aq ?_
 refine hld run hj hc on' λP g1 p1 p2 p3 p4 p5=>nV<|bx ?_
 have jx1:∀{P:Nat}{g:Gh}{R:WK},R (.loc P) g->Bm (.tup [.str "paper",.loc P]) (.int 1) g R:=λ{P g R} x=>bC (ws:=[.str "paper",.loc P]) (w:=.loc P) rfl rfl x
 refine aJ<|bf<|oH<|gW<|cR<|aF<|ak<|ao rfl<|ak<|ao rfl<|aq ?_
 refine hto lr p3<|qT (b:=true) rfl<|jG ?_
 refine oH<|aN<|aH<|ao rfl<|ao rfl<|zbF<|eE<|gH rfl ?_
 refine aN<|aH<|aF<|ak<|bG<|ak<|ao rfl<|aq<|Es ?_
 refine ak<|ao rfl<|ak<|bG<|ak<|aH<|ao rfl<|aV<|jx1<|aq<|acu p3<|aq ?_
 refine hlb run (.inl rfl) (λn e=>by cases e) p5 hj hc on'<|aV<|M5<|eE<|gH rfl<|aQ<|bx ?_
 unfold K5;refine aJ<|bf<|aN<|aH<|bG<|ak<|ao rfl<|aq<|cN (xs:=(HW rs).map G3) rfl<|aV<|Bh<|eE ?_
 refine Bp (λ_=>aR<|aV<|eN rfl) λ_=>aQ<|bx ?_
 unfold N8;refine aJ<|d9<|ajp<|aH<|ao rfl<|aV<|jx1<|gK p3 ?_
 have lp:(Q5 es (5+rs.length)).length-1<5+rs.length:=by rw[jP];lia
 refine adz p3 (Oz lp) λg2 o2 x2=>bx ?_;refine aJ<|aU<|aF<|ak<|bG<|ak<|ao rfl<|aq<|Es ?_
 refine ak<|ao rfl<|aq ?_
 refine hld run hj hc on' λP2 g3 r1 r2 r3 r4 r5=>nV<|bx ?_
 refine aR<|CG<|aF<|ak<|ao rfl<|ak<|ao rfl<|aq ?_
 refine hto lr r3<|aeB<|yL ?_
 refine aH<|aF<|ak<|bG<|ak<|ao rfl<|aq<|Es ?_
 refine ak<|ao rfl<|ak<|aH<|ao rfl<|aV<|jx1<|aq ?_
 refine hlb run (.inr ⟨P2,rfl,r3⟩) (λn e=>by cases e;exact r2) r5 hj hc on'<|aV<|ZF<|eN rfl
theorem ac0 (ns:List Int)(_:ns.length<=63):Yo [.kls (ns.map W.int)] g0 (λw _=>w=.bl true) EF:=by
 have wt:WhX iD:=agk aaX;have ti:Vf mJ:=adl.mu (ajC alh Z7 (afr Iz) agq);have pl:Vj 1 z6:=PlX.ad (aaT wt);have mi:Vj (-1) wg:=PlX.ad (ajw wt);have ls:LsS fu:=aar mi ti;have cr:CrS dM:=zbq ls;have dt:DtS gU:=ach pl ti;have st:StS dO:=ahH ti;have sm:SmS iy:=aiu mi;have db:DbS m6:=agU pl;have ta:TaS cW:=aiJ db;have rt:RtS fG:=zbH dt;have bo:BoS bI:=aay dt rt;have tu:TuS kh:=zck cr dt;have sz:SzS ji:=akn tu;have trn:TrS gB:=aja cr;have ra:RaS O8:=aes cr ta rt (akS ti cr dt st sm (aha pl ti)) (abU st ta trn rt sz) (aiC st sm db ta bo);have tie:TiS Ph:=ad7 ta bo;have nm:JN fJ:=aez;have ct:sV cH:=w_count ud;have lc:LcS cH:=ct.lc;have ft:FtS iI:=xu.ft (aiI ud nm adw ct);have cl:ClS iw:=akt tu ta trn bo sz (aao ajk ls cr) (w_on xW dt);have en:EnS oG:=aku (zbn Iz Z7 (afr Iz) abZ akB) (ahp (aiM (ahs aeV)) aiP ab8) Km;have de:DeS jX:=ajg nm lc ft Km en (ajL ra tie) (ahw cl);have lb:PaS tG:=aai (aiW cl (aiB nm lc ft st ra tie (aeK xW)));exact ae0 lb aaP ad9 (zbY abj aiY abA aaQ ajS) (ZM zci) (aam de) ns
end My
namespace PySem.W.Fast
def tw14842312785465991592:=Nat
def tw3056378695178642247:=Nat
def tw4381790047046294972:=Nat
def tw6277122308816418364:=Nat
def tw9045004953019678562:=Nat
def tw11294871716347902248:=Nat
def tw6196658764917872651:=Nat
def tw8475387154962043390:=Nat
def tw17528431005804546258:=Nat
def tw5713034137430233784:=Nat
def tw7802924111234288181:=Nat
def tw12784127034868965025:=Nat
def tw1004726611310459887:=Nat
def tw18193670304322451468:=Nat
def tw2523597211745150335:=Nat
def tw10864682784325278984:=Nat
def tw15628859349089889875:=Nat
def tw3606696528843809443:=Nat
def tw8710267811148217680:=Nat
def tw10185260091435943550:=Nat
def tw14151857070757045580:=Nat
def tw14556055400557778594:=Nat
def tw16377921908031247748:=Nat
def tw491701335522608656:=Nat
def tw1689674730898156604:=Nat
def tw17353434582941777460:=Nat
def tw6787551337244403417:=Nat
def tw1041895554941954629:=Nat
def tw7310195979125103267:=Nat
def tw5261703625099496753:=Nat
def tw984678925020178703:=Nat
def tw10946160711562725900:=Nat
def tw6977455180113008409:=Nat
def tw12113842219319725435:=Nat
def tw1889929640470484221:=Nat
def tw7454400770542864786:=Nat
def tw3326725352850459531:=Nat
def tw10409774897309687690:=Nat
def tw17293695761970258433:=Nat
def tw15680384631962438088:=Nat
def tw3399174450676265439:=Nat
def tw6180126003922187856:=Nat
def tw17597948603814452353:=Nat
def tw8045116941010949113:=Nat
def tw16021946504008192350:=Nat
def tw18152704993209488764:=Nat
def tw15663708002761450343:=Nat
def tw1918935752503092296:=Nat
def tw13392112760991581020:=Nat
def tw7009924843921928698:=Nat
def tw852332451657420367:=Nat
def tw7955172941337297832:=Nat
def tw3282020607053552421:=Nat
def tw3256955366517667589:=Nat
def tw6375815030269805451:=Nat
def tw11350971622516297966:=Nat
def tw12479774172133105187:=Nat
def tw2627831545871375046:=Nat
def tw10932151930267000471:=Nat
def tw10192979797847318580:=Nat
def tw2742089683563681201:=Nat
def tw3404702054948267641:=Nat
def tw89665492965542381:=Nat
def tw10724467317596252928:=Nat
def tw17906909282010300466:=Nat
def tw72432420469913738:=Nat
def tw10372740223032445475:=Nat
def tw3021024252812804119:=Nat
def tw13282809465785958312:=Nat
def tw14401413466701235313:=Nat
def tw17193883965023023497:=Nat
def tw11721203693641998938:=Nat
def tw10370711692954741958:=Nat
def tw11676367699508540324:=Nat
def tw10404992218610181525:=Nat
def tw5341108101371420970:=Nat
def tw13848336239845473777:=Nat
def tw1934912549204562997:=Nat
def tw13227976849821584451:=Nat
def tw1655859927643545044:=Nat
def tw5067649961564332593:=Nat
def tw7016230410350656277:=Nat
def tw132073600994537471:=Nat
def tw2713712717618160884:=Nat
def tw13699185596478648024:=Nat
def tw4338706341295433963:=Nat
def tw8317431732875018310:=Nat
def tw1490649375554119788:=Nat
def tw16996122302479558083:=Nat
def tw15842381312010804146:=Nat
def tw17722851875178424502:=Nat
def tw14721602609054307822:=Nat
def tw18372073453820549472:=Nat
def tw12781296658893904202:=Nat
def tw5573121186558887923:=Nat
def tw1736089024225335867:=Nat
def tw6045463723269689867:=Nat
def tw5578055587794657673:=Nat
def tw15861571990230951804:=Nat
def tw17177751493940454947:=Nat
def tw18380559606479118106:=Nat
def tw11260933622634356624:=Nat
def tw10041570353553488608:=Nat
def tw2119051340791884408:=Nat
def tw18429588832562489004:=Nat
def tw6973040232075957137:=Nat
def tw17822644470523081129:=Nat
def tw1581487667518671938:=Nat
def tw11572086342539209778:=Nat
def tw8475237524147924006:=Nat
def tw12151705738452384324:=Nat
def tw16367005049093484268:=Nat
def tw13221822339257424270:=Nat
def tw8899164811792595287:=Nat
def tw5297592293866144754:=Nat
def tw6316394773489926958:=Nat
def tw3039922560053059315:=Nat
def tw5146879811641704711:=Nat
def tw264503045806978469:=Nat
def tw2598198477247381390:=Nat
def tw12480617214342312390:=Nat
def tw13598886934767323776:=Nat
def tw1407336027507052621:=Nat
def tw17655694100890640040:=Nat
def tw6344162439439684134:=Nat
def tw365418924237932139:=Nat
def tw6804963522082632119:=Nat
def tw7598843818584943699:=Nat
def tw1908536814186744498:=Nat
def tw11300759145307841895:=Nat
def tw16994479046515674056:=Nat
def tw10137075849240753942:=Nat
def tw4831155728070993218:=Nat
def tw17792487933044943453:=Nat
def tw14905291808107952955:=Nat
def tw2613763115729739923:=Nat
def tw10010312092223384825:=Nat
def tw15324087835626951890:=Nat
def tw2799388177358473722:=Nat
def tw2871887669626093223:=Nat
def tw7682593597695666997:=Nat
def tw5219954404942574178:=Nat
def tw9480966560491104178:=Nat
def tw17993941525074203181:=Nat
def tw1598448055913076275:=Nat
def tw16461070479217968397:=Nat
def tw1486121748562454982:=Nat
def tw12804720527794089837:=Nat
def tw14185784374107792305:=Nat
def tw9230401951173266980:=Nat
def tw12337764147656545443:=Nat
def tw13063187180962162687:=Nat
def tw1520749337471318807:=Nat
def tw14744441976511011532:=Nat
def tw7176601317655413788:=Nat
def tw34592970914856157:=Nat
def tw16524485675126793884:=Nat
def tw12871702077572350983:=Nat
def tw9684912984443715542:=Nat
def tw10301749715252340248:=Nat
def tw3321823069996160490:=Nat
def tw15275006868997347530:=Nat
def tw16758490458041824785:=Nat
def tw7917858288728606613:=Nat
def tw11925820225997850878:=Nat
def tw2696058292862830727:=Nat
def tw8503882645162872219:=Nat
def tw5746416339156062428:=Nat
def tw10169732131663081024:=Nat
def tw17766521658405547529:=Nat
def tw1592711315516879081:=Nat
def tw4043237799483055833:=Nat
def tw6180019249178249136:=Nat
def tw4295818800221401404:=Nat
def tw16547103707391754243:=Nat
def tw18213511650148713837:=Nat
def tw5315484975943658208:=Nat
def tw15043015388095858164:=Nat
def tw6716691746814384994:=Nat
def tw8809729108212418348:=Nat
def tw7309351062680655402:=Nat
def tw7859079071865997398:=Nat
def tw4941432101280222107:=Nat
def tw1807034959864352819:=Nat
def tw7927627555935078527:=Nat
def tw9217172635926693778:=Nat
def tw1501117945992051771:=Nat
def tw10540072099404200731:=Nat
def tw191854041100323039:=Nat
def tw8580228998758169738:=Nat
def tw14145084940447025268:=Nat
def tw2783970100554798809:=Nat
def tw9639991769341050251:=Nat
def tw4076741805973376241:=Nat
def tw18352929724592261450:=Nat
def tw6898744786462457341:=Nat
def tw2685763145709607636:=Nat
def tw5792296549129892462:=Nat
def tw4096023664503122398:=Nat
def tw5482831919322796403:=Nat
def tw14760919976584528642:=Nat
def tw9163553664885496300:=Nat
def tw14275373256560768273:=Nat
def tw5436198766994964204:=Nat
def tw6901347570807033150:=Nat
def tw298901585353114130:=Nat
def tw16795813916424698073:=Nat
def tw10187250215629056981:=Nat
def tw7721734593353643792:=Nat
def tw10400035177224600524:=Nat
def tw10696286467375205399:=Nat
def tw17666482857069918005:=Nat
def tw16685503732560038418:=Nat
def tw9390428278694524247:=Nat
def tw2287581868619697327:=Nat
def tw14445347449157572202:=Nat
def tw3040766636001446570:=Nat
def tw6148112834621954762:=Nat
def tw9761851938607595110:=Nat
def tw13767777856718403063:=Nat
def tw5978043093075120688:=Nat
def tw283674012853102766:=Nat
def tw14693528772983408732:=Nat
def tw11481658508201828614:=Nat
def tw11230849198990290383:=Nat
def tw3307031274725949754:=Nat
def tw18279544565123781843:=Nat
def tw16890028551950533855:=Nat
def tw8655935479680132797:=Nat
def tw16392122973877639833:=Nat
def tw14619862293035294938:=Nat
def tw3595892569929935190:=Nat
def tw2128101719579222746:=Nat
def tw9370949230853008479:=Nat
def tw14638510733519581636:=Nat
def tw1199654866946345673:=Nat
def tw8957699862073629903:=Nat
def tw11544734765619495465:=Nat
def tw12803703525305149645:=Nat
def tw12254354789773822736:=Nat
def tw11327444445275166227:=Nat
def tw15847051574610512149:=Nat
def tw4851594750724724609:=Nat
def tw12081174511249064755:=Nat
def tw3366524495169828502:=Nat
def tw12213545132628449069:=Nat
def tw14827655888587964954:=Nat
def tw734117434003076456:=Nat
def tw6173839657253719992:=Nat
def tw10168012803493131094:=Nat
def tw15257899141716213314:=Nat
def tw12575490031786288515:=Nat
def tw11382663248650677559:=Nat
def tw13220350039838570333:=Nat
def tw8231772739102353451:=Nat
def tw5578907437332260966:=Nat
def tw13000681553357644813:=Nat
def tw16262012276739745727:=Nat
def tw3320656583503782296:=Nat
def tw2653608418065546064:=Nat
def tw7621487671162777590:=Nat
def tw9192027655269911985:=Nat
def tw6186450615655947376:=Nat
def tw7009472301897719663:=Nat
def tw10144966811479977093:=Nat
def tw1026223725707839104:=Nat
def tw4062428104445230801:=Nat
def tw2003837105110198534:=Nat
def tw15127294105692767968:=Nat
def tw10448328027681317253:=Nat
def tw3624737103686492770:=Nat
def tw1724193805386836761:=Nat
def tw14441648656119755780:=Nat
def tw3936596726949909850:=Nat
def tw7830721419807273163:=Nat
def tw295464352109473663:=Nat
def tw18236391721205002809:=Nat
def tw3845161665800964803:=Nat
def tw4034869486946290091:=Nat
def tw12679030135311383828:=Nat
def tw5918646808515730706:=Nat
def tw1059411783641775223:=Nat
def tw15726469551552287741:=Nat
def tw15201828981282546617:=Nat
def tw10441256093154299305:=Nat
def tw17958483929198858087:=Nat
def tw1755402845924595557:=Nat
def tw11395546983066552275:=Nat
def tw4480861648612706369:=Nat
def tw4535136381140339878:=Nat
def tw7257305386464838278:=Nat
def tw6086564146253362027:=Nat
def tw10089675513378602766:=Nat
def tw6693779674245955999:=Nat
def tw7845570303575715575:=Nat
def tw5227863886917587435:=Nat
def tw15734852422656063515:=Nat
def tw6793986137930382790:=Nat
def tw3111065435687629973:=Nat
def tw16268881582497973058:=Nat
def tw3044988508874732709:=Nat
def tw5680044621340379774:=Nat
def tw757248150829002037:=Nat
def tw12780181254643601463:=Nat
def tw10806136736474070289:=Nat
def tw12959601928630924863:=Nat
def tw4527847509818143499:=Nat
def tw7951557998868360875:=Nat
def tw3094703905641701767:=Nat
def tw17097329583857616893:=Nat
def tw16815963991440893803:=Nat
def tw2003726344937191598:=Nat
def tw787928747596030954:=Nat
def tw1328344393811562519:=Nat
def tw1208753995810926487:=Nat
def tw9501338684066037122:=Nat
def tw14810419412322534721:=Nat
def tw9578908819748656500:=Nat
end PySem.W.Fast
open PySem PySem.W PyProof.Rows
theorem PySem.Challenge.cw_easelroom_k81_truths_have_papers_holds : PySem.Challenge.rw_easelroom_k81_truths_have_papers.Holds := by
 w_on;o_law;k_head;(case hw=>w_witness2)
 k_fill
 refine My.walk (l:=PySem.Challenge.rw_easelroom_k81_truths_have_papers) rfl rfl (λw h Y=>PySem.W.kIn_of Y) ?F
 case F=>
  intro w mg fa h KX G hmg;refine' My.all_mk My.ac0 KX G hmg ?h0 ?h1 ?h2 ?h3 ?h4 ?h5 ?h6 ?h7 ?h8 ?h9 ?h10 ?h11 ?h12 ?h13 ?h14 ?h15 ?h16 ?h17 ?h18 ?h19 ?h20 ?h21 ?h22 ?h23 ?h24 ?h25 ?h26 ?h27 ?h28 ?h29 ?h30 ?h31 ?h32 ?h33 ?h34 ?h35 ?h36 ?h37 ?h38 ?h39 ?h40 ?h41 ?h42 ?h43 ?h44 ?h45 ?h46 ?h47 ?h48 ?h49 ?h50 ?h51 ?h52 ?h53 ?h54 ?h55 ?h56 ?h57 ?h58 ?h59 ?h60 ?h61 ?h62 ?h63 ?h64 ?h65 ?h66 ?h67 ?z_abs ?z_any ?z_bool ?z_dict ?z_enumerate ?z_int ?z_isinstance ?z_len ?z_list ?z_max ?z_min ?z_range ?z_reversed ?z_sorted ?z_tuple ?z_zip ?gk_MADE ?sk_MADE ?lk_MADE ?gk_CORNERS ?lk_CORNERS ?lk_CORNERS_0 ?lk_CORNERS_1 ?lk_CORNERS_2 ?lk_CORNERS_3 ?g_MOST_TERMS ?g_MOST_POWER ?g_MOST_PAIRS ?g_FIELD ?gx_EaselError ?xd_EaselError ?gx_TooMuch ?xd_TooMuch
  (case h0|h1|h2|h3|h4|h5|h6|h7|h8|h9|h10|h11|h12|h13|h14=>(apply My.Il<;>k_is))
  (case h15|h16|h17|h18|h19|h20|h21|h22|h23|h24|h25|h26|h27|h28|h29=>(apply My.Il<;>k_is))
  (case h30|h31|h32|h33|h34|h35|h36|h37|h38|h39|h40|h41|h42|h43|h44=>(apply My.Il<;>k_is))
  (case h45|h46|h47|h48|h49|h50|h51|h52|h53|h54|h55|h56|h57|h58|h59=>(apply My.Il<;>k_is))
  (case h60|h61|h62|h63|h64|h65|h66|h67=>(apply My.Il<;>k_is))
  (case z_abs|z_any|z_bool|z_dict|z_enumerate|z_int|z_isinstance|z_len|z_list|z_max|z_min|z_range|z_reversed|z_sorted|z_tuple|z_zip|gk_CORNERS|lk_CORNERS|lk_CORNERS_0|lk_CORNERS_1|lk_CORNERS_2|lk_CORNERS_3|gk_MADE|lk_MADE=>k_is)
  (case sk_MADE=>rfl)
  (case g_MOST_TERMS|g_MOST_POWER|g_MOST_PAIRS|g_FIELD=>(apply Exists.intro<;>k_is))
  (case gx_EaselError|gx_TooMuch=>k_is)
  (case xd_EaselError|xd_TooMuch=>kernel_rfl)
